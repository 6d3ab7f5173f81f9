import PyProof.Rows.All
import Wide.All
import OpenK.AllK
import Wide.FinOn
import Lean
import PyProof.EqAt
import PyProof.EqKinds
import PyProof.TupleCall
import PySem.Challenge.RW_keptreading_k47_texts_of_no_form
set_option genSizeOf false
set_option genSizeOfSpec false
set_option genInjectivity false
set_option Elab.async false
set_option linter.all false
set_option maxRecDepth 100000
noncomputable section
local macro_rules | `(tactic| nofun) => `(tactic| (first|lia|omega))
local macro_rules | `(tactic| ac_rfl) => `(tactic| (conv => whnf))
set_option compiler.extract_closed false
namespace L2
theorem aF (_:True:=by first | exact .inl rfl | exact .inr rfl | assumption):True:=trivial
theorem aD (_:True:=by decide):True:=trivial
theorem aI (_:True:=by intro _; rfl):True:=trivial
theorem aR (_:True:=by rfl):True:=trivial
end L2
namespace L2
open PySem PySem.Spec PyProof.Rows
abbrev Key:=Sum Int Str
def lD:Key→Value→Bool
 | .inl k,v=>Value.isInt k v
 | .inr x,v=>Value.isStrOf x v
def keyH (w:World):Key→Int
 | .inl k=>hashInt k
 | .inr x=>hashStr w x
theorem cf:∀ {k:Key} {v:Value},lD k v=true→(∃ i t,k=Sum.inl i∧v=Value.int i t)∨(∃ x t,k=Sum.inr x∧v=Value.str x t)
 | .inl i,v,h=>by
  obtain ⟨t,e⟩:=Value.isInt_shape (k:=i) (v:=v) h
  exact .inl ⟨i,t,rfl,e⟩
 | .inr x,v,h=>by
  obtain ⟨t,e⟩:=Value.isStrOf_shape (x:=x) (v:=v) h
  exact .inr ⟨x,t,rfl,e⟩
theorem qI (i:Int)(t:Tok):lD (.inl i) (.int i t)=true:=by simp [lD,Value.isInt]
theorem lE (x:Str)(t:Tok):lD (.inr x) (.str x t)=true:=by simp [lD,Value.isStrOf]
theorem Bo (a b:Int):decide ((Sum.inl a:Key)=Sum.inl b)=(a == b):=by
 by_cases e:a=b
 ·subst e; simp
 ·have h:¬ (Sum.inl a:Key)=Sum.inl b:=fun q=>e (Sum.inl.inj q)
  rw [decide_eq_false h]
  exact (beq_eq_false_iff_ne.mpr e).symm
theorem Bp (a b:Str):decide ((Sum.inr a:Key)=Sum.inr b)=decide (a=b):=by
 by_cases e:a=b
 ·subst e; simp
 ·have h:¬ (Sum.inr a:Key)=Sum.inr b:=fun q=>e (Sum.inr.inj q)
  rw [decide_eq_false h,decide_eq_false e]
theorem Bq (a:Int)(b:Str):decide ((Sum.inl a:Key)=Sum.inr b)=false:=decide_eq_false (fun q=>nomatch q)
theorem Br (a:Str)(b:Int):decide ((Sum.inr a:Key)=Sum.inl b)=false:=decide_eq_false (fun q=>nomatch q)
def cn (prog:Program)(w:World):PySem.KeyKind prog w Key where
 is:=lD
 hash:=keyH w
 inj:=fun v a b ha hb=>by
  rcases cf ha with ⟨i,t,rfl,rfl⟩ | ⟨x,t,rfl,rfl⟩
  ·rcases cf hb with ⟨j,u,rfl,e⟩ | ⟨y,u,rfl,e⟩
   ·injection e with e1 _; rw [e1]
   ·exact nomatch e
  ·rcases cf hb with ⟨j,u,rfl,e⟩ | ⟨y,u,rfl,e⟩
   ·exact nomatch e
   ·injection e with e1 _; rw [e1]
 byValue:=fun k v h=>by
  rcases cf h with ⟨i,t,rfl,rfl⟩ | ⟨x,t,rfl,rfl⟩ <;> rfl
 pyHash:=fun hv h=>by
  rcases cf hv with ⟨i,t,rfl,rfl⟩ | ⟨x,t,rfl,rfl⟩
  ·exact wpAny_pyHash_int h
  ·exact wpAny_pyHash_str h
 eqBool:=fun hu hv h=>by
  rcases cf hu with ⟨i,t,rfl,rfl⟩ | ⟨x,t,rfl,rfl⟩
  ·rcases cf hv with ⟨j,u,rfl,rfl⟩ | ⟨y,u,rfl,rfl⟩
   ·rw [Bo] at h; exact wpAny_eqBool_int h
   ·rw [Bq] at h; exact SeqAt.EqAt.int_str i t y u _ _ _ _ h
  ·rcases cf hv with ⟨j,u,rfl,rfl⟩ | ⟨y,u,rfl,rfl⟩
   ·rw [Br] at h; exact SeqAt.EqAt.str_int x t j u _ _ _ _ h
   ·rw [Bp] at h; exact wpAny_eqBool_str h
 «strs»:=fun k x t v h=>by
  rcases cf h with ⟨i,u,rfl,e⟩ | ⟨y,u,rfl,e⟩
  ·exact nomatch e
  ·injection e with e1 _
   subst e1
   cases v <;> rfl
theorem m8 (prog:Program)(w:World)(i:Int)(t:Tok):(cn prog w).is (.inl i) (.int i t)=true:=qI i t
theorem m9 (prog:Program)(w:World)(x:Str)(t:Tok):(cn prog w).is (.inr x) (.str x t)=true:=lE x t
end L2
namespace L2
open PySem PySem.Spec PyProof.Rows
inductive V where
 | non | bl (b:Bool) | int (i:Int) | str (x:Str) | byt (b:Array UInt8) | flt (b:UInt64) | ref (a:Addr) | ty (n:String)
 deriving DecidableEq
def RelV:V→Value→Prop
 | .non,u=>u=Value.none
 | .bl b,u=>u=Value.bool b
 | .int i,u=>∃ t,u=Value.int i t
 | .str x,u=>∃ t,u=Value.str x t
 | .byt b,u=>∃ t,u=Value.bytes b t
 | .flt b,u=>∃ t,u=Value.float b t
 | .ref a,u=>u=Value.ref a
 | .ty n,u=>u=Value.type n
abbrev Vals:List V→List Value→Prop:=Paired RelV
theorem Vals.length {xs:List V}{us:List Value}(r:Vals xs us):xs.length=us.length:=Paired.length r
theorem Vals.get:∀ {xs:List V} {us:List Value} {i:Nat} {x:V},Vals xs us→xs[i]?=some x→∃ u,us[i]?=some u∧RelV x u
 | _,_,_,_,.nil,e=>by simp at e
 | _,_,0,_,.cons r _,e=>by simp at e; subst e; exact ⟨_,rfl,r⟩
 | _,_,i+1,x,.cons _ t,e=>by
  obtain ⟨u,h1,h2⟩:=Vals.get (i:=i) (x:=x) t (by first|exact List.mem_singleton.mp e|simpa using e)
  exact ⟨u,by first|exact List.mem_singleton.mp h1|simpa using h1,h2⟩
theorem Vals.set {x:V}{u:Value}(r:RelV x u):∀ {xs:List V} {us:List Value} (i:Nat),Vals xs us→Vals (xs.set i x) (us.set i u)
 | _,_,_,.nil=>.nil
 | _,_,0,.cons _ t=>.cons r t
 | _,_,i+1,.cons q t=>.cons q (Vals.set r i t)
theorem Vals.append:∀ {xs ys:List V} {us ws:List Value},Vals xs us→Vals ys ws→Vals (xs++ys) (us++ws)
 | _,_,_,_,.nil,s=>s
 | _,_,_,_,.cons r t,s=>.cons r (Vals.append t s)
theorem Vals.take:∀ {xs:List V} {us:List Value} (n:Nat),Vals xs us→Vals (xs.take n) (us.take n)
 | _,_,0,_=>.nil
 | _,_,_+1,.nil=>.nil
 | _,_,n+1,.cons r t=>.cons r (Vals.take n t)
theorem Vals.drop:∀ {xs:List V} {us:List Value} (n:Nat),Vals xs us→Vals (xs.drop n) (us.drop n)
 | _,_,0,r=>r
 | _,_,_+1,.nil=>.nil
 | _,_,n+1,.cons _ t=>Vals.drop n t
def RelO:Option V→Option Value→Prop
 | some v,some u=>RelV v u
 | none,none=>True
 | _,_=>False
def KV {κ:Type}:List (κ×V)→List (κ×Value)→Prop:=Paired fun (p:κ×V) (q:κ×Value)=>p.1=q.1∧RelV p.2 q.2
def kV:Key→V
 | .inl i=>.int i
 | .inr x=>.str x
inductive HO where
 | lst (xs:List V)
 | tup (xs:List V)
 | dK (kvs:List (Key×V)) | dT (kvs:List (List Key×V))
 | set (S:Int→Bool) (n:Nat)
 | ins (C dx:Addr) (fs:List (Str×V))
 | own (x:Addr)
 | xd (fs:List (Str×V))
 | met (f x:Addr)
 | rng (lo hi:Int)
 | frz (o:Obj) (u:HO)
 | tbl (ps:Array Value)
 | ext (φ:Heap→Prop)
abbrev Hp:=Addr→Option HO
def upd (H:Hp)(a:Addr)(o:HO):Hp:=fun b=>if b=a then some o else H b
theorem bn {H:Hp}{a:Addr}{o:HO}:upd H a o a=some o:=by unfold upd; rw [if_pos rfl]
theorem bR {H:Hp}{a b:Addr}{o:HO}(h:b≠a):upd H a o b=H b:=by unfold upd; rw [if_neg h]
theorem yq {H:Hp}{a:Addr}{o u:HO}:upd (upd H a o) a u=upd H a u:=by
 funext b; unfold upd; split <;> rfl
theorem Eb {H:Hp}{a b:Addr}{o u:HO}(h:H a=some o)(h':H b=some u)(d:o≠u):a≠b:=by
 intro e; subst e; rw [h] at h'; exact d (Option.some.inj h')
theorem cz {H:Hp}{a b:Addr}{o:HO}(h:H a=some o)(h':H b=none):a≠b:=by
 intro e; subst e; rw [h] at h'; cases h'
section
variable (P:Program) (w:World)
def ObjOk (H:Hp)(h:Heap)(a:Addr):HO→Prop
 | .lst xs=>xs.length≤sizeLine∧∃ (its:List Value) (n:Nat),Vals xs its∧h.get? a=some { cls:=.type "list", data:=.seq its.toArray n }
 | .tup xs=>xs.length≤sizeLine∧∃ its:List Value,Vals xs its∧IsTup h a its.toArray
 | .dK kvs=>kvs.length≤sizeLine∧(a == sysModules)=false∧∃ vs,KV kvs vs∧h.DictOf (cn P w) a vs
 | .dT kvs=>kvs.length≤sizeLine∧(a == sysModules)=false∧∃ xs:List (List Key×Addr×Value),
   Paired (fun (p:List Key×V) (q:List Key×Addr×Value)=>p.1=q.1∧H q.2.1=some (.tup (p.1.map kV))∧RelV p.2 q.2.2) kvs xs ∧
   ∃ o es ep,h.get? a=some o∧o.ExactDict∧o.data=.dict es ep∧es.toList=xs.map (entryOfKey (tupleKind (cn P w)))∧(xs.map (·.1)).Nodup
 | .set S n=>h.SetOf (intKind P w) a S n
 | .ins C dx fs=>H dx=some (.own a)∧fs.length≤1000∧dx≠a∧h.get? a=some (PySem.W.instObj C dx) ∧
   ∃ mA,h.Ns1 dx mA∧(∀ f,RelO (fs.lookup f) (mA f))∧PySem.Within mA (fs.map (·.1))
 | .own _=>∃ o,h.get? a=some o
 | .xd fs=>∃ mA,h.Ns1 a mA∧∀ f,RelO (fs.lookup f) (mA f)
 | .rng lo hi=>∃ t u v,h.get? a=some { cls:=.type "range", data:=.fields #[.int lo t,.int hi u,.int 1 v] }
 | .frz o u=>h.get? a=some o∧ObjOk H h a u
 | .tbl ps=>h.get? a=some { cls:=.none,data:=.fields ps }
 | .met f x=>h.get? a=some (PySem.W.methodObj (.ref f) (.ref x))
 | .ext φ=>φ h∧(∃ o,h.get? a=some o)∧∀ h1 h2:Heap,φ h1→(∀ o,h1.get? a=some o→h2.get? a=some o)→φ h2
def HOk (H:Hp)(h:Heap):Prop:=∀ a o,H a=some o→ObjOk P w H h a o
end
section
variable {P:Program} {w:World} {H H':Hp} {h h':Heap} {a:Addr} {o:HO}
theorem ObjOk.lt (x:ObjOk P w H h a o):a < h.objs.size:=by
 cases o with
 | lst xs=>obtain ⟨_,_,_,_,e⟩:=x; exact Heap.lt_size e
 | tup xs=>obtain ⟨_,_,_,p⟩:=x; exact p.lt
 | dK kvs=>obtain ⟨_,_,_,_,o,_,_,e,_⟩:=x; exact Heap.lt_size e
 | dT kvs=>obtain ⟨_,_,_,_,o,_,_,e,_⟩:=x; exact Heap.lt_size e
 | set S n=>obtain ⟨o,_,_,_,e,_⟩:=x; exact Heap.lt_size e
 | ins C dx fs=>obtain ⟨_,_,_,e,_⟩:=x; exact Heap.lt_size e
 | own y=>obtain ⟨_,e⟩:=x; exact Heap.lt_size e
 | xd fs=>obtain ⟨_,⟨_,_,_,e,_⟩,_⟩:=x; exact Heap.lt_size e
 | rng lo hi=>obtain ⟨_,_,_,e⟩:=x; exact Heap.lt_size e
 | frz ob u=>obtain ⟨e,_⟩:=x; exact Heap.lt_size e
 | tbl ps=>exact Heap.lt_size (show h.get? a=some _ from x)
 | met f y=>exact Heap.lt_size (show h.get? a=some _ from x)
 | ext φ=>obtain ⟨_,⟨_,e⟩,_⟩:=x; exact Heap.lt_size e
theorem Paired.mapP {α β:Type}{F G:α→β→Prop}{l₁:List α}{l₂:List β}(h:Paired F l₁ l₂)(f:∀ a b,F a b→G a b):Paired G l₁ l₂:=by
 induction h with
 | nil=>exact .nil
 | cons r t ih=>exact .cons (f _ _ r) ih
theorem ObjOk.stay (x:ObjOk P w H h a o)(k:∀ b u,(b=a∨H b=some (.own a))→h.get? b=some u→h'.get? b=some u)
  (ho:∀ b,H b=some (.own a)→H' b=some (.own a)) (ht:∀ b xs,H b=some (.tup xs)→H' b=some (.tup xs)):ObjOk P w H' h' a o:=by
 induction o with
 | lst xs=>obtain ⟨z,its,n,r,e⟩:=x; exact ⟨z,its,n,r,k _ _ (.inl rfl) e⟩
 | tup xs=>obtain ⟨z,its,r,ob,e,c⟩:=x; exact ⟨z,its,r,ob,k _ _ (.inl rfl) e,c⟩
 | dK kvs=>obtain ⟨z,y,vs,r,ob,es,ep,e,c⟩:=x; exact ⟨z,y,vs,r,ob,es,ep,k _ _ (.inl rfl) e,c⟩
 | dT kvs =>
  obtain ⟨z,y,xs,r,ob,es,ep,e,c⟩:=x
  exact ⟨z,y,xs,Paired.mapP r fun p q z=>⟨z.1,ht _ _ z.2.1,z.2.2⟩,ob,es,ep,k _ _ (.inl rfl) e,c⟩
 | set S n=>obtain ⟨ob,es,ep,t,e,c⟩:=x; exact ⟨ob,es,ep,t,k _ _ (.inl rfl) e,c⟩
 | ins C dx fs =>
  obtain ⟨d,z,ne,e,mA,⟨od,es,ep,e2,c⟩,r⟩:=x
  exact ⟨ho _ d,z,ne,k _ _ (.inl rfl) e,mA,⟨od,es,ep,k _ _ (.inr d) e2,c⟩,r⟩
 | own y=>obtain ⟨ob,e⟩:=x; exact ⟨ob,k _ _ (.inl rfl) e⟩
 | xd fs=>obtain ⟨mA,⟨od,es,ep,e,c⟩,r⟩:=x; exact ⟨mA,⟨od,es,ep,k _ _ (.inl rfl) e,c⟩,r⟩
 | rng lo hi=>obtain ⟨t,u,v,e⟩:=x; exact ⟨t,u,v,k _ _ (.inl rfl) e⟩
 | frz ob u ih=>obtain ⟨e,q⟩:=x; exact ⟨k _ _ (.inl rfl) e,ih q⟩
 | tbl ps =>
  have e:h.get? a=some { cls:=.none,data:=.fields ps }:=x
  show h'.get? a=some { cls:=.none,data:=.fields ps }
  exact k a _ (.inl rfl) e
 | met f y =>
  have e:h.get? a=some (PySem.W.methodObj (.ref f) (.ref y)):=x
  show h'.get? a=some (PySem.W.methodObj (.ref f) (.ref y))
  exact k a _ (.inl rfl) e
 | ext φ=>obtain ⟨p,⟨o,e⟩,st⟩:=x; exact ⟨st _ _ p fun o q=>k _ _ (.inl rfl) q,⟨o,k _ _ (.inl rfl) e⟩,st⟩
theorem HOk.lt (x:HOk P w H h)(e:H a=some o):a < h.objs.size:=(x a o e).lt
theorem HOk.fresh (x:HOk P w H h)(e:h.objs.size≤a):H a=none:=by
 cases q:H a with
 | none=>rfl
 | some u=>exact absurd (Nat.lt_of_lt_of_le (x.lt q) e) (Nat.lt_irrefl _)
theorem HOk.kept (x:HOk P w H h)(k:∀ b u,h.get? b=some u→h'.get? b=some u):HOk P w H h':=fun a o e =>
 (x a o e).stay (fun b u _ q=>k b u q) (fun _ q=>q) fun _ _ q=>q
theorem HOk.laid (x:HOk P w H h)(k:∀ b u,h.get? b=some u→h'.get? b=some u)(hp:h.objs.size≤a)(new:ObjOk P w (upd H a o) h' a o):HOk P w (upd H a o) h':=fun b u e=>by
 have hn:=x.fresh hp
 by_cases hb:b=a
 ·subst hb; rw [bn] at e; cases e; exact new
 ·rw [bR hb] at e
  exact (x b u e).stay (fun c v _ q=>k c v q) (fun c q=>by rw [bR (cz q hn)]; exact q) fun c xs q=>by rw [bR (cz q hn)]; exact q
end
def Rd (H:Hp)(a:Addr)(u:HO):Prop:=H a=some u∨∃ o,H a=some (.frz o u)
theorem Rd.ok {P:Program}{w:World}{H:Hp}{h:Heap}{a:Addr}{u:HO}(r:Rd H a u)(x:HOk P w H h):ObjOk P w H h a u:=by
 rcases r with r | ⟨o,r⟩
 ·exact x a u r
 ·obtain ⟨_,q⟩:=x a _ r
  exact q
def Mut:Option HO→Prop
 | some (.lst _)=>True
 | some (.dK _)=>True
 | some (.dT _)=>True
 | some (.set _ _)=>True
 | some (.ins _ _ _)=>True
 | some (.ext _)=>True
 | _=>False
section
variable {P:Program} {w:World} {H:Hp} {h h':Heap} {x e:Addr} {o':HO}
theorem HOk.write (ok:HOk P w H h)(mu:Mut (H x))(he:e=x∨H e=some (.own x))(k:∀ b u,b≠e→h.get? b=some u→h'.get? b=some u)(heo:∃ u,h'.get? e=some u)
  (new:ObjOk P w (upd H x o') h' x o'):HOk P w (upd H x o') h':=fun b u q=>by
 have nown:∀ c y,H c=some (.own y)→c≠x:=fun c y r z=>by subst z; rw [r] at mu; exact mu
 have ntup:∀ c xs,H c=some (.tup xs)→c≠x:=fun c xs r z=>by subst z; rw [r] at mu; exact mu
 by_cases hb:b=x
 ·subst hb; rw [bn] at q; cases q; exact new
 ·rw [bR hb] at q
  by_cases hbe:b=e
  ·have q':H b=some (.own x):=by
    rcases he with z | z
    ·exact absurd (hbe.trans z) hb
    ·rw [hbe]; exact z
   rw [q] at q'; cases q'
   obtain ⟨v,hv⟩:=heo
   exact ⟨v,by rw [hbe]; exact hv⟩
  ·refine (ok b u q).stay (fun c v hc r=>k c v ?_ r) (fun c r=>by rw [bR (nown c b r)]; exact r) fun c xs r=>by rw [bR (ntup c xs r)]; exact r
   rcases hc with rfl | hc
   ·exact hbe
   ·rintro rfl
    rcases he with z | z
    ·exact nown c b hc z
    ·rw [hc] at z; cases z; exact hb rfl
end
structure Un (fs ex:List Addr)(H H':Hp)(h h':Heap):Prop where
 keep:∀ b o,h.get? b=some o→H b=none→b ∉ fs→b ∉ ex→h'.get? b=some o
 slot:∀ b o,h.get? b=some o→H b=none→b ∈ fs→b ∉ ex→∃ sl,h'.get? b=some { o with slots:=sl }
 free:∀ b o,h.get? b=some o→H b=none→b ∉ ex→H' b=none
 there:∀ b o,h.get? b=some o→b ∉ ex→∃ o',h'.get? b=some o'
 tups:∀ b xs,H b=some (.tup xs)→H' b=some (.tup xs)
 frzs:∀ b o u,H b=some (.frz o u)→H' b=some (.frz o u)
 tbls:∀ b ps,H b=some (.tbl ps)→∃ more,H' b=some (.tbl (ps++more))
section
variable {fs fs' ex ex':List Addr} {H H1 H2:Hp} {h h1 h2 h':Heap} {a x e:Addr} {o:HO}
theorem Un.any (u:Un fs ex H H1 h h1){b:Addr}{ob:Obj}(q:h.get? b=some ob)(n:H b=none)(hx:b ∉ ex):∃ sl,h1.get? b=some { ob with slots:=sl }:=by
 by_cases hb:b ∈ fs
 ·exact u.slot b ob q n hb hx
 ·exact ⟨ob.slots,u.keep b ob q n hb hx⟩
theorem Un.kept (k:∀ b u,h.get? b=some u→h'.get? b=some u):Un fs ex H H h h' :=
 ⟨fun b ob q _ _ _=>k b ob q,fun b ob q _ _ _=>⟨ob.slots,k b ob q⟩,fun _ _ _ n _=>n,fun b ob q _=>⟨ob,k b ob q⟩,fun _ _ q=>q,fun _ _ _ q=>q,fun _ ps q=>⟨#[],by rw [q]; simp⟩⟩
theorem Un.refl:Un fs ex H H h h:=Un.kept fun _ _ q=>q
theorem Un.laid (k:∀ b u,h.get? b=some u→h'.get? b=some u)(hp:h.objs.size≤a)(hn:H a=none):Un fs ex H (upd H a o) h h' where
 keep:=fun b u q _ _ _=>k b u q
 slot:=fun b u q _ _ _=>⟨u.slots,k b u q⟩
 free:=fun b u q n _=>by rw [bR (Nat.ne_of_lt (Nat.lt_of_lt_of_le (Heap.lt_size q) hp))]; exact n
 there:=fun b u q _=>⟨u,k b u q⟩
 tups:=fun b xs q=>by rw [bR (cz q hn)]; exact q
 frzs:=fun b u xs q=>by rw [bR (cz q hn)]; exact q
 tbls:=fun b ps q=>⟨#[],by rw [bR (cz q hn),q]; simp⟩
theorem Un.write (mu:Mut (H x))(he:e=x∨H e=some (.own x))(k:∀ b u,b≠e→h.get? b=some u→h'.get? b=some u)(heo:∃ u,h'.get? e=some u):Un fs ex H (upd H x o) h h':=by
 have hx:∀ b,H b=none→b≠x:=fun b n z=>by subst z; rw [n] at mu; exact mu
 have hb:∀ b,H b=none→b≠e:=fun b n z=>by
  subst z
  rcases he with r | r
  ·exact hx b n r
  ·rw [n] at r; cases r
 have hm:∀ b u,H b=some u→¬ Mut (some u)→b≠x:=fun b u q nm z=>by subst z; rw [q] at mu; exact nm mu
 refine ⟨fun b u q n _ _=>k b u (hb b n) q,fun b u q n _ _=>⟨u.slots,k b u (hb b n) q⟩,fun b u q n _=>by rw [bR (hx b n)]; exact n,fun b u q _=>?_,
  fun b xs q=>by rw [bR (hm b _ q fun z=>z)]; exact q,fun b u xs q=>by rw [bR (hm b _ q fun z=>z)]; exact q,fun b ps q=>⟨#[],by rw [bR (hm b _ q fun z=>z),q]; simp⟩⟩
 by_cases hbe:b=e
 ·subst hbe; exact heo
 ·exact ⟨u,k b u hbe q⟩
end
def trk (h:Heap)(H:Hp):List Addr:=(List.range h.objs.size).filter fun a=>(H a).isSome
def uQ (h:Heap)(H:Hp):Heap:=PySem.W.hideAll h (trk h H)
theorem qJ (h:Heap)(H:Hp):(uQ h H).objs.size=h.objs.size:=PySem.W.hideAll_size _ _
theorem uR {h:Heap}{H:Hp}{b:Addr}{o:Obj}(e:h.get? b=some o)(n:H b=none):(uQ h H).get? b=some o :=
 PySem.W.hideAll_get _ e fun hm=>by
  have q:(H b).isSome=true:=(List.mem_filter.mp hm).2
  rw [n] at q; simp at q
theorem yr {h:Heap}{H:Hp}{b:Addr}{o:Obj}(e:(uQ h H).get? b=some o):h.get? b=some o∧H b=none:=by
 have e':h.get? b=some o:=PySem.W.of_hideAll (trk h H) e
 refine ⟨e',?_⟩
 cases q:H b with
 | none=>rfl
 | some x =>
  have hm:b ∈ trk h H:=List.mem_filter.mpr ⟨List.mem_range.mpr (Heap.lt_size e'),by simp [q]⟩
  have z:(uQ h H).get? b=none:=PySem.W.hideAll_none (trk h H) hm
  rw [z] at e; cases e
def kx (g h:Heap)(L:Addr):List (Addr×Obj):=(List.range h.objs.size).filterMap fun a=>if a=L∨(g.get? a).isSome=true then none else (h.get? a).map fun o=>(a,o)
theorem ge {g h:Heap}{L a:Addr}{o:Obj}(h1:a≠L)(h2:g.get? a=none)(h3:h.get? a=some o):(a,o) ∈ kx g h L :=
 List.mem_filterMap.mpr ⟨a,List.mem_range.mpr (Heap.lt_size h3),by simp [h1,h2,h3]⟩
theorem jJ {g h:Heap}{L:Addr}{p:Addr×Obj}(hp:p ∈ kx g h L):p.1≠L∧g.get? p.1=none∧h.get? p.1=some p.2:=by
 obtain ⟨b,_,e⟩:=List.mem_filterMap.mp hp
 split at e
 ·cases e
 ·rename_i hn
  cases q:h.get? b with
  | none=>rw [q] at e; simp at e
  | some u =>
   rw [q] at e
   simp only [Option.map_some,Option.some.injEq] at e
   subst e
   refine ⟨fun z=>hn (.inl z),?_,q⟩
   show g.get? b=none
   cases r:g.get? b with
   | none=>rfl
   | some v=>exact (hn (.inr (by simp [r]))).elim
def aw (g h:Heap)(L d:Addr):List (Addr×Obj):=(kx g h L).filter fun p=>decide (p.1≠d)
theorem uS {g h:Heap}{L:Addr}:News g L h (kx g h L):=fun p hp=>let ⟨a,b,c⟩:=jJ hp; ⟨c,a,b⟩
end L2
namespace L2
open PySem PySem.Spec PyProof.Rows
structure Mod (K:PySem.W.Frag)(mg:Str→Option Value)(base:Heap):Prop where
 kin:K.In base
 glob:base.Ns mainGlobals mg
 blt:∃ mb,base.Ns builtinsNs mb∧∀ x:Str,x ≠ "__name__" → mb x=bootBuiltins x
 nolimit:base.NoLimit
structure Cx where
 prog:Program
 w:World
 K:PySem.W.Frag
 mg:Str→Option Value
 base:Heap
 A:Around
 N:List Str
 s₀:Shared
 H₀:Hp
 env:Env
 outer:List Env
 stack:List Env
 ex:List Addr
 fn:Str→Bool
 calm:Bool
 pn:List (Addr×Obj)
 xe:Value→Shared→Prop
def frs (l:List Env):List Addr:=l.filterMap (·.frame)
abbrev Cx.fs (X:Cx):List Addr:=frs X.outer
def Vis (sc:Scope)(x:Str):Prop:=sc.names.lookup x=some .local∨sc.names.lookup x=some .cell∨sc.names.lookup x=some .free
def Loc (sc:Scope)(x:Str):Prop:=sc.names.lookup x=some .local∨sc.names.lookup x=some .cell
def E7 (env:Env)(h:Heap)(m:Str→Option Value)(x:Str)(u:Value):Prop :=
 (env.kindOf x=some .local∧m x=some u)∨((env.kindOf x=some .cell∨env.kindOf x=some .free)∧∃ c,env.cells.lookup x=some c∧h.IsCell c (some u))
structure Cx.Ok (X:Cx):Prop where
 mod:Mod X.K X.mg X.base
 kind:X.env.scope.kind=.function
 glob:X.env.globals=mainGlobals
 blt:X.env.builtins=builtinsNs
 above:X.s₀.heap.objs.size≤X.env.locals
 inj:∀ x y c,X.env.cells.lookup x=some c→X.env.cells.lookup y=some c→x=y
 has:∀ x,(X.env.kindOf x=some .cell∨X.env.kindOf x=some .free)→∃ c,X.env.cells.lookup x=some c
 cab:∀ x c,X.fn x=true→X.env.cells.lookup x=some c→X.s₀.heap.objs.size≤c
 hd:X.calm=true→X.A.handled=none
 frames:X.A.frames=some X.stack
 stk:X.stack=X.outer∨(X.stack=X.env::X.outer∧X.env.frame=some X.env.locals)
 exf:∀ b ∈ X.ex,b≠X.env.locals∧∀ x c,X.env.cells.lookup x=some c→c≠b
 bs:∀ b o,X.base.get? b=some o→X.s₀.heap.get? b=some o∧X.H₀ b=none
 bsz:X.base.objs.size≤X.s₀.heap.objs.size
 noex:∀ b o,X.base.get? b=some o→b ∉ X.ex
 exfs:∀ b ∈ X.ex,b ∉ X.fs
 funs:X.s₀.heap.FunFrames X.base X.outer
 frf:∀ b ∈ X.fs,X.H₀ b=none
structure Inv (X:Cx)(pins:List (Addr×Obj))(σ:List (Option V))(H:Hp)(s:Shared):Prop where
 ok:X.Ok
 os:s.os=X.s₀.os
 bare:AllBare s.gens
 base:Un X.fs X.ex X.H₀ H X.s₀.heap s.heap
 loc:∃ m,s.heap.Ns X.env.locals m∧∀ (i:Nat) (x:Str) (v:V),X.N[i]?=some x→σ[i]?=some (some v)→Vis X.env.scope x→∃ u,RelV v u∧E7 X.env s.heap m x u
 cell:∀ x c,X.env.cells.lookup x=some c→∃ v,s.heap.IsCell c v
 free:H X.env.locals=none
 freeC:∀ x c,X.env.cells.lookup x=some c→H c=none
 pin:∀ p ∈ X.pn++pins,s.heap.get? p.1=some p.2∧H p.1=none∧p.1≠X.env.locals∧p.1 ∉ X.fs∧∀ v,p.2.data≠.cell v
 hok:HOk X.prog X.w H s.heap
 len:σ.length=X.N.length
section
variable {X:Cx} {pins:List (Addr×Obj)} {σ:List (Option V)} {H H':Hp} {s:Shared} {h':Heap}
theorem Cx.Ok.nofr (ok:X.Ok){b:Addr}{o:Obj}(e:X.base.get? b=some o):b ∉ X.fs:=fun hb=>by
 have:=(ok.funs.mem hb).1
 rw [e] at this; cases this
theorem Inv.bs (I:Inv X pins σ H s):∀ b o,X.base.get? b=some o→s.heap.get? b=some o∧H b=none:=fun b o e =>
 ⟨I.base.keep b o (I.ok.bs b o e).1 (I.ok.bs b o e).2 (I.ok.nofr e) (I.ok.noex b o e),I.base.free b o (I.ok.bs b o e).1 (I.ok.bs b o e).2 (I.ok.noex b o e)⟩
theorem Inv.bk (I:Inv X pins σ H s):∀ b o,X.base.get? b=some o→s.heap.get? b=some o:=fun b o e=>(I.bs b o e).1
theorem Inv.mod (I:Inv X pins σ H s):Mod X.K X.mg X.base:=I.ok.mod
theorem Inv.kIn (I:Inv X pins σ H s):X.K.In s.heap:=I.ok.mod.kin.keeps I.bk
theorem Inv.lt (I:Inv X pins σ H s):X.env.locals < s.heap.objs.size:=let ⟨_,hn,_⟩:=I.loc; hn.lt
theorem Inv.sz (I:Inv X pins σ H s):X.s₀.heap.objs.size≤s.heap.objs.size:=Nat.le_trans I.ok.above (Nat.le_of_lt I.lt)
theorem Inv.nofs (I:Inv X pins σ H s){a:Addr}(h:s.heap.objs.size≤a):a ∉ X.fs:=fun hb=>by
 obtain ⟨_,o,ho,_⟩:=I.ok.funs.mem hb
 exact absurd (Nat.lt_of_lt_of_le (Heap.lt_size ho) (Nat.le_trans I.sz h)) (Nat.lt_irrefl _)
theorem Inv.cne (I:Inv X pins σ H s):∀ x c,X.env.cells.lookup x=some c→c≠X.env.locals:=fun x c e z=>by
 obtain ⟨v,o,ho,hd⟩:=I.cell x c e
 obtain ⟨m,⟨o',es,ep,ho',hd',_⟩,_⟩:=I.loc
 rw [z,ho'] at ho; cases ho; rw [hd'] at hd; cases hd
theorem Inv.funs (I:Inv X pins σ H s):s.heap.FunFrames X.base X.outer:=by
 have all:∀ (l:List Env),(∀ b ∈ frs l,b ∈ X.fs)→X.s₀.heap.FunFrames X.base l→s.heap.FunFrames X.base l:=by
  intro l
  induction l with
  | nil=>intro _ _; trivial
  | cons env r ih =>
   intro hs hl
   obtain ⟨hk,⟨L,o,hf,hn,ho,hd⟩,hr⟩:=hl
   have hL:L ∈ X.fs:=hs L (by unfold frs; rw [List.filterMap_cons,hf]; exact List.mem_cons_self)
   obtain ⟨sl,e⟩:=I.base.slot L o ho (I.ok.frf L hL) hL fun z=>I.ok.exfs L z hL
   exact ⟨hk,⟨L,_,hf,hn,e,hd⟩,ih (fun b hb=>hs b (by unfold frs; rw [List.filterMap_cons,hf]; exact List.mem_cons_of_mem _ hb)) hr⟩
 exact all X.outer (fun _ hb=>hb) I.ok.funs
theorem Inv.stack (I:Inv X pins σ H s):s.heap.FunFrames X.base X.stack:=by
 rcases I.ok.stk with e | ⟨e,hf⟩
 ·rw [e]; exact I.funs
 ·rw [e]
  obtain ⟨m,hn,_⟩:=I.loc
  refine .cons (by rw [I.ok.kind]; decide) hf hn ?_ I.funs
  exact Heap.get?_none_of_le (Nat.le_trans I.ok.bsz I.ok.above)
theorem Inv.stkSub (I:Inv X pins σ H s):∀ b ∈ frs X.stack,b ∈ X.env.locals::X.fs:=fun b hb=>by
 rcases I.ok.stk with e | ⟨e,hf⟩
 ·rw [e] at hb; exact List.mem_cons_of_mem _ hb
 ·rw [e] at hb
  unfold frs at hb
  rw [List.filterMap_cons,hf] at hb
  exact hb
theorem Inv.stkFree (I:Inv X pins σ H s):∀ b ∈ frs X.stack,H b=none:=fun b hb=>by
 rcases List.mem_cons.mp (I.stkSub b hb) with e | hb
 ·rw [e]; exact I.free
 ·obtain ⟨_,o,ho,_⟩:=I.ok.funs.mem hb
  exact I.base.free b o ho (I.ok.frf b hb) fun z=>I.ok.exfs b z hb
theorem Inv.step {g':Array GenState}{t':Nat}{d':Drawn}{ch:List Addr}(I:Inv X pins σ H s)
  (hch:∀ b ∈ ch,(b ∈ X.ex∨X.s₀.heap.objs.size≤b)∧b≠X.env.locals∧(∀ x c,X.env.cells.lookup x=some c→c≠b)∧∀ p ∈ X.pn++pins,p.1≠b)
  (keep:∀ b o,b≠X.env.locals→b ∉ X.fs→b ∉ ch→s.heap.get? b=some o→H b=none→h'.get? b=some o)
  (slot:∀ b o,b≠X.env.locals→b ∈ X.fs→b ∉ ch→s.heap.get? b=some o→H b=none→∃ sl,h'.get? b=some { o with slots:=sl }) (free:∀ b o,b ∉ ch→s.heap.get? b=some o→H b=none→H' b=none)
  (there:∀ b o,b ∉ ch→s.heap.get? b=some o→∃ o',h'.get? b=some o')
  (tups:∀ b xs,H b=some (.tup xs)→H' b=some (.tup xs)) (frzs:∀ b o u,H b=some (.frz o u)→H' b=some (.frz o u)) (tbls:∀ b ps,H b=some (.tbl ps)→∃ more,H' b=some (.tbl (ps++more)))
  (ns:∀ m,s.heap.Ns X.env.locals m→h'.Ns X.env.locals m) (hok:HOk X.prog X.w H' h') (hg:AllBare g') :
  Inv X pins σ H' { s with heap:=h',gens:=g',drawn:=d',toks:=t' }:=by
 have neL:∀ b o,X.s₀.heap.get? b=some o→b≠X.env.locals:=fun b o e=>Nat.ne_of_lt (Nat.lt_of_lt_of_le (Heap.lt_size e) I.ok.above)
 have neC:∀ b o,X.s₀.heap.get? b=some o→b ∉ X.ex→b ∉ ch:=fun b o e hx hb=>by
  rcases (hch b hb).1 with z | z
  ·exact hx z
  ·exact absurd (Nat.lt_of_lt_of_le (Heap.lt_size e) z) (Nat.lt_irrefl _)
 have cellK:∀ x c,X.env.cells.lookup x=some c→∀ v,s.heap.IsCell c v→h'.IsCell c v:=fun x c e v ⟨o,ho,hd⟩=>by
  have nch:c ∉ ch:=fun z=>(hch c z).2.2.1 x c e rfl
  by_cases hc:c ∈ X.fs
  ·obtain ⟨sl,q⟩:=slot c o (I.cne x c e) hc nch ho (I.freeC x c e)
   exact ⟨_,q,hd⟩
  ·exact ⟨o,keep c o (I.cne x c e) hc nch ho (I.freeC x c e),hd⟩
 refine ⟨I.ok,I.os,hg,⟨fun b o e n hb hx=>?_,fun b o e n hb hx=>?_,fun b o e n hx=>?_,fun b o e hx=>?_,fun b xs e=>tups b xs (I.base.tups b xs e),fun b o xs e=>frzs b o xs (I.base.frzs b o xs e),fun b ps e=>?_⟩,?_,fun x c e=>?_,?_,fun x c e=>?_,fun p hp=>?_,hok,I.len⟩
 ·exact keep b o (neL b o e) hb (neC b o e hx) (I.base.keep b o e n hb hx) (I.base.free b o e n hx)
 ·obtain ⟨sl,e1⟩:=I.base.slot b o e n hb hx
  obtain ⟨sl',e2⟩:=slot b _ (neL b o e) hb (neC b o e hx) e1 (I.base.free b o e n hx)
  exact ⟨sl',e2⟩
 ·obtain ⟨o',e1⟩:=I.base.there b o e hx
  exact free b o' (neC b o e hx) e1 (I.base.free b o e n hx)
 ·obtain ⟨o',e1⟩:=I.base.there b o e hx
  exact there b o' (neC b o e hx) e1
 ·obtain ⟨m1,e1⟩:=I.base.tbls b ps e
  obtain ⟨m2,e2⟩:=tbls b _ e1
  exact ⟨m1++m2,by rw [e2,Array.append_assoc]⟩
 ·obtain ⟨m,hn,hl⟩:=I.loc
  refine ⟨m,ns m hn,fun i x v e1 e2 e3=>?_⟩
  obtain ⟨u,r,l⟩:=hl i x v e1 e2 e3
  refine ⟨u,r,?_⟩
  rcases l with l | ⟨k,c,e,z⟩
  ·exact .inl l
  ·exact .inr ⟨k,c,e,cellK x c e _ z⟩
 ·obtain ⟨v,z⟩:=I.cell x c e
  exact ⟨v,cellK x c e v z⟩
 ·obtain ⟨m,⟨o,_,_,ho,_⟩,_⟩:=I.loc
  exact free _ o (fun z=>(hch _ z).2.1 rfl) ho I.free
 ·obtain ⟨v,o,ho,hd⟩:=I.cell x c e
  exact free c o (fun z=>(hch c z).2.2.1 x c e rfl) ho (I.freeC x c e)
 ·obtain ⟨e,n,ne,nf,d⟩:=I.pin p hp
  have nch:p.1 ∉ ch:=fun z=>(hch p.1 z).2.2.2 p hp rfl
  exact ⟨keep p.1 p.2 ne nf nch e n,free p.1 p.2 nch e n,ne,nf,d⟩
theorem Inv.un {t':Nat}(I:Inv X pins σ H s)(u:Un X.fs [] H H' s.heap h')(hok:HOk X.prog X.w H' h'):Inv X pins σ H' { s with heap:=h',toks:=t' }:=by
 obtain ⟨m,⟨o,es,ep,ho,r⟩,_⟩:=id I.loc
 obtain ⟨sl,hL⟩:=u.any ho I.free (by simp)
 exact I.step (g':=s.gens) (d':=s.drawn) (ch:=[]) (fun _ z=>nomatch z) (fun b o _ hb _ e n=>u.keep b o e n hb (by simp)) (fun b o _ hb _ e n=>u.slot b o e n hb (by simp)) (fun b o _ e n=>u.free b o e n (by simp)) (fun b o _ e=>u.there b o e (by simp)) u.tups u.frzs u.tbls (fun m' hm=>by
  obtain ⟨o',es',ep',ho',r'⟩:=hm
  rw [ho] at ho'; cases ho'
  exact ⟨_,es',ep',hL,r'⟩) hok I.bare
theorem Inv.call {g':Array GenState}{t':Nat}{d':Drawn}{ch:List Addr}(I:Inv X pins σ H s)(u:Un (frs X.stack) ch H H' s.heap h')(hok:HOk X.prog X.w H' h')(hg:AllBare g')
  (hch:∀ b ∈ ch,(b ∈ X.ex∨X.s₀.heap.objs.size≤b)∧b≠X.env.locals∧(∀ x c,X.env.cells.lookup x=some c→c≠b)∧∀ p ∈ X.pn++pins,p.1≠b) :
  Inv X pins σ H' { s with heap:=h',gens:=g',drawn:=d',toks:=t' }:=by
 obtain ⟨m,⟨o,es,ep,ho,r⟩,_⟩:=id I.loc
 obtain ⟨sl,hL⟩:=u.any ho I.free fun z=>(hch _ z).2.1 rfl
 exact I.step (ch:=ch) hch (fun b o hL hb hc e n=>u.keep b o e n (fun z=>(List.mem_cons.mp (I.stkSub b z)).elim hL hb) hc) (fun b o _ _ hc e n=>u.any e n hc) (fun b o hc e n=>u.free b o e n hc) (fun b o hc e=>u.there b o e hc) u.tups u.frzs u.tbls (fun m' hm=>by
  obtain ⟨o',es',ep',ho',r'⟩:=hm
  rw [ho] at ho'; cases ho'
  exact ⟨_,es',ep',hL,r'⟩) hok hg
theorem Inv.turned {t':Nat}{it:Addr}(I:Inv X pins σ H s)(k:∀ b o,b≠it→s.heap.get? b=some o→h'.get? b=some o)(hn:H it=none)(hL:it≠X.env.locals)
  (h1:it ∈ X.ex∨X.s₀.heap.objs.size≤it) (h2:∀ x c,X.env.cells.lookup x=some c→c≠it) (h3:∀ p ∈ X.pn++pins,p.1≠it):Inv X pins σ H { s with heap:=h',toks:=t' }:=by
 have nit:∀ b u,H b=some u→b≠it:=fun b u e z=>by rw [z,hn] at e; cases e
 refine I.step (g':=s.gens) (d':=s.drawn) (ch:=[it]) (fun b hb=>?_) (fun b o _ _ hc e _=>k b o (fun z=>hc (by simp [z])) e) (fun b o _ _ hc e _=>⟨o.slots,k b o (fun z=>hc (by simp [z])) e⟩) (fun _ _ _ _ n=>n)
  (fun b o hc e=>⟨o,k b o (fun z=>hc (by simp [z])) e⟩) (fun _ _ e=>e) (fun _ _ _ e=>e) (fun b ps e=>⟨#[],by rw [e]; simp⟩) (fun m hm=>?_) (fun b u e=>?_) I.bare
 ·have e:b=it:=by first|exact List.mem_singleton.mp hb|simpa using hb
  subst e
  exact ⟨h1,hL,h2,h3⟩
 ·obtain ⟨o,es,ep,ho,r⟩:=hm
  exact ⟨o,es,ep,k _ o (Ne.symm hL) ho,r⟩
 ·refine (I.hok b u e).stay (fun c v hc q=>k c v ?_ q) (fun _ q=>q) fun _ _ q=>q
  rcases hc with z | z
  ·rw [z]; exact nit b u e
  ·exact nit c _ z
theorem Inv.tok (I:Inv X pins σ H s)(t:Nat):Inv X pins σ H { s with toks:=t }:=I.un (h':=s.heap) (t':=t) Un.refl I.hok
theorem Inv.kept {t':Nat}(I:Inv X pins σ H s)(k:∀ b u,s.heap.get? b=some u→h'.get? b=some u):Inv X pins σ H { s with heap:=h',toks:=t' }:=I.un (Un.kept k) (I.hok.kept k)
theorem Inv.laid {a:Addr}{o:HO}{t':Nat}(I:Inv X pins σ H s)(k:∀ b u,s.heap.get? b=some u→h'.get? b=some u)(hp:s.heap.objs.size≤a)(new:ObjOk X.prog X.w (upd H a o) h' a o) :
  Inv X pins σ (upd H a o) { s with heap:=h',toks:=t' }:=I.un (Un.laid k hp (I.hok.fresh hp)) (I.hok.laid k hp new)
theorem Inv.write {x e:Addr}{o:HO}{t':Nat}(I:Inv X pins σ H s)(mu:Mut (H x))(he:e=x∨H e=some (.own x))(k:∀ b u,b≠e→s.heap.get? b=some u→h'.get? b=some u)(heo:∃ u,h'.get? e=some u)
  (new:ObjOk X.prog X.w (upd H x o) h' x o):Inv X pins σ (upd H x o) { s with heap:=h',toks:=t' }:=I.un (Un.write mu he k heo) (I.hok.write mu he k heo new)
theorem Inv.pins_of {pins':List (Addr×Obj)}(I:Inv X pins σ H s)(h:∀ p ∈ pins',s.heap.get? p.1=some p.2∧H p.1=none∧p.1≠X.env.locals∧p.1 ∉ X.fs∧∀ v,p.2.data≠.cell v):Inv X pins' σ H s :=
 ⟨I.ok,I.os,I.bare,I.base,I.loc,I.cell,I.free,I.freeC,fun p hp=>(List.mem_append.mp hp).elim (fun z=>I.pin p (List.mem_append_left _ z)) (h p),I.hok,I.len⟩
theorem nZ {N:List Str}(hN:N.Nodup){i j:Nat}{x:Str}(a:N[i]?=some x)(b:N[j]?=some x):i=j:=by
 obtain ⟨h1,e1⟩:=List.getElem?_eq_some_iff.mp a
 obtain ⟨h2,e2⟩:=List.getElem?_eq_some_iff.mp b
 exact (List.getElem_inj hN).mp (e1.trans e2.symm)
theorem lF {M:Model}{A:Around}{E:Value→Shared→Prop}{i:Nat}{x:Str}{v:V}{u:Value}{Q:Unit→Shared→Prop}(I:Inv X pins σ H s)(hN:X.N.Nodup)(hi:X.N[i]?=some x)(hx:Loc X.env.scope x)(r:RelV v u)
  (h:∀ s',Inv X pins (σ.set i (some v)) H s'→(∃ a,Heap.SameBut a s.heap s'.heap∧(a=X.env.locals∨X.env.cells.lookup x=some a))→Q () s') (hf:autoParam (X.fn x=true∨X.env.scope.names.lookup x=some .local) L2.aF._auto_1):wpAny M A (storeName X.env x u) Q E s:=by
 obtain ⟨m,hn,hl⟩:=id I.loc
 have hcls:(X.env.scope.kind == .class || (X.env.scope.kind == .module && X.env.locals != X.env.globals))=false:=by rw [I.ok.kind]; rfl
 have hiσ:i < σ.length:=by rw [I.len]; exact (List.getElem?_eq_some_iff.mp hi).1
 have cne:=I.cne
 have tracked:∀ {a:Addr} {h':Heap},(∃ o,s.heap.get? a=some o∧H a=none)→Heap.SameBut a s.heap h'→HOk X.prog X.w H h':=fun {a h'} ha hs b ob e=>by
  obtain ⟨_,_,hfree⟩:=ha
  refine (I.hok b ob e).stay (fun c w' hc q=>(hs.2 c ?_).trans q) (fun _ q=>q) fun _ _ q=>q
  rintro rfl
  rcases hc with rfl | hc
  ·rw [hfree] at e; cases e
  ·rw [hfree] at hc; cases hc
 rcases hx with hk | hk
 ·refine wpAny_storeName_local hk hn (fun h' hn' hs=>?_) hcls
  obtain ⟨oL,_,_,hoL,_⟩:=id hn
  refine h _ ⟨I.ok,I.os,I.bare,⟨fun b o e n hb hx=>?_,fun b o e n hb hx=>?_,I.base.free,fun b o e hx=>?_,I.base.tups,I.base.frzs,I.base.tbls⟩,⟨_,hn',fun j y v' e1 e2 e3=>?_⟩,fun y c e=>?_,I.free,I.freeC,fun p hp=>?_,tracked ⟨oL,hoL,I.free⟩ hs,by simpa using I.len⟩ ⟨_,hs,.inl rfl⟩
  ·exact (hs.2 b (Nat.ne_of_lt (Nat.lt_of_lt_of_le (Heap.lt_size e) I.ok.above))).trans (I.base.keep b o e n hb hx)
  ·obtain ⟨sl,e1⟩:=I.base.slot b o e n hb hx
   exact ⟨sl,(hs.2 b (Nat.ne_of_lt (Nat.lt_of_lt_of_le (Heap.lt_size e) I.ok.above))).trans e1⟩
  ·obtain ⟨o',e1⟩:=I.base.there b o e hx
   exact ⟨o',(hs.2 b (Nat.ne_of_lt (Nat.lt_of_lt_of_le (Heap.lt_size e) I.ok.above))).trans e1⟩
  ·by_cases hj:j=i
   ·subst hj
    rw [hi] at e1; cases e1
    rw [List.getElem?_set_self hiσ] at e2
    cases e2
    exact ⟨u,r,.inl ⟨hk,by simp⟩⟩
   ·rw [List.getElem?_set_ne (Ne.symm hj)] at e2
    obtain ⟨u',r',q⟩:=hl j y v' e1 e2 e3
    refine ⟨u',r',?_⟩
    rcases q with ⟨k,e⟩ | ⟨k,c,e,z⟩
    ·refine .inl ⟨k,?_⟩
     have:y≠x:=fun e=>hj (nZ hN e1 (e ▸ hi))
     simp [this,e]
    ·exact .inr ⟨k,c,e,z.sameBut hs (cne y c e)⟩
  ·obtain ⟨w',z⟩:=I.cell y c e
   exact ⟨w',z.sameBut hs (cne y c e)⟩
  ·obtain ⟨e,n,ne,nf,d⟩:=I.pin p hp
   exact ⟨(hs.2 p.1 ne).trans e,n,ne,nf,d⟩
 ·have hfn:X.fn x=true:=by
   rcases hf with z | z
   ·exact z
   ·rw [z] at hk; cases hk
  obtain ⟨c,hc⟩:=I.ok.has x (.inl hk)
  obtain ⟨w',z⟩:=I.cell x c hc
  refine wpAny_storeName_cell I.ok.kind hk hc z (fun h' hc' hs=>?_)
  obtain ⟨oc,hoc,hocd⟩:=id z
  refine h { s with heap:=h' } ⟨I.ok,I.os,I.bare,⟨fun b o e n hb hx=>?_,fun b o e n hb hx=>?_,I.base.free,fun b o e hx=>?_,I.base.tups,I.base.frzs,I.base.tbls⟩,⟨m,hn.sameBut hs (Ne.symm (cne x c hc)),fun j y v' e1 e2 e3=>?_⟩,fun y c' e=>?_,I.free,I.freeC,fun p hp=>?_,tracked ⟨oc,hoc,I.freeC x c hc⟩ hs,by simpa using I.len⟩ ⟨c,hs,.inr hc⟩
  ·exact (hs.2 b (Nat.ne_of_lt (Nat.lt_of_lt_of_le (Heap.lt_size e) (I.ok.cab x c hfn hc)))).trans (I.base.keep b o e n hb hx)
  ·obtain ⟨sl,e1⟩:=I.base.slot b o e n hb hx
   exact ⟨sl,(hs.2 b (Nat.ne_of_lt (Nat.lt_of_lt_of_le (Heap.lt_size e) (I.ok.cab x c hfn hc)))).trans e1⟩
  ·obtain ⟨o',e1⟩:=I.base.there b o e hx
   exact ⟨o',(hs.2 b (Nat.ne_of_lt (Nat.lt_of_lt_of_le (Heap.lt_size e) (I.ok.cab x c hfn hc)))).trans e1⟩
  ·by_cases hj:j=i
   ·subst hj
    rw [hi] at e1; cases e1
    rw [List.getElem?_set_self hiσ] at e2
    cases e2
    exact ⟨u,r,.inr ⟨.inl hk,c,hc,hc'⟩⟩
   ·rw [List.getElem?_set_ne (Ne.symm hj)] at e2
    obtain ⟨u',r',q⟩:=hl j y v' e1 e2 e3
    refine ⟨u',r',?_⟩
    rcases q with q | ⟨k,c',e,z'⟩
    ·exact .inl q
    ·refine .inr ⟨k,c',e,z'.sameBut hs ?_⟩
     rintro rfl
     exact hj (nZ hN e1 (I.ok.inj _ _ _ e hc ▸ hi))
  ·by_cases hcc:c'=c
   ·subst hcc; exact ⟨_,hc'⟩
   ·obtain ⟨w2,z2⟩:=I.cell y c' e
    exact ⟨w2,z2.sameBut hs hcc⟩
  ·obtain ⟨e,n,ne,nf,d⟩:=I.pin p hp
   refine ⟨(hs.2 p.1 ?_).trans e,n,ne,nf,d⟩
   intro q
   rw [q,hoc] at e
   have q':oc=p.2:=Option.some.inj e
   exact d w' (by rw [← q']; exact hocd)
theorem ky {M:Model}{A:Around}{E:Value→Shared→Prop}{i:Nat}{x:Str}{v:V}{u:Value}{Q:Unit→Shared→Prop}(I:Inv X pins σ H s)(hN:X.N.Nodup)(hi:X.N[i]?=some x)(hx:Loc X.env.scope x)(r:RelV v u)
  (h:∀ s',Inv X pins (σ.set i (some v)) H s'→Q () s') (hf:autoParam (X.fn x=true∨X.env.scope.names.lookup x=some .local) L2.aF._auto_1):wpAny M A (storeName X.env x u) Q E s :=
 lF I hN hi hx r (fun s' I' _=>h s' I') hf
theorem Inv.call' {s':Shared}{ch:List Addr}(I:Inv X pins σ H s)(ho:s'.os=s.os)(u:Un (frs X.stack) ch H H' s.heap s'.heap)(hok:HOk X.prog X.w H' s'.heap)(hg:AllBare s'.gens)
  (hch:∀ b ∈ ch,(b ∈ X.ex∨X.s₀.heap.objs.size≤b)∧b≠X.env.locals∧(∀ x c,X.env.cells.lookup x=some c→c≠b)∧∀ p ∈ X.pn++pins,p.1≠b):Inv X pins σ H' s':=by
 obtain ⟨h',g',d',t',o'⟩:=s'
 have e:o'=s.os:=ho
 subst e
 exact I.call (g':=g') (t':=t') (d':=d') u hok hg hch
end
abbrev XK:=Value→Option Addr→Hp→Prop
abbrev St:=List (Option V)
abbrev VK:=V→Hp→Prop
abbrev TE:=St→Hp→VK→Prop
abbrev TT:=St→Hp→(Bool→Hp→Prop)→Prop
abbrev TA:=St→Hp→(List V→Hp→Prop)→Prop
structure Ends where
 nx:St→Hp→Prop
 rt:VK
 bk:St→Hp→Prop:=fun _ _=>False
 ct:St→Hp→Prop:=fun _ _=>False
abbrev TS:=Ends→St→Hp→Prop
def EP (X:Cx)(pins:List (Addr×Obj))(σ:St)(Q:VK)(u:Value)(s':Shared):Prop:=∃ v H',Inv X pins σ H' s'∧RelV v u∧Q v H'
def TP (X:Cx)(pins:List (Addr×Obj))(σ:St)(Q:Bool→Hp→Prop)(b:Bool)(s':Shared):Prop:=∃ H',Inv X pins σ H' s'∧Q b H'
def AP (X:Cx)(pins:List (Addr×Obj))(σ:St)(Q:List V→Hp→Prop)(us:List Value)(s':Shared):Prop:=∃ vs H',Inv X pins σ H' s'∧Vals vs us∧Q vs H'
def SP (X:Cx)(pins:List (Addr×Obj))(D:Ends)(f:Flow)(s':Shared):Prop :=
 match f with
 | .next=>∃ σ' H',Inv X pins σ' H' s'∧D.nx σ' H'
 | .brk=>∃ σ' H',Inv X pins σ' H' s'∧D.bk σ' H'
 | .cont=>∃ σ' H',Inv X pins σ' H' s'∧D.ct σ' H'
 | .ret u=>∃ v σ' H',Inv X pins σ' H' s'∧RelV v u∧D.rt v H'
def PE (X:Cx)(e:Expr)(t:TE):Prop :=
 ∀ (pins:List (Addr×Obj)) (s:Shared) (σ:St) (H:Hp) (Q:VK),Inv X pins σ H s→t σ H Q→wpAny (model X.prog X.w) X.A (eval e X.env) (EP X pins σ Q) X.xe s
def PT (X:Cx)(e:Expr)(t:TT):Prop :=
 ∀ (pins:List (Addr×Obj)) (s:Shared) (σ:St) (H:Hp) (Q:Bool→Hp→Prop),Inv X pins σ H s→t σ H Q→wpAny (model X.prog X.w) X.A (isTrue e X.env (eval e X.env)) (TP X pins σ Q) X.xe s
def PW (X:Cx)(e:Expr)(t:TT):Prop :=
 ∀ (whole:Sem Value) (pins:List (Addr×Obj)) (s:Shared) (σ:St) (H:Hp) (Q:Bool→Hp→Prop),Inv X pins σ H s→t σ H Q→wpAny (model X.prog X.w) X.A (isTrue e X.env whole) (TP X pins σ Q) X.xe s
theorem PW.pt {X:Cx}{e:Expr}{t:TT}(h:PW X e t):PT X e t:=h _
def PA (X:Cx)(es:List Expr)(t:TA):Prop :=
 ∀ (pos:Pos) (pins:List (Addr×Obj)) (s:Shared) (σ:St) (H:Hp) (Q:List V→Hp→Prop),Inv X pins σ H s→t σ H Q→wpAny (model X.prog X.w) X.A (spliced (backTo pos (starEach es X.env))) (AP X pins σ Q) X.xe s
def PS (X:Cx)(st:Stmt)(t:TS):Prop :=
 ∀ (pins:List (Addr×Obj)) (s:Shared) (σ:St) (H:Hp) (D:Ends),Inv X pins σ H s→t D σ H→wpAny (model X.prog X.w) X.A (exec st X.env) (SP X pins D) X.xe s
def PSs (X:Cx)(st:List Stmt)(t:TS):Prop :=
 ∀ (pins:List (Addr×Obj)) (s:Shared) (σ:St) (H:Hp) (D:Ends),Inv X pins σ H s→t D σ H→wpAny (model X.prog X.w) X.A (execs st X.env) (SP X pins D) X.xe s
theorem thn {α:Type}{t:Sem α}{Q Q':α→Shared→Prop}{M:Model}{A:Around}{E:Value→Shared→Prop}{s:Shared}(h:wpAny M A t Q E s)(hQ:∀ a s,Q a s→Q' a s):wpAny M A t Q' E s:=wpAny_mono h hQ fun _ _ x=>x
end L2
namespace L2
open PySem PySem.Spec PyProof.Rows
section
variable {X:Cx}
theorem bin {a b:Expr}{ta tb:TE}(ha:PE X a ta)(hb:PE X b tb){pins:List (Addr×Obj)}{s:Shared}{σ:St}{H:Hp}{R:V→V→Hp→Prop}(I:Inv X pins σ H s)(h:ta σ H fun x H1=>tb σ H1 fun y H2=>R x y H2)
  {α:Type} {Q:α→Shared→Prop} {f:Value→Value→Sem α}
  (hf:∀ v u s2 x y H2,Inv X pins σ H2 s2→RelV x v→RelV y u→R x y H2→wpAny (model X.prog X.w) X.A (f v u) Q X.xe s2) :
  wpAny (model X.prog X.w) X.A (eval a X.env) (fun v s₁=>wpAny (model X.prog X.w) X.A (eval b X.env) (fun u s₂=>wpAny (model X.prog X.w) X.A (f v u) Q X.xe s₂) X.xe s₁) X.xe s:=by
 refine thn (ha pins s σ H _ I h) fun v s1 ⟨x,H1,I1,r1,q1⟩=>?_
 refine thn (hb pins s1 σ H1 _ I1 q1) fun u s2 ⟨y,H2,I2,r2,q2⟩=>?_
 exact hf v u s2 x y H2 I2 r1 r2 q2
def uM (i:Nat):TE:=fun σ H Q=>∃ v,σ[i]?=some (some v)∧Q v H
def tC (v:V):TE:=fun _ H Q=>Q v H
theorem xh {i:Nat} {x:Str} {pos:Pos} (hN:X.N[i]?=some x) (hv:Vis X.env.scope x) (hd:autoParam ((x == ("__debug__" : Str))=false) L2.aD._auto_1) (hcd:autoParam ((x == ("__classdict__" : Str))=false) L2.aD._auto_1):PE X (.Name x pos) (uM i):=by
 intro pins s σ H Q I h
 obtain ⟨v,e,h⟩:=h
 obtain ⟨m,hn,hl⟩:=I.loc
 obtain ⟨u,r,l⟩:=hl i x v hN e hv
 have fin:EP X pins σ Q u s:=⟨v,H,I,r,h⟩
 rcases l with ⟨hk,hm⟩ | ⟨hk,c,hc,hcell⟩
 ·exact wpAny_Name (wpAny_loadName_local I.ok.kind hk hn hm fin) hd
 ·rcases hk with hk | hk
  ·exact wpAny_Name (wpAny_loadName_cell I.ok.kind hk hc hcell fin) hd
  ·exact wpAny_Name (wpAny_loadName_free I.ok.kind hk hc hcell fin hcd) hd
theorem Bs {i j pos}:PE X (.Constant (.int i) j pos) (tC (.int i)):=fun _ _ _ H _ I h=>wpAny_Constant_int ⟨.int i,H,I.tok _,⟨_,rfl⟩,h⟩
theorem Ec {b j pos}:PE X (.Constant (.bool b) j pos) (tC (.bl b)):=fun _ _ _ H _ I h=>Constant_bool ⟨.bl b,H,I,rfl,h⟩
theorem Bt {j pos}:PE X (.Constant .none j pos) (tC .non):=fun _ _ _ H _ I h=>Constant_none ⟨.non,H,I,rfl,h⟩
theorem Bu {x j pos}:PE X (.Constant (.str x) j pos) (tC (.str x)):=fun _ _ _ H _ I h=>Calls.Constant_str ⟨.str x,H,I.tok _,⟨_,rfl⟩,h⟩
def Gl (X:Cx)(x:Str):Prop:=X.env.kindOf x=some .globalImplicit
theorem iV {E:Value→Shared→Prop}{pins:List (Addr×Obj)}{s:Shared}{σ:St}{H:Hp}{x:Str}{u:Value}{pos:Pos}{Q:Value→Shared→Prop}(I:Inv X pins σ H s)(hg:Gl X x)(hm:X.mg x=some u)(h:Q u s)
  (hd:autoParam ((x == ("__debug__" : Str))=false) L2.aD._auto_1):wpAny (model X.prog X.w) X.A (eval (.Name x pos) X.env) Q E s :=
 Calls.Name_function_global I.ok.kind hg (Calls.loadGlobal_global (by rw [I.ok.glob]; exact I.mod.glob.keeps I.bk) hm h) hd
theorem lG {E:Value→Shared→Prop}{pins:List (Addr×Obj)}{s:Shared}{σ:St}{H:Hp}{x:Str}{u:Value}{pos:Pos}{Q:Value→Shared→Prop}(I:Inv X pins σ H s)(hg:Gl X x)(hm:X.mg x=none)(hv:bootBuiltins x=some u)(h:Q u s)
  (hn:autoParam (x ≠ "__name__") L2.aD._auto_1) (hd:autoParam ((x == ("__debug__" : Str))=false) L2.aD._auto_1):wpAny (model X.prog X.w) X.A (eval (.Name x pos) X.env) Q E s:=by
 obtain ⟨mb,h1,h2⟩:=I.mod.blt
 exact Calls.Name_function_global I.ok.kind hg (Calls.loadGlobal_builtin (by rw [I.ok.glob]; exact I.mod.glob.keeps I.bk) hm (by rw [I.ok.blt]; exact h1.keeps I.bk) ((h2 x hn).trans hv) h) hd
theorem yt {x:Str} {v:V} {u:Value} {pos:Pos} (hg:Gl X x) (hm:X.mg x=some u) (r:RelV v u) (hd:autoParam ((x == ("__debug__" : Str))=false) L2.aD._auto_1):PE X (.Name x pos) (tC v) :=
 fun _ _ _ H _ I h=>iV I hg hm ⟨v,H,I,r,h⟩ hd
theorem yu {x:Str} {v:V} {u:Value} {pos:Pos} (hg:Gl X x) (hm:X.mg x=none) (hv:bootBuiltins x=some u) (r:RelV v u) (hn:autoParam (x ≠ "__name__") L2.aD._auto_1) (hd:autoParam ((x == ("__debug__" : Str))=false) L2.aD._auto_1):PE X (.Name x pos) (tC v) :=
 fun _ _ _ H _ I h=>lG I hg hm hv ⟨v,H,I,r,h⟩ hn hd
variable {a b:Expr} {ta tb:TE} {pos:Pos}
def PC (X:Cx)(op:CmpOp)(a b:Expr)(t:TE):Prop :=
 ∀ (pins:List (Addr×Obj)) (s:Shared) (σ:St) (H:Hp) (Q:VK),Inv X pins σ H s→t σ H Q →
  wpAny (model X.prog X.w) X.A (eval a X.env) (fun v s₁=>wpAny (model X.prog X.w) X.A (eval b X.env) (fun u s₂=>wpAny (model X.prog X.w) X.A (compareOp op v u) (EP X pins σ Q) X.xe s₂) X.xe s₁) X.xe s
def tB (t:TE):TT:=fun σ H Q=>t σ H fun x H1=>∃ c,x=.bl c∧Q c H1
theorem E8 {op:CmpOp}{t:TE}(h:PC X op a b t)(h1:behindInMarks op b=false:=by first | exact nobehind _ (by decide) (by decide) | rfl):PT X (.Compare a [op] [b] pos) (tB t):=by
 intro pins s σ H Q I hw
 refine wpAny_isTrue_Compare1 (thn (h pins s σ H _ I hw) fun v s1 h1=>thn h1 fun u s2 h2=>thn h2 fun c s3 ⟨x,H1,I1,r1,q1⟩=>?_) h1
 obtain ⟨d,rfl,q⟩:=q1
 cases r1
 exact wpAny_truthy_bool ⟨H1,I1,q⟩
theorem Bv {e:Expr}{t:TE}(h:PE X e t)(he:autoParam (∀ whole,isTrue e X.env whole=(do let v ← whole; standAt e.pos; holding [v] (truthy v))) L2.aI._auto_1):PT X e (tB t):=by
 intro pins s σ H Q I hw
 refine isTrue_plain (thn (h pins s σ H _ I hw) fun v s1 ⟨x,H1,I1,r1,q1⟩=>?_) (he _)
 obtain ⟨d,rfl,q⟩:=q1
 cases r1
 exact wpAny_truthy_bool ⟨H1,I1,q⟩
variable {tA tB':TT} {aw:List Expr}
def Ed (t u:TT):TT:=fun σ H Q=>t σ H fun c H1=>if c=true then u σ H1 Q else Q false H1
def tOr (t u:TT):TT:=fun σ H Q=>t σ H fun c H1=>if c=true then Q true H1 else u σ H1 Q
def Ee (t:TT):TT:=fun σ H Q=>t σ H fun c H1=>Q (!c) H1
theorem yv (ha:PT X a tA):PW X (.BoolOp .And [a] pos) tA:=by
 intro wh pins s σ H Q I h
 refine isTrue_and (thn (ha pins s σ H Q I h) fun c s1 e=>?_)
 cases c with
 | true=>exact isTrue_and_nil e
 | false=>exact e
theorem Bw (ha:PT X a tA):PW X (.BoolOp .Or [a] pos) tA:=by
 intro wh pins s σ H Q I h
 refine isTrue_or (thn (ha pins s σ H Q I h) fun c s1 e=>?_)
 cases c with
 | false=>exact isTrue_or_nil e
 | true=>exact e
theorem Bx (ha:PT X a tA)(hb:PW X (.BoolOp .And (b::aw) pos) tB'):PW X (.BoolOp .And (a::b::aw) pos) (Ed tA tB'):=by
 intro wh pins s σ H Q I h
 refine isTrue_and (thn (ha pins s σ H _ I h) fun c s1 ⟨H1,I1,q1⟩=>?_)
 cases c with
 | true=>exact hb wh pins s1 σ H1 Q I1 q1
 | false=>exact ⟨H1,I1,q1⟩
theorem Ef (ha:PT X a tA)(hb:PW X (.BoolOp .Or (b::aw) pos) tB'):PW X (.BoolOp .Or (a::b::aw) pos) (tOr tA tB'):=by
 intro wh pins s σ H Q I h
 refine isTrue_or (thn (ha pins s σ H _ I h) fun c s1 ⟨H1,I1,q1⟩=>?_)
 cases c with
 | true=>exact ⟨H1,I1,q1⟩
 | false=>exact hb wh pins s1 σ H1 Q I1 q1
theorem By (ha:PT X a tA):PT X (.UnaryOp .Not a pos) (Ee tA):=by
 intro pins s σ H Q I h
 exact isTrue_not (ha pins s σ H (fun c H1=>Q (!c) H1) I h)
def yw (ta tb:TE):TE:=fun σ H Q=>ta σ H fun x H1=>∃ c,x=.bl c∧if c=true then tb σ H1 Q else Q (.bl false) H1
theorem Bz {op}{t:TE}(h:PE X a t):PE X (.BoolOp op [a] pos) t:=fun pins s σ H Q I hw=>BoolOp_one (h pins s σ H Q I hw)
theorem BB (ha:PE X a ta)(hb:PE X (.BoolOp .And (b::aw) pos) tb):PE X (.BoolOp .And (a::b::aw) pos) (yw ta tb):=by
 intro pins s σ H Q I h
 refine BoolOp_and (thn (ha pins s σ H _ I h) fun v s1 ⟨x,H1,I1,r1,q1⟩=>?_)
 obtain ⟨c,rfl,q1⟩:=q1
 cases r1
 refine wpAny_truthy_bool ?_
 cases c with
 | true=>exact hb pins s1 σ H1 Q I1 q1
 | false=>exact ⟨.bl false,H1,I1,rfl,q1⟩
def tIf (t:TT)(ta tb:TE):TE:=fun σ H Q=>t σ H fun c H1=>if c=true then ta σ H1 Q else tb σ H1 Q
theorem uT {c:Expr}(hc:PT X c tA)(ha:PE X a ta)(hb:PE X b tb):PE X (.IfExp c a b pos) (tIf tA ta tb):=by
 intro pins s σ H Q I h
 refine wpAny_IfExp (thn (hc pins s σ H _ I h) fun d s1 ⟨H1,I1,q1⟩=>?_)
 cases d with
 | true=>exact ha pins s1 σ H1 Q I1 q1
 | false=>exact hb pins s1 σ H1 Q I1 q1
end
end L2
namespace L2
open PySem PySem.Spec PyProof.Rows
def SqL (K:PySem.W.Frag)(H:Hp)(a:Addr)(xs:List V):Prop :=
 Rd H a (.lst xs) ∨
  ∃ (o:Obj) (its:Array Value) (n:Nat),K.lookup a=some o∧o.cls=.type "list" ∧ o.dict=none∧o.data=.seq its n∧its.size≤sizeLine∧Vals xs its.toList
def SqT (K:PySem.W.Frag)(H:Hp)(a:Addr)(xs:List V):Prop :=
 Rd H a (.tup xs) ∨
  ∃ (o:Obj) (its:Array Value) (n:Nat),K.lookup a=some o∧o.cls=.type "tuple" ∧ o.data=.seq its n∧its.size≤sizeLine∧Vals xs its.toList
def absV:Value→Option V
 | .none=>some .non
 | .bool b=>some (.bl b)
 | .int i _=>some (.int i)
 | .str x _=>some (.str x)
 | .bytes b _=>some (.byt b)
 | .float b _=>some (.flt b)
 | .ref a=>some (.ref a)
 | .type n=>some (.ty n)
 | _=>none
theorem RelV.abs {x:V}{u:Value}(r:RelV x u):absV u=some x:=by
 cases x with
 | non=>cases r; rfl
 | bl _=>cases r; rfl
 | int _=>obtain ⟨t,rfl⟩:=r; rfl
 | str _=>obtain ⟨t,rfl⟩:=r; rfl
 | byt _=>obtain ⟨t,rfl⟩:=r; rfl
 | flt _=>obtain ⟨t,rfl⟩:=r; rfl
 | ref _=>cases r; rfl
 | ty _=>cases r; rfl
theorem RelV.inj {x y:V}{u:Value}(r:RelV x u)(q:RelV y u):x=y:=Option.some.inj (r.abs.symm.trans q.abs)
theorem Vals.inj {xs ys:List V}{us:List Value}(h:Vals xs us)(h':Vals ys us):xs=ys:=by
 induction h generalizing ys with
 | nil=>cases h'; rfl
 | cons r t ih=>cases h' with | cons r' t'=>rw [r.inj r',ih t']
section
variable {X:Cx} {pins:List (Addr×Obj)} {σ:St} {H:Hp} {s:Shared} {a:Addr} {xs ys:List V}
theorem SqL.of {K:PySem.W.Frag}(h:H a=some (.lst xs)):SqL K H a xs:=.inl (.inl h)
theorem SqT.of {K:PySem.W.Frag}(h:H a=some (.tup xs)):SqT K H a xs:=.inl (.inl h)
theorem Inv.list (I:Inv X pins σ H s)(h:SqL X.K H a xs):∃ its:List Value,Vals xs its∧PlainL s.heap a its.toArray∧xs.length≤sizeLine:=by
 rcases h with h | ⟨o,its,n,hk,hc,hd,hs,hz,r⟩
 ·obtain ⟨z,its,n,r,e⟩:=h.ok I.hok
  exact ⟨its,r,⟨_,n,e,rfl,rfl,rfl⟩,z⟩
 ·refine ⟨its.toList,r,⟨o,n,I.kIn a o hk,hc,hd,by first|exact List.mem_singleton.mp hs|simpa using hs⟩,?_⟩
  have e:=r.length
  simp only [Array.length_toList] at e
  nofun
theorem Inv.tuple (I:Inv X pins σ H s)(h:SqT X.K H a xs):∃ its:List Value,Vals xs its∧IsTup s.heap a its.toArray∧xs.length≤sizeLine:=by
 rcases h with h | ⟨o,its,n,hk,hc,hs,hz,r⟩
 ·obtain ⟨z,its,r,p⟩:=h.ok I.hok
  exact ⟨its,r,p,z⟩
 ·refine ⟨its.toList,r,⟨o,I.kIn a o hk,hc,n,by first|exact List.mem_singleton.mp hs|simpa using hs⟩,?_⟩
  have e:=r.length
  simp only [Array.length_toList] at e
  nofun
theorem Inv.list_inj (I:Inv X pins σ H s)(h:SqL X.K H a xs)(h':SqL X.K H a ys):xs=ys:=by
 obtain ⟨its,r,⟨o,n,e,_,_,d⟩,_⟩:=I.list h
 obtain ⟨its',r',⟨o',n',e',_,_,d'⟩,_⟩:=I.list h'
 rw [e] at e'; cases e'
 rw [d] at d'
 injection d' with d1 _
 have:its=its':=by simpa using congrArg Array.toList d1
 subst this
 exact r.inj r'
theorem Inv.tuple_inj (I:Inv X pins σ H s)(h:SqT X.K H a xs)(h':SqT X.K H a ys):xs=ys:=by
 obtain ⟨its,r,⟨o,e,_,n,d⟩,_⟩:=I.tuple h
 obtain ⟨its',r',⟨o',e',_,n',d'⟩,_⟩:=I.tuple h'
 rw [e] at e'; cases e'
 rw [d] at d'
 injection d' with d1 _
 have:its=its':=by simpa using congrArg Array.toList d1
 subst this
 exact r.inj r'
end
abbrev Cx.wish (X:Cx)(E:Value→Shared→Prop):Cx:={ X with xe:=E }
abbrev Cx.nox (X:Cx):Cx:=X.wish fun _ _=>False
theorem Cx.Ok.wish {X:Cx}(ok:X.Ok)(E:Value→Shared→Prop):(X.wish E).Ok :=
 ⟨ok.mod,ok.kind,ok.glob,ok.blt,ok.above,ok.inj,ok.has,ok.cab,ok.hd,ok.frames,ok.stk,ok.exf,ok.bs,ok.bsz,ok.noex,ok.exfs,ok.funs,ok.frf⟩
theorem Cx.Ok.unwish {X:Cx}{E:Value→Shared→Prop}(ok:(X.wish E).Ok):X.Ok :=
 ⟨ok.mod,ok.kind,ok.glob,ok.blt,ok.above,ok.inj,ok.has,ok.cab,ok.hd,ok.frames,ok.stk,ok.exf,ok.bs,ok.bsz,ok.noex,ok.exfs,ok.funs,ok.frf⟩
section
variable {X:Cx} {pins:List (Addr×Obj)} {σ:St} {H:Hp} {s:Shared} {E:Value→Shared→Prop}
theorem Inv.wish (I:Inv X pins σ H s)(E:Value→Shared→Prop):Inv (X.wish E) pins σ H s:=⟨I.ok.wish E,I.os,I.bare,I.base,I.loc,I.cell,I.free,I.freeC,I.pin,I.hok,I.len⟩
theorem Inv.unwish (I:Inv (X.wish E) pins σ H s):Inv X pins σ H s:=⟨I.ok.unwish,I.os,I.bare,I.base,I.loc,I.cell,I.free,I.freeC,I.pin,I.hok,I.len⟩
theorem SP.unwish {D:Ends}{f:Flow}{s':Shared}(h:SP (X.wish E) pins D f s'):SP X pins D f s':=by
 cases f with
 | next=>obtain ⟨σ',H',I,q⟩:=h; exact ⟨σ',H',I.unwish,q⟩
 | brk=>obtain ⟨σ',H',I,q⟩:=h; exact ⟨σ',H',I.unwish,q⟩
 | cont=>obtain ⟨σ',H',I,q⟩:=h; exact ⟨σ',H',I.unwish,q⟩
 | ret u=>obtain ⟨v,σ',H',I,r,q⟩:=h; exact ⟨v,σ',H',I.unwish,r,q⟩
theorem PSs.nox {st:List Stmt}{t:TS}(h:PSs X.nox st t):PSs X st t:=fun pins s σ H D I hw =>
 wpAny_mono (h pins s σ H D (I.wish _) hw) (fun _ _ q=>q.unwish) fun _ _ z=>False.elim z
end
section
variable {X:Cx} {st:Stmt} {aw:List Stmt} {t u:TS} {e:Expr} {te:TE} {pos:Pos}
def qK:TS:=fun D σ H=>D.nx σ H
def Bj (t u:TS):TS:=fun D σ H=>t { D with nx:=u D } σ H
theorem yx:PSs X [] qK:=fun _ _ σ H _ I h=>wpAny_execs_nil ⟨σ,H,I,h⟩
theorem uU (h1:PS X st t)(h2:PSs X aw u):PSs X (st::aw) (Bj t u):=by
 intro pins s σ H D I h
 refine wpAny_execs_cons (thn (h1 pins s σ H { D with nx:=u D } I h) fun f s1 q=>?_)
 cases f with
 | next =>
  obtain ⟨σ',H',I',q⟩:=q
  exact h2 pins s1 σ' H' D I' q
 | ret v=>exact q
 | brk=>exact q
 | cont=>exact q
theorem na (h1:PS X st t):PSs X [st] t:=by
 intro pins s σ H D I h
 refine wpAny_execs_cons (thn (h1 pins s σ H D I h) fun f s1 q=>?_)
 cases f with
 | next=>exact wpAny_execs_nil q
 | ret v=>exact q
 | brk=>exact q
 | cont=>exact q
theorem Inv.quiet {pins:List (Addr×Obj)}{σ:St}{H:Hp}{s:Shared}(I:Inv X pins σ H s):interactive X.env=false:=by simp [interactive,I.ok.kind]
def yz (te:TE):TS:=fun D σ H=>te σ H fun _ H1=>D.nx σ H1
theorem yB (he:PE X e te)(hs:autoParam (swapsWith e none pos.line X.env=pure false) L2.aR._auto_1):PS X (.Expr e pos) (yz te):=by
 intro pins s σ H D I h
 exact wpAny_Expr_any (thn (he pins s σ H _ I h) fun v s1 ⟨x,H1,I1,r1,q1⟩=>⟨σ,H1,I1,q1⟩) I.quiet hs
def BC (te:TE):TS:=fun D σ H=>te σ H D.rt
theorem BD (he:PE X e te):PS X (.Return (some e) pos) (BC te):=by
 intro pins s σ H D I h
 exact wpAny_Return_some (thn (he pins s σ H _ I h) fun v s1 ⟨x,H1,I1,r1,q1⟩=>⟨x,σ,H1,I1,r1,q1⟩)
def Bk (c:TT)(t u:TS):TS:=fun D σ H=>c σ H fun b H1=>if b=true then t D σ H1 else u D σ H1
theorem Eg {c:Expr}{a b:List Stmt}{tc:TT}(hc:PT X c tc)(ha:PSs X a t)(hb:PSs X b u):PS X (.If c a b pos) (Bk tc t u):=by
 intro pins s σ H D I h
 refine wpAny_If (thn (hc pins s σ H _ I h) fun d s1 ⟨H1,I1,q1⟩=>?_)
 cases d with
 | true=>exact ha pins s1 σ H1 D I1 q1
 | false=>exact hb pins s1 σ H1 D I1 q1
def qL:TS:=fun _ _ _=>False
theorem uV:PS X st qL:=fun _ _ _ _ _ _ h=>h.elim
end
abbrev TG:=V→St→Hp→(St→Hp→Prop)→Prop
abbrev TGs:=List V→St→Hp→(St→Hp→Prop)→Prop
def PG (X:Cx)(target:Expr)(t:TG):Prop :=
 ∀ (pins:List (Addr×Obj)) (s:Shared) (σ:St) (H:Hp) (v:V) (u:Value) (Q:St→Hp→Prop),Inv X pins σ H s→RelV v u→t v σ H Q →
  wpAny (model X.prog X.w) X.A (assign target X.env u) (fun _ s'=>∃ σ' H',Inv X pins σ' H' s'∧Q σ' H') X.xe s
def PGs (X:Cx)(ts:List Expr)(t:TGs):Prop :=
 ∀ (pins:List (Addr×Obj)) (s:Shared) (σ:St) (H:Hp) (vs:List V) (us:List Value) (Q:St→Hp→Prop),Inv X pins σ H s→Vals vs us→t vs σ H Q →
  wpAny (model X.prog X.w) X.A (assignInOrder ((assignEach ts X.env).map (·.2)) us) (fun _ s'=>∃ σ' H',Inv X pins σ' H' s'∧Q σ' H') X.xe s
abbrev Eh:=V→V→V→Hp→(Hp→Prop)→Prop
def E9 (X:Cx)(t:Eh):Prop :=
 ∀ (pins:List (Addr×Obj)) (s:Shared) (σ:St) (H:Hp) (o i v:V) (ov iv u:Value) (Q:Hp→Prop),Inv X pins σ H s→RelV o ov→RelV i iv→RelV v u→t o i v H Q →
  wpAny (model X.prog X.w) X.A (setItem ov iv u) (fun _ s'=>∃ H',Inv X pins σ H' s'∧Q H') X.xe s
section
variable {X:Cx} {pos:Pos}
def kz (i:Nat):TG:=fun v σ H Q=>Q (σ.set i (some v)) H
theorem yD {i:Nat}{x:Str}(hN:X.N.Nodup)(hi:X.N[i]?=some x)(hx:Loc X.env.scope x)(hf:autoParam (X.fn x=true∨X.env.scope.names.lookup x=some .local) L2.aF._auto_1):PG X (.Name x pos) (kz i):=by
 intro pins s σ H v u Q I r h
 exact wpAny_assign_Name (ky I hN hi hx r (fun s' I'=>⟨_,H,I',h⟩) hf)
def Ei:TGs:=fun vs σ H Q=>vs=[]∧Q σ H
def yF (t:TG)(u:TGs):TGs:=fun vs σ H Q=>∃ v r,vs=v::r∧t v σ H fun σ' H'=>u r σ' H' Q
theorem yG:PGs X [] Ei:=by
 intro pins s σ H vs us Q I r h
 obtain ⟨e,h⟩:=h
 subst e
 cases r
 exact assignInOrder_nil ⟨σ,H,I,h⟩
theorem uW {e:Expr}{es:List Expr}{t:TG}{u:TGs}(h1:PG X e t)(h2:PGs X es u)
  (hs:autoParam ((assignEach (e::es) X.env).map (·.2)=assign e X.env::(assignEach es X.env).map (·.2)) L2.aR._auto_1):PGs X (e::es) (yF t u):=by
 intro pins s σ H vs us Q I r h
 obtain ⟨v,vr,e1,h⟩:=h
 subst e1
 cases r with
 | cons r rr =>
  rw [hs]
  refine assignInOrder_cons (thn (h1 pins s σ H _ _ _ I r h) fun _ s1 ⟨σ1,H1,I1,q1⟩=>?_)
  exact h2 pins s1 σ1 H1 _ _ Q I1 rr q1
def DW (K:PySem.W.Frag)(n:Nat)(t:TGs):TG:=fun v σ H Q=>∃ a xs,v=.ref a∧SqT K H a xs∧xs.length=n∧t xs σ H Q
theorem BF {es:List Expr}{k:Nat}{t:TGs}{n:Nat}(hc:X.calm=true)(h:PGs X es t)
  (hn:autoParam ((assignEach es X.env).length=n) L2.aR._auto_1) (hst:autoParam ((assignEach es X.env).findIdx? (·.1)=none) L2.aR._auto_1):PG X (.Tuple es k pos) (DW X.K n t):=by
 intro pins s σ H v u Q I r hw
 obtain ⟨a,xs,e1,hq,hl,hw⟩:=hw
 subst e1
 cases r
 obtain ⟨its,rv,ht,hz⟩:=I.tuple hq
 refine assign_Tuple_tuple (I.ok.hd hc) ht (by simp [hn,← hl,rv.length]) hst fun h' hx=>?_
 have I1:Inv X pins σ H { s with heap:=h' }:=I.kept (t':=s.toks) fun b o e=>hx b o (Nat.ne_of_lt (Heap.lt_size e)) e
 exact h pins _ σ H xs _ Q I1 (by first|exact List.mem_singleton.mp rv|simpa using rv) hw
def Ej (to ti:TE)(t:Eh):TG:=fun v σ H Q=>to σ H fun o H1=>ti σ H1 fun i H2=>t o i v H2 fun H3=>Q σ H3
theorem BH {o i:Expr}{to ti:TE}{t:Eh}(ho:PE X o to)(hi:PE X i ti)(hs:E9 X t)
  (ha:autoParam (∀ v,assign (.Subscript o i pos) X.env v=(do
   let ov ← holding [v] (eval o X.env)
   let iv ← holding [v,ov] (eval i X.env)
   standAt pos
   holding [v,ov,iv] (setItem ov iv v)
   release [v,ov,iv] [])) L2.aI._auto_1):PG X (.Subscript o i pos) (Ej to ti t):=by
 intro pins s σ H v u Q I r h
 rw [ha]
 refine wpAny_bind (wpAny_holding (thn (ho pins s σ H _ I h) fun ov s1 ⟨x,H1,I1,r1,q1⟩=>?_))
 refine wpAny_bind (wpAny_holding (thn (hi pins s1 σ H1 _ I1 q1) fun iv s2 ⟨y,H2,I2,r2,q2⟩=>?_))
 refine wpAny_bind (wpAny_standAt (wpAny_bind (wpAny_holding (thn (hs pins s2 σ H2 x y v ov iv u _ I2 r1 r2 r q2) fun _ s3 ⟨H3,I3,q3⟩=>?_))))
 exact wpAny_release ⟨σ,H3,I3,q3⟩
def uX (te:TE)(g:TG):TS:=fun D σ H=>te σ H fun x H1=>g x σ H1 D.nx
theorem BJ {tg e:Expr}{te:TE}{g:TG}(he:PE X e te)(hg:PG X tg g)(hs:autoParam (swapsWithSole [tg] e pos.line X.env=pure false) L2.aR._auto_1)(hw:autoParam (swappedStores [tg] e X.env=pure none) L2.aR._auto_1)
  (h1:autoParam ((assignEach [tg] X.env).map (·.2)=[assign tg X.env]) L2.aR._auto_1):PS X (.Assign [tg] e pos) (uX te g):=by
 intro pins s σ H D I h
 refine wpAny_Assign_stores (thn (he pins s σ H _ I h) fun v s1 ⟨x,H1,I1,r1,q1⟩=>?_) hs hw
 rw [h1]
 exact thn (hg pins s1 σ H1 x v _ I1 r1 q1) fun _ s2 q=>q
theorem xi {i:Nat}{x:Str}{e:Expr}{te:TE}{pos':Pos}(hN:X.N.Nodup)(hi:X.N[i]?=some x)(hx:Loc X.env.scope x)(he:PE X e te)(hs:autoParam (swapsWith e (some (.Name x pos')) pos.line X.env=pure false) L2.aR._auto_1)(hf:autoParam (X.fn x=true∨X.env.scope.names.lookup x=some .local) L2.aF._auto_1) :
  PS X (.Assign [.Name x pos'] e pos) (uX te (kz i)):=by
 intro pins s σ H D I h
 refine wpAny_Assign_Name (thn (he pins s σ H _ I h) fun v s1 ⟨y,H1,I1,r1,q1⟩=>?_) hs
 exact ky I1 hN hi hx r1 (fun s2 I2=>⟨_,H1,I2,q1⟩) hf
end
section
variable {X:Cx} {pos:Pos}
end
structure It where
 go:Nat→Hp→Prop
 yld:Nat→Hp→V→Hp→Prop
 stop:Nat→Hp→Prop
def qM (X:Cx)(pins:List (Addr×Obj))(H:Hp)(b:Addr):Prop :=
 H b=none∧b≠X.env.locals∧b ∉ X.fs∧(b ∈ X.ex∨X.s₀.heap.objs.size≤b)∧(∀ x c,X.env.cells.lookup x=some c→c≠b)∧∀ p ∈ X.pn++pins,p.1≠b
theorem Inv.fpOk {X:Cx}{pins:List (Addr×Obj)}{σ:St}{H H':Hp}{s:Shared}{b:Addr}(I:Inv X pins σ H s)(hb:s.heap.objs.size≤b)(hn:H' b=none):qM X pins H' b:=by
 refine ⟨hn,Nat.ne_of_gt (Nat.lt_of_lt_of_le I.lt hb),I.nofs hb,.inr (Nat.le_trans I.sz hb),fun x c e z=>?_,fun p hp z=>?_⟩
 ·obtain ⟨v,q⟩:=I.cell x c e
  exact absurd (Nat.lt_of_lt_of_le q.lt (by rw [z]; exact hb)) (Nat.lt_irrefl _)
 ·exact absurd (Nat.lt_of_lt_of_le (Heap.lt_size (I.pin p hp).1) (by rw [z]; exact hb)) (Nat.lt_irrefl _)
structure Turn (P:Program)(w:World)(K:PySem.W.Frag)(tg:Expr)(J:It)(fp:List Addr)(it:Addr)(tn:Nat→Heap→Prop):Prop where
 mem:it ∈ fp
 obj:∀ i h,tn i h→∀ b ∈ fp,∃ o,h.get? b=some o∧∀ v,o.data≠.cell v
 keep:∀ i h h',tn i h→(∀ b ∈ fp,∀ o,h.get? b=some o→h'.get? b=some o)→tn i h'
 item:∀ (X:Cx),X.prog=P→X.w=w→X.K=K→X.calm=true→∀ (i:Nat) (pins:List (Addr×Obj)) (s:Shared) (σ:St) (H:Hp) (E:Value→Shared→Prop),Inv X pins σ H s→(∀ b ∈ fp,qM X pins H b)→tn i s.heap→J.go i H →
  wpAny (model P w) X.A (pyNext (.ref it)) (fun r s1=>∃ u,r=some u ∧
   wpAny (model P w) X.A (letOwnedTupleGo tg (.ref it) u) (fun _ s2=>∃ x H',Inv X pins σ H' s2∧RelV x u∧J.yld i H x H'∧tn (i+1) s2.heap∧∀ b ∈ fp,H' b=none) E s1) E s
 done:∀ (X:Cx),X.prog=P→X.w=w→X.K=K→X.calm=true→∀ (i:Nat) (pins:List (Addr×Obj)) (s:Shared) (σ:St) (H:Hp) (E:Value→Shared→Prop),Inv X pins σ H s→(∀ b ∈ fp,qM X pins H b)→tn i s.heap→J.stop i H →
  wpAny (model P w) X.A (pyNext (.ref it)) (fun r s1=>r=none∧Inv X pins σ H s1) E s
 self:∀ (A:Around) (i:Nat) (s:Shared) (Q:Value→Shared→Prop) (E:Value→Shared→Prop),tn i s.heap→Q (.ref it) s→wpAny (model P w) A (pyIter (.ref it)) Q E s
abbrev TI:=St→Hp→(It→Hp→Prop)→Prop
def PIE (X:Cx)(pins:List (Addr×Obj))(σ:St)(tg:Expr)(R:It→Hp→Prop)(itv:Value)(s2:Shared):Prop :=
 ∃ (it:Addr) (fp:List Addr) (tn:Nat→Heap→Prop) (J:It) (H':Hp),itv=.ref it∧Inv X pins σ H' s2∧Turn X.prog X.w X.K tg J fp it tn∧tn 0 s2.heap∧(∀ b ∈ fp,qM X pins H' b)∧R J H'
def PI (X:Cx)(tg iter:Expr)(wi:TI):Prop :=
 ∀ (pins:List (Addr×Obj)) (s:Shared) (σ:St) (H:Hp) (R:It→Hp→Prop),Inv X pins σ H s→wi σ H R →
  wpAny (model X.prog X.w) X.A (eval iter X.env) (fun v s1=>wpAny (model X.prog X.w) X.A (pyIter v) (PIE X pins σ tg R) X.xe s1) X.xe s
theorem uY {M:Model}{A:Around}{E:Value→Shared→Prop}{s:Shared}{tg:Expr}{it:Addr}{u:Value}{o:Obj}{n:String}{vs:Array Value}{Q:Unit→Shared→Prop}(ho:s.heap.get? it=some o)(hc:o.cls=.type n)(hd:o.data=.fields vs)
    (hn:["enumerate", "zip", "dict_itemiterator", "dict_reverseitemiterator", "odict_iterator", "itertools.zip_longest", "itertools.pairwise"].contains n=false) (hQ:Q () s):wpAny M A (letOwnedTupleGo tg (.ref it) u) Q E s:=by
  unfold letOwnedTupleGo
  cases tg <;> first
    | exact wpAny_pure hQ
    | (cases u <;> first
        | exact wpAny_pure hQ
        | (refine wpAny_bind (wpAny_load ho ?_)
           rw [hc,hd]
           show wpAny M A (if (["enumerate", "zip", "dict_itemiterator", "dict_reverseitemiterator", "odict_iterator", "itertools.zip_longest", "itertools.pairwise"].contains n && vs[0]? == some (rawInt _))=true then _ else _) Q E s
           rw [if_neg (by intro h; rw [hn,Bool.false_and] at h; cases h)]
           exact wpAny_pure hQ))
def Itl (K:PySem.W.Frag)(a:Addr):It :=
 ⟨fun i H=>∃ xs x,SqL K H a xs∧xs[i]?=some x,fun i H x H'=>H'=H∧∀ xs,SqL K H a xs→xs[i]?=some x,fun i H=>∃ xs,SqL K H a xs∧xs.length≤i⟩
def Itt (K:PySem.W.Frag)(a:Addr):It :=
 ⟨fun i H=>∃ xs x,SqT K H a xs∧xs[i]?=some x,fun i H x H'=>H'=H∧∀ xs,SqT K H a xs→xs[i]?=some x,fun i H=>∃ xs,SqT K H a xs∧xs.length≤i⟩
def Itr (lo:Int)(n:Nat):It:=⟨fun i _=>i < n,fun i H x H'=>H'=H∧x=.int (lo+i),fun i _=>n≤i⟩
theorem qO {P:Program}{w:World}{K:PySem.W.Frag}{tg:Expr}(a it:Addr):Turn P w K tg (Itl K a) [it] it (fun i h=>h.IsListIter it a i) where
 mem:=by simp
 obj:=fun i h st b hb=>by
  have e:b=it:=by first|exact List.mem_singleton.mp hb|simpa using hb
  subst e
  obtain ⟨o,e,c,d⟩:=st
  exact ⟨o,e,fun v z=>by rw [d] at z; cases z⟩
 keep:=fun i h h' st k=>st.at fun o e=>k it (by simp) o e
 item:=by
  intro X hP hw hK hc i pins s σ H E I hf st hg
  subst hP hw hK
  obtain ⟨xs,x,hq,hx⟩:=hg
  obtain ⟨its,rv,p,hz⟩:=I.list hq
  obtain ⟨u,hu,ru⟩:=rv.get hx
  obtain ⟨f0,f1,f2,f3,f4,f5⟩:=hf it (by simp)
  refine wpAny_pyNext_list_item st p.isList (x:=u) (by first|exact List.mem_singleton.mp hu|simpa using hu) fun h' st' sb=>?_
  have I1:Inv X pins σ H { s with heap:=h' }:=I.turned (t':=s.toks) (fun b o hb e=>(sb.2 b hb).trans e) f0 f1 f3 f4 f5
  obtain ⟨o,e,c,d⟩:=id st'
  exact ⟨u,rfl,uY (s:={ s with heap:=h' }) e c d (by decide) ⟨x,H,I1,ru,⟨rfl,fun ys hy=>by rw [I.list_inj hy hq]; exact hx⟩,st',fun b hb=>(hf b hb).1⟩⟩
 done:=by
  intro X hP hw hK hc i pins s σ H E I hf st hg
  subst hP hw hK
  obtain ⟨xs,hq,hx⟩:=hg
  obtain ⟨its,rv,p,hz⟩:=I.list hq
  obtain ⟨f0,f1,f2,f3,f4,f5⟩:=hf it (by simp)
  have hl:=rv.length
  exact wpAny_pyNext_list_end (I.ok.hd hc) st p.isList (by simp; nofun) fun h' eb=>⟨rfl,I.turned (t':=s.toks) (fun b o hb e=>eb b o hb e) f0 f1 f3 f4 f5⟩
 self:=fun _ _ _ _ _ st h=>wpAny_pyIter_listiter st h
theorem pG {P:Program}{w:World}{K:PySem.W.Frag}{tg:Expr}(a it:Addr):Turn P w K tg (Itt K a) [it] it (fun i h=>h.IsTupleIter it a i) where
 mem:=by simp
 obj:=fun i h st b hb=>by
  have e:b=it:=by first|exact List.mem_singleton.mp hb|simpa using hb
  subst e
  obtain ⟨o,e,c,d⟩:=st
  exact ⟨o,e,fun v z=>by rw [d] at z; cases z⟩
 keep:=fun i h h' st k=>st.at fun o e=>k it (by simp) o e
 item:=by
  intro X hP hw hK hc i pins s σ H E I hf st hg
  subst hP hw hK
  obtain ⟨xs,x,hq,hx⟩:=hg
  obtain ⟨its,rv,p,hz⟩:=I.tuple hq
  obtain ⟨u,hu,ru⟩:=rv.get hx
  obtain ⟨f0,f1,f2,f3,f4,f5⟩:=hf it (by simp)
  refine wpAny_pyNext_tuple_item st (show s.heap.IsTuple a its.toArray from p) (x:=u) (by first|exact List.mem_singleton.mp hu|simpa using hu) fun h' st' sb=>?_
  have I1:Inv X pins σ H { s with heap:=h' }:=I.turned (t':=s.toks) (fun b o hb e=>(sb.2 b hb).trans e) f0 f1 f3 f4 f5
  obtain ⟨o,e,c,d⟩:=id st'
  exact ⟨u,rfl,uY (s:={ s with heap:=h' }) e c d (by decide) ⟨x,H,I1,ru,⟨rfl,fun ys hy=>by rw [I.tuple_inj hy hq]; exact hx⟩,st',fun b hb=>(hf b hb).1⟩⟩
 done:=by
  intro X hP hw hK hc i pins s σ H E I hf st hg
  subst hP hw hK
  obtain ⟨xs,hq,hx⟩:=hg
  obtain ⟨its,rv,p,hz⟩:=I.tuple hq
  obtain ⟨f0,f1,f2,f3,f4,f5⟩:=hf it (by simp)
  have hl:=rv.length
  exact wpAny_pyNext_tuple_end (I.ok.hd hc) st (show s.heap.IsTuple a its.toArray from p) (by simp; nofun) fun h' eb=>⟨rfl,I.turned (t':=s.toks) (fun b o hb e=>eb b o hb e) f0 f1 f3 f4 f5⟩
 self:=fun _ _ _ _ _ st h=>wpAny_pyIter_tupleiter st h
theorem pH {P:Program}{w:World}{K:PySem.W.Frag}{tg:Expr}(it:Addr)(lo:Int)(n:Nat):Turn P w K tg (Itr lo n) [it] it (fun i h=>IsRangeIter h it (lo+(i:Nat) * 1) ((n:Int) - (i:Nat)) 1) where
 mem:=by simp
 obj:=fun i h st b hb=>by
  have e:b=it:=by first|exact List.mem_singleton.mp hb|simpa using hb
  subst e
  exact ⟨_,st,fun v z=>by
   have z':Data.fields _=Data.cell v:=z
   cases z'⟩
 keep:=fun i h h' st k=>k it (by simp) _ st
 item:=by
  intro X hP hw hK hc i pins s σ H E I hf st hg
  subst hP hw hK
  obtain ⟨f0,f1,f2,f3,f4,f5⟩:=hf it (by simp)
  have W:=Walks.range (prog:=X.prog) (w:=X.w) (I.ok.hd hc) it lo 1 n
  refine W.item i s _ _ hg st fun v h' tk hv st' kk=>?_
  obtain ⟨t,rfl⟩:=hv
  have I1:Inv X pins σ H { s with heap:=h',toks:=tk }:=I.turned (fun b o hb e=>kk b o (by first|exact List.mem_singleton.mp hb|simpa using hb) e) f0 f1 f3 f4 f5
  refine ⟨_,rfl,uY (s:={ s with heap:=h',toks:=tk }) (n := "range_iterator") st' rfl rfl (by decide) ⟨.int (lo+i),H,I1,⟨t,?_⟩,⟨rfl,rfl⟩,st',fun b hb=>(hf b hb).1⟩⟩
  rw [Int.mul_one]
 done:=by
  intro X hP hw hK hc i pins s σ H E I hf st hg
  subst hP hw hK
  obtain ⟨f0,f1,f2,f3,f4,f5⟩:=hf it (by simp)
  exact wpAny_pyNext_range_end (I.ok.hd hc) st (by have:n≤i:=hg; nofun) fun h' eb=>⟨rfl,I.turned (t':=s.toks) (fun b o hb e=>eb b o hb e) f0 f1 f3 f4 f5⟩
 self:=fun _ _ _ _ _ st h=>wpAny_pyIter_rangeiter st h
end L2
namespace L2
open PySem PySem.Spec PyProof.Rows
section
variable {X:Cx} {tg:Expr}
def uZ (K:PySem.W.Frag)(tl:TE):TI:=fun σ H R=>tl σ H fun x H1=>∃ a,x=.ref a∧(∃ xs,SqL K H1 a xs)∧R (Itl K a) H1
def DX (K:PySem.W.Frag)(tl:TE):TI:=fun σ H R=>tl σ H fun x H1=>∃ a,x=.ref a∧(∃ xs,SqT K H1 a xs)∧R (Itt K a) H1
theorem yH {l:Expr}{tl:TE}(hl:PE X l tl):PI X tg l (uZ X.K tl):=by
 intro pins s σ H R I h
 refine thn (hl pins s σ H _ I h) fun v s1 ⟨x,H1,I1,r1,q1⟩=>?_
 obtain ⟨a,e,⟨xs,hq⟩,q⟩:=q1
 subst e
 cases r1
 obtain ⟨its,rv,p,hz⟩:=I1.list hq
 refine wpAny_pyIter_list p.isList ?_
 refine ⟨s1.heap.objs.size,[s1.heap.objs.size],_,_,H1,rfl,I1.kept (t':=s1.toks) fun b o e=>Heap.get?_push_of_some _ e,qO a _,⟨_,Heap.get?_push_size _ rfl,rfl,rfl⟩,fun b hb=>?_,q⟩
 have e:b=s1.heap.objs.size:=by first|exact List.mem_singleton.mp hb|simpa using hb
 subst e
 exact I1.fpOk (Nat.le_refl _) (I1.hok.fresh (Nat.le_refl _))
theorem BK {l:Expr}{tl:TE}(hl:PE X l tl):PI X tg l (DX X.K tl):=by
 intro pins s σ H R I h
 refine thn (hl pins s σ H _ I h) fun v s1 ⟨x,H1,I1,r1,q1⟩=>?_
 obtain ⟨a,e,⟨xs,hq⟩,q⟩:=q1
 subst e
 cases r1
 obtain ⟨its,rv,p,hz⟩:=I1.tuple hq
 refine wpAny_pyIter_tuple (show s1.heap.IsTuple a its.toArray from p) ?_
 refine ⟨s1.heap.objs.size,[s1.heap.objs.size],_,_,H1,rfl,I1.kept (t':=s1.toks) fun b o e=>Heap.get?_push_of_some _ e,pG a _,⟨_,Heap.get?_push_size _ rfl,rfl,rfl⟩,fun b hb=>?_,q⟩
 have e:b=s1.heap.objs.size:=by first|exact List.mem_singleton.mp hb|simpa using hb
 subst e
 exact I1.fpOk (Nat.le_refl _) (I1.hok.fresh (Nat.le_refl _))
theorem n4 {pins:List (Addr×Obj)}{σ:St}{H:Hp}{s:Shared}{R:It→Hp→Prop}{E:Value→Shared→Prop}{lo hi:Int}{t u v:Tok}{tk:Nat}(I:Inv X pins σ H s)(h1:-(2 ^ 62)≤lo)(h2:lo < 2 ^ 62)(h3:-(2 ^ 62)≤hi)(h4:hi < 2 ^ 62)
  (q:R (Itr lo (hi - lo).toNat) H):wpAny (model X.prog X.w) X.A (pyIter (.ref s.heap.objs.size)) (PIE X pins σ tg R) E { s with heap:=s.heap.push { cls:=.type "range", data:=.fields #[.int lo t,.int hi u,.int 1 v] },toks:=tk }:=by
 refine wpAny_pyIter_range (IsRange.new ..) (small_one h1 h2 h3 h4) ?_
 have I1:Inv X pins σ H { s with heap:=s.heap.push { cls:=.type "range", data:=.fields #[.int lo t,.int hi u,.int 1 v] },toks:=tk }:=I.kept fun b o e=>Heap.get?_push_of_some _ e
 refine ⟨(s.heap.push { cls:=.type "range", data:=.fields #[.int lo t,.int hi u,.int 1 v] }).objs.size,[(s.heap.push { cls:=.type "range", data:=.fields #[.int lo t,.int hi u,.int 1 v] }).objs.size],_,_,H,rfl,
  I1.kept (t':=tk) fun b o e=>Heap.get?_push_of_some _ e,pH _ lo (hi - lo).toNat,?_,fun b hb=>?_,q⟩
 ·have e1:lo+((0:Nat):Int) * 1=lo:=by simp
  have e2:(((hi - lo).toNat:Nat):Int) - ((0:Nat):Int)=Builtin.Range.rangeSize lo hi 1:=by rw [rangeSize_one]; split <;> nofun
  show IsRangeIter _ _ (lo+((0:Nat):Int) * 1) ((((hi - lo).toNat:Nat):Int) - ((0:Nat):Int)) 1
  rw [e1,e2]
  exact Heap.get?_push_size _ rfl
 ·have e:b=(s.heap.push { cls:=.type "range", data:=.fields #[.int lo t,.int hi u,.int 1 v] }).objs.size:=by first|exact List.mem_singleton.mp hb|simpa using hb
  subst e
  exact I1.fpOk (Nat.le_refl _) (I1.hok.fresh (Nat.le_refl _))
def yI (ta:TA):TI:=fun σ H R=>ta σ H fun vs H1=>∃ j:Int,vs=[.int j]∧-(2 ^ 62)≤j∧j < 2 ^ 62∧R (Itr 0 j.toNat) H1
def yJ (ta:TA):TI:=fun σ H R=>ta σ H fun vs H1=>∃ i j:Int,vs=[.int i,.int j]∧(-(2 ^ 62)≤i∧i < 2 ^ 62∧-(2 ^ 62)≤j∧j < 2 ^ 62)∧R (Itr i (j - i).toNat) H1
theorem qP {a:Expr} {ta:TA} {p pos:Pos} (hg:Gl X "range") (hm:X.mg "range" = none) (ha:PA X [a] ta) (hs:autoParam (starEach [a] X.env=[(false,eval a X.env)]) L2.aR._auto_1):PI X tg (.Call (.Name "range" p) [a] [] pos) (yI ta):=by
 intro pins s σ H R I h
 refine Call_ (lG I hg hm boot_range (PyProof.Rows.callWith_type1 (thn (ha pos pins s σ H _ I h) fun us s1 ⟨vs,H1,I1,r1,q1⟩=>?_) hs rfl))
 obtain ⟨j,e,q1,q2,q⟩:=q1
 subst e
 cases r1 with
 | cons r rr =>
  cases rr
  obtain ⟨t,rfl⟩:=r
  exact call_range_1 (n4 I1 (by nofun) (by nofun) q1 q2 (by first|exact List.mem_singleton.mp q|simpa using q))
theorem qQ {a b:Expr} {ta:TA} {p pos:Pos} (hg:Gl X "range") (hm:X.mg "range" = none) (ha:PA X [a,b] ta) (hs:autoParam (starEach [a,b] X.env=[(false,eval a X.env),(false,eval b X.env)]) L2.aR._auto_1) (hs2:autoParam (starEach [b] X.env=[(false,eval b X.env)]) L2.aR._auto_1) :
  PI X tg (.Call (.Name "range" p) [a,b] [] pos) (yJ ta):=by
 intro pins s σ H R I h
 refine Call_ (lG I hg hm boot_range (PyProof.Rows.callWith_type1 (thn (ha pos pins s σ H _ I h) fun us s1 ⟨vs,H1,I1,r1,q1⟩=>?_) (by rw [hs,hs2]) (by rw [hs2]; rfl)))
 obtain ⟨i,j,e,⟨q1,q2,q3,q4⟩,q⟩:=q1
 subst e
 cases r1 with
 | cons r rr =>
  cases rr with
  | cons r' rr =>
   cases rr
   obtain ⟨t,rfl⟩:=r
   obtain ⟨t',rfl⟩:=r'
   exact call_range_2 (n4 I1 q1 q2 q3 q4 q)
def Ek (wi:TI)(g:TG)(tb:TS):TS:=fun D σ H=>wi σ H fun J H1=>∃ W:Nat→Nat→St→Hp→Prop,(∃ m,W 0 m σ H1)∧∀ i m σ H,W i m σ H →
 (J.stop i H∧D.nx σ H)∨(J.go i H∧∃ N:St→Hp→Prop,(∀ σ' H',N σ' H'→∃ m',m' < m∧W (i+1) m' σ' H')∧∀ x H',J.yld i H x H'→g x σ H' fun σ2 H2=>tb { D with nx:=N,ct:=N,bk:=D.nx } σ2 H2)
def jQ (fp:List Addr)(h:Heap):List (Addr×Obj):=fp.filterMap fun b=>(h.get? b).map fun o=>(b,o)
theorem fE {fp:List Addr}{h:Heap}{b:Addr}{o:Obj}(hb:b ∈ fp)(e:h.get? b=some o):(b,o) ∈ jQ fp h:=List.mem_filterMap.mpr ⟨b,hb,by rw [e]; rfl⟩
theorem qR {fp:List Addr}{h:Heap}{p:Addr×Obj}(hp:p ∈ jQ fp h):p.1 ∈ fp∧h.get? p.1=some p.2:=by
 obtain ⟨b,hb,e⟩:=List.mem_filterMap.mp hp
 cases q:h.get? b with
 | none=>rw [q] at e; cases e
 | some o =>
  rw [q] at e
  have e':(b,o)=p:=Option.some.inj e
  subst e'
  exact ⟨hb,q⟩
theorem Inv.pinned {pins:List (Addr×Obj)}{σ:St}{H:Hp}{s:Shared}{fp:List Addr}(I:Inv X pins σ H s)(hf:∀ b ∈ fp,qM X pins H b)(ho:∀ b ∈ fp,∃ o,s.heap.get? b=some o∧∀ v,o.data≠.cell v):Inv X (pins++jQ fp s.heap) σ H s :=
 I.pins_of fun p hp=>(List.mem_append.mp hp).elim (fun z=>I.pin p (List.mem_append_right _ z)) fun z=>by
  obtain ⟨hb,e⟩:=qR z
  obtain ⟨f0,f1,f2,_⟩:=hf p.1 hb
  obtain ⟨o,e',d⟩:=ho p.1 hb
  rw [e] at e'; cases e'
  exact ⟨e,f0,f1,f2,d⟩
theorem Inv.unpinned {pins pl:List (Addr×Obj)}{σ:St}{H:Hp}{s:Shared}(I:Inv X (pins++pl) σ H s):Inv X pins σ H s:=I.pins_of fun p hp=>I.pin p (List.mem_append_right _ (List.mem_append_left _ hp))
theorem BL {iter:Expr}{body:List Stmt}{wi:TI}{g:TG}{tb:TS}{pos:Pos}(hp:PassesOwn (model X.prog X.w) X.A X.env X.xe)(hc:X.calm=true)(hi:PI X tg iter wi)(hg:PG X tg g)(hb:PSs X body tb)
  (hs:autoParam (∀ x,foldedSetIterable iter X.env x=pure x) L2.aI._auto_1):PS X (.For tg iter body [] pos) (Ek wi g tb):=by
 intro pins s σ H D I h
 refine wpAny_For (thn (hi pins s σ H _ I h) fun v s1 h1=>thn h1 fun itv s2 h2=>?_) hs
 obtain ⟨it,fp,tn,J,H2,e,I2,T,st2,f2,W,⟨m0,w0⟩,turn⟩:=h2
 subst e
 -- what stays true of the iterator's objects through the loop
 have stat:∀ {H':Hp},(∀ b ∈ fp,H' b=none)→∀ b ∈ fp,qM X pins H' b:=fun hn b hb=>⟨hn b hb,(f2 b hb).2⟩
 refine codeAny_forLoop_any (fun n s'=>∃ i σ' H',Inv X pins σ' H' s'∧tn i s'.heap∧(∀ b ∈ fp,H' b=none)∧W i n σ' H') ?_ m0 ⟨0,σ,H2,I2,st2,fun b hb=>(f2 b hb).1,w0⟩
 rintro n s3 ⟨i,σ3,H3,I3,st3,fr3,w3⟩
 rcases turn i n σ3 H3 w3 with ⟨stop,qn⟩ | ⟨go,N,hN,step⟩
 ·refine wpAny_passesOwn hp (thn (T.done X rfl rfl rfl hc i pins s3 σ3 H3 X.xe I3 (stat fr3) st3 stop) fun r s4 ⟨hr,I4⟩=>?_)
  subst hr
  exact wpAny_execs_nil ⟨σ3,H3,I4,qn⟩
 ·refine wpAny_passesOwn hp (thn (T.item X rfl rfl rfl hc i pins s3 σ3 H3 X.xe I3 (stat fr3) st3 go) fun r s4 ⟨u,hr,h4⟩=>?_)
  subst hr
  refine wpAny_passesOwn hp (thn h4 fun _ s5 ⟨x,H5,I5,r5,y5,st5,fr5⟩=>?_)
  have I5':=I5.pinned (stat fr5) (T.obj _ _ st5)
  refine wpAny_passesOwn hp (thn (hg _ s5 σ3 H5 x u _ I5' r5 (step x H5 y5)) fun _ s6 ⟨σ6,H6,I6,q6⟩=>?_)
  refine wpAny_passesOwn hp (thn (hb _ s6 σ6 H6 _ I6 q6) fun f s7 q7=>?_)
  have again:∀ {σ7:St} {H7:Hp},Inv X (pins++jQ fp s5.heap) σ7 H7 s7→N σ7 H7→∃ m,m < n∧∃ i σ' H',Inv X pins σ' H' s7∧tn i s7.heap∧(∀ b ∈ fp,H' b=none)∧W i m σ' H':=fun {σ7 H7} I7 n7=>by
   obtain ⟨m',hm,w7⟩:=hN σ7 H7 n7
   refine ⟨m',hm,i+1,σ7,H7,I7.unpinned,T.keep _ _ _ st5 fun b hb o e=>(I7.pin (b,o) (List.mem_append_right _ (List.mem_append_right _ (fE hb e)))).1,fun b hb=>?_,w7⟩
   obtain ⟨o,e,d⟩:=T.obj _ _ st5 b hb
   exact (I7.pin (b,o) (List.mem_append_right _ (List.mem_append_right _ (fE hb e)))).2.1
  cases f with
  | next=>obtain ⟨σ7,H7,I7,n7⟩:=q7; exact again I7 n7
  | cont=>obtain ⟨σ7,H7,I7,n7⟩:=q7; exact again I7 n7
  | brk=>obtain ⟨σ7,H7,I7,q7⟩:=q7; exact ⟨σ7,H7,I7.unpinned,q7⟩
  | ret v=>obtain ⟨x7,σ7,H7,I7,r7,q7⟩:=q7; exact ⟨x7,σ7,H7,I7.unpinned,r7,q7⟩
end
end L2
namespace L2
open PySem PySem.Spec PyProof.Rows
abbrev R2:=V→V→Hp→VK→Prop
def OpR (X:Cx)(f:Value→Value→Sem Value)(r:R2):Prop :=
 ∀ (pins:List (Addr×Obj)) (s:Shared) (σ:St) (H:Hp) (x y:V) (v u:Value) (Q:VK),Inv X pins σ H s→RelV x v→RelV y u→r x y H Q →
  wpAny (model X.prog X.w) X.A (f v u) (EP X pins σ Q) X.xe s
def UnR (X:Cx)(f:Value→Sem Value)(r:V→Hp→VK→Prop):Prop :=
 ∀ (pins:List (Addr×Obj)) (s:Shared) (σ:St) (H:Hp) (x:V) (v:Value) (Q:VK),Inv X pins σ H s→RelV x v→r x H Q →
  wpAny (model X.prog X.w) X.A (f v) (EP X pins σ Q) X.xe s
def CallR (X:Cx)(f:Value)(r:List V→Hp→VK→Prop):Prop :=
 ∀ (pins:List (Addr×Obj)) (s:Shared) (σ:St) (H:Hp) (xs:List V) (us:List Value) (Q:VK),Inv X pins σ H s→Vals xs us→r xs H Q →
  wpAny (model X.prog X.w) X.A (call f us) (EP X pins σ Q) X.xe s
def tOp (r:R2)(ta tb:TE):TE:=fun σ H Q=>ta σ H fun x H1=>tb σ H1 fun y H2=>r x y H2 Q
def tUn (r:V→Hp→VK→Prop)(ta:TE):TE:=fun σ H Q=>ta σ H fun x H1=>r x H1 Q
def rI (C:Int→Int→Prop)(g:Int→Int→V):R2:=fun x y H Q=>∃ i j,x=.int i∧y=.int j∧C i j∧Q (g i j) H
def rI0 (g:Int→Int→V):R2:=fun x y H Q=>∃ i j,x=.int i∧y=.int j∧Q (g i j) H
def rU (g:Int→V):V→Hp→VK→Prop:=fun x H Q=>∃ i,x=.int i∧Q (g i) H
section
variable {X:Cx} {a b c:Expr} {ta tb tc:TE} {pos:Pos}
theorem El (ha:PE X a ta)(hb:PE X b tb){pins:List (Addr×Obj)}{s:Shared}{σ:St}{H:Hp}{R:V→V→Hp→Prop}(I:Inv X pins σ H s)
  (h:ta σ H fun x H1=>tb σ H1 fun y H2=>R x y H2) {Q:Value→Shared→Prop} {f:Value→Value→Sem Value}
  (hf:∀ v u s2 x y H2,Inv X pins σ H2 s2→RelV x v→RelV y u→R x y H2→wpAny (model X.prog X.w) X.A (f v u) Q X.xe s2) :
  wpAny (model X.prog X.w) X.A (eval a X.env) (fun v s₁=>wpAny (model X.prog X.w) X.A (eval b X.env) (fun u s₂=>wpAny (model X.prog X.w) X.A (f v u) Q X.xe s₂) X.xe s₁) X.xe s:=by
 refine thn (ha pins s σ H _ I h) fun v s1 ⟨x,H1,I1,r1,q1⟩=>?_
 refine thn (hb pins s1 σ H1 _ I1 q1) fun u s2 ⟨y,H2,I2,r2,q2⟩=>?_
 exact hf v u s2 x y H2 I2 r1 r2 q2
theorem Em {op:Operator}{r:R2}(ho:OpR X (binaryOp op) r)(ha:PE X a ta)(hb:PE X b tb):PE X (.BinOp a op b pos) (tOp r ta tb):=by
 intro pins s σ H Q I h
 exact wpAny_BinOp (El ha hb I h fun v u s2 x y H2 I2 rx ry q=>ho pins s2 σ H2 x y v u Q I2 rx ry q)
theorem En {op:UnaryOp}{r:V→Hp→VK→Prop}(ho:UnR X (unaryOp op) r)(ha:PE X a ta):PE X (.UnaryOp op a pos) (tUn r ta):=by
 intro pins s σ H Q I h
 exact UnaryOp_ (thn (ha pins s σ H _ I h) fun v s1 ⟨x,H1,I1,r1,q1⟩=>ho pins s1 σ H1 x v Q I1 r1 q1)
theorem opI {f:Value→Value→Sem Value}{C:Int→Int→Prop}{g:Int→Int→Int}
  (rule:∀ (i j:Int) (t u:Tok) (s:Shared) (Q:Value→Shared→Prop) (E:Value→Shared→Prop),C i j→Q (.int (g i j) s.toks) { s with toks:=s.toks+1 }→wpAny (model X.prog X.w) X.A (f (.int i t) (.int j u)) Q E s) :
  OpR X f (rI C fun i j=>.int (g i j)):=by
 intro pins s σ H x y v u Q I rx ry h
 obtain ⟨i,j,rfl,rfl,hc,q⟩:=h
 obtain ⟨t,rfl⟩:=rx
 obtain ⟨t',rfl⟩:=ry
 exact rule i j t t' s _ _ hc ⟨.int (g i j),H,I.tok _,⟨_,rfl⟩,q⟩
theorem Fa {f:Value→Value→Sem Value}{g:Int→Int→Int}
  (rule:∀ (i j:Int) (t u:Tok) (s:Shared) (Q:Value→Shared→Prop) (E:Value→Shared→Prop),Q (.int (g i j) s.toks) { s with toks:=s.toks+1 }→wpAny (model X.prog X.w) X.A (f (.int i t) (.int j u)) Q E s) :
  OpR X f (rI0 fun i j=>.int (g i j)):=by
 intro pins s σ H x y v u Q I rx ry h
 obtain ⟨i,j,rfl,rfl,q⟩:=h
 obtain ⟨t,rfl⟩:=rx
 obtain ⟨t',rfl⟩:=ry
 exact rule i j t t' s _ _ ⟨.int (g i j),H,I.tok _,⟨_,rfl⟩,q⟩
theorem DY {f:Value→Value→Sem Value}{g:Int→Int→Bool}
  (rule:∀ (i j:Int) (t u:Tok) (s:Shared) (Q:Value→Shared→Prop) (E:Value→Shared→Prop),Q (.bool (g i j)) s→wpAny (model X.prog X.w) X.A (f (.int i t) (.int j u)) Q E s) :
  OpR X f (rI0 fun i j=>.bl (g i j)):=by
 intro pins s σ H x y v u Q I rx ry h
 obtain ⟨i,j,rfl,rfl,q⟩:=h
 obtain ⟨t,rfl⟩:=rx
 obtain ⟨t',rfl⟩:=ry
 exact rule i j t t' s _ _ ⟨.bl (g i j),H,I,rfl,q⟩
def yL (i j:Int):Prop:=0 < j∧j < 1073741824
def BM (i j:Int):Prop:=0≤j∧j≤1000000∧i.natAbs < 2 ^ 64
def CMul (i j:Int):Prop:=(-(2 ^ 64) < i∧i < 2 ^ 64)∨(-(2 ^ 64) < j∧j < 2 ^ 64)
theorem CMul.ok {i j:Int}(h:CMul i j):IntMulOk i j:=by
 rcases h with ⟨h1,h2⟩ | ⟨h1,h2⟩
 ·exact .of_left (intBits_le_64 h1 h2)
 ·exact .of_right (intBits_le_64 h1 h2)
theorem BN:OpR X (binaryOp .Add) (rI0 fun i j=>.int (i+j)):=Fa fun _ _ _ _ _ _ _ q=>add_int q
theorem BP:OpR X (binaryOp .Sub) (rI0 fun i j=>.int (i - j)):=Fa fun _ _ _ _ _ _ _ q=>sub_int q
theorem BQ:OpR X (binaryOp .Mult) (rI CMul fun i j=>.int (i * j)):=opI fun _ _ _ _ _ _ _ hc q=>mul_int q hc.ok
theorem yM:OpR X (binaryOp .FloorDiv) (rI yL fun i j=>.int (i / j)):=opI fun i j _ _ _ _ _ hc q=>by
 have h1:(0:Int) < j:=hc.1
 have h2:j < 1073741824:=hc.2
 exact floordiv_int (by nofun) (by rw [Int.fdiv_eq_ediv_of_nonneg i (by nofun)]; exact q) (.inl (PyProof.noPylong_small (by nofun)))
theorem BR:OpR X (binaryOp .Mod) (rI (fun _ j=>0 < j) fun i j=>.int (i % j)):=opI fun i j _ _ _ _ _ hc q=>by
 have h1:(0:Int) < j:=hc
 exact mod_int' (by nofun) (by rw [Int.fmod_eq_emod_of_nonneg i (by nofun)]; exact q)
theorem BU:OpR X (binaryOp .Pow) (rI BM fun i j=>.int (i ^ j.toNat)):=opI fun _ _ _ _ _ _ _ hc q=>pow_int_small hc.1 hc.2.1 hc.2.2 q
theorem unI {f:Value→Sem Value}{g:Int→Int}
  (rule:∀ (i:Int) (t:Tok) (s:Shared) (Q:Value→Shared→Prop) (E:Value→Shared→Prop),Q (.int (g i) s.toks) { s with toks:=s.toks+1 }→wpAny (model X.prog X.w) X.A (f (.int i t)) Q E s) :
  UnR X f (rU fun i=>.int (g i)):=by
 intro pins s σ H x v Q I rx h
 obtain ⟨i,rfl,q⟩:=h
 obtain ⟨t,rfl⟩:=rx
 exact rule i t s _ _ ⟨.int (g i),H,I.tok _,⟨_,rfl⟩,q⟩
theorem BV:UnR X (unaryOp .USub) (rU fun i=>.int (-i)):=unI fun _ _ _ _ _ q=>neg_int q
end
def Fb:V→V→Bool
 | .non,.non=>true | .non,.int _=>true | .int _,.non=>true | .non,.bl _=>true | .bl _,.non=>true | .non,.str _=>true | .str _,.non=>true
 | .int _,.int _=>true | .bl _,.bl _=>true | .str _,.str _=>true | .byt _,.byt _=>true
 | .int _,.str _=>true | .str _,.int _=>true | .bl _,.str _=>true | .str _,.bl _=>true
 | _,_=>false
def rEq:R2:=fun x y H Q=>Fb x y=true∧Q (.bl (decide (x=y))) H
def rNe:R2:=fun x y H Q=>Fb x y=true∧Q (.bl (!decide (x=y))) H
theorem qS {i j:Int}:decide (V.int i=V.int j)=(i == j):=by
 rw [Bool.eq_iff_iff,decide_eq_true_iff,beq_iff_eq]
 exact ⟨fun h=>by cases h; rfl,fun h=>by rw [h]⟩
theorem xj {i j:Bool}:decide (V.bl i=V.bl j)=(i == j):=by
 rw [Bool.eq_iff_iff,decide_eq_true_iff,beq_iff_eq]
 exact ⟨fun h=>by cases h; rfl,fun h=>by rw [h]⟩
theorem qT {i j:Str}:decide (V.str i=V.str j)=(i == j):=by
 rw [Bool.eq_iff_iff,decide_eq_true_iff,beq_iff_eq]
 exact ⟨fun h=>by cases h; rfl,fun h=>by rw [h]⟩
theorem qU {i j:Array UInt8}:decide (V.byt i=V.byt j)=(i.toList == j.toList):=by
 rw [Bool.eq_iff_iff,decide_eq_true_iff,beq_iff_eq]
 exact ⟨fun h=>by cases h; rfl,fun h=>by rw [Array.toList_inj.mp h]⟩
section
variable {X:Cx} {a b c:Expr} {ta tb tc:TE} {pos:Pos}
theorem bT {pins:List (Addr×Obj)}{σ:St}{H:Hp}{s:Shared}{Q:VK}{k k':Bool}(I:Inv X pins σ H s)(q:Q (.bl k) H)(e:k=k'):EP X pins σ Q (.bool k') s:=by
 subst e
 exact ⟨.bl k,H,I,rfl,q⟩
theorem Eo:OpR X (compareOp .Eq) rEq:=by
 intro pins s σ H x y v u Q I rx ry h
 obtain ⟨hs,q⟩:=h
 cases x with
 | non =>
  cases rx
  cases y with
  | non=>cases ry; exact PySem.EqNone.eq_none_none (bT I q (by simp))
  | bl j=>cases ry; exact PySem.EqNone.eq_none_bool (bT I q (by simp))
  | int j=>obtain ⟨t',rfl⟩:=ry; exact PySem.EqNone.eq_none_int (bT I q (by simp))
  | str j=>obtain ⟨t',rfl⟩:=ry; exact PySem.EqNone.eq_none_str (bT I q (by simp))
  | _=>exact absurd (show false=true from hs) Bool.false_ne_true
 | bl i =>
  cases rx
  cases y with
  | non=>cases ry; exact PySem.EqNone.eq_bool_none (bT I q (by simp))
  | bl j=>cases ry; exact eq_bool (bT I q xj)
  | str j=>obtain ⟨t',rfl⟩:=ry; exact PySem.EqMixed.eq_bool_str (bT I q (by simp))
  | _=>exact absurd (show false=true from hs) Bool.false_ne_true
 | int i =>
  obtain ⟨t,rfl⟩:=rx
  cases y with
  | non=>cases ry; exact PySem.EqNone.eq_int_none (bT I q (by simp))
  | int j=>obtain ⟨t',rfl⟩:=ry; exact eq_int (bT I q qS)
  | str j=>obtain ⟨t',rfl⟩:=ry; exact PySem.EqMixed.eq_int_str (bT I q (by simp))
  | _=>exact absurd (show false=true from hs) Bool.false_ne_true
 | str i =>
  obtain ⟨t,rfl⟩:=rx
  cases y with
  | non=>cases ry; exact PySem.EqNone.eq_str_none (bT I q (by simp))
  | bl j=>cases ry; exact PySem.EqMixed.eq_str_bool (bT I q (by simp))
  | int j=>obtain ⟨t',rfl⟩:=ry; exact PySem.EqMixed.eq_str_int (bT I q (by simp))
  | str j=>obtain ⟨t',rfl⟩:=ry; exact eq_str (bT I q qT)
  | _=>exact absurd (show false=true from hs) Bool.false_ne_true
 | byt i =>
  obtain ⟨t,rfl⟩:=rx
  cases y with
  | byt j=>obtain ⟨t',rfl⟩:=ry; exact PySem.W.eq_bytes (bT I q qU)
  | _=>exact absurd (show false=true from hs) Bool.false_ne_true
 | _=>cases y <;> exact absurd (show false=true from hs) Bool.false_ne_true
theorem Ep:OpR X (compareOp .NotEq) rNe:=by
 intro pins s σ H x y v u Q I rx ry h
 obtain ⟨hs,q⟩:=h
 cases x with
 | non =>
  cases rx
  cases y with
  | non=>cases ry; exact PySem.EqNone.ne_none_none (bT I q (by simp))
  | bl j=>cases ry; exact PySem.EqNone.ne_none_bool (bT I q (by simp))
  | int j=>obtain ⟨t',rfl⟩:=ry; exact PySem.EqNone.ne_none_int (bT I q (by simp))
  | str j=>obtain ⟨t',rfl⟩:=ry; exact PySem.EqNone.ne_none_str (bT I q (by simp))
  | _=>exact absurd (show false=true from hs) Bool.false_ne_true
 | bl i =>
  cases rx
  cases y with
  | non=>cases ry; exact PySem.EqNone.ne_bool_none (bT I q (by simp))
  | bl j=>cases ry; exact ne_bool (bT I q (congrArg not xj))
  | str j=>obtain ⟨t',rfl⟩:=ry; exact PySem.EqMixed.ne_bool_str (bT I q (by simp))
  | _=>exact absurd (show false=true from hs) Bool.false_ne_true
 | int i =>
  obtain ⟨t,rfl⟩:=rx
  cases y with
  | non=>cases ry; exact PySem.EqNone.ne_int_none (bT I q (by simp))
  | int j=>obtain ⟨t',rfl⟩:=ry; exact ne_int (bT I q (congrArg not qS))
  | str j=>obtain ⟨t',rfl⟩:=ry; exact PySem.EqMixed.ne_int_str (bT I q (by simp))
  | _=>exact absurd (show false=true from hs) Bool.false_ne_true
 | str i =>
  obtain ⟨t,rfl⟩:=rx
  cases y with
  | non=>cases ry; exact PySem.EqNone.ne_str_none (bT I q (by simp))
  | bl j=>cases ry; exact PySem.EqMixed.ne_str_bool (bT I q (by simp))
  | int j=>obtain ⟨t',rfl⟩:=ry; exact PySem.EqMixed.ne_str_int (bT I q (by simp))
  | str j=>obtain ⟨t',rfl⟩:=ry; exact ne_str (bT I q (congrArg not qT))
  | _=>exact absurd (show false=true from hs) Bool.false_ne_true
 | byt i =>
  obtain ⟨t,rfl⟩:=rx
  cases y with
  | byt j=>obtain ⟨t',rfl⟩:=ry; exact PySem.W.ne_bytes (bT I q (congrArg not qU))
  | _=>exact absurd (show false=true from hs) Bool.false_ne_true
 | _=>cases y <;> exact absurd (show false=true from hs) Bool.false_ne_true
theorem Er:OpR X (compareOp .Lt) (rI0 fun i j=>.bl (decide (i < j))):=DY fun _ _ _ _ _ _ _ q=>lt_int q
theorem Es:OpR X (compareOp .LtE) (rI0 fun i j=>.bl (decide (i≤j))):=DY fun _ _ _ _ _ _ _ q=>le_int q
theorem Et:OpR X (compareOp .Gt) (rI0 fun i j=>.bl (decide (j < i))):=DY fun _ _ _ _ _ _ _ q=>gt_int q
theorem Eu:OpR X (compareOp .GtE) (rI0 fun i j=>.bl (decide (j≤i))):=DY fun _ _ _ _ _ _ _ q=>ge_int q
theorem qV:OpR X (compareOp .In) (fun x y H Q=>∃ i j,x=.str i∧y=.str j∧Q (.bl (!(Builtin.Str.occurrences j i 0 j.length 1).isEmpty)) H):=by
 intro pins s σ H x y v u Q I rx ry h
 obtain ⟨i,j,rfl,rfl,q⟩:=h
 obtain ⟨t,rfl⟩:=rx
 obtain ⟨t',rfl⟩:=ry
 exact in_str (bT I q rfl)
theorem BX:OpR X (compareOp .Is) (fun x y H Q=>y=.non∧Q (.bl (decide (x=.non))) H):=by
 intro pins s σ H x y v u Q I rx ry h
 obtain ⟨rfl,q⟩:=h
 cases ry
 refine is_none_gen (bT I q ?_)
 cases x <;> first
  | (cases rx; rfl)
  | (obtain ⟨t,rfl⟩:=rx; rfl)
theorem yN:OpR X (compareOp .IsNot) (fun x y H Q=>y=.non∧Q (.bl (!decide (x=.non))) H):=by
 intro pins s σ H x y v u Q I rx ry h
 obtain ⟨rfl,q⟩:=h
 cases ry
 refine isnot_none_gen (bT I q ?_)
 cases x <;> first
  | (cases rx; rfl)
  | (obtain ⟨t,rfl⟩:=rx; rfl)
theorem OpR.or {f:Value→Value→Sem Value}{r r':R2}(h:OpR X f r)(h':OpR X f r'):OpR X f (fun x y H Q=>r x y H Q∨r' x y H Q):=by
 intro pins s σ H x y v u Q I rx ry q
 rcases q with q | q
 ·exact h pins s σ H x y v u Q I rx ry q
 ·exact h' pins s σ H x y v u Q I rx ry q
theorem BY (b:Expr){op:CmpOp}(h:autoParam (op≠.In) L2.aD._auto_1)(h2:autoParam (op≠.NotIn) L2.aD._auto_1):behindInMarks op b=false:=by
 have e1:(op == CmpOp.In)=false:=by cases op <;> first | rfl | exact absurd rfl h
 have e2:(op == CmpOp.NotIn)=false:=by cases op <;> first | rfl | exact absurd rfl h2
 cases b
 case Set k elts z=>exact Bool.and_eq_false_iff.mpr (.inl (Bool.and_eq_false_iff.mpr (.inr (Bool.or_eq_false_iff.mpr ⟨e1,e2⟩))))
 all_goals rfl
theorem yO {op:CmpOp}{r:R2}(ho:OpR X (compareOp op) r)(ha:PE X a ta)(hb:PE X b tb)(hm:behindInMarks op b=false):PE X (.Compare a [op] [b] pos) (tOp r ta tb):=by
 intro pins s σ H Q I h
 exact wpAny_Compare1 (El ha hb I h fun v u s2 x y H2 I2 rx ry q=>ho pins s2 σ H2 x y v u Q I2 rx ry q) hm
def nb (t:TE):TT:=fun σ H Q=>t σ H fun x H'=>∃ k,x=.bl k∧Q k H'
theorem yQ {op:CmpOp}{r:R2}(ho:OpR X (compareOp op) r)(ha:PE X a ta)(hb:PE X b tb)(hm:behindInMarks op b=false):PT X (.Compare a [op] [b] pos) (nb (tOp r ta tb)):=by
 intro pins s σ H Q I h
 refine wpAny_isTrue_Compare1 (thn (ha pins s σ H _ I h) fun v s1 ⟨x,H1,I1,r1,q1⟩=>thn (hb pins s1 σ H1 _ I1 q1) fun u s2 ⟨y,H2,I2,r2,q2⟩ =>
  thn (ho pins s2 σ H2 x y v u _ I2 r1 r2 q2) fun c s3 ⟨z,H3,I3,r3,k,e,q3⟩=>?_) hm
 subst e
 cases r3
 exact wpAny_truthy_bool ⟨H3,I3,q3⟩
def lH (r r':R2)(ta tb tc:TE):TE:=fun σ H Q=>ta σ H fun x H1=>tb σ H1 fun y H2=>r x y H2 fun z H3=>∃ k,z=.bl k ∧
 (if k=true then tc σ H3 fun w' H4=>r' y w' H4 Q else Q (.bl false) H3)
theorem u0 {op op':CmpOp}{r r':R2}(ho:OpR X (compareOp op) r)(ho':OpR X (compareOp op') r')(ha:PE X a ta)(hb:PE X b tb)(hc:PE X c tc)
  (hm:lastMarks [op,op'] [b,c]=false:=by with_unfolding_all rfl):PE X (.Compare a [op,op'] [b,c] pos) (lH r r' ta tb tc):=by
 intro pins s σ H Q I h
 refine Compare_chain (thn (ha pins s σ H _ I h) fun v s1 ⟨x,H1,I1,r1,q1⟩=>chain_link (thn (hb pins s1 σ H1 _ I1 q1) fun u s2 ⟨y,H2,I2,r2,q2⟩ =>
  thn (ho pins s2 σ H2 x y v u _ I2 r1 r2 q2) fun d s3 ⟨z,H3,I3,r3,k,e,q3⟩=>?_)) hm
 subst e
 cases r3
 refine wpAny_truthy_bool ?_
 cases k with
 | false=>exact ite_ff ⟨.bl false,H3,I3,rfl,q3⟩
 | true=>exact ite_tt (chain_last (thn (hc pins s3 σ H3 _ I3 q3) fun w' s4 ⟨z',H4,I4,r4,q4⟩=>ho' pins s4 σ H4 y z' u w' Q I4 r2 r4 q4))
theorem u3 {op op':CmpOp}{r r':R2}(ho:OpR X (compareOp op) r)(ho':OpR X (compareOp op') r')(ha:PE X a ta)(hb:PE X b tb)(hc:PE X c tc)
  (hm:lastMarks [op,op'] [b,c]=false:=by with_unfolding_all rfl):PT X (.Compare a [op,op'] [b,c] pos) (nb (lH r r' ta tb tc)):=by
 intro pins s σ H Q I h
 refine isTrue_chain (thn (ha pins s σ H _ I h) fun v s1 ⟨x,H1,I1,r1,q1⟩=>test_link (thn (hb pins s1 σ H1 _ I1 q1) fun u s2 ⟨y,H2,I2,r2,q2⟩ =>
  thn (ho pins s2 σ H2 x y v u _ I2 r1 r2 q2) fun d s3 ⟨z,H3,I3,r3,k,e,q3⟩=>?_)) hm
 subst e
 cases r3
 refine wpAny_truthy_bool ?_
 cases k with
 | false =>
  obtain ⟨k',e',q'⟩:=q3
  cases e'
  exact ite_ff ⟨H3,I3,q'⟩
 | true =>
  refine ite_tt (test_last (thn (hc pins s3 σ H3 _ I3 q3) fun w' s4 ⟨z',H4,I4,r4,q4⟩=>thn (ho' pins s4 σ H4 y z' u w' _ I4 r2 r4 q4) fun d' s5 ⟨z2,H5,I5,r5,k2,e2,q5⟩=>?_))
  subst e2
  cases r5
  exact wpAny_truthy_bool ⟨H5,I5,q5⟩
theorem jR:(sizeLine:Nat) < 2 ^ 63:=by rw [sizeLine_eq]; decide
theorem pJ:OpR X (binaryOp .Add) (fun x y H Q=>∃ i j,x=.str i∧y=.str j∧i.length+j.length≤sizeLine∧Q (.str (i++j)) H):=by
 intro pins s σ H x y v u Q I rx ry h
 obtain ⟨i,j,rfl,rfl,hz,q⟩:=h
 obtain ⟨t,rfl⟩:=rx
 obtain ⟨t',rfl⟩:=ry
 exact add_str (fun t' tk=>⟨.str (i++j),H,I.tok _,⟨_,rfl⟩,q⟩) hz
theorem eM {x:V}{us:List Value}(r:Vals [x] us):∃ u,us=[u]∧RelV x u:=by
 cases r with
 | cons r1 r2=>cases r2; exact ⟨_,rfl,r1⟩
theorem qW {x y:V}{us:List Value}(r:Vals [x,y] us):∃ u w',us=[u,w']∧RelV x u∧RelV y w':=by
 cases r with
 | cons r1 r2 =>
  cases r2 with
  | cons r3 r4=>cases r4; exact ⟨_,_,rfl,r1,r3⟩
theorem qX (hc:X.calm=true):CallR X (.builtin "max") (fun xs H Q=>∃ i j,xs=[.int i,.int j]∧Q (.int (if j > i then j else i)) H):=by
 intro pins s σ H xs us Q I r h
 obtain ⟨i,j,rfl,q⟩:=h
 obtain ⟨u,w',rfl,⟨t,rfl⟩,⟨t',rfl⟩⟩:=qW r
 refine max_two_ints (I.ok.hd hc) fun h' tk k=>⟨_,H,I.kept k,?_,q⟩
 by_cases hj:j > i
 ·rw [if_pos hj,if_pos hj]; exact ⟨_,rfl⟩
 ·rw [if_neg hj,if_neg hj]; exact ⟨_,rfl⟩
theorem qY (hc:X.calm=true):CallR X (.builtin "min") (fun xs H Q=>∃ i j,xs=[.int i,.int j]∧Q (.int (if j < i then j else i)) H):=by
 intro pins s σ H xs us Q I r h
 obtain ⟨i,j,rfl,q⟩:=h
 obtain ⟨u,w',rfl,⟨t,rfl⟩,⟨t',rfl⟩⟩:=qW r
 refine min_two_ints (I.ok.hd hc) fun h' tk k=>⟨_,H,I.kept k,?_,q⟩
 by_cases hj:j < i
 ·rw [if_pos hj,if_pos hj]; exact ⟨_,rfl⟩
 ·rw [if_neg hj,if_neg hj]; exact ⟨_,rfl⟩
end
end L2
namespace L2
open PySem PySem.Spec PyProof.Rows
structure ObjM (h:Heap)(x dx C:Addr)(mA:Str→Option Value):Prop where
 obj:h.get? x=some (PySem.W.instObj C dx)
 ns:h.Ns1 dx mA
 ne:dx≠x
theorem qZ {h:Heap}{dx:Addr}{mA:Str→Option Value}(n:h.Ns1 dx mA):∃ od,h.get? dx=some od∧∀ name,PySem.W.lookIn name od=some (mA name):=by
 obtain ⟨o,es,ep,ho,hd,hk,_,hm⟩:=n
 refine ⟨o,ho,fun name=>?_⟩
 have e:=hm name
 unfold nsFind findBy at e
 rw [← Array.find?_toList] at e
 unfold PySem.W.lookIn
 rw [hd]
 dsimp only
 split
 ·rename_i y q
  rw [q] at e
  exact congrArg some e
 ·rename_i q
  rw [q] at e
  have a:es.toList.any (·.refKey)=false:=by
   rw [List.any_eq_false]
   intro y hy
   obtain ⟨z,t,hkey⟩:=hk y (Array.mem_toList_iff.mp hy)
   simp [DictEntry.refKey,hkey]
  have a':¬ es.toList.any (·.refKey)=true:=by rw [a]; exact Bool.false_ne_true
  rw [if_neg a']
  exact congrArg some e
theorem ObjM.look {h:Heap}{x dx C:Addr}{mA:Str→Option Value}(I:ObjM h x dx C mA):∃ od,PySem.W.InstAt h x (PySem.W.instObj C dx) C (some od)∧∀ name,PySem.W.lookIn name od=some (mA name) :=
 let ⟨od,ho,hl⟩:=qZ I.ns
 ⟨od,⟨I.obj,rfl,rfl,ho⟩,hl⟩
section
variable {prog:Program} {w:World} {A:Around} {E:Value→Shared→Prop} {s:Shared} {K:PySem.W.Frag} {x dx C f:Addr} {mA:Str→Option Value} {name:Str} {v:Value}
end
theorem RelO.some_of {v:V}{o:Option Value}(r:RelO (some v) o):∃ u,o=some u∧RelV v u:=by
 cases o with
 | none=>exact (show False from r).elim
 | some u=>exact ⟨u,rfl,r⟩
section
variable {P:Program} {w:World} {H H':Hp} {h h':Heap} {a C dx:Addr} {fs fs':List (Str×V)}
theorem yR (hok:HOk P w H h)(e:H a=some (.ins C dx fs)):∃ mA,ObjM h a dx C mA∧(∀ f,RelO (fs.lookup f) (mA f))∧PySem.Within mA (fs.map (·.1))∧fs.length≤1000∧H dx=some (.own a):=by
 obtain ⟨d,z,ne,ob,mA,n,r,q⟩:=(show ObjOk P w H h a (.ins C dx fs) from hok a _ e)
 exact ⟨mA,⟨ob,n,ne⟩,r,q,z,d⟩
end
structure Cls (K:PySem.W.Frag)(C:Addr):Prop where
 pg:PySem.W.plainGet K C Str.empty=true
 hd:PySem.W.hasDictIn K C=true
 po:PySem.W.plainOver K C=true
 sa:PySem.W.findIn K (.ref C) "__setattr__" = some (some (.builtin "object.__setattr__"))
theorem Cls.get {K:PySem.W.Frag}{C:Addr}(c:Cls K C)(f:Str):PySem.W.plainGet K C f=true:=c.pg
section
variable {X:Cx} {pins:List (Addr×Obj)} {σ:St} {H:Hp} {s:Shared} {a C dx:Addr} {fs:List (Str×V)} {f:Str} {v:V} {A:Around} {E:Value→Shared→Prop}
end
section
variable {X:Cx} {o e value:Expr} {f:Str} {pos pos' tpos:Pos} {ta tv:TE}
end
section
variable {X:Cx} {pins:List (Addr×Obj)} {σ:St} {H:Hp} {s:Shared} {A:Around} {E:Value→Shared→Prop} {Q:Value→Shared→Prop} {c:Value} {b:Bool}
inductive TyOf (K:PySem.W.Frag)(H:Hp):V→Value→Prop where
 | non:TyOf K H .non (.type "NoneType")
 | bl (x:Bool):TyOf K H (.bl x) (.type "bool")
 | int (i:Int):TyOf K H (.int i) (.type "int")
 | str (x:Str):TyOf K H (.str x) (.type "str")
 | flt (x:UInt64):TyOf K H (.flt x) (.type "float")
 | lst {a:Addr} {xs:List V} (e:H a=some (.lst xs)):TyOf K H (.ref a) (.type "list")
 | frz {a:Addr} {o:Obj} {xs:List V} (e:H a=some (.frz o (.lst xs))):TyOf K H (.ref a) (.type "list")
 | tup {a:Addr} {xs:List V} (e:H a=some (.tup xs)):TyOf K H (.ref a) (.type "tuple")
 | dK {a:Addr} {kvs:List (Key×V)} (e:H a=some (.dK kvs)):TyOf K H (.ref a) (.type "dict")
 | dT {a:Addr} {kvs:List (List Key×V)} (e:H a=some (.dT kvs)):TyOf K H (.ref a) (.type "dict")
 | ins {a C dx:Addr} {fs:List (Str×V)} (e:H a=some (.ins C dx fs)) (cl:Cls K C) (ha:PySem.W.findIn K (.ref C) "__class__" = some (some (.builtin "object.__class__")))
   (hn:PySem.W.specialIn K (.builtin "object.__class__") "__get__" = some (some (.builtin "getset_descriptor.__get__"))) (htk:PySem.W.takesIn K (.builtin "object.__class__")=some true)
   (hm:PySem.W.mroIn K C (.type "object")=some true):TyOf K H (.ref a) (.ref C)
theorem gt {x:V}{u t:Value}(I:Inv X pins σ H s)(rx:RelV x u)(ty:TyOf X.K H x t)(e:PySem.W.kitOne X.K t c=some b)(h:∀ tk,Q (.bool b) { s with toks:=tk }) :
  wpAny (model X.prog X.w) A (call (.builtin "isinstance") [u,c]) Q E s:=by
 cases ty with
 | non=>cases (show u=Value.none from rx); exact PySem.W.kia_one PySem.W.kitx_none I.kIn True.intro e (fun z=>nomatch z) h
 | bl y=>cases (show u=Value.bool y from rx); exact PySem.W.kia_one PySem.W.kitx_bool I.kIn True.intro e (fun z=>nomatch z) h
 | int i=>obtain ⟨t,q⟩:=(show ∃ t,u=Value.int i t from rx); cases q; exact PySem.W.kia_one PySem.W.kitx_int I.kIn True.intro e (fun z=>nomatch z) h
 | str y=>obtain ⟨t,q⟩:=(show ∃ t,u=Value.str y t from rx); cases q; exact PySem.W.kia_one PySem.W.kitx_str I.kIn True.intro e (fun z=>nomatch z) h
 | flt y=>obtain ⟨t,q⟩:=(show ∃ t,u=Value.float y t from rx); cases q; exact PySem.W.kia_one PySem.W.kitx_float I.kIn True.intro e (fun z=>nomatch z) h
 | @lst a xs ea =>
  cases (show u=Value.ref a from rx)
  obtain ⟨_,_,n,_,h1⟩:=(show ObjOk X.prog X.w H s.heap a (.lst xs) from I.hok a _ ea)
  exact PySem.W.kia_one PySem.W.kitx_list I.kIn ⟨_,h1,rfl⟩ e (fun z=>nomatch z) h
 | @frz a ob xs ea =>
  cases (show u=Value.ref a from rx)
  obtain ⟨_,_,_,n,_,h1⟩:=(show ObjOk X.prog X.w H s.heap a (.frz ob (.lst xs)) from I.hok a _ ea)
  exact PySem.W.kia_one PySem.W.kitx_list I.kIn ⟨_,h1,rfl⟩ e (fun z=>nomatch z) h
 | @tup a xs ea =>
  cases (show u=Value.ref a from rx)
  obtain ⟨_,_,_,p⟩:=(show ObjOk X.prog X.w H s.heap a (.tup xs) from I.hok a _ ea)
  obtain ⟨o,h1,h2,_⟩:=p
  exact PySem.W.kia_one PySem.W.kitx_tuple I.kIn ⟨o,h1,h2⟩ e (fun z=>nomatch z) h
 | @dK a kvs ea =>
  cases (show u=Value.ref a from rx)
  obtain ⟨_,_,vs,_,p⟩:=(show ObjOk X.prog X.w H s.heap a (.dK kvs) from I.hok a _ ea)
  obtain ⟨o,es,ep,h1,h2,_⟩:=p
  exact PySem.W.kia_one PySem.W.kitx_dict I.kIn ⟨o,h1,h2.1⟩ e (fun z=>nomatch z) h
 | @dT a kvs ea =>
  cases (show u=Value.ref a from rx)
  obtain ⟨_,_,xs,_,o,es,ep,h1,h2,_⟩:=(show ObjOk X.prog X.w H s.heap a (.dT kvs) from I.hok a _ ea)
  exact PySem.W.kia_one PySem.W.kitx_dict I.kIn ⟨o,h1,h2.1⟩ e (fun z=>nomatch z) h
 | @ins a C dx fs ea cl ha hn htk hm =>
  cases (show u=Value.ref a from rx)
  obtain ⟨mA,O,_⟩:=yR I.hok ea
  obtain ⟨od,J,_⟩:=O.look
  exact PySem.W.kia_one (PySem.W.kitx_own (cl.get _) cl.hd ha hn htk hm) I.kIn J e (fun z=>nomatch z) h
end
end L2
namespace L2
open PySem PySem.Spec PyProof.Rows
structure Room (k:Nat)(A:Around):Prop where
 hd:A.handled=none
 dp:A.depth+3 * k+5 < recursionLimit
 un:A.units+16 * k+200 < cLine
 gd:A.guards=some []
theorem Room.mono {j k:Nat}{A:Around}(r:Room k A)(h:j≤k):Room j A:=⟨r.hd,by have:=r.dp; nofun,by have:=r.un; nofun,r.gd⟩
theorem Room.deeper {k:Nat}{A:Around}(r:Room (k+1) A)(env:Env):Room k (A.deeper env) :=
 ⟨r.hd,by have:=r.dp; show A.depth+1+3 * k+5 < _; nofun,by have:=r.un; show A.units+3+16 * k+200 < _; nofun,r.gd⟩
theorem Room.depth {k:Nat}{A:Around}(r:Room k A):A.depth < recursionLimit:=by have:=r.dp; nofun
theorem Room.units {k:Nat}{A:Around}(r:Room k A):A.units+64 < cLine:=by have:=r.un; nofun
def m7:TA:=fun _ H Q=>Q [] H
def fV (ta:TE)(tr:TA):TA:=fun σ H Q=>ta σ H fun x H1=>tr σ H1 fun xs H2=>Q (x::xs) H2
section
variable {X:Cx} {e:Expr} {es:List Expr} {te:TE} {t:TA} {pos:Pos}
theorem xl:PA X [] m7:=fun _ _ _ _ H Q I h=>Calls.spliced_nil ⟨[],H,I,.nil,h⟩
theorem q0 (ha:PE X e te)(hr:PA X es t)(hs:autoParam (starEach (e::es) X.env=(false,eval e X.env)::starEach es X.env) L2.aR._auto_1):PA X (e::es) (fV te t):=by
 intro pos pins s σ H Q I h
 rw [hs]
 show wpAny _ _ (spliced ((false,eval e X.env)::backTo pos (starEach es X.env))) _ _ s
 refine Calls.spliced_cons (thn (ha pins s σ H _ I h) fun u s1 ⟨x,H1,I1,r1,q1⟩=>?_)
 exact thn (hr pos pins s1 σ H1 _ I1 q1) fun us s2 ⟨xs,H2,I2,r2,q2⟩=>⟨x::xs,H2,I2,.cons r1 r2,q2⟩
def Ev (t:TA):TE:=fun σ H Q=>t σ H fun xs H1=>xs.length≤sizeLine∧∀ p,H1 p=none→Q (.ref p) (upd H1 p (.tup xs))
def Ew (t:TA):TE:=fun σ H Q=>t σ H fun xs H1=>xs.length≤sizeLine∧∀ p,H1 p=none→Q (.ref p) (upd H1 p (.lst xs))
theorem BZ {x1}(h:PA X es t):PE X (.Tuple es x1 pos) (Ev t):=by
 intro pins s σ H Q I hq
 refine wpAny_Tuple_spliced (thn (h pos pins s σ H _ I hq) fun us s1 ⟨xs,H1,I1,r,z,q⟩=>⟨by rw [← r.length]; exact z,?_⟩)
 have hf:H1 s1.heap.objs.size=none:=I1.hok.fresh (Nat.le_refl _)
 refine ⟨.ref s1.heap.objs.size,upd H1 s1.heap.objs.size (.tup xs),I1.laid (t':=s1.toks) (fun b u e=>Heap.get?_push_of_some _ e) (Nat.le_refl _) ?_,rfl,q _ hf⟩
 exact ⟨z,us,r,⟨_,Heap.get?_push_size _ rfl,rfl,_,rfl⟩⟩
theorem B5 (h:PA X es t):PE X (.List es pos) (Ew t):=by
 intro pins s σ H Q I hq
 refine wpAny_List_spliced (thn (h pos pins s σ H _ I hq) fun us s1 ⟨xs,H1,I1,r,z,q⟩=>⟨by rw [← r.length]; exact z,?_⟩)
 have hf:H1 s1.heap.objs.size=none:=I1.hok.fresh (Nat.le_refl _)
 refine ⟨.ref s1.heap.objs.size,upd H1 s1.heap.objs.size (.lst xs),I1.laid (t':=s1.toks) (fun b u e=>Heap.get?_push_of_some _ e) (Nat.le_refl _) ?_,rfl,q _ hf⟩
 exact ⟨z,us,0,r,Heap.get?_push_size _ rfl⟩
end
abbrev Sp:=List V→Hp→VK→XK→Prop
abbrev CXT:=List Env→Hp→Shared→XK→Value→Shared→Prop
structure Env0 (P:Program)(w:World)(K:PySem.W.Frag)(mg:Str→Option Value)(base:Heap)(A:Around)(outer:List Env)(s:Shared)(H:Hp):Prop where
 frames:A.frames=some outer
 mod:Mod K mg base
 bs:∀ b o,base.get? b=some o→s.heap.get? b=some o∧H b=none
 bsz:base.objs.size≤s.heap.objs.size
 funs:s.heap.FunFrames base outer
 frf:∀ b ∈ frs outer,H b=none
 hok:HOk P w H s.heap
 bare:AllBare s.gens
def CE (outer:List Env)(P:Program)(w:World)(H:Hp)(s:Shared)(Q:VK)(u:Value)(s':Shared):Prop :=
 ∃ v H',s'.os=s.os∧AllBare s'.gens∧Un (frs outer) [] H H' s.heap s'.heap∧HOk P w H' s'.heap∧RelV v u∧Q v H'
def CR (CX:CXT)(outer:List Env)(P:Program)(w:World)(H:Hp)(s:Shared)(Q:VK)(E:XK)(r:Result)(s':Shared):Prop :=
 match r with
 | .ok (.ret u)=>CE outer P w H s Q u s'
 | .ok _=>False
 | .error e=>CX outer H s E e s'
structure FnOk (P:Program)(w:World)(K:PySem.W.Frag)(mg:Str→Option Value)(base:Heap)(CX:CXT)(k:Nat)(f:Addr)(fd:FuncData)(ps:List Str)(sp:Sp):Prop where
 len:∀ vs H Q E,sp vs H Q E→vs.length=ps.length
 run:∀ (A:Around) (outer:List Env) (s:Shared) (H:Hp) (args:Args) (us:List Value) (vs:List V) (Q:VK) (E:XK),Room k A→Env0 P w K mg base A outer s H→BindsTo s fd args (ps.zip us)→Vals vs us→sp vs H Q E →
  codeAny (model P w) A (.call (.ref f) args) (CR CX outer P w H s Q E) s
theorem FnOk.imp {P:Program}{w:World}{K:PySem.W.Frag}{mg:Str→Option Value}{base:Heap}{CX:CXT}{k:Nat}{f:Addr}{fd:FuncData}{ps:List Str}{sp sp':Sp}(F:FnOk P w K mg base CX k f fd ps sp)
  (h:∀ vs H Q E,sp' vs H Q E→sp vs H Q E):FnOk P w K mg base CX k f fd ps sp' :=
 ⟨fun vs H Q E q=>F.len vs H Q E (h _ _ _ _ q),fun A outer s H args us vs Q E hr he hb hv hs=>F.run A outer s H args us vs Q E hr he hb hv (h _ _ _ _ hs)⟩
section
variable {X:Cx} {pins:List (Addr×Obj)} {σ:St} {H:Hp} {s s':Shared}
theorem Inv.env0 (I:Inv X pins σ H s):Env0 X.prog X.w X.K X.mg X.base X.A X.stack s H :=
 ⟨I.ok.frames,I.ok.mod,I.bs,Nat.le_trans I.ok.bsz I.sz,I.stack,I.stkFree,I.hok,I.bare⟩
theorem Inv.after {Q:VK}{u:Value}(I:Inv X pins σ H s)(h:CE X.stack X.prog X.w H s Q u s'):EP X pins σ Q u s':=by
 obtain ⟨v,H',os,bare,un,hok,r,q⟩:=h
 obtain ⟨hh,g,d,t,os'⟩:=s'
 obtain rfl:os'=s.os:=os
 exact ⟨v,H',I.call (h':=hh) (g':=g) (d':=d) (t':=t) (ch:=[]) un hok bare (fun b z=>absurd z (by simp)),r,q⟩
end
def ra (sp:Sp)(dvs:List V)(E:XK)(t:TA):TE:=fun σ H Q=>t σ H fun vs H1=>sp (vs++dvs) H1 Q E
def Binds (K:PySem.W.Frag)(fd:FuncData)(ps:List Str)(ds:List Value):Prop :=
 ∀ (s:Shared) (us:List Value),K.In s.heap→(us++ds).length=ps.length→BindsTo s fd ⟨us,[]⟩ (ps.zip (us++ds))
theorem Binds.all {K:PySem.W.Frag}{fd:FuncData}{ps:List Str}(h:∀ us:List Value,us.length=ps.length→bindArgs fd ⟨us,[]⟩=pure (ps.zip us)):Binds K fd ps []:=fun s us _ hl=>by
 rw [List.append_nil] at hl ⊢
 exact .of_eq (h us hl)
def rb (CX:CXT)(X:Cx)(E:XK):Prop:=∀ (pins:List (Addr×Obj)) (σ:St) (H:Hp) (s:Shared) (e:Value) (s':Shared),Inv X pins σ H s→CX X.stack H s E e s'→X.xe e s'
section
variable {X:Cx} {CX:CXT} {k:Nat} {f C:Addr} {fd:FuncData} {ps:List Str} {sp:Sp} {dvs:List V} {ds:List Value} {E:XK} {x m:Str} {p pos apos:Pos} {e o:Expr} {es:List Expr} {ta:TE} {t:TA}
theorem B6 {pins:List (Addr×Obj)}{σ:St}{H:Hp}{s:Shared}{Q:VK}{us:List Value}{vs:List V}(F:FnOk X.prog X.w X.K X.mg X.base CX k f fd ps sp)(hr:Room k X.A)(hb:Binds X.K fd ps ds)(hd:Vals dvs ds)(hx:rb CX X E)
  (I:Inv X pins σ H s) (r:Vals vs us) (h:sp (vs++dvs) H Q E):wpAny (model X.prog X.w) X.A (call (.ref f) us) (EP X pins σ Q) X.xe s:=by
 have r2:Vals (vs++dvs) (us++ds):=r.append hd
 have hl:(us++ds).length=ps.length:=by rw [← r2.length]; exact F.len _ _ _ _ h
 refine wpAny_call (codeAny_mono (F.run X.A X.stack s H ⟨us,[]⟩ (us++ds) (vs++dvs) Q E hr I.env0 (hb s us I.kIn hl) r2 h) fun r s' hq=>?_)
 cases r with
 | error e=>exact hx pins σ H s e s' I hq
 | ok fl =>
  cases fl with
  | ret u=>exact I.after hq
  | next=>exact False.elim hq
  | brk=>exact False.elim hq
  | cont=>exact False.elim hq
theorem yS (F:FnOk X.prog X.w X.K X.mg X.base CX k f fd ps sp)(hr:Room k X.A)(hg:Gl X x)(hm:X.mg x=some (.ref f))(hk:PySem.W.keepIn X.K (.ref f)=true)(hb:Binds X.K fd ps ds)(hd:Vals dvs ds)(hx:rb CX X E)
  (ha:PA X (e::es) t) (hdb:autoParam ((x == ("__debug__" : Str))=false) L2.aD._auto_1) (he:autoParam (starEach (e::es) X.env=(false,eval e X.env)::starEach es X.env) L2.aR._auto_1) (hpl:autoParam ((backTo pos (starEach es X.env)).any (·.1)=false) L2.aR._auto_1) :
  PE X (.Call (.Name x p) (e::es) [] pos) (ra sp dvs E t):=by
 intro pins s σ H Q I h
 refine wpAny_Call_Name_kw (iV I hg hm ?_ hdb)
 refine PySem.W.callWith_K (h₀:=X.base) I.ok.mod.kin hk (thn (ha pos pins s σ H _ I h) fun us s1 ⟨vs,H1,I1,r,q⟩=>⟨I1.kIn,?_⟩) he hpl
 exact B6 F hr hb hd hx I1 r q
end
section
variable {X:Cx} {CX:CXT} {k:Nat} {f C:Addr} {fd:FuncData} {ps ks:List Str} {sp:Sp} {E:XK} {x m:Str} {p pos apos kpos:Pos} {e o:Expr} {es:List Expr} {kws:List Keyword} {te ta:TE} {t tk:TA} {nm:Option Str}
variable {g:List Value→List Value→List Value} {gV:List V→List V→List V}
end
structure FnScope (N P:List Str)(sc:Scope):Prop where
 kind:sc.kind=.function
 co:sc.isCoroutine=false
 gen:sc.isGenerator=false
 nd:N.Nodup
 pre:N.take P.length=P
 par:∀ x ∈ P,sc.names.lookup x=some .local∨sc.names.lookup x=some .cell
 nofree:∀ y ∈ sc.names,y.2≠.free
theorem lI {kindOf:Str→Option NameKind}{x:Str}:∀ {binds:List (Str×Value)} {m:Str→Option Value},(∀ v,(x,v) ∉ binds)→bindL kindOf binds m x=m x
 | [],_,_=>rfl
 | (n,v)::r,m,h=>by
  unfold bindL
  rw [lI fun w hw=>h w (List.mem_cons_of_mem _ hw)]
  split
  ·have:x≠n:=by rintro rfl; exact h v List.mem_cons_self
   simp [this]
  ·rfl
theorem lJ {kindOf:Str→Option NameKind}{x:Str}:∀ {binds:List (Str×Value)} {m:Str→Option Value},(∀ v,(x,v) ∉ binds)→bindC kindOf binds m x=m x
 | [],_,_=>rfl
 | (n,v)::r,m,h=>by
  unfold bindC
  rw [lJ fun w hw=>h w (List.mem_cons_of_mem _ hw)]
  split
  ·rfl
  ·have:x≠n:=by rintro rfl; exact h v List.mem_cons_self
   simp [this]
theorem lK {kindOf:Str→Option NameKind}{x:Str}{v:Value}:∀ {P:List Str} {vs:List Value} {i:Nat} {m:Str→Option Value},P.Nodup→P[i]?=some x→vs[i]?=some v→kindOf x=some .local →
  bindL kindOf (P.zip vs) m x=some v
 | [],_,_,_,_,h,_,_=>by simp at h
 | _::_,[],_,_,_,_,h,_=>by simp at h
 | p::P,w::vs,0,m,nd,h1,h2,hk=>by
  simp at h1 h2; subst h1; subst h2
  show bindL kindOf ((p,w)::P.zip vs) m p=_
  unfold bindL
  rw [lI fun v hv=>(List.nodup_cons.mp nd).1 (List.of_mem_zip hv).1,if_pos hk]
  simp
 | p::P,w::vs,i+1,m,nd,h1,h2,hk=>by
  show bindL kindOf ((p,w)::P.zip vs) m x=_
  unfold bindL
  exact lK (i:=i) (List.nodup_cons.mp nd).2 (by first|exact List.mem_singleton.mp h1|simpa using h1) (by first|exact List.mem_singleton.mp h2|simpa using h2) hk
theorem lL {kindOf:Str→Option NameKind}{x:Str}{v:Value}:∀ {P:List Str} {vs:List Value} {i:Nat} {m:Str→Option Value},P.Nodup→P[i]?=some x→vs[i]?=some v→kindOf x≠some .local →
  bindC kindOf (P.zip vs) m x=some v
 | [],_,_,_,_,h,_,_=>by simp at h
 | _::_,[],_,_,_,_,h,_=>by simp at h
 | p::P,w::vs,0,m,nd,h1,h2,hk=>by
  simp at h1 h2; subst h1; subst h2
  show bindC kindOf ((p,w)::P.zip vs) m p=_
  unfold bindC
  rw [lJ fun v hv=>(List.nodup_cons.mp nd).1 (List.of_mem_zip hv).1,if_neg hk]
  simp
 | p::P,w::vs,i+1,m,nd,h1,h2,hk=>by
  show bindC kindOf ((p,w)::P.zip vs) m x=_
  unfold bindC
  exact lL (i:=i) (List.nodup_cons.mp nd).2 (by first|exact List.mem_singleton.mp h1|simpa using h1) (by first|exact List.mem_singleton.mp h2|simpa using h2) hk
def eh (N:List Str)(vs:List V):St:=vs.map some++List.replicate (N.length - vs.length) none
def n5 (CX:CXT)(P:Program)(w:World)(K:PySem.W.Frag)(mg:Str→Option Value)(base:Heap)(N:List Str)(qual:Str)(scope:Scope)(f:Addr)(cd:Value)(A:Around)(outer:List Env)(s:Shared)(H:Hp)(E:XK):Cx where
 prog:=P
 w:=w
 K:=K
 mg:=mg
 base:=base
 A:=A.deeper (envOfC qual scope s.heap.objs.size f cd)
 N:=N
 s₀:=s
 H₀:=H
 env:=envOfC qual scope s.heap.objs.size f cd
 outer:=outer
 stack:=envOfC qual scope s.heap.objs.size f cd::outer
 ex:=[]
 calm:=true
 fn:=fun _=>true
 pn:=[]
 xe:=fun e s'=>wpAny (model P w) (A.deeper (envOfC qual scope s.heap.objs.size f cd)) (leaving (envOfC qual scope s.heap.objs.size f cd) e) (fun _ s''=>CX outer H s E e s'') (fun e' s''=>CX outer H s E e' s'') s'
theorem n6 {sc:Scope}{n:Nat}{x:Str}(h:sc.names.lookup x=some .cell):∃ c,(cellsFrom n sc.names []).lookup x=some c:=by
 have q:=PySem.W.cellsFrom_some sc.names n [] (.inl h)
 exact Option.isSome_iff_exists.mp q
theorem rc {CX:CXT}{P:Program}{w:World}{K:PySem.W.Frag}{mg:Str→Option Value}{base:Heap}{N ps:List Str}{qual:Str}{scope:Scope}{f:Addr}{cd:Value}{A:Around}{outer:List Env}{s s1:Shared}{H:Hp}{E:XK}{us:List Value}{vs:List V}
  (S:FnScope N ps scope) (hd:A.handled=none) (e0:Env0 P w K mg base A outer s H) (hl:vs.length=ps.length) (r:Vals vs us)
  (x:InCallC s s.heap.objs.size (bindL (envOfC qual scope s.heap.objs.size f cd).kindOf (ps.zip us) fun _=>none) (cellsFrom (s.heap.objs.size+1) scope.names []) (bindC (envOfC qual scope s.heap.objs.size f cd).kindOf (ps.zip us) fun _=>none) s1) :
  Inv (n5 CX P w K mg base N qual scope f cd A outer s H E) [] (eh N vs) H s1:=by
 have hpl:ps.length≤N.length:=by have:=congrArg List.length S.pre; rw [List.length_take] at this; nofun
 obtain ⟨h1,tk,rfl,hk⟩:=x.done
 have noA:∀ b:Addr,b ∉ (n5 CX P w K mg base N qual scope f cd A outer s H E).ex:=fun b z=>absurd (show b ∈ ([]:List Addr) from z) (by simp)
 refine ⟨⟨e0.mod,S.kind,rfl,rfl,Nat.le_refl _,fun y z c h1 h2=>?_,fun y hy=>?_,fun y c _ h=>?_,fun _=>hd,Around.frames_deeper e0.frames,.inr ⟨rfl,rfl⟩,fun b z=>absurd z (noA b),e0.bs,e0.bsz,fun b _ _=>noA b,fun b z=>absurd z (noA b),e0.funs,e0.frf⟩,
  rfl,e0.bare,Un.kept hk,⟨_,x.toInCall.ns,fun i y v h1 h2 h3=>?_⟩,fun y c h=>⟨_,x.cell y c h⟩,e0.hok.fresh (Nat.le_refl _),fun y c h=>?_,fun p hp=>absurd (show p ∈ ([]:List (Addr×Obj)) from hp) (by simp),e0.hok.kept hk,?_⟩
 ·exact name_of_addr x.apart (PySem.mem_of_lookup h1) (PySem.mem_of_lookup h2)
 ·have hy:scope.names.lookup y=some .cell∨scope.names.lookup y=some .free:=hy
  rcases hy with hy | hy
  ·exact n6 hy
  ·exact absurd rfl (S.nofree _ (PySem.mem_of_lookup hy))
 ·exact Nat.le_of_lt (x.above y c (PySem.mem_of_lookup h))
 ·have hi:i < vs.length:=by
   unfold eh at h2
   by_cases hi:i < vs.length
   ·exact hi
   ·rw [List.getElem?_append_right (by first|exact List.mem_singleton.mp hi|simpa using hi)] at h2
    rw [List.getElem?_replicate] at h2
    split at h2 <;> cases h2
  have ha:vs[i]?=some v:=by
   unfold eh at h2
   rw [List.getElem?_append_left (by first|exact List.mem_singleton.mp hi|simpa using hi),List.getElem?_map] at h2
   cases e:vs[i]? with
   | none=>rw [e] at h2; cases h2
   | some a=>rw [e] at h2; cases h2; rfl
  obtain ⟨u,hu,rv⟩:=r.get ha
  have hp:ps[i]?=some y:=by
   rw [← S.pre,List.getElem?_take_of_lt (by nofun)]; exact h1
  have ndP:ps.Nodup:=by rw [← S.pre]; exact S.nd.sublist (List.take_sublist _ _)
  refine ⟨u,rv,?_⟩
  rcases S.par y (List.mem_of_getElem? hp) with k | k
  ·exact .inl ⟨k,lK ndP hp hu k⟩
  ·obtain ⟨c,e⟩:=n6 (n:=s.heap.objs.size+1) k
   refine .inr ⟨.inl k,c,e,?_⟩
   have q:=x.cell y c e
   rw [lL ndP hp hu (by show scope.names.lookup y≠_; rw [k]; decide)] at q
   exact q
 ·exact e0.hok.fresh (Nat.le_of_lt (x.above y c (PySem.mem_of_lookup h)))
 ·unfold eh
  show _=N.length
  rw [List.length_append,List.length_map,List.length_replicate]
  nofun
theorem B7 {CX:CXT}{P:Program}{w:World}{K:PySem.W.Frag}{mg:Str→Option Value}{base:Heap}{k:Nat}{f:Addr}{name qual:Str}{params:Arguments}{body:List Stmt}{scope:Scope}{dV kV doc pm cdv ct oc:Value}{an od:Option Addr}
  {osl:Array (Option Value)} {N ps:List Str} {sp:Sp} (lk:K.lookup f=some ⟨oc,od,.func (PySem.W.fnOf name qual params body scope dV kV doc pm an cdv ct),osl⟩) (hcd:PySem.W.codeIn K cdv qual=true) (S:FnScope N ps scope)
  (len:∀ vs H Q E,sp vs H Q E→vs.length=ps.length)
  (hbody:∀ (A:Around) (outer:List Env) (s:Shared) (H:Hp) (vs:List V) (Q:VK) (E:XK),Room k (A.deeper (envOfC qual scope s.heap.objs.size f cdv))→sp vs H Q E →
   ∃ t,PSs (n5 CX P w K mg base N qual scope f cdv A outer s H E) body t∧t { nx:=fun _ H'=>Q .non H',rt:=Q } (eh N vs) H) :
  FnOk P w K mg base CX (k+1) f (PySem.W.fnOf name qual params body scope dV kV doc pm an cdv ct) ps sp:=by
 refine ⟨len,fun A outer s H args us vs Q E hr e0 hb r hsp=>?_⟩
 have hl:=len _ _ _ _ hsp
 have KX:K.In s.heap:=e0.mod.kin.keeps fun b o e=>(e0.bs b o e).1
 have lim:s.heap.NoLimit:=e0.mod.nolimit.keeps fun b o e=>(e0.bs b o e).1
 have hkind:∀ y ∈ ps.zip us,scope.names.lookup y.1=some .local∨(scope.names.lookup y.1=some .cell∧((cellsFrom (s.heap.objs.size+1) scope.names []).lookup y.1).isSome=true):=fun ⟨n,v⟩ hy=>by
  rcases S.par n (List.of_mem_zip hy).1 with q | q
  ·exact .inl q
  ·exact .inr ⟨q,PySem.W.cellsFrom_some _ _ _ (.inl q)⟩
 refine codeAny_call_function hr.depth (KX _ _ lk) rfl S.co S.gen rfl (PySem.W.codeRec_of KX hcd) (hb _ _ _ _ ?_)
 refine wpAny_newFunctionEnv_cells S.kind hkind fun env he s1 x=>?_
 subst he
 refine ⟨lim.keeps x.toInCall.keep,codeAny_func ?_⟩
 obtain ⟨t,ht,hq⟩:=hbody A outer s H vs Q E (hr.deeper _) hsp
 have I:Inv (n5 CX P w K mg base N qual scope f cdv A outer s H E) [] (eh N vs) H s1:=rc S hr.hd e0 hl r x
 refine wpAny_mono (ht [] s1 (eh N vs) H _ I hq) (fun fl s' hs=>?_) fun e s' hs=>hs
 have fin:∀ {σ':St} {H':Hp} {v:V} {u:Value},Inv (n5 CX P w K mg base N qual scope f cdv A outer s H E) [] σ' H' s'→RelV v u→Q v H'→CE outer P w H s Q u s' :=
  fun {σ' H' v u} J rv q=>⟨v,H',J.os,J.bare,J.base,J.hok,rv,q⟩
 cases fl with
 | ret u =>
  obtain ⟨v,σ',H',J,rv,q⟩:=hs
  exact fin J rv q
 | next =>
  obtain ⟨σ',H',J,q⟩:=hs
  exact fin (v:=V.non) (u:=Value.none) J rfl q
 | brk =>
  obtain ⟨_,_,_,q⟩:=hs
  exact False.elim q
 | cont =>
  obtain ⟨_,_,_,q⟩:=hs
  exact False.elim q
end L2
namespace L2
open PySem PySem.Spec PyProof.Rows
section
variable {X:Cx} {x:Str} {p pos:Pos} {e:Expr} {es:List Expr} {t:TA} {id T:String} {r:List V→Hp→VK→Prop}
def tCB (r:List V→Hp→VK→Prop)(t:TA):TE:=fun σ H Q=>t σ H fun vs H1=>r vs H1 Q
theorem u4 (hc:CallR X (.builtin id) r) (hg:Gl X x) (hm:X.mg x=none) (hv:bootBuiltins x=some (.builtin id)) (ha:PA X (e::es) t) (hn:autoParam (x ≠ "__name__") L2.aD._auto_1) (hdb:autoParam ((x == ("__debug__" : Str))=false) L2.aD._auto_1)
  (he:autoParam (starEach (e::es) X.env=(false,eval e X.env)::starEach es X.env) L2.aR._auto_1) (hpl:autoParam ((backTo pos (starEach es X.env)).any (·.1)=false) L2.aR._auto_1):PE X (.Call (.Name x p) (e::es) [] pos) (tCB r t):=by
 intro pins s σ H Q I h
 refine wpAny_Call_Name_kw (lG I hg hm hv ?_ hn hdb)
 exact PyProof.Rows.callWith_builtin1 (thn (ha pos pins s σ H _ I h) fun us s1 ⟨vs,H1,I1,r1,q1⟩=>hc pins s1 σ H1 vs us Q I1 r1 q1) he hpl
theorem re (hc:CallR X (.type T) r) (hg:Gl X x) (hm:X.mg x=none) (hv:bootBuiltins x=some (.type T)) (ha:PA X (e::es) t) (hn:autoParam (x ≠ "__name__") L2.aD._auto_1) (hdb:autoParam ((x == ("__debug__" : Str))=false) L2.aD._auto_1)
  (he:autoParam (starEach (e::es) X.env=(false,eval e X.env)::starEach es X.env) L2.aR._auto_1) (hpl:autoParam ((backTo pos (starEach es X.env)).any (·.1)=false) L2.aR._auto_1):PE X (.Call (.Name x p) (e::es) [] pos) (tCB r t):=by
 intro pins s σ H Q I h
 refine wpAny_Call_Name_kw (lG I hg hm hv ?_ hn hdb)
 exact PyProof.Rows.callWith_type1 (thn (ha pos pins s σ H _ I h) fun us s1 ⟨vs,H1,I1,r1,q1⟩=>hc pins s1 σ H1 vs us Q I1 r1 q1) he hpl
end
end L2
namespace HT
open PySem PyProof.Rows
section
open PySem.SeqAt
open PySem.AutoSeq1 (wpAny_loadPart')
open PySem.MeetsSeq PySem.MeetsSeq2 PySem.MeetsSeq3
end
section
variable {prog:Program} {w:World} {A:Around} {E:Value→Shared→Prop} {s:Shared}
theorem cat_tup {t b:Addr}{vs ws:List Value}{Q:Value→Shared→Prop}(ht:IsTup s.heap t vs.toArray)(hb:IsTup s.heap b ws.toArray)(hv:vs≠[])
  (h1:ws=[]→Q (.ref t) s) (h2:ws≠[]→Q (.ref s.heap.objs.size) { s with heap:=s.heap.push { cls:=.type "tuple", data:=.seq (vs++ws).toArray } })
  (hsz:vs.length+ws.length≤sizeLine):wpAny (model prog w) A (binaryOp .Add (.ref t) (.ref b)) Q E s:=by
 obtain ⟨⟨cls,dd,data,sl⟩,ho,hc,n,hd⟩:=id ht
 obtain ⟨⟨cls2,dd2,data2,sl2⟩,ho2,hc2,n2,hd2⟩:=id hb
 simp only at hc hd hc2 hd2
 subst hc hd hc2 hd2
 have e:vs.toArray++ws.toArray=(vs++ws).toArray:=by simp
 by_cases hw:ws=[]
 ·exact concat_meets ⟨_,ho,rfl⟩ ⟨_,ho2,rfl⟩ noFill_tuple_add seq_tuple_add PySem.F.slot_tuple_add PySem.F.entry_tuple_add (PySem.F.args_tuple_add_2 _ _)
   (tuple_addW1 t b vs.toArray ws.toArray n n2 dd dd2 sl sl2 (by first|exact List.mem_singleton.mp hv|simpa using hv) (by simp [hw])) ⟨ho,ho2,h1 hw⟩
 ·refine concat_meets ⟨_,ho,rfl⟩ ⟨_,ho2,rfl⟩ noFill_tuple_add seq_tuple_add PySem.F.slot_tuple_add PySem.F.entry_tuple_add (PySem.F.args_tuple_add_2 _ _)
   (tuple_addW2 t b vs.toArray ws.toArray n n2 dd dd2 sl sl2 (by first|exact List.mem_singleton.mp hv|simpa using hv) (by first|exact List.mem_singleton.mp hw|simpa using hw) (by rw [List.size_toArray,List.size_toArray]; exact hsz)) ⟨ho,ho2,?_⟩
  rw [e]
  exact h2 hw
def sIx (n d:Nat):Option Int→Nat
 | none=>d
 | some v=>if v < 0 then (v+(n:Int)).toNat else min v.toNat n
theorem sIx_none (n d:Nat):sIx n d none=d:=rfl
theorem sIx_nat (n d k:Nat):sIx n d (some (k:Int))=min k n:=by
 show (if (k:Int) < 0 then ((k:Int)+(n:Int)).toNat else min (k:Int).toNat n)=min k n
 rw [if_neg (by nofun),Int.toNat_natCast]
theorem sIx_le (n d:Nat)(hd:d≤n)(o:Option Int):sIx n d o≤n:=by
 cases o with
 | none=>exact hd
 | some v =>
  show (if v < 0 then (v+(n:Int)).toNat else min v.toNat n)≤n
  by_cases hv:v < 0
  ·rw [if_pos hv]; nofun
  ·rw [if_neg hv]; exact Nat.min_le_right _ _
theorem clip_eq (v:Int)(n d:Nat):(if v < 0 then max (v+(n:Int)) 0 else min v (n:Int))=((sIx n d (some v):Nat):Int):=by
 show (if v < 0 then max (v+(n:Int)) 0 else min v (n:Int))=(((if v < 0 then (v+(n:Int)).toNat else min v.toNat n):Nat):Int)
 by_cases hv:v < 0
 ·simp only [if_pos hv]; nofun
 ·simp only [if_neg hv]; nofun
theorem pK (lo hi:Option Int)(n:Nat):Builtin.Slice.sliceAdjust lo hi 1 (n:Int)=(((sIx n 0 lo:Nat):Int),((sIx n n hi:Nat):Int)):=by
 have h1:¬ ((1:Int) < 0):=by nofun
 unfold Builtin.Slice.sliceAdjust
 simp only [h1,if_false]
 refine Prod.ext ?_ ?_
 ·cases lo with
  | none=>rfl
  | some v=>exact clip_eq v n 0
 ·cases hi with
  | none=>rfl
  | some v=>exact clip_eq v n n
theorem pL (i j:Nat):Builtin.Slice.slicePlaces (i:Int) (j:Int) 1=j - i:=by
 unfold Builtin.Slice.slicePlaces
 have h1:(1:Int) > 0:=by nofun
 simp only [h1,if_true,Int.ediv_one]
 split <;> nofun
theorem jS {v:Value}{o:Option Int}{Q:Option Int→Shared→Prop}(p:IsPart v o)(h:Q o s):wpAny (model prog w) A (Builtin.Slice.slicePartIndex v) Q E s:=by
 cases p with
 | none=>exact slicePart_none h
 | int i t=>exact slicePart_int h
theorem eK {sl:Addr}{vl vu:Value}{lo hi:Option Int}{n:Nat}{Q:Int×Int×Nat→Shared→Prop}(hs:s.heap.IsSliceOf sl vl vu .none)(pl:IsPart vl lo)(pu:IsPart vu hi)
  (h:Q (((sIx n 0 lo:Nat):Int),1,sIx n n hi - sIx n 0 lo) s):wpAny (model prog w) A (Builtin.Slice.sliceApplied (.ref sl) (pure (n:Int))) Q E s:=by
 obtain ⟨os,hos,hcs,hds⟩:=id hs
 unfold Builtin.Slice.sliceApplied Builtin.Slice.sliceFields
 refine wpAny_bind (wpAny_bind (wpAny_field hos hds (x:=vl) rfl (wpAny_bind (wpAny_field hos hds (x:=vu) rfl (wpAny_bind (wpAny_field hos hds (x:=.none) rfl (wpAny_pure ?_)))))))
 refine wpAny_bind (slicePart_none ?_)
 show wpAny _ _ (if ((1:Int) == 0)=true then _ else _) _ _ s
 rw [if_neg (by decide)]
 refine wpAny_bind (jS pl (wpAny_bind (jS pu (wpAny_bind (wpAny_pure ?_)))))
 show wpAny _ _ (match Builtin.Slice.sliceAdjust lo hi 1 (n:Int) with | (lo,hi)=>pure (lo,(1:Int),Builtin.Slice.slicePlaces lo hi 1)) _ _ s
 rw [pK lo hi n]
 show wpAny _ _ (pure (((sIx n 0 lo:Nat):Int),(1:Int),Builtin.Slice.slicePlaces ((sIx n 0 lo:Nat):Int) ((sIx n n hi:Nat):Int) 1)) _ _ s
 rw [pL]
 exact wpAny_pure h
theorem u5 (xs:Array Value)(i k:Nat):((List.range k).filterMap fun (m:Nat)=>xs[((i:Int)+(m:Int) * 1).toNat]?).toArray=((xs.toList.drop i).take k).toArray:=by
 have e:(fun (m:Nat)=>xs[((i:Int)+(m:Int) * 1).toNat]?)=fun m=>xs[i+m]?:=by
  funext m
  have:((i:Int)+(m:Int) * 1).toNat=i+m:=by nofun
  rw [this]
 rw [e]
 have:=pick_run xs i k
 rw [List.filterMap_map] at this
 have e2:((fun x=>xs[x]?) ∘ fun x=>i+x)=fun m=>xs[i+m]?:=rfl
 rw [e2] at this
 rw [this]
theorem getItem_tuple_cut {t sl:Addr}{items:Array Value}{vl vu:Value}{lo hi:Option Int}{Q:Value→Shared→Prop}(ht:IsTup s.heap t items)(hs:s.heap.IsSliceOf sl vl vu .none)(pl:IsPart vl lo)(pu:IsPart vu hi)
  (hw:¬ (sIx items.size 0 lo=0∧sIx items.size items.size hi=items.size))
  (h:Q (.ref s.heap.objs.size) { s with heap:=s.heap.push { cls:=.type "tuple", data:=.seq ((items.toList.drop (sIx items.size 0 lo)).take (sIx items.size items.size hi - sIx items.size 0 lo)).toArray } })
  (hsz:items.size≤sizeLine):wpAny (model prog w) A (getItem (.ref t) (.ref sl)) Q E s:=by
 have htake:sizeOk (.seq ((items.toList.drop (sIx items.size 0 lo)).take (sIx items.size items.size hi - sIx items.size 0 lo)).toArray):=by
  show ((items.toList.drop (sIx items.size 0 lo)).take (sIx items.size items.size hi - sIx items.size 0 lo)).toArray.size≤sizeLine
  rw [List.size_toArray,List.length_take,List.length_drop,Array.length_toList]
  omega
 have hj:sIx items.size items.size hi≤items.size:=sIx_le _ _ (Nat.le_refl _) hi
 obtain ⟨os,hos,hcs,hds⟩:=id hs
 have hTs:s.TypeIs (.ref sl) "slice" := ⟨os,hos,hcs⟩
 unfold getItem
 try with_reducible refine wpAny_holding ?_
 first | refine wpAny_bind (wpAny_pure ?_) | skip
 refine wpAny_bind (wpAny_sequenceKey ht.typeIs (by decide) ?_)
 refine wpAny_bind (wpAny_callSpecial?_slot (name:=Str.ofString "__getitem__") ht.typeIs PyProof.Rows.slot_tuple_getitem
  (wpAny_call_entry PyProof.Rows.slot_tuple_getitem ht.typeIs entry_tuple_getitem ?_ (args_tuple_getitem _ _)))
 show wpAny _ _ (Builtin.Tuple.tupleItemsOf (.ref t) >>= _) _ _ s
 refine wpAny_bind (tupleItemsOf_ ht ?_)
 refine wpAny_bind (wpAny_typeOf hTs ?_)
 rw [if_pos (by decide)]
 refine wpAny_bind (eK hs pl pu ?_)
 have hno:¬ ((((sIx items.size 0 lo:Nat):Int) == 0 && (1:Int) == 1 && (sIx items.size items.size hi - sIx items.size 0 lo) == items.size)=true):=by
  intro q
  rw [Bool.and_eq_true,Bool.and_eq_true] at q
  have q1:((sIx items.size 0 lo:Nat):Int)=0:=eq_of_beq q.1.1
  have q2:sIx items.size items.size hi - sIx items.size 0 lo=items.size:=eq_of_beq q.2
  exact hw ⟨by omega,by omega⟩
 show wpAny _ _ (if (((sIx items.size 0 lo:Nat):Int) == 0 && (1:Int) == 1 && (sIx items.size items.size hi - sIx items.size 0 lo) == items.size)=true then _ else _) _ _ s
 rw [if_neg hno,u5]
 first
  | exact wpAny_bind (m:=Builtin.Tuple.tupleExact _) (wpAny_newObj_type (wpAny_pure ⟨_,rfl,wpAny_pure h⟩) htake)
  | exact wpAny_bind (m:=Builtin.Tuple.tupleExact _) (wpAny_newObj_type (wpAny_bind (wpAny_pure (wpAny_pure ⟨_,rfl,wpAny_pure h⟩))) htake)
  | exact wpAny_bind (wpAny_bind (m:=Builtin.Tuple.tupleExact _) (wpAny_newObj_type (wpAny_pure (wpAny_pure ⟨_,rfl,wpAny_pure h⟩)) htake))
  | exact wpAny_bind (wpAny_bind (m:=Builtin.Tuple.tupleExact _) (wpAny_newObj_type (wpAny_pure ⟨_,rfl,wpAny_pure h⟩) htake))
end
end HT
namespace L2
open PySem PySem.Spec PyProof.Rows
abbrev TO:=St→Hp→(Option Int→Hp→Prop)→Prop
def PO (X:Cx)(e:Option Expr)(t:TO):Prop :=
 ∀ (pins:List (Addr×Obj)) (s:Shared) (σ:St) (H:Hp) (Q:Option Int→Hp→Prop),Inv X pins σ H s→t σ H Q →
  wpAny (model X.prog X.w) X.A (evalPart e X.env) (fun u s'=>∃ o H',Inv X pins σ H' s'∧IsPart u o∧Q o H') X.xe s
def nc:TO:=fun _ H Q=>Q none H
def yT (t:TE):TO:=fun σ H Q=>t σ H fun x H1=>∃ i,x=.int i∧Q (some i) H1
section
variable {X:Cx} {e:Expr} {te:TE} {lo hi:Option Expr} {tl th:TO} {pos p2:Pos}
theorem yU:PO X none nc:=by
 intro pins s σ H Q I h
 rw [evalPart_none]
 exact wpAny_pure ⟨none,H,I,.none,h⟩
theorem yV (h:PE X e te):PO X (some e) (yT te):=by
 intro pins s σ H Q I hw
 rw [evalPart_some]
 refine thn (h pins s σ H _ I hw) fun u s1 ⟨x,H1,I1,r1,q1⟩=>?_
 obtain ⟨i,rfl,q⟩:=q1
 obtain ⟨t,rfl⟩:=r1
 exact ⟨some i,H1,I1,.int i t,q⟩
def SlR (X:Cx)(r:V→Option Int→Option Int→Hp→VK→Prop):Prop :=
 ∀ (pins:List (Addr×Obj)) (s:Shared) (σ:St) (H:Hp) (x:V) (v vl vu:Value) (lo hi:Option Int) (sl:Addr) (Q:VK),Inv X pins σ H s→RelV x v→s.heap.IsSliceOf sl vl vu .none→IsPart vl lo→IsPart vu hi→r x lo hi H Q →
  ∃ T id,typeLookup (.type T) "__getitem__" = pure (some (.builtin id))∧s.TypeIs v T∧wpAny (model X.prog X.w) X.A (getItem v (.ref sl)) (EP X pins σ Q) X.xe s
theorem SlR.or {r r':V→Option Int→Option Int→Hp→VK→Prop}(h:SlR X r)(h':SlR X r'):SlR X (fun x lo hi H Q=>r x lo hi H Q∨r' x lo hi H Q):=by
 intro pins s σ H x v vl vu lo hi sl Q I rx hs pl pu q
 rcases q with q | q
 ·exact h pins s σ H x v vl vu lo hi sl Q I rx hs pl pu q
 ·exact h' pins s σ H x v vl vu lo hi sl Q I rx hs pl pu q
def tSl (r:V→Option Int→Option Int→Hp→VK→Prop)(te:TE)(tl th:TO):TE:=fun σ H Q=>te σ H fun x H1=>tl σ H1 fun l H2=>th σ H2 fun u H3=>r x l u H3 Q
theorem n8 {r:V→Option Int→Option Int→Hp→VK→Prop}(hr:SlR X r)(he:PE X e te)(hl:PO X lo tl)(hu:PO X hi th):PE X (.Subscript e (.Slice lo hi none p2) pos) (tSl r te tl th):=by
 intro pins s σ H Q I h
 refine Subscript_ (thn (he pins s σ H _ I h) fun v s1 ⟨x,H1,I1,r1,q1⟩=>?_)
 refine wpAny_Slice (thn (hl pins s1 σ H1 _ I1 q1) fun vl s2 ⟨l,H2,I2,pl,q2⟩=>thn (hu pins s2 σ H2 _ I2 q2) fun vu s3 ⟨u,H3,I3,pu,q3⟩=>?_)
 rw [evalPart_none]
 refine wpAny_pure ?_
 have I4:Inv X pins σ H3 { s3 with heap:=s3.heap.push { cls:=.type "slice", data:=.fields #[vl,vu,.none] } }:=I3.kept (t':=s3.toks) fun b ob q=>Heap.get?_push_of_some _ q
 obtain ⟨T,id,hT,ht,hg⟩:=hr pins { s3 with heap:=s3.heap.push { cls:=.type "slice", data:=.fields #[vl,vu,.none] } } σ H3 x v vl vu l u s3.heap.objs.size Q I4 r1 (Heap.IsSliceOf.new ..) pl pu q3
 show wpAny (model X.prog X.w) X.A (subscriptTail e (.Slice lo hi none p2) v (.ref s3.heap.objs.size)) (EP X pins σ Q) X.xe { s3 with heap:=s3.heap.push { cls:=.type "slice", data:=.fields #[vl,vu,.none] } }
 exact tail_any (ops:=[.ref s3.heap.objs.size,v]) ht hT hg (by with_unfolding_all rfl)
def Bl (xs:List V)(lo hi:Option Int):List V:=(xs.drop (HT.sIx xs.length 0 lo)).take (HT.sIx xs.length xs.length hi - HT.sIx xs.length 0 lo)
theorem iW (xs:List V)(lo hi:Option Int):(Bl xs lo hi).length≤xs.length:=by
 unfold Bl
 rw [List.length_take,List.length_drop]
 nofun
def Fc (K:PySem.W.Frag):V→Option Int→Option Int→Hp→VK→Prop:=fun x lo hi H Q=>∃ a xs,x=.ref a∧SqT K H a xs ∧
 ¬ (HT.sIx xs.length 0 lo=0∧HT.sIx xs.length xs.length hi=xs.length)∧∀ p,H p=none→Q (.ref p) (upd H p (.tup (Bl xs lo hi)))
theorem B8:SlR X (Fc X.K):=by
 intro pins s σ H x v vl vu lo hi sl Q I rx hs pl pu h
 obtain ⟨a,xs,rfl,hx,hw,q⟩:=h
 cases rx
 obtain ⟨its,r,ht,hz⟩:=I.tuple hx
 have hlen:its.toArray.size=xs.length:=by rw [List.size_toArray]; exact r.length.symm
 refine ⟨"tuple", _,PyProof.Rows.slot_tuple_getitem.lookup,ht.typeIs,?_⟩
 refine HT.getItem_tuple_cut ht hs pl pu (by rw [hlen]; exact hw) ?_ (by rw [hlen]; exact hz)
 rw [hlen]
 refine ⟨.ref s.heap.objs.size,_,I.laid (t':=s.toks) (o:=.tup (Bl xs lo hi)) (fun b ob q=>Heap.get?_push_of_some _ q) (Nat.le_refl _) ?_,rfl,q _ (I.hok.fresh (Nat.le_refl _))⟩
 exact ⟨Nat.le_trans (iW xs lo hi) hz,_,(r.drop (HT.sIx xs.length 0 lo)).take (HT.sIx xs.length xs.length hi - HT.sIx xs.length 0 lo),IsTup.new _ _⟩
def B9 (K:PySem.W.Frag):R2:=fun x y H Q=>∃ a b xs ys,x=.ref a∧y=.ref b∧SqT K H a xs∧SqT K H b ys∧xs≠[]∧xs.length+ys.length≤sizeLine ∧
 (ys=[]→Q (.ref a) H)∧(ys≠[]→∀ p,H p=none→Q (.ref p) (upd H p (.tup (xs++ys))))
theorem Vals.nil_iff {xs:List V}{us:List Value}(r:Vals xs us):us=[]↔xs=[]:=by
 cases r with
 | nil=>simp
 | cons _ _=>simp
theorem yY:OpR X (binaryOp .Add) (B9 X.K):=by
 intro pins s σ H x y v u Q I rx ry h
 obtain ⟨a,b,xs,ys,rfl,rfl,ha,hb,hx,hz,q1,q2⟩:=h
 cases rx
 cases ry
 obtain ⟨its,r1,p1,_⟩:=I.tuple ha
 obtain ⟨its2,r2,p2,_⟩:=I.tuple hb
 refine HT.cat_tup p1 p2 (fun z=>hx (r1.nil_iff.mp z)) (fun z=>⟨.ref a,H,I,rfl,q1 (r2.nil_iff.mp z)⟩) (fun z=>?_) (by rw [← r1.length,← r2.length]; exact hz)
 refine ⟨.ref s.heap.objs.size,_,I.laid (t':=s.toks) (o:=.tup (xs++ys)) (fun b ob q=>Heap.get?_push_of_some _ q) (Nat.le_refl _) ?_,rfl,q2 (fun w=>z (r2.nil_iff.mpr w)) _ (I.hok.fresh (Nat.le_refl _))⟩
 exact ⟨by rw [List.length_append]; exact hz,_,r1.append r2,IsTup.new _ _⟩
end
end L2
namespace L2
open PySem PySem.Spec PyProof.Rows
def ixN (n:Nat)(i:Int):Option Nat:=if 0≤i then (if i < n then some i.toNat else none) else if -(n:Int)≤i then some (i+n).toNat else none
def atI {α:Type}(xs:List α)(i:Int):Option α:=(ixN xs.length i).bind fun j=>xs[j]?
theorem rf {n:Nat}{i:Int}{j:Nat}(h:ixN n i=some j):seqIndex? i n=some j∧j < n∧-(n:Int)≤i∧i < n:=by
 unfold ixN at h
 by_cases h0:0≤i
 ·rw [if_pos h0] at h
  by_cases h1:i < n
  ·rw [if_pos h1] at h
   have e:i.toNat=j:=Option.some.inj h
   exact ⟨by rw [seqIndex_of h0 h1,e],by nofun,by nofun,h1⟩
  ·rw [if_neg h1] at h; cases h
 ·rw [if_neg h0] at h
  by_cases h1:-(n:Int)≤i
  ·rw [if_pos h1] at h
   have e:(i+n).toNat=j:=Option.some.inj h
   exact ⟨by rw [seqIndex_neg (by nofun) h1,e],by nofun,h1,by nofun⟩
  ·rw [if_neg h1] at h; cases h
theorem ng {α:Type}{xs:List α}{i:Int}{v:α}(h:atI xs i=some v):∃ j,seqIndex? i xs.length=some j∧xs[j]?=some v∧j < xs.length∧-(xs.length:Int)≤i∧i < xs.length:=by
 unfold atI at h
 cases e:ixN xs.length i with
 | none=>rw [e] at h; cases h
 | some j =>
  rw [e] at h
  obtain ⟨h1,h2,h3,h4⟩:=rf e
  exact ⟨j,h1,h,h2,h3,h4⟩
theorem gQ {α:Type}{xs:List α}{j:Nat}{v:α}(h:xs[j]?=some v):atI xs (j:Int)=some v:=by
 have hj:j < xs.length:=(List.getElem?_eq_some_iff.mp h).1
 have e:ixN xs.length (j:Int)=some j:=by
  unfold ixN
  rw [if_pos (by nofun),if_pos (by nofun)]; simp
 unfold atI; rw [e]; exact h
def yZ (b:Expr):Prop:=∀ o i,subscripted b false o i=operate [o,i] (getItem o i)
def IxR (X:Cx)(r:R2):Prop :=
 ∀ (value slice:Expr) (pins:List (Addr×Obj)) (s:Shared) (σ:St) (H:Hp) (x y:V) (v u:Value) (Q:VK),Inv X pins σ H s→RelV x v→RelV y u→r x y H Q →
  subscripted slice false v u=operate [v,u] (getItem v u)→wpAny (model X.prog X.w) X.A (subscriptTail value slice v u) (EP X pins σ Q) X.xe s
def MtR (X:Cx)(id:String)(r:V→List V→Hp→VK→Prop):Prop :=
 ∀ (pins:List (Addr×Obj)) (s:Shared) (σ:St) (H:Hp) (x:V) (xs:List V) (v:Value) (us:List Value) (Q:VK),Inv X pins σ H s→RelV x v→Vals xs us→r x xs H Q →
  wpAny (model X.prog X.w) X.A (call (.builtin id) (v::us)) (EP X pins σ Q) X.xe s
section
variable {X:Cx} {a b:Expr} {ta tb:TE} {pos:Pos}
theorem IxR.or {r r':R2}(h:IxR X r)(h':IxR X r'):IxR X (fun x y H Q=>r x y H Q∨r' x y H Q):=by
 intro value slice pins s σ H x y v u Q I rx ry q hs
 rcases q with q | q
 ·exact h value slice pins s σ H x y v u Q I rx ry q hs
 ·exact h' value slice pins s σ H x y v u Q I rx ry q hs
theorem Ex {r:R2}(hr:IxR X r)(ha:PE X a ta)(hb:PE X b tb)(hs:yZ b):PE X (.Subscript a b pos) (tOp r ta tb):=by
 intro pins s σ H Q I h
 exact Subscript_ (El ha hb I h fun v u s2 x y H2 I2 rx ry q=>hr a b pins s2 σ H2 x y v u Q I2 rx ry q (hs _ _))
def Fd (K:PySem.W.Frag):R2:=fun x y H Q=>∃ p xs i v,x=.ref p∧y=.int i∧SqL K H p xs∧atI xs i=some v∧Q v H
def Fe (K:PySem.W.Frag):R2:=fun x y H Q=>∃ p xs i v,x=.ref p∧y=.int i∧SqT K H p xs∧atI xs i=some v∧Q v H
def Ff:R2:=fun x y H Q=>∃ z i c,x=.str z∧y=.int i∧z.length≤sizeLine∧atI z.cps.toList i=some c∧Q (.str ⟨#[c]⟩) H
theorem y1:IxR X (Fd X.K):=by
 intro value slice pins s σ H x y v u Q I rx ry h hs
 obtain ⟨p,xs,i,z,rfl,rfl,hq,he,q⟩:=h
 cases rx
 obtain ⟨t,rfl⟩:=ry
 obtain ⟨its,r,pl,hz⟩:=I.list hq
 obtain ⟨j,h1,h2,h3,h4,h5⟩:=ng he
 obtain ⟨w,ew,rw'⟩:=r.get h2
 have hl:=r.length
 have hn:=jR
 have fin:EP X pins σ Q w s:=⟨z,H,I,rw',q⟩
 by_cases h0:0≤i
 ·have hj:i.toNat=j:=by
   rw [seqIndex_of h0 h5] at h1
   exact Option.some.inj h1
  exact item_listR pl.isList h0 (by nofun) (by rw [hj]; simpa using ew) fin hs
 ·have hj:(i+(its.toArray.size:Int)).toNat=j:=by
   rw [seqIndex_neg (by nofun) h4] at h1
   rw [List.size_toArray,← hl]
   exact Option.some.inj h1
  exact subscriptTail_builtinR (x:=w) pl.isList.typeIs slot_list_getitem.lookup
   (wpAny_getItem_list_neg (Q:=fun r s'=>r=w∧EP X pins σ Q r s') pl.isList (by nofun) (by rw [List.size_toArray] <;> nofun) (by nofun) (by rw [hj]; simpa using ew) ⟨rfl,fin⟩) hs
theorem Ca:IxR X (Fe X.K):=by
 intro value slice pins s σ H x y v u Q I rx ry h hs
 obtain ⟨p,xs,i,z,rfl,rfl,hq,he,q⟩:=h
 cases rx
 obtain ⟨t,rfl⟩:=ry
 obtain ⟨its,r,pl,hz⟩:=I.tuple hq
 obtain ⟨j,h1,h2,h3,h4,h5⟩:=ng he
 obtain ⟨w,ew,rw'⟩:=r.get h2
 have hl:=r.length
 have hn:=jR
 have fin:EP X pins σ Q w s:=⟨z,H,I,rw',q⟩
 exact subscriptTail_builtinR (x:=w) pl.typeIs slot_tuple_getitem.lookup
  (getItem_tuple (j:=j) (Q:=fun r s'=>r=w∧EP X pins σ Q r s') pl (by nofun) (by nofun) (by rw [List.size_toArray,← hl]; exact h1) (by first|exact List.mem_singleton.mp ew|simpa using ew) ⟨rfl,fin⟩) hs
theorem Cb:IxR X Ff:=by
 intro value slice pins s σ H x y v u Q I rx ry h hs
 obtain ⟨z,i,c,rfl,rfl,hz,he,q⟩:=h
 obtain ⟨t,rfl⟩:=rx
 obtain ⟨t',rfl⟩:=ry
 obtain ⟨j,h1,h2,h3,h4,h5⟩:=ng he
 have hl:z.cps.toList.length=z.length:=by simp [Str.length]
 rw [hl] at h1 h4 h5
 have hn:=jR
 exact tail_any (typeIs_str s z t) slot_str_getitem.lookup (getItem_str (c:=c) (by
  have e1:decide (i < -(2 ^ 63:Int))=false:=decide_eq_false (by nofun)
  have e2:decide (i ≥ 2 ^ 63)=false:=decide_eq_false (by nofun)
  rw [e1,e2,Bool.or_false]) (by rw [h1]; simpa using h2) ⟨.str ⟨#[c]⟩,H,I.tok _,⟨_,rfl⟩,q⟩) hs
def rIx (K:PySem.W.Frag):R2:=fun x y H Q=>Fd K x y H Q∨Fe K x y H Q∨Ff x y H Q
theorem Cd:IxR X (rIx X.K):=y1.or (Ca.or Cb)
theorem pM (its:List Value)(n j:Nat)(u:Value):Obj.mapSeq (·.setIfInBounds j u) { cls:=.type "list", data:=.seq its.toArray n }={ cls:=.type "list", data:=.seq (its.set j u).toArray n }:=by
 simp [Obj.mapSeq]
theorem Inv.lst {pins:List (Addr×Obj)}{σ:St}{H:Hp}{s:Shared}{p:Addr}{xs:List V}(I:Inv X pins σ H s)(h:H p=some (.lst xs)) :
  ∃ (its:List Value) (n:Nat),Vals xs its∧s.heap.get? p=some { cls:=.type "list", data:=.seq its.toArray n }∧xs.length≤sizeLine:=by
 obtain ⟨z,its,n,r,e⟩:=I.hok p _ h
 exact ⟨its,n,r,e,z⟩
theorem Inv.lstUpd {pins:List (Addr×Obj)}{σ:St}{H:Hp}{s:Shared}{p:Addr}{xs ys:List V}{its its':List Value}{n n':Nat}{f:Obj→Obj}(I:Inv X pins σ H s)(h:H p=some (.lst xs))
  (ho:s.heap.get? p=some { cls:=.type "list", data:=.seq its.toArray n }) (hf:f { cls:=.type "list", data:=.seq its.toArray n }={ cls:=.type "list", data:=.seq its'.toArray n' }) (r:Vals ys its') (hz:ys.length≤sizeLine) (t:Nat) :
  Inv X pins σ (upd H p (.lst ys)) { s with heap:=s.heap.update p f,toks:=t }:=by
 have e:(s.heap.update p f).get? p=some { cls:=.type "list", data:=.seq its'.toArray n' }:=by
  rw [Heap.get?_update_self f ho (by rw [hf] <;> rfl),hf]
 refine I.write (x:=p) (e:=p) (by rw [h]; trivial) (.inl rfl) (fun b u hb q=>(Heap.get?_update_other _ _ (Ne.symm hb)).trans q) ⟨_,e⟩ ?_
 exact ⟨hz,its',n',r,e⟩
def y2:V→V→V→Hp→(Hp→Prop)→Prop:=fun o i v H Q=>∃ p xs k j,o=.ref p∧i=.int k∧H p=some (.lst xs)∧ixN xs.length k=some j∧Q (upd H p (.lst (xs.set j v)))
theorem u6:E9 X y2:=by
 intro pins s σ H o i v ov iv u Q I ro ri rv h
 obtain ⟨p,xs,k,j,rfl,rfl,hp,hj,q⟩:=h
 cases ro
 obtain ⟨t,rfl⟩:=ri
 obtain ⟨its,n,r,ho,hz⟩:=I.lst hp
 obtain ⟨h1,h2,h3,h4⟩:=rf hj
 have hl:=r.length
 have hn:=jR
 have I':Inv X pins σ (upd H p (.lst (xs.set j v))) { s with heap:=s.heap.update p (Obj.mapSeq (·.setIfInBounds j u)) } :=
  I.lstUpd hp ho (pM its n j u) (r.set rv j) (by rw [List.length_set]; exact hz) s.toks
 by_cases h0:0≤k
 ·have hk:k.toNat=j:=by
   rw [seqIndex_of h0 h4] at h1
   exact Option.some.inj h1
  exact PySem.W.ki_setAt ho h0 (by nofun) (by rw [List.size_toArray,← hl]; exact h4) (by rw [hk]; exact ⟨_,I',q⟩)
 ·have hk:(k+(its.toArray.size:Int)).toNat=j:=by
   rw [seqIndex_neg (by nofun) h3] at h1
   rw [List.size_toArray,← hl]
   exact Option.some.inj h1
  exact PySem.W.ki_setBack ho (by nofun) (by rw [List.size_toArray,← hl]; exact h3) (by nofun) (by rw [hk]; exact ⟨_,I',q⟩)
theorem lM (lo hi:Option Int)(n:Nat):(sliceBounds lo hi none n).1=((HT.sIx n 0 lo:Nat):Int)∧(sliceBounds lo hi none n).2.1=((HT.sIx n n hi:Nat):Int)∧(sliceBounds lo hi none n).2.2=1:=by
 refine ⟨?_,?_,rfl⟩
 ·cases lo with
  | none=>simp [sliceBounds,HT.sIx]
  | some i =>
   simp only [sliceBounds,HT.sIx,Option.getD_none,show (1:Int) > 0 by decide,if_true]
   by_cases h:i < 0
   ·simp only [h,if_true] <;> nofun
   ·simp only [h,if_false] <;> nofun
 ·cases hi with
  | none=>simp [sliceBounds,HT.sIx]
  | some i =>
   simp only [sliceBounds,HT.sIx,Option.getD_none,show (1:Int) > 0 by decide,if_true]
   by_cases h:i < 0
   ·simp only [h,if_true] <;> nofun
   ·simp only [h,if_false] <;> nofun
theorem kA (its:List Value)(lo hi:Option Int):slicePick its.toArray lo hi none=((its.drop (HT.sIx its.length 0 lo)).take (HT.sIx its.length its.length hi - HT.sIx its.length 0 lo)).toArray:=by
 obtain ⟨h1,h2,h3⟩:=lM lo hi its.toArray.size
 unfold slicePick
 rw [h1,h2,h3]
 simp only [sliceRange_one,pick_run,List.size_toArray] <;> rfl
def Fg (K:PySem.W.Frag):V→Option Int→Option Int→Hp→VK→Prop:=fun x lo hi H Q=>∃ a xs,x=.ref a∧SqL K H a xs∧∀ p,H p=none→Q (.ref p) (upd H p (.lst (Bl xs lo hi)))
theorem y3:SlR X (Fg X.K):=by
 intro pins s σ H x v vl vu lo hi sl Q I rx hs pl pu h
 obtain ⟨a,xs,rfl,hx,q⟩:=h
 cases rx
 obtain ⟨its,r,ht,hz⟩:=I.list hx
 have hlen:=r.length
 refine ⟨"list", _,slot_list_getitem.lookup,ht.isList.typeIs,?_⟩
 refine wpAny_getItem_list_slice ht.isList hs pl pu .none (by simp) ?_ (by rw [List.size_toArray] <;> nofun)
 rw [kA,← hlen]
 refine ⟨.ref s.heap.objs.size,_,I.laid (t':=s.toks) (o:=.lst (Bl xs lo hi)) (fun b ob q=>Heap.get?_push_of_some _ q) (Nat.le_refl _) ?_,rfl,q _ (I.hok.fresh (Nat.le_refl _))⟩
 exact ⟨Nat.le_trans (iW xs lo hi) hz,_,0,(r.drop (HT.sIx xs.length 0 lo)).take (HT.sIx xs.length xs.length hi - HT.sIx xs.length 0 lo),Heap.get?_push_size _ rfl⟩
def iX:V→Bool
 | .non=>true
 | .bl _=>true
 | .int _=>true
 | .str _=>true
 | _=>false
def eqV:V→V→Bool
 | .non,.non=>true
 | .bl a,.bl b=>a == b
 | .bl a,.int b=>(if a then 1 else 0) == b
 | .int a,.bl b=>a == (if b then 1 else 0)
 | .int a,.int b=>a == b
 | .str a,.str b=>a == b
 | _,_=>false
theorem Ce {A:Around}{s:Shared}{y x:V}{u v:Value}(ry:RelV y u)(rx:RelV x v)(fy:iX y=true)(fx:iX x=true):SeqAt.EqAt A s u v (eqV y x):=by
 cases y with
 | non =>
  cases ry
  cases x with
  | non=>cases rx; exact SeqAt.EqAt.same _
  | bl b=>cases rx; exact SeqAt.EqAt.none_bool b
  | int b=>obtain ⟨t,rfl⟩:=rx; exact SeqAt.EqAt.none_int b t
  | str b=>obtain ⟨t,rfl⟩:=rx; exact SeqAt.EqAt.none_str b t
  | _=>exact absurd (show false=true from fx) Bool.false_ne_true
 | bl a =>
  cases ry
  cases x with
  | non=>cases rx; exact SeqAt.EqAt.bool_none a
  | bl b=>cases rx; exact SeqAt.EqAt.bool_bool a b
  | int b=>obtain ⟨t,rfl⟩:=rx; exact SeqAt.EqAt.bool_int a b t
  | str b=>obtain ⟨t,rfl⟩:=rx; exact SeqAt.EqAt.bool_str a b t
  | _=>exact absurd (show false=true from fx) Bool.false_ne_true
 | int a =>
  obtain ⟨t',rfl⟩:=ry
  cases x with
  | non=>cases rx; exact SeqAt.EqAt.int_none a t'
  | bl b=>cases rx; exact SeqAt.EqAt.int_bool a t' b
  | int b=>obtain ⟨t,rfl⟩:=rx; exact SeqAt.EqAt.int_int a t' b t
  | str b=>obtain ⟨t,rfl⟩:=rx; exact SeqAt.EqAt.int_str a t' b t
  | _=>exact absurd (show false=true from fx) Bool.false_ne_true
 | str a =>
  obtain ⟨t',rfl⟩:=ry
  cases x with
  | non=>cases rx; exact SeqAt.EqAt.str_none a t'
  | bl b=>cases rx; exact SeqAt.EqAt.str_bool a t' b
  | int b=>obtain ⟨t,rfl⟩:=rx; exact SeqAt.EqAt.str_int a t' b t
  | str b=>obtain ⟨t,rfl⟩:=rx; exact SeqAt.EqAt.str_str a t' b t
  | _=>exact absurd (show false=true from fx) Bool.false_ne_true
 | _=>exact absurd (show false=true from fy) Bool.false_ne_true
def eqU (x:V)(u:Value):Bool:=match u with
 | .none=>eqV .non x
 | .bool b=>eqV (.bl b) x
 | .int i _=>eqV (.int i) x
 | .str z _=>eqV (.str z) x
 | _=>false
theorem xm {x y:V}{u:Value}(r:RelV y u)(f:iX y=true):eqU x u=eqV y x:=by
 cases y with
 | non=>cases r; rfl
 | bl b=>cases r; rfl
 | int i=>obtain ⟨t,rfl⟩:=r; rfl
 | str z=>obtain ⟨t,rfl⟩:=r; rfl
 | _=>exact absurd (show false=true from f) Bool.false_ne_true
theorem iZ {x:V}:∀ {xs:List V} {us:List Value},Vals xs us→xs.all iX=true→us.any (eqU x)=xs.any fun y=>eqV y x
 | _,_,.nil,_=>rfl
 | y::xs,u::us,.cons r t,f=>by
  rw [List.all_cons,Bool.and_eq_true] at f
  rw [List.any_cons,List.any_cons,xm r f.1,iZ t f.2]
theorem gu {A:Around}{s:Shared}{x:V}{v:Value}(rx:RelV x v)(fx:iX x=true):∀ {xs:List V} {us:List Value},Vals xs us→xs.all iX=true→∀ u ∈ us,SeqAt.EqAt A s u v (eqU x u)
 | _,_,.nil,_=>fun u hu=>by cases hu
 | y::xs,u::us,.cons r t,f=>fun u' hu=>by
  rw [List.all_cons,Bool.and_eq_true] at f
  rcases List.mem_cons.mp hu with rfl | hu
  ·rw [xm r f.1]; exact Ce r rx f.1 fx
  ·exact gu rx fx t f.2 u' hu
def inV (x:V)(xs:List V):Bool:=xs.any fun y=>eqV y x
def rIn (K:PySem.W.Frag)(neg:Bool):R2:=fun x y H Q=>∃ p xs,y=.ref p∧(SqL K H p xs∨SqT K H p xs)∧iX x=true∧xs.all iX=true∧Q (.bl (if neg then !inV x xs else inV x xs)) H
theorem rg:OpR X (compareOp .In) (rIn X.K false):=by
 intro pins s σ H x y v u Q I rx ry h
 obtain ⟨p,xs,rfl,hq,fx,fs,q⟩:=h
 cases ry
 rcases hq with hq | hq
 ·obtain ⟨its,r,pl,hz⟩:=I.list hq
  refine SeqAt.in_listAt (eqU x) pl.isList (fun w hw=>gu rx fx r fs w (by first|exact List.mem_singleton.mp hw|simpa using hw)) ⟨.bl _,H,I,rfl,?_⟩
  rw [show its.toArray.any (eqU x)=its.any (eqU x) by simp,iZ r fs]
  exact q
 ·obtain ⟨its,r,pl,hz⟩:=I.tuple hq
  refine SeqAt.in_tupleAt (eqU x) pl (fun w hw=>gu rx fx r fs w (by first|exact List.mem_singleton.mp hw|simpa using hw)) ⟨.bl _,H,I,rfl,?_⟩
  rw [show its.toArray.any (eqU x)=its.any (eqU x) by simp,iZ r fs]
  exact q
theorem lN:OpR X (compareOp .NotIn) (rIn X.K true):=by
 intro pins s σ H x y v u Q I rx ry h
 obtain ⟨p,xs,rfl,hq,fx,fs,q⟩:=h
 cases ry
 rcases hq with hq | hq
 ·obtain ⟨its,r,pl,hz⟩:=I.list hq
  refine SeqAt.notIn_listAt (eqU x) pl.isList (fun w hw=>gu rx fx r fs w (by first|exact List.mem_singleton.mp hw|simpa using hw)) ⟨.bl _,H,I,rfl,?_⟩
  rw [show its.toArray.any (eqU x)=its.any (eqU x) by simp,iZ r fs]
  exact q
 ·obtain ⟨its,r,pl,hz⟩:=I.tuple hq
  refine SeqAt.notIn_tupleAt (eqU x) pl (fun w hw=>gu rx fx r fs w (by first|exact List.mem_singleton.mp hw|simpa using hw)) ⟨.bl _,H,I,rfl,?_⟩
  rw [show its.toArray.any (eqU x)=its.any (eqU x) by simp,iZ r fs]
  exact q
theorem lO:OpR X (compareOp .NotIn) (fun x y H Q=>∃ i j,x=.str i∧y=.str j∧Q (.bl (!(!(Builtin.Str.occurrences j i 0 j.length 1).isEmpty))) H):=by
 intro pins s σ H x y v u Q I rx ry h
 obtain ⟨i,j,rfl,rfl,q⟩:=h
 obtain ⟨t,rfl⟩:=rx
 obtain ⟨t',rfl⟩:=ry
 exact notIn_str ⟨.bl _,H,I,rfl,q⟩
theorem lP:CallR X (.builtin "len") (fun xs H Q=>∃ p ys,xs=[.ref p]∧(SqL X.K H p ys∨SqT X.K H p ys)∧Q (.int ys.length) H):=by
 intro pins s σ H xs us Q I r h
 obtain ⟨p,ys,rfl,hq,q⟩:=h
 obtain ⟨u,rfl,rx⟩:=eM r
 cases rx
 have hn:=jR
 rcases hq with hq | hq
 ·obtain ⟨its,r',pl,hz⟩:=I.list hq
  have hlen:=r'.length
  exact Calls.call_len_list pl.isList (by simp only [List.size_toArray] <;> nofun) ⟨.int ys.length,H,I.tok _,⟨s.toks+1,by rw [List.size_toArray,hlen]⟩,q⟩
 ·obtain ⟨its,r',pl,hz⟩:=I.tuple hq
  have hlen:=r'.length
  exact len_tuple pl (by simp only [List.size_toArray] <;> nofun) ⟨.int ys.length,H,I.tok _,⟨s.toks+1,by rw [List.size_toArray,hlen]⟩,q⟩
theorem lQ:CallR X (.builtin "len") (fun xs H Q=>∃ z,xs=[.str z]∧z.length≤sizeLine∧Q (.int z.length) H):=by
 intro pins s σ H xs us Q I r h
 obtain ⟨z,rfl,hz,q⟩:=h
 obtain ⟨u,rfl,t,rfl⟩:=eM r
 have hn:=jR
 exact len_str (by nofun) ⟨.int z.length,H,I.tok _,⟨_,rfl⟩,q⟩
theorem CallR.or {f:Value}{r r':List V→Hp→VK→Prop}(h:CallR X f r)(h':CallR X f r'):CallR X f (fun xs H Q=>r xs H Q∨r' xs H Q):=by
 intro pins s σ H xs us Q I rs q
 rcases q with q | q
 ·exact h pins s σ H xs us Q I rs q
 ·exact h' pins s σ H xs us Q I rs q
theorem lR:CallR X (.type "list") (fun xs H Q=>∃ p ys,xs=[.ref p]∧(SqL X.K H p ys∨SqT X.K H p ys)∧∀ l,H l=none→Q (.ref l) (upd H l (.lst ys))):=by
 intro pins s σ H xs us Q I r h
 obtain ⟨p,ys,rfl,hq,q⟩:=h
 obtain ⟨u,rfl,rx⟩:=eM r
 cases rx
 have fin:∀ (its:List Value),Vals ys its→ys.length≤sizeLine→∀ (h':Heap) (c':Nat),(∀ b o',s.heap.get? b=some o'→h'.get? b=some o') →
   h'.get? s.heap.objs.size=some { cls:=.type "list", dict:=none,data:=.seq its.toArray c',slots:=#[] }→EP X pins σ Q (.ref s.heap.objs.size) { s with heap:=h' }:=fun its r' hz h' c' kp e =>
  ⟨.ref s.heap.objs.size,_,I.laid (t':=s.toks) kp (Nat.le_refl _) (show ObjOk X.prog X.w _ h' _ (.lst ys) from ⟨hz,its,c',r',e⟩),rfl,q _ (I.hok.fresh (Nat.le_refl _))⟩
 rcases hq with hq | hq
 ·obtain ⟨its,r',pl,hz⟩:=I.list hq
  have hlen:=r'.length
  obtain ⟨o,ho,hc,n,hd⟩:=pl.isList
  exact call_list_seq p (.inl rfl) ho hc hd (fun h' c' kp e=>fin its r' hz h' c' kp e) (by simp only [List.size_toArray] <;> nofun)
 ·obtain ⟨its,r',pl,hz⟩:=I.tuple hq
  have hlen:=r'.length
  obtain ⟨o,ho,hc,n,hd⟩:=pl
  exact call_list_seq p (.inr rfl) ho hc hd (fun h' c' kp e=>fin its r' hz h' c' kp e) (by simp only [List.size_toArray] <;> nofun)
theorem kB:CallR X (.type "tuple") (fun xs H Q=>∃ p ys,xs=[.ref p]∧((SqL X.K H p ys∧∀ l,H l=none→Q (.ref l) (upd H l (.tup ys)))∨(SqT X.K H p ys∧Q (.ref p) H))):=by
 intro pins s σ H xs us Q I r h
 obtain ⟨p,ys,rfl,h⟩:=h
 obtain ⟨u,rfl,rx⟩:=eM r
 cases rx
 rcases h with ⟨hq,q⟩ | ⟨hq,q⟩
 ·obtain ⟨its,r',pl,hz⟩:=I.list hq
  have hlen:=r'.length
  refine call_tuple_list pl.isList (fun h' kp=>?_) (by simp only [List.size_toArray] <;> nofun)
  have I1:Inv X pins σ H { s with heap:=h' }:=I.kept (t':=s.toks) kp
  have I2:Inv X pins σ (upd H h'.objs.size (.tup ys)) { s with heap:=h'.push { cls:=.type "tuple", data:=.seq its.toArray } } :=
   I1.laid (t':=s.toks) (fun b o e=>Heap.get?_push_of_some _ e) (Nat.le_refl _) (show ObjOk X.prog X.w _ _ _ (.tup ys) from ⟨hz,its,r',IsTup.new _ _⟩)
  exact ⟨.ref h'.objs.size,_,I2,rfl,q _ (I1.hok.fresh (Nat.le_refl _))⟩
 ·obtain ⟨its,r',pl,hz⟩:=I.tuple hq
  exact call_tuple_same pl ⟨.ref p,H,I,rfl,q⟩
def tyV (K:PySem.W.Frag)(T:String)(x:V)(H:Hp):Prop:=match x with
 | .str _=>T = "str"
 | .int _=>T = "int"
 | .ref p=>(T = "list" ∧ ∃ xs,SqL K H p xs)∨(T = "tuple" ∧ ∃ o,K.lookup p=some o∧o.cls=.type "tuple" ∧ o.dict=none) ∨
   (T = "dict" ∧ ((∃ kvs,H p=some (.dK kvs))∨∃ kvs,H p=some (.dT kvs)))∨(T = "set" ∧ ∃ S n,H p=some (.set S n))
 | _=>False
theorem xo {pins:List (Addr×Obj)}{σ:St}{H:Hp}{s:Shared}{T:String}{x:V}{v:Value}(I:Inv X pins σ H s)(r:RelV x v)(ty:tyV X.K T x H) :
  s.TypeIs v T∧∀ a,v=.ref a→∃ ob,s.heap.get? a=some ob∧ob.dict=none:=by
 cases x with
 | str z =>
  obtain ⟨t,rfl⟩:=r
  cases (show T = "str" from ty)
  exact ⟨typeIs_str s z t,fun _ e=>nomatch e⟩
 | int i =>
  obtain ⟨t,rfl⟩:=r
  cases (show T = "int" from ty)
  exact ⟨typeIs_int s i t,fun _ e=>nomatch e⟩
 | ref p =>
  cases r
  rcases ty with ⟨rfl,xs,hq⟩ | ⟨rfl,o,hk,hc,hd⟩ | ⟨rfl,hk⟩ | ⟨rfl,S,n,hk⟩
  ·obtain ⟨its,_,pl,_⟩:=I.list hq
   refine ⟨pl.isList.typeIs,fun a e=>?_⟩
   cases e
   obtain ⟨o,n,e,c,hd,_⟩:=pl
   exact ⟨o,e,hd⟩
  ·refine ⟨⟨o,I.kIn p o hk,hc⟩,fun a e=>?_⟩
   cases e
   exact ⟨o,I.kIn _ o hk,hd⟩
  ·have z:∃ o,s.heap.get? p=some o∧o.ExactDict:=by
    rcases hk with ⟨kvs,hk⟩ | ⟨kvs,hk⟩
    ·obtain ⟨_,_,_,_,o,_,_,e,ex,_⟩:=I.hok p _ hk
     exact ⟨o,e,ex⟩
    ·obtain ⟨_,_,_,_,o,_,_,e,ex,_⟩:=I.hok p _ hk
     exact ⟨o,e,ex⟩
   obtain ⟨o,e,ex⟩:=z
   refine ⟨⟨o,e,ex.1⟩,fun a e2=>?_⟩
   cases e2
   exact ⟨o,e,ex.2.1⟩
  ·obtain ⟨o,_,_,_,e,ex,_⟩:=I.hok p _ hk
   refine ⟨⟨o,e,ex.1⟩,fun a e2=>?_⟩
   cases e2
   exact ⟨o,e,ex.2.1⟩
 | _=>exact False.elim ty
def DZ (K:PySem.W.Frag)(T:String)(r:V→List V→Hp→VK→Prop)(to:TE):TE:=fun σ H Q=>to σ H fun x H1=>tyV K T x H1∧r x [] H1 Q
def tBM (K:PySem.W.Frag)(T:String)(r:V→List V→Hp→VK→Prop)(to:TE)(t:TA):TE:=fun σ H Q=>to σ H fun x H1=>tyV K T x H1∧t σ H1 fun xs H2=>r x xs H2 Q
variable {o e:Expr} {es:List Expr} {to:TE} {t:TA} {name:Str} {apos cpos:Pos} {T id:String} {r:V→List V→Hp→VK→Prop}
theorem Cf (pa:PlainAttrs T) (slot:Slot T name id) (hty:typeOf (.builtin id)=pure (.type "method_descriptor")) (hm:MtR X id r) (ho:PE X o to)
  (hbase:autoParam (attributeBase o name X.env (eval o X.env)=eval o X.env) L2.aR._auto_1) (hline:autoParam ((apos.endLine == cpos.line)=true) L2.aR._auto_1):PE X (.Call (.Attribute o name apos) [] [] cpos) (DZ X.K T r to):=by
 intro pins s σ H Q I h
 refine wpAny_Call_method0_late hbase hline (thn (ho pins s σ H _ I h) fun v s1 ⟨x,H1,I1,r1,ty,q1⟩=>?_)
 obtain ⟨h1,h2⟩:=xo I1 r1 ty
 exact ⟨T,id,pa,slot,hty,h1,h2,Calls.callWith_builtin rfl (PySem.evalArgs_none (hm pins s1 σ H1 x [] v [] Q I1 r1 .nil q1))⟩
theorem Ey (pa:PlainAttrs T) (slot:Slot T name id) (hty:typeOf (.builtin id)=pure (.type "method_descriptor")) (hm:MtR X id r) (ho:PE X o to) (ha:PA X (e::es) t)
  (hbase:autoParam (attributeBase o name X.env (eval o X.env)=eval o X.env) L2.aR._auto_1)
  (hfew:autoParam (((backTo cpos (starEach (e::es) X.env)).all (fun x=>!x.1) && (backToKw cpos (keywordEach [] X.env)).all (fun x=>x.1.isSome)
   && decide ((e::es).length+([]:List Keyword).length+(if ([]:List Keyword).isEmpty then 0 else 1) < 30))=true) L2.aR._auto_1)
  (hline:autoParam ((apos.endLine == cpos.line)=true) L2.aR._auto_1) (hs:autoParam (starEach (e::es) X.env=(false,eval e X.env)::starEach es X.env) L2.aR._auto_1) (hplain:autoParam ((backTo cpos (starEach es X.env)).any (·.1)=false) L2.aR._auto_1) :
  PE X (.Call (.Attribute o name apos) (e::es) [] cpos) (tBM X.K T r to t):=by
 intro pins s σ H Q I h
 refine wpAny_Call_method_late hbase hfew hline rfl (thn (ho pins s σ H _ I h) fun v s1 ⟨x,H1,I1,r1,ty,q1⟩=>?_)
 obtain ⟨h1,h2⟩:=xo I1 r1 ty
 refine ⟨T,id,pa,slot,hty,h1,h2,?_⟩
 have hA:=ha cpos pins s1 σ H1 _ I1 q1
 rw [hs] at hA ⊢
 refine Calls.callWith_builtin (by show (false || (backTo cpos (starEach es X.env)).any (·.1))=false; rw [hplain] <;> rfl) (Calls.evalArgs_plain ?_)
 exact thn hA fun us s2 ⟨vs,H2,I2,r2,q2⟩=>hm pins s2 σ H2 x vs v us Q I2 r1 r2 q2
/- xs.append(e),list.index on a module's tuple .. are MtR facts of 06m -/
end
end L2
namespace L2
open PySem PySem.Spec PyProof.Rows
def MtM (X:Cx)(id:String)(r:V→List V→Hp→VK→Prop):Prop :=
 ∀ (pins:List (Addr×Obj)) (s:Shared) (σ:St) (H:Hp) (x:V) (xs:List V) (v:Value) (us:List Value) (Q:VK),Inv X pins σ H s→RelV x v→Vals xs us→r x xs H Q →
  wpAny (model X.prog X.w) X.A (call (.builtin id) (v::us)) (EP X pins σ Q) X.xe s
theorem Vals.one {x:V}{us:List Value}(h:Vals [x] us):∃ u,us=[u]∧RelV x u:=by
 cases h with | cons r t=>cases t; exact ⟨_,rfl,r⟩
theorem Vals.reverse {xs:List V}{us:List Value}(h:Vals xs us):Vals xs.reverse us.reverse:=by
 induction h with
 | nil=>exact .nil
 | cons r t ih=>rw [List.reverse_cons,List.reverse_cons]; exact Vals.append ih (.cons r .nil)
section
variable {X:Cx} {pins:List (Addr×Obj)} {σ:St} {H:Hp} {s:Shared} {l b:Addr} {xs ys zs:List V}
theorem Inv.lset {its its':List Value}{n:Nat}{f:Array Value→Array Value}{t':Nat}(I:Inv X pins σ H s)(hH:H l=some (.lst xs))
  (e:s.heap.get? l=some { cls:=.type "list", data:=.seq its.toArray n }) (hf:f its.toArray=its'.toArray) (hv:Vals ys its') (hz:ys.length≤sizeLine) :
  Inv X pins σ (upd H l (.lst ys)) { s with heap:=s.heap.update l (Obj.mapSeq f),toks:=t' }:=by
 have q:=PySem.IsL.update e f
 rw [hf] at q
 refine I.write (x:=l) (e:=l) (by rw [hH]; exact trivial) (.inl rfl) (fun b' u hb hu=>(Heap.get?_update_other s.heap (Obj.mapSeq f) (Ne.symm hb)).trans hu) ⟨_,q⟩ ?_
 exact ⟨hz,its',_,hv,q⟩
theorem Inv.lnew {its:List Value}{t':Nat}(I:Inv X pins σ H s)(hv:Vals ys its)(hz:ys.length≤sizeLine) :
  Inv X pins σ (upd H s.heap.objs.size (.lst ys)) { s with heap:=s.heap.push { cls:=.type "list", data:=.seq its.toArray },toks:=t' } :=
 I.laid (fun _ _ q=>Heap.get?_push_of_some _ q) (Nat.le_refl _) ⟨hz,its,0,hv,Heap.get?_push_size _ rfl⟩
theorem Inv.fresh (I:Inv X pins σ H s):H s.heap.objs.size=none:=I.hok.fresh (Nat.le_refl _)
theorem Inv.lstM (I:Inv X pins σ H s)(hH:H l=some (.lst xs)):xs.length≤sizeLine∧∃ (its:List Value) (n:Nat),Vals xs its∧xs.length=its.length∧s.heap.get? l=some { cls:=.type "list", data:=.seq its.toArray n }:=by
 obtain ⟨z,its,n,r,e⟩:=I.hok l _ hH
 exact ⟨z,its,n,r,r.length,e⟩
end
section
variable {X:Cx}
def kC:V→List V→Hp→VK→Prop:=fun x vs H Q=>∃ l xs y,x=.ref l∧vs=[y]∧H l=some (.lst xs)∧xs.length < sizeLine∧Q .non (upd H l (.lst (xs++[y])))
theorem lS:MtM X "list.append" kC:=by
 intro pins s σ H x vs v us Q I rx rv h
 obtain ⟨l,xs,y,rfl,rfl,hH,hz,q⟩:=h
 cases rx
 obtain ⟨u,rfl,ru⟩:=rv.one
 obtain ⟨z,its,n,r,hl,e⟩:=I.lstM hH
 refine call_meets F.slot_list_append ⟨_,e,rfl⟩ F.entry_list_append (F.args_list_append_2 _ _) (PySem.list_append l its.toArray n u (by rw [List.size_toArray]; nofun)) ⟨e,?_⟩
 refine ⟨.non,_,I.lset (its':=its++[u]) hH e (by simp) (r.append (.cons ru .nil)) ?_,rfl,q⟩
 rw [List.length_append,List.length_singleton]
 nofun
end
section
variable {prog:Program} {w:World} {A:Around} {E:Value→Shared→Prop} {s:Shared}
end
section
variable {X:Cx}
end
end L2
namespace L2
open PySem PySem.Spec PyProof.Rows
section
variable {κ:Type} [DecidableEq κ]
def lT (kvs:List (κ×V))(k:κ):Option V:=(kvs.find? fun kv=>decide (kv.1=k)).map (·.2)
def lB (kvs:List (κ×V))(k:κ)(v:V):List (κ×V) :=
 if (kvs.any fun kv=>decide (kv.1=k))=true then kvs.map (fun kv=>if kv.1=k then (kv.1,v) else kv) else kvs++[(k,v)]
theorem iG {p:κ×V}{r:List (κ×V)}{k:κ}(e:p.1=k):lT (p::r) k=some p.2:=by simp [lT,List.find?_cons,e]
theorem iH {p:κ×V}{r:List (κ×V)}{k:κ}(e:¬ p.1=k):lT (p::r) k=lT r k:=by simp [lT,List.find?_cons,e]
theorem kD (k:κ):∀ kvs:List (κ×V),(kvs.any fun kv=>decide (kv.1=k))=(lT kvs k).isSome
 | []=>rfl
 | p::r=>by
  rw [List.any_cons]
  by_cases e:p.1=k
  ·simp only [iG e,decide_eq_true e,Bool.true_or,Option.isSome_some]
  ·rw [iH e,decide_eq_false e,Bool.false_or]; exact kD k r
theorem gf (kvs:List (κ×V))(k:κ)(v:V):(lB kvs k v).length≤kvs.length+1:=by
 unfold lB
 split
 ·rw [List.length_map]; nofun
 ·rw [List.length_append,List.length_cons,List.length_nil]; nofun
theorem RelO.isSome_eq {o:Option V}{u:Option Value}(r:RelO o u):o.isSome=u.isSome:=by
 cases o with
 | none=>cases u with
  | none=>rfl
  | some _=>exact (show False from r).elim
 | some _=>cases u with
  | none=>exact (show False from r).elim
  | some _=>rfl
theorem RelO.getD {o:Option V}{u:Option Value}{d:V}{d':Value}(r:RelO o u)(rd:RelV d d'):RelV (o.getD d) (u.getD d'):=by
 cases o with
 | none=>cases u with
  | none=>exact rd
  | some _=>exact (show False from r).elim
 | some _=>cases u with
  | none=>exact (show False from r).elim
  | some _=>exact r
theorem KV.val {kvs:List (κ×V)}{vs:List (κ×Value)}(r:KV kvs vs)(k:κ):RelO (lT kvs k) (valueAt vs k):=by
 unfold KV at r
 induction r with
 | nil=>exact True.intro
 | @cons p q ps qs h t ih =>
  obtain ⟨h1,h2⟩:=h
  by_cases e:p.1=k
  ·have e':q.1=k:=h1.symm.trans e
   have b:valueAt (q::qs) k=some q.2:=by simp [valueAt,List.find?_cons,e']
   rw [iG e,b]; exact h2
  ·have e':¬ q.1=k:=fun z=>e (h1.trans z)
   have b:valueAt (q::qs) k=valueAt qs k:=by simp [valueAt,List.find?_cons,e']
   rw [iH e,b]; exact ih
theorem KV.any {kvs:List (κ×V)}{vs:List (κ×Value)}(r:KV kvs vs)(k:κ):(kvs.any fun kv=>decide (kv.1=k))=vs.any fun kv=>decide (kv.1=k):=by
 unfold KV at r
 induction r with
 | nil=>rfl
 | cons h t ih=>rw [List.any_cons,List.any_cons,ih,h.1]
theorem KV.repl {kvs:List (κ×V)}{vs:List (κ×Value)}(r:KV kvs vs)(k:κ){y:V}{u:Value}(ry:RelV y u) :
  KV (kvs.map fun kv=>if kv.1=k then (kv.1,y) else kv) (vs.map fun kv=>if kv.1=k then (kv.1,u) else kv):=by
 unfold KV at r ⊢
 induction r with
 | nil=>exact .nil
 | @cons p q ps qs h t ih =>
  rw [List.map_cons,List.map_cons]
  refine .cons ?_ ih
  obtain ⟨h1,h2⟩:=h
  by_cases e:p.1=k
  ·rw [if_pos e,if_pos (h1.symm.trans e)]; exact ⟨h1,ry⟩
  ·rw [if_neg e,if_neg (fun z=>e (h1.trans z))]; exact ⟨h1,h2⟩
theorem KV.put {kvs:List (κ×V)}{vs:List (κ×Value)}(r:KV kvs vs)(k:κ){y:V}{u:Value}(ry:RelV y u):KV (lB kvs k y) (stored vs k u):=by
 unfold lB stored
 rw [r.any k]
 by_cases e:(vs.any fun kv=>decide (kv.1=k))=true
 ·rw [if_pos e,if_pos e]; exact r.repl k ry
 ·rw [if_neg e,if_neg e]; exact Paired.snoc r ⟨rfl,ry⟩
theorem KV.length {kvs:List (κ×V)}{vs:List (κ×Value)}(r:KV kvs vs):kvs.length=vs.length:=Paired.length r
end
theorem nh {P:Program}{w:World}{k:Key}{u:Value}(r:RelV (kV k) u):(cn P w).is k u=true:=by
 cases k with
 | inl i=>obtain ⟨t,e⟩:=(show ∃ t,u=Value.int i t from r); subst e; exact m8 P w i t
 | inr x=>obtain ⟨t,e⟩:=(show ∃ t,u=Value.str x t from r); subst e; exact m9 P w x t
theorem lU {P:Program}{w:World}:∀ {ks:List Key} {us:List Value},Vals (ks.map kV) us→ItemsAre (cn P w) ks us
 | [],_,r=>by rw [List.map_nil] at r; cases r; exact .nil
 | k::ks,_,r=>by
  rw [List.map_cons] at r
  cases r with
  | cons h t=>exact .cons (nh h) (lU t)
abbrev KT (H:Hp):List (List Key×V)→List (List Key×Addr×Value)→Prop:=Paired fun p q=>p.1=q.1∧H q.2.1=some (.tup (p.1.map kV))∧RelV p.2 q.2.2
theorem KT.val {H:Hp}{kvs:List (List Key×V)}{xs:List (List Key×Addr×Value)}(r:KT H kvs xs)(k:List Key):RelO (lT kvs k) ((atKey xs k).map (·.2)):=by
 induction r with
 | nil=>exact True.intro
 | @cons p q ps qs h t ih =>
  obtain ⟨h1,_,h2⟩:=h
  by_cases e:p.1=k
  ·have e':q.1=k:=h1.symm.trans e
   have b:atKey (q::qs) k=some q.2:=by simp [atKey,List.find?_cons,e']
   rw [iG e,b]; exact h2
  ·have e':¬ q.1=k:=fun z=>e (h1.trans z)
   have b:atKey (q::qs) k=atKey qs k:=by simp [atKey,List.find?_cons,e']
   rw [iH e,b]; exact ih
theorem KT.repl {H:Hp}{kvs:List (List Key×V)}{xs:List (List Key×Addr×Value)}(r:KT H kvs xs)(k:List Key){y:V}{u:Value}(ry:RelV y u) :
  KT H (kvs.map fun kv=>if kv.1=k then (kv.1,y) else kv) (xs.map (putAt k u)):=by
 induction r with
 | nil=>exact .nil
 | @cons p q ps qs h t ih =>
  rw [List.map_cons,List.map_cons]
  refine .cons ?_ ih
  obtain ⟨h1,h2,h3⟩:=h
  unfold putAt
  by_cases e:p.1=k
  ·rw [if_pos e,if_pos (h1.symm.trans e)]; exact ⟨h1,h2,ry⟩
  ·rw [if_neg e,if_neg (fun z=>e (h1.trans z))]; exact ⟨h1,h2,h3⟩
theorem KT.put {H:Hp}{kvs:List (List Key×V)}{xs:List (List Key×Addr×Value)}(r:KT H kvs xs)(k:List Key){b:Addr}{y:V}{u:Value}(hb:H b=some (.tup (k.map kV)))(ry:RelV y u) :
  KT H (lB kvs k y) (storedH xs k b u):=by
 have e:(kvs.any fun kv=>decide (kv.1=k))=(atKey xs k).isSome:=by
  rw [kD,(r.val k).isSome_eq,Option.isSome_map]
 unfold lB storedH
 rw [e]
 by_cases q:(atKey xs k).isSome=true
 ·rw [if_pos q,if_pos q]; exact r.repl k ry
 ·rw [if_neg q,if_neg q]; exact Paired.snoc r ⟨rfl,hb,ry⟩
theorem KT.keeps {H H':Hp}{kvs:List (List Key×V)}{xs:List (List Key×Addr×Value)}(r:KT H kvs xs)(ht:∀ b ys,H b=some (.tup ys)→H' b=some (.tup ys)):KT H' kvs xs :=
 Paired.mapP r fun _ _ z=>⟨z.1,ht _ _ z.2.1,z.2.2⟩
section
variable {P:Program} {w:World} {H:Hp} {h:Heap} {a:Addr}
theorem Cg {u:HO}(ok:HOk P w H h)(e:Rd H a u):ObjOk P w H h a u:=e.ok ok
theorem lV {kvs:List (Key×V)}(ok:HOk P w H h)(e:Rd H a (.dK kvs)):kvs.length≤sizeLine∧(a == sysModules)=false∧∃ vs,KV kvs vs∧h.DictOf (cn P w) a vs :=
 show ObjOk P w H h a (.dK kvs) from Cg ok e
theorem Ch {kvs:List (Key×V)}(ok:HOk P w H h)(e:H a=some (.dK kvs)):kvs.length≤sizeLine∧(a == sysModules)=false∧∃ vs,KV kvs vs∧h.DictOf (cn P w) a vs:=lV ok (.inl e)
theorem jT {ks:List Key}(ok:HOk P w H h)(e:H a=some (.tup (ks.map kV))):(tupleKind (cn P w)).is h ks a:=by
 obtain ⟨_,its,r,o,h1,h2,n,h3⟩:=(show ObjOk P w H h a (.tup (ks.map kV)) from ok a _ e)
 exact ⟨o,its.toArray,n,h1,h2,h3,by simpa using lU r⟩
theorem ni {kvs:List (List Key×V)}(ok:HOk P w H h)(e:Rd H a (.dT kvs)):kvs.length≤sizeLine∧(a == sysModules)=false ∧
  ∃ xs,KT H kvs xs∧h.DictOfH (tupleKind (cn P w)) a xs:=by
 obtain ⟨z,y,xs,r,o,es,ep,h1,h2,h3,h4,h5⟩:=(show ObjOk P w H h a (.dT kvs) from Cg ok e)
 refine ⟨z,y,xs,r,o,es,ep,h1,h2,h3,h4,fun x hx=>?_,h5⟩
 have all:∀ {l:List (List Key×V)} {m:List (List Key×Addr×Value)},KT H l m→∀ x ∈ m,(tupleKind (cn P w)).is h x.1 x.2.1:=by
  intro l m q
  induction q with
  | nil=>intro x hx; exact nomatch hx
  | @cons p q ps qs hq t ih =>
   intro x hx
   rcases List.mem_cons.mp hx with e | hx
   ·subst e
    exact jT ok (by rw [← hq.1]; exact hq.2.1)
   ·exact ih x hx
 exact all r x hx
theorem Ez {kvs:List (List Key×V)}(ok:HOk P w H h)(e:H a=some (.dT kvs)):kvs.length≤sizeLine∧(a == sysModules)=false ∧
  ∃ xs,KT H kvs xs∧h.DictOfH (tupleKind (cn P w)) a xs:=ni ok (.inl e)
end
def DGet (H:Hp)(a:Addr)(y:V)(r:Option V):Prop :=
 (∃ kvs k,Rd H a (.dK kvs)∧y=kV k∧r=lT kvs k)∨∃ kvs k b,Rd H a (.dT kvs)∧y=.ref b∧H b=some (.tup (k.map kV))∧r=lT kvs k
def Fh (H:Hp)(a:Addr)(y v:V)(H':Hp):Prop :=
 (∃ kvs k,H a=some (.dK kvs)∧y=kV k∧kvs.length < sizeLine∧H'=upd H a (.dK (lB kvs k v))) ∨
 ∃ kvs k b,H a=some (.dT kvs)∧y=.ref b∧H b=some (.tup (k.map kV))∧kvs.length < sizeLine∧H'=upd H a (.dT (lB kvs k v))
section
variable {X:Cx} {pins:List (Addr×Obj)} {σ:St} {H:Hp} {s:Shared} {a:Addr} {y v:V} {u r:Value} {o:Option V} {A:Around} {E:Value→Shared→Prop}
theorem Inv.big (I:Inv X pins σ H s):sysModules < s.heap.objs.size:=by
 have h:mainGlobals < s.heap.objs.size:=(I.mod.glob.keeps I.bk).lt
 exact Nat.lt_trans (by decide) h
theorem rh {Q:Value→Shared→Prop}(hu:A.units+1 < cLine)(I:Inv X pins σ H s)(g:DGet H a y (some v))(ry:RelV y u)(h:∀ w' s',Inv X pins σ H s'→RelV v w'→Q w' s') :
  wpAny (model X.prog X.w) A (getItem (.ref a) u) Q E s:=by
 rcases g with ⟨kvs,k,e,ey,l⟩ | ⟨kvs,k,b,e,ey,eb,l⟩
 ·subst ey
  obtain ⟨z,hd,vs,rel,dd⟩:=lV I.hok e
  obtain ⟨w',hw,rw'⟩:=RelO.some_of (v:=v) (o:=valueAt vs k) (by rw [l]; exact rel.val k)
  exact wpAny_getItem_of (nh ry) dd.mapOf hw (h w' _ (I.tok _) rw')
 ·subst ey
  cases (show u=Value.ref b from ry)
  obtain ⟨z,hd,xs,rel,dd⟩:=ni I.hok e
  obtain ⟨w',hw,rw'⟩:=RelO.some_of (v:=v) (o:=(atKey xs k).map (·.2)) (by rw [l]; exact rel.val k)
  obtain ⟨p,hp,hp2⟩:=Option.map_eq_some_iff.mp hw
  refine wpAny_getItem_heap (tupleKind_room_in1 hu) (jT I.hok eb) dd hp ?_
  rw [hp2]
  exact h w' _ (I.tok _) rw'
theorem d_in {Q:Value→Shared→Prop}(hu:A.units+1 < cLine)(I:Inv X pins σ H s)(g:DGet H a y o)(ry:RelV y u)(h:∀ s',Inv X pins σ H s'→Q (.bool o.isSome) s') :
  wpAny (model X.prog X.w) A (compareOp .In u (.ref a)) Q E s:=by
 rcases g with ⟨kvs,k,e,ey,l⟩ | ⟨kvs,k,b,e,ey,eb,l⟩
 ·subst ey
  obtain ⟨z,hd,vs,rel,dd⟩:=lV I.hok e
  refine wpAny_in_of (nh ry) hd dd.mapOf ?_
  rw [← (rel.val k).isSome_eq,← l]
  exact h _ (I.tok _)
 ·subst ey
  cases (show u=Value.ref b from ry)
  obtain ⟨z,hd,xs,rel,dd⟩:=ni I.hok e
  refine wpAny_in_heap (tupleKind_room_in1 hu) (jT I.hok eb) hd dd ?_
  have q:=(rel.val k).isSome_eq
  rw [Option.isSome_map] at q
  rw [← q,← l]
  exact h _ (I.tok _)
theorem y4 {Q:Value→Shared→Prop}(hu:A.units+1 < cLine)(I:Inv X pins σ H s)(g:DGet H a y o)(ry:RelV y u)(h:∀ s',Inv X pins σ H s'→Q (.bool (!o.isSome)) s') :
  wpAny (model X.prog X.w) A (compareOp .NotIn u (.ref a)) Q E s:=by
 rcases g with ⟨kvs,k,e,ey,l⟩ | ⟨kvs,k,b,e,ey,eb,l⟩
 ·subst ey
  obtain ⟨z,hd,vs,rel,dd⟩:=lV I.hok e
  refine wpAny_notIn_of (nh ry) hd dd.mapOf ?_
  rw [← (rel.val k).isSome_eq,← l]
  exact h _ (I.tok _)
 ·subst ey
  cases (show u=Value.ref b from ry)
  obtain ⟨z,hd,xs,rel,dd⟩:=ni I.hok e
  refine wpAny_notIn_heap (tupleKind_room_in1 hu) (jT I.hok eb) hd dd ?_
  have q:=(rel.val k).isSome_eq
  rw [Option.isSome_map] at q
  rw [← q,← l]
  exact h _ (I.tok _)
theorem nj {h':Heap}{t':Nat}{ob:HO}(I:Inv X pins σ H s)(mu:Mut (H a))(hs:Heap.SameBut a s.heap h')(he:∃ q,h'.get? a=some q)(new:ObjOk X.prog X.w (upd H a ob) h' a ob) :
  Inv X pins σ (upd H a ob) { s with heap:=h',toks:=t' } :=
 I.write (x:=a) (e:=a) mu (.inl rfl) (fun b q hb z=>(hs.2 b hb).trans z) he new
theorem xp {P:Program}{w:World}{H':Hp}{h':Heap}{kvs:List (Key×V)}{vs:List (Key×Value)}(z:kvs.length≤sizeLine)(hd:(a == sysModules)=false)(rel:KV kvs vs)(dd:h'.DictOf (cn P w) a vs) :
  ObjOk P w H' h' a (.dK kvs):=⟨z,hd,vs,rel,dd⟩
theorem rj {H':Hp}{Q:Unit→Shared→Prop}(hu:A.units+1 < cLine)(I:Inv X pins σ H s)(g:Fh H a y v H')(ry:RelV y u)(rv:RelV v r)(h:∀ s',Inv X pins σ H' s'→Q () s') :
  wpAny (model X.prog X.w) A (setItem (.ref a) u r) Q E s:=by
 rcases g with ⟨kvs,k,e,ey,l,eH⟩ | ⟨kvs,k,b,e,ey,eb,l,eH⟩
 ·subst ey eH
  obtain ⟨z,hd,vs,rel,dd⟩:=Ch I.hok e
  have hz:vs.length≤sizeLine:=by rw [← rel.length]; exact z
  have hl:(lB kvs k v).length≤sizeLine:=by have:=gf kvs k v; nofun
  refine wpAny_setItem_pairs (hsz:=hz) (nh ry) dd fun h' dd' hs=>h _ ?_
  have he:∃ q,h'.get? a=some q:=let ⟨q,_,_,hq,_⟩:=dd'; ⟨q,hq⟩
  exact nj I (by rw [e]; exact True.intro) hs he (xp hl hd (rel.put k rv) dd')
 ·subst ey eH
  cases (show u=Value.ref b from ry)
  obtain ⟨z,hd,xs,rel,dd⟩:=Ez I.hok e
  have hz:xs.length≤sizeLine:=by rw [← Paired.length rel]; exact z
  have hl:(lB kvs k v).length≤sizeLine:=by have:=gf kvs k v; nofun
  refine wpAny_setItem_heap (hsz:=hz) (tupleKind_room_in1 hu) (jT I.hok eb) dd fun h' dd' hs=>h _ ?_
  obtain ⟨q,es,ep,hq,h2,h3,h4,_,h5⟩:=dd'
  refine nj I (by rw [e]; exact True.intro) hs ⟨q,hq⟩ ⟨hl,hd,_,(rel.put k eb rv).keeps fun c ys ec=>?_,q,es,ep,hq,h2,h3,h4,h5⟩
  rw [bR (Eb ec e (fun z=>nomatch z))]
  exact ec
end
section
variable {X:Cx} {pins:List (Addr×Obj)} {σ:St} {H:Hp} {s:Shared} {a:Addr} {kvs:List (Key×V)} {k:Key} {u:Value} {A:Around} {E:Value→Shared→Prop}
theorem EA {Q:Value→Shared→Prop}(I:Inv X pins σ H s)(e:Rd H a (.dK kvs))(h:∀ t s',Inv X pins σ H s'→Q (.int kvs.length t) s'):wpAny (model X.prog X.w) A (call (.builtin "len") [.ref a]) Q E s:=by
 obtain ⟨z,hd,vs,rel,dd⟩:=lV I.hok e
 refine call_len_dict hd dd (by rw [← rel.length]; rw [sizeLine_eq] at z; nofun) ?_
 rw [← rel.length]
 exact h _ _ (I.tok _)
end
theorem nk {X:Cx}{pins:List (Addr×Obj)}{σ:St}{H:Hp}{s:Shared}{a:Addr}{y:V}{o:Option V}(I:Inv X pins σ H s)(g:DGet H a y o):s.TypeIs (.ref a) "dict" := by
 rcases g with ⟨kvs,k,e,_,_⟩ | ⟨kvs,k,b,e,_,_,_⟩
 ·obtain ⟨_,_,vs,_,dd⟩:=lV I.hok e
  exact dd.typeIs
 ·obtain ⟨_,_,xs,_,dd⟩:=ni I.hok e
  exact dd.typeIs
def y6 (td ty tv:TE):TS:=fun D σ H=>tv σ H fun v H1=>td σ H1 fun x H2=>ty σ H2 fun y H3=>∃ a H4,x=.ref a∧Fh H3 a y v H4∧D.nx σ H4
section
variable {X:Cx} {o i e value:Expr} {pos pos' tpos:Pos} {td ty tv:TE}
theorem y8 (hu:X.A.units+1 < cLine)(ho:PE X o td)(hi:PE X i ty)(hv:PE X value tv)(hs:swapsWith value (some (.Subscript o i pos')) pos.line X.env=pure false) :
  PS X (.Assign [.Subscript o i pos'] value pos) (y6 td ty tv):=by
 intro pins s σ H D I h
 refine wpAny_Assign_Subscript (thn (hv pins s σ H _ I h) fun r s1 ⟨v,H1,I1,rv,q1⟩=>thn (ho pins s1 σ H1 _ I1 q1) fun u s2 ⟨x,H2,I2,rx,q2⟩=>thn (hi pins s2 σ H2 _ I2 q2) fun iv s3 ⟨y,H3,I3,ry,a,H4,ex,g,q3⟩=>?_) hs
 subst ex
 obtain rfl:u=Value.ref a:=rx
 exact rj hu I3 g ry rv fun s4 I4=>⟨σ,H4,I4,q3⟩
end
theorem n9 {P:Program}{w:World}{H:Hp}(h:Heap)(hb:sysModules < h.objs.size):ObjOk P w H (h.push { cls:=.type "dict", data:=.dict #[] }) h.objs.size (.dK []) :=
 ⟨Nat.zero_le _,beq_eq_false_iff_ne.mpr (Ne.symm (Nat.ne_of_lt hb)),[],.nil,Heap.DictOf.new h⟩
def oa:TE:=fun _ H Q=>∀ p,H p=none→Q (.ref p) (upd H p (.dK []))
section
variable {X:Cx} {pos:Pos}
theorem u7:PE X (.Dict [] [] pos) oa:=fun pins s σ H Q I h =>
 wpAny_Dict_empty ⟨.ref s.heap.objs.size,_,I.laid (a:=s.heap.objs.size) (o:=.dK []) (t':=s.toks) (fun _ _ q=>Heap.get?_push_of_some _ q) (Nat.le_refl _) (n9 s.heap I.big),rfl,h _ (I.hok.fresh (Nat.le_refl _))⟩
end
def og:List (TE×TE)→St→Hp→(List (V×V)→Hp→Prop)→Prop
 | [],_,H,Q=>Q [] H
 | (tk,tv)::r,σ,H,Q=>tk σ H fun x H1=>tv σ H1 fun y H2=>og r σ H2 fun ps H3=>Q ((x,y)::ps) H3
abbrev VV:List (V×V)→List (Value×Value)→Prop:=Paired fun p q=>RelV p.1 q.1∧RelV p.2 q.2
def PPs (X:Cx)(pos:Pos)(keys:List (Option Expr))(values:List Expr)(trs:List (TE×TE)):Prop :=
 ∀ (pins:List (Addr×Obj)) (s:Shared) (σ:St) (H:Hp) (Q:List (V×V)→Hp→Prop),Inv X pins σ H s→og trs σ H Q →
  wpAny (model X.prog X.w) X.A (evalPairs (pairTrees keys values X.env pos)) (fun vs s'=>∃ ps H',Inv X pins σ H' s'∧VV ps vs∧Q ps H') X.xe s
theorem za {X:Cx}{pos:Pos}:PPs X pos [] [] []:=fun pins s σ H Q I h=>pairTrees_nil_walk ⟨[],H,I,.nil,h⟩
theorem u8 {X:Cx}{pos:Pos}{k v:Expr}{ks:List (Option Expr)}{vs:List Expr}{tk tv:TE}{trs:List (TE×TE)}(hk:PE X k tk)(hv:PE X v tv)(hr:PPs X pos ks vs trs) :
  PPs X pos (some k::ks) (v::vs) ((tk,tv)::trs):=fun pins s σ H Q I h =>
 pairTrees_cons_walk (thn (hk pins s σ H _ I h) fun u s1 ⟨x,H1,I1,rx,q1⟩=>thn (hv pins s1 σ H1 _ I1 q1) fun w2 s2 ⟨y,H2,I2,ry,q2⟩ =>
  thn (hr pins s2 σ H2 _ I2 q2) fun ws s3 ⟨ps,H3,I3,rel,q3⟩=>⟨(x,y)::ps,H3,I3,.cons ⟨rx,ry⟩ rel,q3⟩)
def jU (kvs more:List (Key×V)):List (Key×V):=more.foldl (fun acc kv=>lB acc kv.1 kv.2) kvs
theorem KV.merge:∀ {more:List (Key×V)} {rs:List (Key×Value)} {kvs:List (Key×V)} {vs:List (Key×Value)},KV more rs→KV kvs vs→KV (jU kvs more) (merged vs rs):=by
 intro more rs kvs vs r
 unfold KV at r
 induction r generalizing kvs vs with
 | nil=>intro q; exact q
 | @cons p q ps qs h t ih =>
  intro r0
  have e:KV (lB kvs p.1 p.2) (stored vs q.1 q.2):=by
   have:=r0.put p.1 h.2
   rw [← h.1]; exact this
  exact ih e
theorem gv:∀ (more kvs:List (Key×V)),(jU kvs more).length≤kvs.length+more.length
 | [],kvs=>by show kvs.length≤kvs.length+0; nofun
 | p::r,kvs=>by
  have h1:=gv r (lB kvs p.1 p.2)
  have h2:=gf kvs p.1 p.2
  show (jU (lB kvs p.1 p.2) r).length≤_
  rw [List.length_cons]; nofun
theorem jV {P:Program}{w:World}:∀ {kvs:List (Key×V)} {ws:List (Value×Value)},VV (kvs.map fun kv=>(kV kv.1,kv.2)) ws→∃ rs,Carries (cn P w) ws rs∧KV kvs rs
 | [],_,r=>by rw [List.map_nil] at r; cases r; exact ⟨[],True.intro,.nil⟩
 | p::kvs,_,r=>by
  rw [List.map_cons] at r
  cases r with
  | @cons a b as bs h t =>
   obtain ⟨rs,c,q⟩:=jV (P:=P) (w:=w) t
   obtain ⟨b1,b2⟩:=b
   exact ⟨(p.1,b2)::rs,⟨nh h.1,rfl,c⟩,.cons ⟨rfl,h.2⟩ q⟩
def zb (trs:List (TE×TE)):TE:=fun σ H Q=>∀ p,H p=none→og trs σ (upd H p (.dK [])) fun ps H2=>H2 p=some (.dK [])∧∃ kvs:List (Key×V),ps=kvs.map (fun kv=>(kV kv.1,kv.2))∧kvs.length≤15∧Q (.ref p) (upd H2 p (.dK (jU [] kvs)))
theorem zc {X:Cx}{pos:Pos}{keys:List (Option Expr)}{values:List Expr}{trs:List (TE×TE)}(h:PPs X pos keys values trs)(hall:keys.all (·.isSome)=true)(hl:keys.length=values.length)(h0:keys≠[])
  (h15:keys.length≤15):PE X (.Dict keys values pos) (zb trs):=by
 intro pins s σ H Q I q
 have hn:=I.hok.fresh (Nat.le_refl s.heap.objs.size)
 have I1:=I.laid (a:=s.heap.objs.size) (o:=.dK []) (h':=s.heap.push { cls:=.type "dict", data:=.dict #[] }) (t':=s.toks) (fun _ _ q=>Heap.get?_push_of_some _ q) (Nat.le_refl _) (n9 s.heap I.big)
 refine wpAny_Dict_walk (knd:=cn X.prog X.w) hall hl h0 h15 (thn (h pins _ σ _ _ I1 (q _ hn)) fun ws s2 ⟨ps,H2,I2,rel,e,kvs,ep,lk,q2⟩=>?_)
 subst ep
 obtain ⟨rs,c,rk⟩:=jV (P:=X.prog) (w:=X.w) rel
 obtain ⟨z,hd,vs0,r0,dd⟩:=Ch I2.hok e
 cases r0
 refine ⟨rs,c,dd,fun h' dd' hs=>⟨.ref s.heap.objs.size,_,?_,rfl,q2⟩⟩
 have hz:(jU [] kvs).length≤sizeLine:=by
  have h1:=gv kvs []
  rw [List.length_nil] at h1
  rw [sizeLine_eq]; nofun
 have he:∃ q,h'.get? s.heap.objs.size=some q:=let ⟨q,_,_,hq,_⟩:=dd'; ⟨q,hq⟩
 exact nj I2 (by rw [e]; exact True.intro) hs he (xp hz hd (rk.merge .nil) dd')
structure M2 (X:Cx)(o:Expr)(m:Str)(apos:Pos)(e f:Expr)(cpos:Pos):Prop where
 base:attributeBase o m X.env (eval o X.env)=eval o X.env
 few:((backTo cpos (starEach [e,f] X.env)).all (fun x=>!x.1) && (backToKw cpos (keywordEach [] X.env)).all (fun x=>x.1.isSome)
  && decide (([e,f]:List Expr).length+([]:List Keyword).length+(if ([]:List Keyword).isEmpty then 0 else 1) < 30))=true
 line:(apos.endLine == cpos.line)=true
 trees:backTo cpos (starEach [e,f] X.env)=[(false,eval e X.env),(false,eval f X.env)]
def IsD (H:Hp)(a:Addr):Prop:=(∃ kvs,Rd H a (.dK kvs))∨∃ kvs,Rd H a (.dT kvs)
theorem Ci {X:Cx}{pins:List (Addr×Obj)}{σ:St}{H:Hp}{s:Shared}{a:Addr}(I:Inv X pins σ H s)(d:IsD H a) :
  s.TypeIs (.ref a) "dict" ∧ (∀ b,Value.ref a=.ref b→∃ ob,s.heap.get? b=some ob∧ob.dict=none)∧(a == sysModules)=false:=by
 rcases d with ⟨kvs,e⟩ | ⟨kvs,e⟩
 ·obtain ⟨_,hd,vs,_,dd⟩:=lV I.hok e
  refine ⟨dd.typeIs,fun b q=>?_,hd⟩
  cases q
  obtain ⟨ob,_,_,h1,h2,_⟩:=dd
  exact ⟨ob,h1,h2.2.1⟩
 ·obtain ⟨_,hd,xs,_,dd⟩:=ni I.hok e
  refine ⟨dd.typeIs,fun b q=>?_,hd⟩
  cases q
  obtain ⟨ob,_,_,h1,h2,_⟩:=dd
  exact ⟨ob,h1,h2.2.1⟩
section
variable {X:Cx} {pins:List (Addr×Obj)} {σ:St} {H:Hp} {s:Shared} {a:Addr} {y d:V} {u r:Value} {o:Option V} {A:Around} {E:Value→Shared→Prop}
theorem Cj {Q:Value→Shared→Prop}(hu:A.units+1 < cLine)(I:Inv X pins σ H s)(g:DGet H a y o)(ry:RelV y u)(rd:RelV d r)(h:∀ w' s',Inv X pins σ H s'→RelV (o.getD d) w'→Q w' s') :
  wpAny (model X.prog X.w) A (call (.builtin "dict.get") [.ref a,u,r]) Q E s:=by
 rcases g with ⟨kvs,k,e,ey,l⟩ | ⟨kvs,k,b,e,ey,eb,l⟩
 ·subst ey
  obtain ⟨z,hd,vs,rel,dd⟩:=lV I.hok e
  refine call_meetsIn PySem.F.slot_dict_get dd.typeIs PySem.F.entry_dict_get (PySem.F.args_dict_get_3 _ _ _) (meets_dict_get_default (cn X.prog X.w) a (nh ry) hd r) ⟨_,dd.mapOf,h _ _ (I.tok _) ?_⟩
  rw [l]
  exact (rel.val k).getD rd
 ·subst ey
  cases (show u=Value.ref b from ry)
  obtain ⟨z,hd,xs,rel,dd⟩:=ni I.hok e
  refine call_meetsIn PySem.F.slot_dict_get dd.typeIs PySem.F.entry_dict_get (PySem.F.args_dict_get_3 _ _ _) (meetsH_dict_get_default (tupleKind (cn X.prog X.w)) a b hd r) ⟨tupleKind_room_in1 hu,k,xs,jT I.hok eb,dd,h _ _ (I.tok _) ?_⟩
  rw [l]
  exact (rel.val k).getD rd
end
def rl (td ty tx:TE):TE:=fun σ H Q=>td σ H fun x H1=>∃ a,x=.ref a∧IsD H1 a∧ty σ H1 fun y H2=>tx σ H2 fun z H3=>∃ o,DGet H3 a y o∧Q (o.getD z) H3
section
variable {X:Cx} {o e f:Expr} {apos cpos:Pos} {td ty tx:TE}
theorem u9 (hu:X.A.units+1 < cLine) (ho:PE X o td) (he:PE X e ty) (hf:PE X f tx) (m:M2 X o "get" apos e f cpos):PE X (.Call (.Attribute o "get" apos) [e,f] [] cpos) (rl td ty tx):=by
 intro pins s σ H Q I h
 refine wpAny_Call_method m.base m.few m.line PySem.F.plainAttrs_dict PySem.F.slot_dict_get PySem.F.type_dict_get (thn (ho pins s σ H _ I h) fun u s1 ⟨x,H1,I1,rx,a,ex,d,q1⟩=>?_)
 subst ex
 obtain rfl:u=Value.ref a:=rx
 obtain ⟨t1,t2,_⟩:=Ci I1 d
 refine ⟨t1,t2,?_⟩
 rw [m.trees]
 refine Calls.callWith_builtin rfl (Calls.evalArgs_plain (Calls.spliced_cons (thn (he pins s1 σ H1 _ I1 q1) fun iv s2 ⟨y,H2,I2,ry,q2⟩ =>
  Calls.spliced_cons (thn (hf pins s2 σ H2 _ I2 q2) fun fv s3 ⟨z,H3,I3,rz,ov,g,q3⟩=>Calls.spliced_nil ?_))))
 exact Cj hu I3 g ry rz fun w' s4 I4 rw'=>⟨_,H3,I4,rw',q3⟩
end
section
variable {X:Cx} {pins:List (Addr×Obj)} {σ:St} {H:Hp} {s:Shared} {a:Addr} {kvs:List (Key×V)} {A:Around} {E:Value→Shared→Prop}
end
section
variable {X:Cx} {pins:List (Addr×Obj)} {σ:St} {H:Hp} {s:Shared} {a:Addr} {y:V} {u:Value} {A:Around} {E:Value→Shared→Prop}
end
end L2
namespace Att
open PySem PySem.W PySem.Calls PyProof.Rows
theorem i0 {P:Params}{h:Heap}:∀ (ns:List Int) (vs:List Value),WellAll P h vs (ns.map WData.int)→IntsAre vs ns:=by
 intro ns
 induction ns with
 | nil =>
  intro vs w
  rw [List.map_nil] at w
  cases w
  exact .nil
 | cons n ns ih =>
  intro vs w
  rw [List.map_cons] at w
  cases w with
  | cons a b =>
   cases a
   exact .cons _ _ (ih _ b)
theorem rm {l:OpenLaw}{n:Nat}(hn:l.most=some n){P:Params}{h:Heap}{args:List WData}{vals:List Value}
  (hpre:l.row.toRowW.claim.pre args=true) (hwl:WellAll P h vals args) :
  ∃ a vs ns,vals=[Value.ref a]∧args=[WData.list (ns.map WData.int)]∧h.get? a=some { cls:=.type "list", data:=.seq vs.toArray }∧IntsAre vs ns∧ns.length≤n:=by
 have hsh:WShape.hasAll [] args [.list .int]=true:=(pre_splitW hpre).1
 have hc:l.pre.holds [] { args:=args }=true:=(pre_splitW hpre).2
 obtain ⟨d,r,rfl,h1,h2⟩:=hasAllW_cons hsh
 obtain rfl:=hasAllW_nil h2
 obtain ⟨xs,rfl,h3⟩:=hasW_list h1
 obtain ⟨ns,rfl⟩:=items_int h3
 have hlen:ns.length≤n:=by
  unfold OpenLaw.pre at hc
  have h4:(WTm.not (.lt (.lit (.int (n:Int))) (.len (.arg 0)))).holds [] { args:=[.list (ns.map .int)] }=true:=by
   have h4:=(holds_andW hc).1
   rw [hn] at h4
   exact h4
  have h5:=condW_of h4 (w_not (w_lt w_lit (w_len_list (w_arg rfl))))
  rw [List.length_map] at h5
  refine Nat.le_of_not_lt fun q=>?_
  have q':(n:Int) < ((ns.length:Nat):Int):=by nofun
  first
   | (rw [decide_eq_true q'] at h5; exact absurd h5 (by decide))
   | (simp at h5; nofun)
 cases hwl with
 | cons w1 w2 =>
  cases w2
  cases w1 with
  | list ho hall=>exact ⟨_,_,ns,rfl,rfl,ho,i0 ns _ hall,hlen⟩
theorem rn (l:OpenLaw)(args:List WData):l.row.toRowW.claim.post args (.bool true) args=true :=
 postW_of (r:=l.row.toRowW) (X:=(true == true))
  (show WShape.has [] (.bool true) .bool=true by first | rfl | decide | simp [WShape.has,WShape.arms,WShape.armsAll])
  (show (WTm.eq .res (.lit (.bool true))).value [] { args:=args,res:=some (.bool true),after:=args }=some (.bool (true == true)) from w_eq_bool (w_res rfl) w_lit) rfl
theorem attach_call {l:OpenLaw}{n:Nat}{q:Program}{loose:List Str}{XP:(Str→Option Value)→Heap→Prop}{YP:World→Heap→Prop}{d:DefRec}
  (hn:l.most=some n) (hdf:d.params.defaults=[])
  (call:∀ (w:World) (s₀ s₁:Shared) (mg mb:Str→Option Value) (fa:Addr) (o:Obj) (pm cd doc:Value) (a:Addr) (vs:List Value) (ns:List Int),
   Ground q loose [] XP w s₀ mg mb s₁.heap→YP w s₁.heap →
   s₁.heap.get? fa=some o→o.data=.func (docDef d.name d.params d.body d.scope pm cd doc)→s₁.heap.CodeRec cd d.name→mg d.name=some (.ref fa) →
   s₁.heap.get? a=some { cls:=.type "list", data:=.seq vs.toArray }→IntsAre vs ns→ns.length≤n→s₁.gens=#[] →
   codeAny (model l.prog w) callerA (.call (.ref fa) ⟨[.ref a],[]⟩) (fun r s'=>r=.ok (.ret (.bool true))∧OldK s₁.heap s'.heap∧s'.os=s₁.os∧AllBare s'.gens) s₁) :
  WalkO q loose XP YP l.row.toRowW d [] (fun f vs=>PySem.call f vs):=by
 intro w s₀ s₁ mg mb G Y fa o pm cd doc dV kV ho hd hcd hD hmg hg args vals as hpre hlay hrd hwl hlo
 obtain rfl:dV=.none:=Dflts.none hD hdf
 obtain rfl:kV=.none:=Dflts.noKw hD
 obtain ⟨a,vs,ns,rfl,rfl,hobj,hints,hlen⟩:=rm hn hpre hwl
 refine enter_call (codeAny_mono (call w s₀ s₁ mg mb fa o pm cd doc a vs ns G Y ho (fd_plain hd) hcd hmg hobj hints hlen hg) fun r s' hq=>?_)
 obtain ⟨rfl,h2,h3,h4⟩:=hq
 exact ⟨.inl ⟨.bool true,.bool true,[],rfl,fun _=>rfl,.bool true,rn l _,fun _=>⟨List.Pairwise.nil,fun _ hm=>(nomatch hm)⟩⟩,h2,h3,h4⟩
section
variable {prog:Program} {w:World} {A:Around} {E:Value→Shared→Prop} {s:Shared} {K:Frag}
def rp (h:Heap):Heap:={ h with objs:=#[] }
theorem noObjs_get (h:Heap)(b:Addr):(rp h).get? b=none:=by
 cases e:(rp h).get? b with
 | none=>rfl
 | some o=>exact absurd (Heap.lt_size e) (Nat.not_lt_zero _)
theorem fr_all {h:Heap}{L:Addr}{m:Str→Option Value}(n:h.Ns L m):Fr (rp h) L h m :=
 ⟨n,fun b o e=>(by rw [noObjs_get] at e; cases e),Nat.zero_le _⟩
end
end Att
namespace L2
open PySem PySem.Spec PyProof.Rows
theorem lW:∀ {vs:List Value} {ns:List Int},IntsAre vs ns→Vals (ns.map V.int) vs
 | _,_,.nil=>.nil
 | _,_,.cons n t h=>.cons ⟨t,rfl⟩ (lW h)
def EB (H:Hp):Prop:=∀ b,H b=none∨∃ o xs,H b=some (.frz o (.lst xs))
theorem va {P:Program}{w:World}{K:PySem.W.Frag}{mg mb:Str→Option Value}{CX:CXT}{k:Nat}{fa a:Addr}{fd:FuncData}{x:Str}{sp:Sp}{s₁:Shared}{vs:List Value}{ns:List Int}
  (KX:K.In s₁.heap) (hns:s₁.heap.Ns mainGlobals mg) (hb:s₁.heap.Ns builtinsNs mb) (hbb:∀ x:Str,x ≠ "__name__" → mb x=bootBuiltins x) (hlim:s₁.heap.NoLimit) (hg:s₁.gens=#[])
  (ha:s₁.heap.get? a=some { cls:=.type "list", data:=.seq vs.toArray }) (hi:IntsAre vs ns) (hl:ns.length≤sizeLine) (hr:Room k callerA)
  (F:∀ base:Heap,K.In base→base.Ns mainGlobals mg→FnOk P w K mg base CX k fa fd [x] sp) (hbind:∀ (s:Shared) (u:Value),BindsTo s fd ⟨[u],[]⟩ [(x,u)])
  (hsp:∀ H:Hp,EB H→SqL K H a (ns.map V.int)→sp [.ref a] H (fun v _=>v=.bl true) fun _ _ _=>False)
  (hCX:∀ H e s',CX [] H s₁ (fun _ _ _=>False) e s'→False) :
  codeAny (model P w) callerA (.call (.ref fa) ⟨[.ref a],[]⟩) (fun r s'=>r=.ok (.ret (.bool true))∧OldK s₁.heap s'.heap∧s'.os=s₁.os∧AllBare s'.gens) s₁:=by
 have rv:=lW hi
 have lenV:=hi.length
 -- from an abstract heap in which nothing but the script may be tracked
 have core:∀ H:Hp,EB H→SqL K H a (ns.map V.int)→HOk P w H s₁.heap→(∀ b,H b≠none→b=a)→(H a≠none→K.lookup a=none) →
   codeAny (model P w) callerA (.call (.ref fa) ⟨[.ref a],[]⟩) (fun r s'=>r=.ok (.ret (.bool true))∧OldK s₁.heap s'.heap∧s'.os=s₁.os∧AllBare s'.gens) s₁:=by
  intro H hO hS hok hA hK
  have base_of:∀ {b:Addr} {o:Obj},s₁.heap.get? b=some o→H b=none→(uQ s₁.heap H).get? b=some o:=fun e n=>uR e n
  have noA:∀ {b:Addr} {o:Obj} {es:Array DictEntry} {ep:Nat},s₁.heap.get? b=some o→o.data=.dict es ep→H b=none:=fun {b o es ep} e d=>by
   cases q:H b with
   | none=>rfl
   | some u =>
    have e':b=a:=hA b (by rw [q]; simp)
    subst e'
    rw [ha] at e; cases e
    have d':Data.seq vs.toArray _=Data.dict es ep:=d
    cases d'
  have nsK:∀ {b:Addr} {m:Str→Option Value},s₁.heap.Ns b m→(uQ s₁.heap H).Ns b m:=fun {b m} ⟨o,es,ep,e,d,r⟩=>⟨o,es,ep,base_of e (noA e d),d,r⟩
  have hKb:K.In (uQ s₁.heap H):=fun b o e=>base_of (KX b o e) (by
   cases q:H b with
   | none=>rfl
   | some u =>
    have e':b=a:=hA b (by rw [q]; simp)
    subst e'
    rw [hK (by rw [q]; simp)] at e; cases e)
  have hM:Mod K mg (uQ s₁.heap H):=⟨hKb,nsK hns,⟨mb,nsK hb,hbb⟩,let ⟨mc,h1,h2⟩:=hlim; ⟨mc,nsK h1,h2⟩⟩
  have e0:Env0 P w K mg (uQ s₁.heap H) callerA [] s₁ H:=⟨rfl,hM,fun b o e=>yr e,Nat.le_of_eq (qJ _ _),trivial,fun b hb=>absurd (show b ∈ ([]:List Addr) from hb) (by simp),hok,.of_eq hg⟩
  refine codeAny_mono ((F _ hKb (nsK hns)).run callerA [] s₁ H ⟨[.ref a],[]⟩ [.ref a] [.ref a] _ _ hr e0 (hbind s₁ (.ref a)) (.cons rfl .nil) (hsp H hO hS)) fun r s' h=>?_
  cases r with
  | error e=>exact (hCX H e s' h).elim
  | ok fl =>
   cases fl with
   | next=>exact False.elim h
   | brk=>exact False.elim h
   | cont=>exact False.elim h
   | ret u =>
    obtain ⟨v,H',os,bare,un,hok',r',q⟩:=h
    have q':v=.bl true:=q
    subst q'
    obtain rfl:u=Value.bool true:=r'
    refine ⟨rfl,OldK.of_keep fun b o e=>?_,os,bare⟩
    cases q:H b with
    | none=>exact un.keep b o e q (by intro z; exact absurd (show b ∈ ([]:List Addr) from z) (by simp)) (by simp)
    | some u =>
     rcases hO b with z | ⟨ob,xs,z⟩
     ·rw [q] at z; cases z
     ·have z2:=un.frzs b ob _ z
      obtain ⟨e1,_⟩:=hok b _ z
      obtain ⟨e2,_⟩:=hok' b _ z2
      rw [e] at e1; cases e1
      exact e2
 cases hk:K.lookup a with
 | some o =>
  -- the script is one of the module's own objects
  have e:=KX a o hk
  rw [ha] at e
  cases e
  refine core (fun _=>none) (fun _=>.inl rfl) (.inr ⟨_,vs.toArray,_,hk,rfl,rfl,rfl,by rw [List.size_toArray,lenV]; exact hl,by first|exact List.mem_singleton.mp rv|simpa using rv⟩) (fun b u z=>by have z':(none:Option HO)=some u:=z; cases z') (fun b z=>absurd rfl z) fun z=>absurd rfl z
 | none =>
  refine core (fun b=>if b=a then some (.frz { cls:=.type "list", data:=.seq vs.toArray } (.lst (ns.map V.int))) else none) (fun b=>?_) (.inl (.inr ⟨{ cls:=.type "list", data:=.seq vs.toArray },if_pos rfl⟩)) (fun b u z=>?_) (fun b z=>?_) fun _=>hk
  ·by_cases hb:b=a
   ·exact .inr ⟨_,_,if_pos hb⟩
   ·exact .inl (if_neg hb)
  ·by_cases hb:b=a
   ·have z':=(if_pos hb).symm.trans z
    cases z'
    subst hb
    exact ⟨ha,by rw [List.length_map]; exact hl,vs,_,rv,ha⟩
   ·have z':=(if_neg hb).symm.trans z
    cases z'
  ·by_cases hb:b=a
   ·exact hb
   ·exact absurd (if_neg hb) z
end L2
namespace L2
open PySem PySem.Spec PyProof.Rows
theorem walk_of {l:PySem.W.OpenLaw}{n k:Nat}{q:Program}{loose:List Str}{XP:(Str→Option Value)→Heap→Prop}{YP:World→Heap→Prop}{d:DefRec}{K:Params→PySem.W.Frag}{CX:World→CXT}{sp:World→Sp}{x:Str}
  (hn:l.most=some n) (hn2:n≤sizeLine) (hdf:d.params.defaults=[]) (hr:Room k callerA)
  (hY:∀ (w:World) (h:Heap),YP w h→(K w.params).In h)
  (F:∀ (w:World) (mg:Str→Option Value) (fa:Addr) (h:Heap),(K w.params).In h→h.Ns mainGlobals mg→mg d.name=some (.ref fa) →
   ∃ fd:FuncData,(∀ (s:Shared) (u:Value),BindsTo s fd ⟨[u],[]⟩ [(x,u)]) ∧
    ∀ base:Heap,(K w.params).In base→base.Ns mainGlobals mg→FnOk l.prog w (K w.params) mg base (CX w) k fa fd [x] (sp w))
  (hsp:∀ (w:World) (H:Hp) (a:Addr) (ns:List Int),ns.length≤n→EB H→SqL (K w.params) H a (ns.map V.int)→sp w [.ref a] H (fun v _=>v=.bl true) fun _ _ _=>False)
  (hCX:∀ (w:World) (H:Hp) (s:Shared) (e:Value) (s':Shared),CX w [] H s (fun _ _ _=>False) e s'→False) :
  PySem.W.WalkO q loose XP YP l.row.toRowW d [] (fun f vs=>PySem.call f vs):=by
 refine Att.attach_call hn hdf fun w s₀ s₁ mg mb fa o pm cd doc a vs ns G Y ho hd hcd hmg hobj hints hlen hg=>?_
 have KX:=hY w _ Y
 obtain ⟨fd,hb,hF⟩:=F w mg fa _ KX G.T.g hmg
 exact va KX G.T.g G.T.b G.T.builtins G.T.nolimit hg hobj hints (Nat.le_trans hlen hn2) hr hF hb (fun H hO hS=>hsp w H a ns hlen hO hS) fun H e s'=>hCX w H s₁ e s'
end L2
namespace L2
open PySem PySem.Spec PyProof.Rows
def bv (s:Stmt):Arguments:=match s with
 | .FunctionDef _ a _ _ _ _ _ _ _ _=>a
 | _=>{ posonlyargs:=[],args:=[],vararg:=none,kwonlyargs:=[],kw_defaults:=[],kwarg:=none,defaults:=[] }
def bf (s:Stmt):List Stmt:=match s with
 | .FunctionDef _ _ b _ _ _ _ _ _ _=>b
 | _=>[]
def ak (s:Stmt):Scope:=match s with
 | .FunctionDef _ _ _ _ _ _ sc _ _ _=>sc
 | _=>{ kind:=.function,names:=[],isGenerator:=false,isCoroutine:=false }
abbrev CX0:CXT:=fun _ _ _ _ _ _=>False
abbrev E0:XK:=fun _ _ _=>False
theorem EC {X:Cx}:rb CX0 X E0:=fun _ _ _ _ _ _ _ h=>h.elim
structure Fun (K:PySem.W.Frag)(x qual:Str)(st:Stmt)(f:Addr)(fd:FuncData):Prop where
 ex:∃ (oc:Value) (od:Option Addr) (kV doc pm:Value) (an:Option Addr) (cdv ct:Value) (osl:Array (Option Value)),
  fd=PySem.W.fnOf x qual (bv st) (bf st) (ak st) .none kV doc pm an cdv ct∧K.lookup f=some ⟨oc,od,.func fd,osl⟩∧PySem.W.codeIn K cdv qual=true
 kp:PySem.W.keepIn K (.ref f)=true
section
variable {P:Program} {w:World} {K:PySem.W.Frag} {mg:Str→Option Value} {base:Heap}
theorem Fun.ok {x qual:Str}{st:Stmt}{f:Addr}{fd:FuncData}{N ps:List Str}{k:Nat}{sp:Sp}(F:Fun K x qual st f fd)(S:FnScope N ps (ak st))(len:∀ vs H Q E,sp vs H Q E→vs.length=ps.length)
  (hbody:∀ (cdv:Value) (A:Around) (outer:List Env) (s:Shared) (H:Hp) (vs:List V) (Q:VK) (E:XK),Room k (A.deeper (envOfC qual (ak st) s.heap.objs.size f cdv))→sp vs H Q E →
   ∃ t,PSs (n5 CX0 P w K mg base N qual (ak st) f cdv A outer s H E).nox (bf st) t∧t { nx:=fun _ H'=>Q .non H',rt:=Q } (eh N vs) H):FnOk P w K mg base CX0 (k+1) f fd ps sp:=by
 obtain ⟨oc,od,kV,doc,pm,an,cdv,ct,osl,rfl,lk,hcd⟩:=F.ex
 refine B7 lk hcd S len fun A outer s H vs Q E hr hsp=>?_
 obtain ⟨t,h,q⟩:=hbody cdv A outer s H vs Q E hr hsp
 exact ⟨t,h.nox,q⟩
theorem Fun.binds {x qual:Str}{st:Stmt}{f:Addr}{fd:FuncData}{ps:List Str}(F:Fun K x qual st f fd)
  (h:∀ (kV doc pm:Value) (an:Option Addr) (cdv ct:Value) (us:List Value),us.length=ps.length→bindArgs (PySem.W.fnOf x qual (bv st) (bf st) (ak st) .none kV doc pm an cdv ct) ⟨us,[]⟩=pure (ps.zip us)):Binds K fd ps []:=by
 obtain ⟨oc,od,kV,doc,pm,an,cdv,ct,osl,rfl,lk,hcd⟩:=F.ex
 exact .all (h kV doc pm an cdv ct)
theorem cw {x qual:Str}{st:Stmt}{f:Addr}{oc:Value}{od an:Option Addr}{osl:Array (Option Value)}{kV doc pm cdv ct:Value}(l:K.lookup f=some ⟨oc,od,.func (PySem.W.fnOf x qual (bv st) (bf st) (ak st) .none kV doc pm an cdv ct),osl⟩)
  (c:PySem.W.codeIn K cdv qual=true) (k:PySem.W.keepIn K (.ref f)=true):Fun K x qual st f (PySem.W.fnOf x qual (bv st) (bf st) (ak st) .none kV doc pm an cdv ct):=⟨⟨oc,od,kV,doc,pm,an,cdv,ct,osl,rfl,l,c⟩,k⟩
end
theorem ED {A:Around}{k:Nat}(hr:Room k A):A.units+1 < cLine:=Nat.lt_of_le_of_lt (Nat.add_le_add_left (by decide:1≤64) _) hr.units
section
variable {X:Cx}
end
theorem Fi {A B:Prop}(h:B):if false=true then A else B:=by
 rw [if_neg Bool.false_ne_true]
 exact h
theorem EE {A B:Prop}(h:A):if true=true then A else B:=by
 rw [if_pos rfl]
 exact h
def Same (H H':Hp):Prop:=∀ b o,H b=some o→H' b=some o
theorem Same.refl (H:Hp):Same H H:=fun _ _ h=>h
theorem Same.trans {H H1 H2:Hp}(a:Same H H1)(b:Same H1 H2):Same H H2:=fun c o h=>b c o (a c o h)
theorem Same.free {H H':Hp}(e:Same H H'){l:Addr}(h:H' l=Option.none):H l=Option.none:=by
 cases q:H l with
 | none=>rfl
 | some o =>
  rw [e l o q] at h
  cases h
theorem Same.seq {K:PySem.W.Frag}{H H':Hp}{a:Addr}{xs:List V}(e:Same H H')(h:SqL K H a xs):SqL K H' a xs:=by
 rcases h with (h | ⟨o,h⟩) | h
 ·exact .inl (.inl (e _ _ h))
 ·exact .inl (.inr ⟨o,e _ _ h⟩)
 ·exact .inr h
section
variable {κ:Type} [DecidableEq κ]
end
end L2
namespace L2
open PySem PySem.Spec PyProof.Rows
section
variable {prog:Program} {w:World} {A:Around} {E:Value→Shared→Prop} {R:Result→Shared→Prop} {s:Shared}
theorem lX {elt target iter:Expr}{ifs:List Expr}{scope:Scope}{pos:Pos}{it acc:Value}{env:Env}(I:Nat→Shared→Prop)
  (turn:∀ n s,I n s→wpAny (model prog w) A (pyNext it) (fun r s₁=>match r with
   | none=>R (.ok .next) s₁
   | some v=>wpAny (model prog w) A (letOwnedTupleGo target it v) (fun _ s₁'=>wpAny (model prog w) A (assign target env v) (fun _ s₂ =>
     wpAny (model prog w) A (forIn ifs true fun c r=>if r=true then do let ok ← isTrue c env (eval c env); pure (ForInStep.yield ok) else pure (ForInStep.yield r)) (fun ok s₃ =>
      if ok=true then wpAny (model prog w) A (eval elt env) (fun x s₄ =>
       wpAny (model prog w) A (call (.builtin "list.append") [acc,x]) (fun _ s₅=>∃ m,m < n∧I m s₅) (fun _ _=>False) s₄) (fun _ _=>False) s₃
      else ∃ m,m < n∧I m s₃) (fun _ _=>False) s₂) (fun _ _=>False) s₁') (fun _ _=>False) s₁) (fun _ _=>False) s)
  (n:Nat) (h:I n s) :
  codeAny (model prog w) A (.compLoop (.ListComp elt [⟨target,iter,ifs,0⟩] scope pos) 0 it acc env) R s:=by
 refine codeAny_loop rfl I (fun n s hI=>?_) n h
 show wpAny _ A ((compTurn (.ListComp elt [⟨target,iter,ifs,0⟩] scope pos) 0 it acc env).onRaise (fun x=>do noteFrame x env; theTreesLotGoes x)) _ _ s
 refine wpAny_noted ?_
 rw [compTurn_list]
 refine wpAny_bind (wpAny_standAt (wpAny_bind (wpAny_mono (turn n s hI) (fun r s₁ h₁=>?_) fun _ _ h'=>h'.elim)))
 cases r with
 | none=>exact wpAny_pure h₁
 | some v =>
  refine wpAny_bind (wpAny_mono h₁ (fun _ s₁' h₁'=>?_) fun _ _ h'=>h'.elim)
  refine wpAny_bind (wpAny_mono h₁' (fun _ s₂ h₂=>wpAny_bind (wpAny_mono h₂ (fun ok s₃ h₃=>?_) fun _ _ h'=>h'.elim)) fun _ _ h'=>h'.elim)
  cases ok with
  | false=>exact wpAny_pure ⟨rfl,h₃⟩
  | true =>
   exact wpAny_bind (wpAny_bind (wpAny_mono h₃ (fun x s₄ h₄=>wpAny_bind (wpAny_mono h₄ (fun _ s₅ h₅=>wpAny_pure (wpAny_pure ⟨rfl,h₅⟩)) fun _ _ h'=>h'.elim)) fun _ _ h'=>h'.elim))
end
def Bm (X:Cx)(ifs:List Expr)(t:TT):Prop :=
 ∀ (pins:List (Addr×Obj)) (s:Shared) (σ:St) (H:Hp) (Q:Bool→Hp→Prop),Inv X pins σ H s→t σ H Q →
  wpAny (model X.prog X.w) X.A (forIn ifs true fun c r=>if r=true then do let ok ← isTrue c X.env (eval c X.env); pure (ForInStep.yield ok) else pure (ForInStep.yield r)) (TP X pins σ Q) X.xe s
def EG:TT:=fun _ H Q=>Q true H
theorem zd {X:Cx}:Bm X [] EG:=fun _ _ _ H _ I h=>wpAny_tests_nil ⟨H,I,h⟩
theorem ze {X:Cx}{c:Expr}{t:TT}(h:PT X c t):Bm X [c] t:=fun pins s σ H Q I q=>wpAny_tests_one (h pins s σ H Q I q)
def dA (X:Cx)(N:List Str)(scope:Scope)(cl:List (Str×Addr))(C:Addr)(s:Shared)(H:Hp)(fp:List Addr):Cx :=
 { X with N:=N,s₀:=s,H₀:=H,env:=compEnvC scope cl C X.env,outer:=X.stack,ex:=fp,fn:=fun _=>false,pn:=[],xe:=fun _ _=>False }
def lY (σ:St)(ixs:List Nat):St:=ixs.map fun i=>(σ[i]?).getD none
structure CompScope (X:Cx)(T F:List Str)(ixs:List Nat)(scope:Scope):Prop where
 kind:scope.kind=.function
 nocell:∀ y ∈ scope.names,y.2≠.cell
 names:∀ y ∈ scope.names,y.2=.local→scope.names.lookup y.1=some .local
 cap:∀ (j:Nat) (i:Nat) (x:Str),ixs[j]?=some i→F[j]?=some x→X.N[i]?=some x∧scope.names.lookup x=some .free
 len:ixs.length=F.length
 out:∀ y ∈ scope.names,y.2=.free→X.env.scope.names.lookup y.1=some .cell∨X.env.scope.names.lookup y.1=some .free
def bU (env:Env):List (Str×NameKind)→List (Str×Addr)→List (Str×Addr)
 | [],cs=>cs
 | (n,k)::r,cs=>if k == .free then bU env r ((n,(env.cells.lookup n).getD 0)::cs) else bU env r cs
theorem kE {env:Env}{scope:Scope}(h:∀ y ∈ scope.names,y.2=.free→∃ c,env.cells.lookup y.1=some c):closureFor scope env=pure (bU env scope.names []):=by
 unfold closureFor
 have gen:∀ (l:List (Str×NameKind)) (cs:List (Str×Addr)),(∀ y ∈ l,y.2=.free→∃ c,env.cells.lookup y.1=some c) →
   (do
    let mut cs:=cs
    for (name,kind) in l do
     if kind == .free then cs:=(name,← cellOf env name)::cs
    return cs:Sem (List (Str×Addr)))=pure (bU env l cs):=by
  intro l
  induction l with
  | nil=>intro cs _; rfl
  | cons p r ih =>
   intro cs hl
   obtain ⟨n,k⟩:=p
   have hr:=fun y hy=>hl y (List.mem_cons_of_mem _ hy)
   by_cases hk:k=.free
   ·obtain ⟨c,hc⟩:=hl (n,k) List.mem_cons_self hk
    have hc:env.cells.lookup n=some c:=hc
    have e:=ih ((n,(env.cells.lookup n).getD 0)::cs) hr
    subst hk
    simp only [bU,List.forIn_cons,hc,cellOf] at e ⊢
    simpa using e
   ·have e:=ih cs hr
    have hk':(k == NameKind.free)=false:=by first|exact List.mem_singleton.mp hk|simpa using hk
    simp only [bU,List.forIn_cons,hk',if_neg Bool.false_ne_true] at e ⊢
    simpa using e
 exact gen scope.names [] h
theorem en {env:Env}:∀ {l:List (Str×NameKind)} {cs:List (Str×Addr)} {x:Str} {c:Addr},(∀ y ∈ l,y.2=.free→∃ c,env.cells.lookup y.1=some c)→(∀ x c,cs.lookup x=some c→env.cells.lookup x=some c) →
  (bU env l cs).lookup x=some c→env.cells.lookup x=some c
 | [],cs,x,c,_,hc,h=>hc x c h
 | (n,k)::r,cs,x,c,hl,hc,h=>by
  have hr:=fun y hy=>hl y (List.mem_cons_of_mem _ hy)
  unfold bU at h
  split at h
  ·rename_i hk
   have hk':k=.free:=by first|exact List.mem_singleton.mp hk|simpa using hk
   obtain ⟨c0,h0⟩:=hl (n,k) List.mem_cons_self hk'
   have h0:env.cells.lookup n=some c0:=h0
   refine en hr (fun x' c' h'=>?_) h
   rw [List.lookup_cons] at h'
   split at h'
   ·rename_i e
    have e:x'=n:=by first|exact List.mem_singleton.mp e|simpa using e
    subst e
    rw [h0] at h' ⊢
    simpa using h'
   ·exact hc x' c' h'
  ·exact en hr hc h
theorem fF {env:Env}:∀ {l:List (Str×NameKind)} {cs:List (Str×Addr)} {x:Str},((x,NameKind.free) ∈ l∨∃ c,cs.lookup x=some c)→∃ c,(bU env l cs).lookup x=some c
 | [],cs,x,h=>by
  rcases h with h | h
  ·cases h
  ·exact h
 | (n,k)::r,cs,x,h=>by
  unfold bU
  split
  ·rename_i hk
   have hk':k=.free:=by first|exact List.mem_singleton.mp hk|simpa using hk
   refine fF ?_
   rcases h with h | h
   ·rcases List.mem_cons.mp h with e | h
    ·have e:x=n:=by injection e
     subst e
     exact .inr ⟨(env.cells.lookup x).getD 0,by rw [List.lookup_cons]; simp⟩
    ·exact .inl h
   ·obtain ⟨c,h⟩:=h
    refine .inr ?_
    rw [List.lookup_cons]
    split
    ·exact ⟨_,rfl⟩
    ·exact ⟨c,h⟩
  ·rename_i hk
   refine fF ?_
   rcases h with h | h
   ·rcases List.mem_cons.mp h with e | h
    ·have e:NameKind.free=k:=by injection e
     subst e
     simp at hk
    ·exact .inl h
   ·exact .inr h
theorem er {env:Env}:∀ {names:List (Str×NameKind)} {x:Str} {q:NameKind},
  (names.map fun (n,k)=>if (k == NameKind.free && env.scope.kind == .function && env.kindOf n == some .cell) then (n,NameKind.cell) else (n,k)).lookup x=some q →
  names.lookup x=some q∨(q=.cell∧names.lookup x=some .free)
 | [],_,_,h=>by simp at h
 | (n,k)::r,x,q,h=>by
  have ih:=@er env r x q
  rw [List.map_cons] at h
  dsimp only at h
  by_cases hc:(k == NameKind.free && env.scope.kind == .function && env.kindOf n == some .cell)=true
  ·rw [if_pos hc,List.lookup_cons] at h
   rw [List.lookup_cons]
   cases hx:x == n with
   | true =>
    rw [hx] at h
    have hk:k=.free:=by
     simp only [Bool.and_eq_true] at hc
     simpa using hc.1.1
    exact .inr ⟨(Option.some.inj h).symm,by rw [hk]⟩
   | false=>rw [hx] at h; exact ih h
  ·rw [if_neg hc,List.lookup_cons] at h
   rw [List.lookup_cons]
   cases hx:x == n with
   | true=>rw [hx] at h; exact .inl h
   | false=>rw [hx] at h; exact ih h
theorem io {env:Env}:∀ {names:List (Str×NameKind)} {x:Str},names.lookup x=some .free →
  (names.map fun (n,k)=>if (k == NameKind.free && env.scope.kind == .function && env.kindOf n == some .cell) then (n,NameKind.cell) else (n,k)).lookup x=some .cell ∨
  (names.map fun (n,k)=>if (k == NameKind.free && env.scope.kind == .function && env.kindOf n == some .cell) then (n,NameKind.cell) else (n,k)).lookup x=some .free
 | [],_,h=>by simp at h
 | (n,k)::r,x,h=>by
  have ih:=@io env r x
  rw [List.map_cons]
  dsimp only
  rw [List.lookup_cons] at h
  by_cases hc:(k == NameKind.free && env.scope.kind == .function && env.kindOf n == some .cell)=true
  ·rw [if_pos hc,List.lookup_cons]
   cases hx:x == n with
   | true=>exact .inl rfl
   | false=>rw [hx] at h; exact ih h
  ·rw [if_neg hc,List.lookup_cons]
   cases hx:x == n with
   | true=>rw [hx] at h; exact .inr h
   | false=>rw [hx] at h; exact ih h
def pN (no:Nat)(ixs:List Nat)(wi:TI)(g:TG)(tc:TT)(te:TE):TE:=fun σ H Q=>wi σ H fun J H1=>∀ D,H1 D=none→∃ W:Nat→Nat→List V→St→Hp→Prop,
 (∃ m,W 0 m [] (List.replicate no none++lY σ ixs) (upd H1 D (.lst [])))∧∀ i m acc σ' H',W i m acc σ' H' →
  (J.stop i H'∧Q (.ref D) H') ∨
  (J.go i H'∧∃ N:List V→St→Hp→Prop,(∀ acc' σ2 H2,N acc' σ2 H2→∃ m',m' < m∧W (i+1) m' acc' σ2 H2) ∧
   ∀ x H2,J.yld i H' x H2→g x σ' H2 fun σ3 H3=>tc σ3 H3 fun b H4=>if b=true then te σ3 H4 fun y H5=>H5 D=some (.lst acc)∧acc.length < sizeLine∧N (acc++[y]) σ3 (upd H5 D (.lst (acc++[y]))) else N acc σ3 H4)
section
variable {X:Cx} {pins:List (Addr×Obj)} {σ:St} {H:Hp} {s:Shared} {T F:List Str} {ixs:List Nat} {scope:Scope} {fp:List Addr}
theorem zf (I:Inv X pins σ H s)(S:CompScope X T F ixs scope)(hfp:∀ b ∈ fp,qM X pins H b)(hfo:∀ b ∈ fp,∃ o,s.heap.get? b=some o) :
  (dA X (T++F) scope (bU X.env scope.names []) s.heap.objs.size s H fp).Ok:=by
 have hall:∀ y ∈ scope.names,y.2=.free→∃ c,X.env.cells.lookup y.1=some c:=fun y hy hf=>by
  rcases S.out y hy hf with e | e
  ·exact I.ok.has _ (.inl e)
  ·exact I.ok.has _ (.inr e)
 have hcl:∀ x c,(bU X.env scope.names []).lookup x=some c→X.env.cells.lookup x=some c:=fun x c h=>en hall (fun _ _ z=>by simp at z) h
 refine ⟨I.ok.mod,S.kind,I.ok.glob,I.ok.blt,Nat.le_refl _,fun x y c h1 h2=>I.ok.inj x y c (hcl x c h1) (hcl y c h2),fun x hx=>?_,fun _ _ z=>(nomatch z),I.ok.hd,I.ok.frames,.inl rfl,fun b hb=>⟨?_,fun x c e=>?_⟩,I.bs,Nat.le_trans I.ok.bsz I.sz,fun b o e hb=>?_,fun b hb hz=>?_,I.stack,I.stkFree⟩
 ·have hx:(relabel scope X.env).names.lookup x=some .cell∨(relabel scope X.env).names.lookup x=some .free:=hx
  have hf:scope.names.lookup x=some .free:=by
   rcases hx with hx | hx
   ·rcases er hx with q | ⟨_,q⟩
    ·exact absurd rfl (S.nocell _ (PySem.mem_of_lookup q))
    ·exact q
   ·rcases er hx with q | ⟨z,_⟩
    ·exact q
    ·cases z
  exact fF (.inl (PySem.mem_of_lookup hf))
 ·obtain ⟨o,ho⟩:=hfo b hb
  exact Nat.ne_of_lt (Heap.lt_size ho)
 ·exact (hfp b hb).2.2.2.2.1 x c (hcl x c e)
 ·rcases (hfp b hb).2.2.2.1 with z | z
  ·exact I.ok.noex b o e z
  ·exact absurd (Nat.lt_of_lt_of_le (Heap.lt_size e) (Nat.le_trans I.ok.bsz z)) (Nat.lt_irrefl _)
 ·rcases List.mem_cons.mp (I.stkSub b hz) with e | z
  ·exact (hfp b hb).2.1 e
  ·exact (hfp b hb).2.2.1 z
theorem rq {σ:St}{ixs:List Nat}{j:Nat}{v:V}(h:(lY σ ixs)[j]?=some (some v)):∃ i,ixs[j]?=some i∧σ[i]?=some (some v):=by
 unfold lY at h
 rw [List.getElem?_map] at h
 cases e:ixs[j]? with
 | none=>rw [e] at h; cases h
 | some i =>
  rw [e] at h
  refine ⟨i,rfl,?_⟩
  have h:(σ[i]?).getD none=some v:=Option.some.inj h
  cases q:σ[i]? with
  | none=>rw [q] at h; cases h
  | some u=>rw [q] at h; exact congrArg some h
theorem vb (I:Inv X pins σ H s)(S:CompScope X T F ixs scope)(hfp:∀ b ∈ fp,qM X pins H b)(hfo:∀ b ∈ fp,∃ o,s.heap.get? b=some o){h':Heap}{t':Nat}{m:Str→Option Value}
  (hk:∀ b o,s.heap.get? b=some o→h'.get? b=some o) (hn:h'.Ns s.heap.objs.size m) :
  Inv (dA X (T++F) scope (bU X.env scope.names []) s.heap.objs.size s H fp) [] (List.replicate T.length none++lY σ ixs) H { s with heap:=h',toks:=t' }:=by
 have ok:=zf I S hfp hfo
 have hall:∀ y ∈ scope.names,y.2=.free→∃ c,X.env.cells.lookup y.1=some c:=fun y hy hf=>by
  rcases S.out y hy hf with e | e
  ·exact I.ok.has _ (.inl e)
  ·exact I.ok.has _ (.inr e)
 have hcl:∀ x c,(bU X.env scope.names []).lookup x=some c→X.env.cells.lookup x=some c:=fun x c h=>en hall (fun _ _ z=>by simp at z) h
 have cellK:∀ c v,s.heap.IsCell c v→h'.IsCell c v:=fun c v ⟨o,ho,hd⟩=>⟨o,hk c o ho,hd⟩
 refine ⟨ok,rfl,I.bare,Un.kept hk,⟨m,hn,fun j x v e1 e2 e3=>?_⟩,fun x c e=>?_,I.hok.fresh (Nat.le_refl _),fun x c e=>I.freeC x c (hcl x c e),fun p hp=>absurd (show p ∈ ([]:List (Addr×Obj)) from hp) (by simp),I.hok.kept hk,?_⟩
 ·have hj:T.length≤j:=by
   refine Nat.le_of_not_lt fun hj=>?_
   rw [List.getElem?_append_left (by first|exact List.mem_singleton.mp hj|simpa using hj),List.getElem?_replicate] at e2
   split at e2 <;> cases e2
  rw [List.getElem?_append_right (by first|exact List.mem_singleton.mp hj|simpa using hj),List.length_replicate] at e2
  have e1:(T++F)[j]?=some x:=e1
  rw [List.getElem?_append_right hj] at e1
  obtain ⟨i,hi,hv⟩:=rq e2
  obtain ⟨hN,hf⟩:=S.cap _ i x hi e1
  obtain ⟨m0,hn0,hl⟩:=I.loc
  have hm:=PySem.mem_of_lookup hf
  have hvis:X.env.scope.names.lookup x=some .cell∨X.env.scope.names.lookup x=some .free:=S.out _ hm rfl
  obtain ⟨u,ru,lk⟩:=hl i x v hN hv (hvis.elim (fun z=>.inr (.inl z)) fun z=>.inr (.inr z))
  refine ⟨u,ru,?_⟩
  rcases lk with ⟨kl,_⟩ | ⟨_,c,hc,hcell⟩
  ·have kl:X.env.scope.names.lookup x=some .local:=kl
   rcases hvis with z | z
   ·rw [kl] at z; cases z
   ·rw [kl] at z; cases z
  ·obtain ⟨c',hc'⟩:=fF (env:=X.env) (cs:=[]) (.inl hm)
   have e:c'=c:=by
    have:=hcl x c' hc'
    rw [hc] at this
    exact (Option.some.inj this).symm
   subst e
   exact .inr ⟨io hf,c',hc',cellK c' _ hcell⟩
 ·obtain ⟨v,q⟩:=I.cell x c (hcl x c e)
  exact ⟨v,cellK c v q⟩
 ·show _=(T++F).length
  rw [List.length_append,List.length_replicate,List.length_append,lY,List.length_map,S.len]
theorem oh {elt tg iter:Expr}{ifs:List Expr}{pos pos':Pos}{wi:TI}{g:TG}{tc:TT}{te:TE}(hc:X.calm=true)(S:CompScope X T F ixs scope)
  (hi:PI X tg iter wi)
  (hg:∀ C s H fp,PG (dA X (T++F) scope (bU X.env scope.names []) C s H fp) tg g)
  (ht:∀ C s H fp,Bm (dA X (T++F) scope (bU X.env scope.names []) C s H fp) ifs tc)
  (he:∀ C s H fp,PE (dA X (T++F) scope (bU X.env scope.names []) C s H fp) elt te)
  (hs:∀ x,foldedSetIterable iter X.env x=pure x) {use:Option (Value→Sem Unit)} {QQ:Value→Shared→Prop} {pins:List (Addr×Obj)} {s:Shared} {σ:St} {H:Hp} {Q:VK} (I:Inv X pins σ H s) (h:pN T.length ixs wi g tc te σ H Q)
  (fine:∀ (D C:Addr) (H5:Hp) (s6:Shared) (f:Flow),(∃ m,s6.heap.Ns C m)→H5 C=none→C≠X.env.locals→(∀ x c,X.env.cells.lookup x=some c→c≠C)→X.s₀.heap.objs.size≤C→(∀ p ∈ X.pn++pins,p.1≠C) →
   (∀ h7,Heap.SameBut C s6.heap h7→Inv X pins σ H5 { s6 with heap:=h7 })→Q (.ref D) H5→compPost (model X.prog X.w) X.A X.xe use QQ (.ref D) C (.ok f) s6) :
  wpAny (model X.prog X.w) X.A (comprehension (.ListComp elt [⟨tg,iter,ifs,0⟩] scope pos) scope X.env pos' (newList []) false (eval iter X.env) use) QQ X.xe s:=by
 have hall:∀ y ∈ scope.names,y.2=.free→∃ c,X.env.cells.lookup y.1=some c:=fun y hy hf=>by
  rcases S.out y hy hf with e | e
  ·exact I.ok.has _ (.inl e)
  ·exact I.ok.has _ (.inr e)
 refine wpAny_comprehension_free (use:=use) (cl:=bU X.env scope.names []) rfl hs (kE hall) S.kind S.names (thn (hi pins s σ H _ I h) fun v s1 h1=>thn h1 fun itv s2 h2=>?_)
 obtain ⟨it,fp,tn,J,H2,e,I2,TT,st2,f2,q2⟩:=h2
 subst e
 refine wpAny_newObj_type ?_
 -- the list is laid
 have I3:Inv X pins σ (upd H2 s2.heap.objs.size (.lst [])) { s2 with heap:=s2.heap.push { cls:=.type "list", dict:=none,data:=.seq ([]:List Value).toArray } } :=
  I2.laid (t':=s2.toks) (fun b u q=>Heap.get?_push_of_some _ q) (Nat.le_refl _) ⟨Nat.zero_le _,[],0,.nil,Heap.get?_push_size _ rfl⟩
 have hD:H2 s2.heap.objs.size=none:=I2.hok.fresh (Nat.le_refl _)
 have hfo:∀ b ∈ fp,∃ o,s2.heap.get? b=some o:=fun b hb=>let ⟨o,e,_⟩:=TT.obj _ _ st2 b hb; ⟨o,e⟩
 have neD:∀ b ∈ fp,b≠s2.heap.objs.size:=fun b hb=>by obtain ⟨o,e⟩:=hfo b hb; exact Nat.ne_of_lt (Heap.lt_size e)
 have f3:∀ b ∈ fp,qM X pins (upd H2 s2.heap.objs.size (.lst [])) b:=fun b hb=>by
  obtain ⟨a1,a2⟩:=f2 b hb
  exact ⟨by rw [bR (neD b hb)]; exact a1,a2⟩
 obtain ⟨W,⟨m0,w0⟩,turn⟩:=q2 s2.heap.objs.size hD
 generalize hs3:({ s2 with heap:=s2.heap.push { cls:=.type "list", dict:=none,data:=.seq ([]:List Value).toArray } }:Shared)=s3 at I3 ⊢
 generalize hH3:upd H2 s2.heap.objs.size (.lst [])=H3 at I3 f3 w0
 have hfo3:∀ b ∈ fp,∃ o,s3.heap.get? b=some o:=fun b hb=>by
  obtain ⟨o,e⟩:=hfo b hb
  rw [← hs3]
  exact ⟨o,Heap.get?_push_of_some _ e⟩
 have st3:tn 0 s3.heap:=TT.keep _ _ _ st2 fun b hb o e=>by rw [← hs3]; exact Heap.get?_push_of_some _ e
 refine wpAny_newFunctionEnv S.nocell (by intro y hy; simp at hy) (fun h4 hns4 hsb4=>?_) S.kind
 have old:∀ b o,s3.heap.get? b=some o→h4.get? b=some o:=fun b o e=>hsb4.extBut b o (Nat.ne_of_lt (Heap.lt_size e)) (Heap.get?_push_of_some _ e)
 have J4:=vb I3 S f3 hfo3 (t':=s3.toks+([]:List (Str×Value)).length) old hns4
 generalize hs4:({ s3 with heap:=h4,toks:=s3.toks+([]:List (Str×Value)).length }:Shared)=s4 at J4 ⊢
 have st4:tn 0 s4.heap:=by rw [← hs4]; exact TT.keep _ _ _ st3 fun b hb o e=>old b o e
 have hg':=hg s3.heap.objs.size s3 H3 fp
 have ht':=ht s3.heap.objs.size s3 H3 fp
 have he':=he s3.heap.objs.size s3 H3 fp
 generalize hY:dA X (T++F) scope (bU X.env scope.names []) s3.heap.objs.size s3 H3 fp=Y at J4 hg' ht' he'
 have yA:Y.A=X.A:=by rw [← hY]; rfl
 have yP:Y.prog=X.prog:=by rw [← hY]; rfl
 have yW:Y.w=X.w:=by rw [← hY]; rfl
 have yK:Y.K=X.K:=by rw [← hY]; rfl
 have yC:Y.calm=true:=by rw [← hY]; exact hc
 have yE:Y.env=compEnvC scope (bU X.env scope.names []) s3.heap.objs.size X.env:=by rw [← hY]; rfl
 have yX:Y.xe=fun _ _=>False:=by rw [← hY]; rfl
 have fY:∀ {H':Hp},(∀ b ∈ fp,H' b=none)→∀ b ∈ fp,qM Y [] H' b:=fun hn b hb=>by
  have k:=J4.ok
  rw [← hY] at k ⊢
  exact ⟨hn b hb,(k.exf b hb).1,k.exfs b hb,.inl hb,(k.exf b hb).2,fun p hp=>absurd (show p ∈ ([]:List (Addr×Obj)) from hp) (by simp)⟩
 have loop:codeAny (model X.prog X.w) X.A (.compLoop (.ListComp elt [⟨tg,iter,ifs,0⟩] scope pos) 0 (.ref it) (.ref s2.heap.objs.size) (compEnvC scope (bU X.env scope.names []) s3.heap.objs.size X.env))
   (compPost (model X.prog X.w) X.A X.xe use QQ (.ref s2.heap.objs.size) s3.heap.objs.size) s4:=by
  refine lX (fun n s'=>∃ i acc σ' H',Inv Y [] σ' H' s'∧tn i s'.heap∧(∀ b ∈ fp,H' b=none)∧W i n acc σ' H') ?_ m0 ⟨0,[],_,H3,J4,st4,fun b hb=>(f3 b hb).1,w0⟩
  rintro n s5 ⟨i,acc,σ5,H5,J5,st5,fr5,w5⟩
  rcases turn i n acc σ5 H5 w5 with ⟨stop,qn⟩ | ⟨go,N,hN,step⟩
  ·have fin:=TT.done Y yP yW yK yC i [] s5 σ5 H5 (fun _ _=>False) J5 (fY fr5) st5 stop
   rw [yA] at fin
   refine thn fin fun r s6 ⟨hr,J6⟩=>?_
   subst hr
   -- the block is left
   obtain ⟨m,hm,_⟩:=id J6.loc
   have hm:s6.heap.Ns s3.heap.objs.size m:=by rw [yE] at hm; exact hm
   have hb6:=J6.base
   have hos:=J6.os
   have hfree:=J6.free
   have hbare:=J6.bare
   have hok6:HOk X.prog X.w H5 s6.heap:=by have:=J6.hok; rw [yP,yW] at this; exact this
   rw [yE] at hfree
   have hfree:H5 s3.heap.objs.size=none:=hfree
   rw [← hY] at hb6 hos
   have hb6:Un (frs X.stack) fp H3 H5 s3.heap s6.heap:=hb6
   have hos:s6.os=s3.os:=hos
   have ltC:∀ b o,s3.heap.get? b=some o→b≠s3.heap.objs.size:=fun b o e=>Nat.ne_of_lt (Heap.lt_size e)
   refine fine _ _ H5 s6 _ ⟨m,hm⟩ hfree ?hl ?hcl I3.sz ?hpn (fun h7 hsb7=>?_) qn
   case hl=>exact fun z=>Nat.lt_irrefl _ (z ▸ I3.lt)
   case hcl=>exact fun x c e z=>by obtain ⟨v,o,ho,_⟩:=I3.cell x c e; exact ltC c o ho z
   case hpn=>exact fun p hp z=>ltC p.1 p.2 (I3.pin p hp).1 z
   have same:∀ b,b < s3.heap.objs.size→h7.get? b=s6.heap.get? b:=fun b hb=>hsb7.2 b (Nat.ne_of_lt hb)
   have hok7:HOk X.prog X.w H5 h7:=fun b o e=>by
    refine (hok6 b o e).stay (fun c w' hc q=>(hsb7.2 c ?_).trans q) (fun _ q=>q) fun _ _ q=>q
    rintro rfl
    rcases hc with z | z
    ·rw [← z,hfree] at e; cases e
    ·rw [hfree] at z; cases z
   have un7:Un (frs X.stack) fp H3 H5 s3.heap h7 :=
    ⟨fun b o e n hb hx=>(same b (Heap.lt_size e)).trans (hb6.keep b o e n hb hx),fun b o e n hb hx=>by
     obtain ⟨sl,q⟩:=hb6.slot b o e n hb hx
     exact ⟨sl,(same b (Heap.lt_size e)).trans q⟩,hb6.free,fun b o e hx=>by
     obtain ⟨o',q⟩:=hb6.there b o e hx
     exact ⟨o',(same b (Heap.lt_size e)).trans q⟩,hb6.tups,hb6.frzs,hb6.tbls⟩
   exact I3.call' (s':={ s6 with heap:=h7 }) hos un7 hok7 hbare fun b hb=>by
    obtain ⟨_,a2,a3,a4,a5,a6⟩:=f3 b hb
    exact ⟨a4,a2,a5,a6⟩
  ·have nx:=TT.item Y yP yW yK yC i [] s5 σ5 H5 (fun _ _=>False) J5 (fY fr5) st5 go
   rw [yA] at nx
   refine thn nx fun r s6 ⟨u,hr,h6⟩=>?_
   subst hr
   refine thn h6 fun _ s7 ⟨x,H7,J7,r7,y7,st7,fr7⟩=>?_
   have J7':=J7.pinned (fY fr7) (TT.obj _ _ st7)
   have asg:=hg' _ s7 σ5 H7 x u _ J7' r7 (step x H7 y7)
   rw [yA,yP,yW,yE,yX] at asg
   refine thn asg fun _ s8 ⟨σ8,H8,J8,q8⟩=>?_
   have tst:=ht' _ s8 σ8 H8 _ J8 q8
   rw [yA,yP,yW,yE,yX] at tst
   refine thn tst fun b s9 ⟨H9,J9,q9⟩=>?_
   have again:∀ {s':Shared} {acc':List V} {σ':St} {H':Hp},Inv Y ([]++jQ fp s7.heap) σ' H' s'→N acc' σ' H'→∃ m,m < n∧∃ i acc σ' H',Inv Y [] σ' H' s'∧tn i s'.heap∧(∀ b ∈ fp,H' b=none)∧W i m acc σ' H':=fun {s' acc' σ' H'} K7 n7=>by
    obtain ⟨m',hm,w7⟩:=hN acc' σ' H' n7
    refine ⟨m',hm,i+1,acc',σ',H',K7.unpinned,TT.keep _ _ _ st7 fun b hb o e=>(K7.pin (b,o) (List.mem_append_right _ (List.mem_append_right _ (fE hb e)))).1,fun b hb=>?_,w7⟩
    obtain ⟨o,e,d⟩:=TT.obj _ _ st7 b hb
    exact (K7.pin (b,o) (List.mem_append_right _ (List.mem_append_right _ (fE hb e)))).2.1
   cases b with
   | false =>
    rw [if_neg Bool.false_ne_true] at q9 ⊢
    exact again J9 q9
   | true =>
    rw [if_pos rfl] at q9 ⊢
    have elv:=he' _ s9 σ8 H9 _ J9 q9
    rw [yA,yP,yW,yE,yX] at elv
    refine thn elv fun u10 s10 ⟨y,H10,J10,r10,q10⟩=>?_
    obtain ⟨hl,hz,qN⟩:=q10
    have app:=lS (X:=Y) ([]++jQ fp s7.heap) s10 σ8 H10 (.ref s2.heap.objs.size) [y] (.ref s2.heap.objs.size) [u10] (fun _ H'=>N (acc++[y]) σ8 H') J10 rfl (.cons r10 .nil) ⟨_,acc,y,rfl,rfl,hl,hz,qN⟩
    rw [yA,yP,yW,yX] at app
    exact thn app fun _ s11 ⟨_,H11,J11,_,q11⟩=>again J11 q11
 exact codeAny_compStart_list loop (TT.self _ 0 _ _ _ st4 loop)
theorem zg {elt tg iter:Expr}{ifs:List Expr}{pos:Pos}{wi:TI}{g:TG}{tc:TT}{te:TE}(hc:X.calm=true)(S:CompScope X T F ixs scope)
  (hi:PI X tg iter wi)
  (hg:∀ C s H fp,PG (dA X (T++F) scope (bU X.env scope.names []) C s H fp) tg g)
  (ht:∀ C s H fp,Bm (dA X (T++F) scope (bU X.env scope.names []) C s H fp) ifs tc)
  (he:∀ C s H fp,PE (dA X (T++F) scope (bU X.env scope.names []) C s H fp) elt te)
  (hs:autoParam (∀ x,foldedSetIterable iter X.env x=pure x) L2.aI._auto_1) :
  PE X (.ListComp elt [⟨tg,iter,ifs,0⟩] scope pos) (pN T.length ixs wi g tc te):=by
 intro pins s σ H Q I h
 rw [eval_ListComp]
 exact oh hc S hi hg ht he hs I h fun D C H5 s6 f ⟨m,hm⟩ _ _ _ _ _ inv q=>⟨m,hm,fun h7 k=>⟨.ref D,H5,inv h7 k,rfl,q⟩⟩
theorem zi {i:Nat}{y:Str}{elt tg iter:Expr}{ifs:List Expr}{pos py spos:Pos}{wi:TI}{g:TG}{tc:TT}{te:TE}(hc:X.calm=true)(S:CompScope X T F ixs scope)
  (hi:PI X tg iter wi)
  (hg:∀ C s H fp,PG (dA X (T++F) scope (bU X.env scope.names []) C s H fp) tg g)
  (ht:∀ C s H fp,Bm (dA X (T++F) scope (bU X.env scope.names []) C s H fp) ifs tc)
  (he:∀ C s H fp,PE (dA X (T++F) scope (bU X.env scope.names []) C s H fp) elt te)
  (hs:∀ x,foldedSetIterable iter X.env x=pure x) (hN:X.N.Nodup) (hix:X.N[i]?=some y) (hx:Loc X.env.scope y)
  (hsw:swapsWith (.ListComp elt [⟨tg,iter,ifs,0⟩] scope pos) (some (.Name y py)) spos.line X.env=pure true) (hf:X.fn y=true∨X.env.scope.names.lookup y=some .local) :
  PS X (.Assign [.Name y py] (.ListComp elt [⟨tg,iter,ifs,0⟩] scope pos) spos) (uX (pN T.length ixs wi g tc te) (kz i)):=by
 intro pins s σ H D I h
 rw [exec_Assign_Name_used _ _ _ _ hsw]
 refine wpAny_bind (wpAny_standAt (wpAny_bind ?_))
 show wpAny _ X.A (do let _ ← comprehension (.ListComp elt [⟨tg,iter,ifs,0⟩] scope pos) scope X.env _ (newList []) false (eval iter X.env) (some (assign (.Name y py) X.env))) _ _ s
 refine wpAny_bind (thn (oh (use:=some (assign (.Name y py) X.env)) (QQ:=fun _ s'=>SP X pins D .next s') hc S hi hg ht he hs I h fun D' C H5 s6 f ⟨m,hm⟩ fC lC cC zC pC inv q=>?_) fun _ s' hq=>wpAny_pure (wpAny_pure hq))
 have I6:Inv X pins σ H5 s6:=inv s6.heap (Heap.SameBut.refl _ _)
 refine wpAny_assign_Name (lF I6 hN hix hx (show RelV (.ref D') (.ref D') from rfl) (fun s7 I7 ⟨a,sb,ha⟩=>?_) hf)
 have aC:C≠a:=by
  rcases ha with rfl | ha
  ·exact lC
  ·exact fun z=>cC y a ha z.symm
 refine ⟨m,hm.sameBut sb aC,fun h8 k8=>⟨_,H5,?_,q⟩⟩
 exact I7.turned (t':=s7.toks) (fun b o hb e=>(k8.2 b hb).trans e) fC lC (.inr zC) cC pC
end
end L2
namespace L2
open PySem PySem.Spec PyProof.Rows
def Its (z:Str):It:=⟨fun i _=>i < z.cps.size,fun i H x H'=>H'=H∧∃ c,z.cps.toList[i]?=some c∧x=.str ⟨#[c]⟩,fun i _=>i=z.cps.size⟩
theorem oi {P:Program} {w:World} {K:PySem.W.Frag} {tg:Expr} (nm:String) (hnm:["enumerate", "zip", "dict_itemiterator", "dict_reverseitemiterator", "odict_iterator", "itertools.zip_longest", "itertools.pairwise"].contains nm=false) (it:Addr) (z:Str) (t:Tok)
  (W:∀ A:Around,A.handled=none→Walks P w A it [it] [it] z.cps.size (SignAt z) (fun i h=>h.IsStrIter it nm z t i))
  (hself:∀ (A:Around) (i:Nat) (s:Shared) (Q:Value→Shared→Prop) (E:Value→Shared→Prop),s.heap.IsStrIter it nm z t i→Q (.ref it) s→wpAny (model P w) A (pyIter (.ref it)) Q E s):Turn P w K tg (Its z) [it] it (fun i h=>h.IsStrIter it nm z t i) where
 mem:=by simp
 obj:=fun i h st b hb=>by
  have e:b=it:=by first|exact List.mem_singleton.mp hb|simpa using hb
  subst e
  obtain ⟨o,e,c,d⟩:=st
  exact ⟨o,e,fun v q=>by rw [d] at q; cases q⟩
 keep:=fun i h h' st k=>by
  obtain ⟨o,e,r⟩:=st
  exact ⟨o,k it (by simp) o e,r⟩
 item:=by
  intro X hP hw hK hc i pins s σ H E I hf st hg
  subst hP hw hK
  obtain ⟨f0,f1,f2,f3,f4,f5⟩:=hf it (by simp)
  refine (W X.A (I.ok.hd hc)).item i s _ _ hg st fun v h' tk hv st' kk=>?_
  obtain ⟨c,u,hcx,rfl⟩:=hv
  have I1:Inv X pins σ H { s with heap:=h',toks:=tk }:=I.turned (fun b o hb e=>kk b o (by first|exact List.mem_singleton.mp hb|simpa using hb) e) f0 f1 f3 f4 f5
  obtain ⟨o,e,cl,d⟩:=id st'
  exact ⟨_,rfl,uY (s:={ s with heap:=h',toks:=tk }) e cl d hnm ⟨.str ⟨#[c]⟩,H,I1,⟨u,rfl⟩,⟨rfl,c,by first|exact List.mem_singleton.mp hcx|simpa using hcx,rfl⟩,st',fun b hb=>(hf b hb).1⟩⟩
 done:=by
  intro X hP hw hK hc i pins s σ H E I hf st hg
  subst hP hw hK
  obtain ⟨f0,f1,f2,f3,f4,f5⟩:=hf it (by simp)
  have hg:i=z.cps.size:=hg
  subst hg
  exact (W X.A (I.ok.hd hc)).done s _ _ st fun h' tk kk=>⟨rfl,I.turned (fun b o hb e=>kk b o (by first|exact List.mem_singleton.mp hb|simpa using hb) e) f0 f1 f3 f4 f5⟩
 self:=fun A i s Q E st h=>hself A i s Q E st h
def EH (tl:TE):TI:=fun σ H R=>tl σ H fun x H1=>∃ z,x=.str z∧R (Its z) H1
theorem Ck {X:Cx}{tg l:Expr}{tl:TE}(hl:PE X l tl):PI X tg l (EH tl):=by
 intro pins s σ H R I h
 refine thn (hl pins s σ H _ I h) fun v s1 ⟨x,H1,I1,r1,q1⟩=>?_
 obtain ⟨z,e,q⟩:=q1
 subst e
 obtain ⟨t,rfl⟩:=r1
 have fp:∀ b ∈ [s1.heap.objs.size],qM X pins H1 b:=fun b hb=>by
  have e:b=s1.heap.objs.size:=by first|exact List.mem_singleton.mp hb|simpa using hb
  subst e
  exact I1.fpOk (Nat.le_refl _) (I1.hok.fresh (Nat.le_refl _))
 cases ha:z.cps.all (· < 128)
 ·exact wpAny_pyIter_wide ha ⟨s1.heap.objs.size,[s1.heap.objs.size],_,_,H1,rfl,I1.kept (t':=s1.toks) fun b o e=>Heap.get?_push_of_some _ e,oi "str_iterator" (by decide) _ z t (fun A hA=>Walks.strWide hA _ z t) (fun _ _ _ _ _ st h=>wpAny_pyIter_striter_wide st h),⟨_,Heap.get?_push_size _ rfl,rfl,rfl⟩,fp,q⟩
 ·exact wpAny_pyIter_ascii ha ⟨s1.heap.objs.size,[s1.heap.objs.size],_,_,H1,rfl,I1.kept (t':=s1.toks) fun b o e=>Heap.get?_push_of_some _ e,oi "str_ascii_iterator" (by decide) _ z t (fun A hA=>Walks.strAscii hA _ z t) (fun _ _ _ _ _ st h=>wpAny_pyIter_striter_ascii st h),⟨_,Heap.get?_push_size _ rfl,rfl,rfl⟩,fp,q⟩
section
variable {no:Nat} {ixs:List Nat} {g:TG} {tc:TT} {te:TE} {σ:St} {H:Hp} {Q:VK} {D:Addr}
end
section
variable {X:Cx}
def isT (t T:String):Bool:=t == T || (t == "bool" && T == "int")
def okT (T:String):Prop:=T = "str" ∨ T = "int" ∨ T = "bool" ∨ T = "list" ∨ T = "tuple" ∨ T = "dict" ∨ T = "NoneType"
theorem Cl {K:PySem.W.Frag}{t T:String}(ht:okT t)(hT:okT T):PySem.W.kitOne K (.type t) (.type T)=some (isT t T):=by
 rcases ht with rfl | rfl | rfl | rfl | rfl | rfl | rfl <;> rcases hT with rfl | rfl | rfl | rfl | rfl | rfl | rfl <;> rfl
theorem nn {P:Program}{w:World}{A:Around}(bs:List Bool):TruthOf P w A (fun i v=>∃ b,bs[i]?=some b∧v=Value.bool b) (fun i=>bs.getD i false):=by
 intro i v s Q E hP hQ
 obtain ⟨b,hb,rfl⟩:=hP
 have e:bs.getD i false=b:=by rw [List.getD_eq_getElem?_getD,hb]; rfl
 exact wpAny_truthy_bool (by rw [← e]; exact hQ)
theorem rA {bs:List Bool}:(List.range bs.length).all (fun i=>bs.getD i false)=bs.all id:=by
 rw [Bool.eq_iff_iff,List.all_eq_true,List.all_eq_true]
 constructor
 ·intro h b hb
  obtain ⟨i,hi,e⟩:=List.mem_iff_getElem.mp hb
  have:=h i (List.mem_range.mpr hi)
  rw [List.getD_eq_getElem?_getD,List.getElem?_eq_getElem hi,e] at this
  exact this
 ·intro h i hi
  have hi:=List.mem_range.mp hi
  rw [List.getD_eq_getElem?_getD,List.getElem?_eq_getElem hi]
  exact h _ (List.getElem_mem hi)
theorem vc {bs:List Bool}:∀ {us:List Value},Vals (bs.map V.bl) us→us.length=bs.length∧∀ (i:Nat) (v:Value),us[i]?=some v→∃ b,bs[i]?=some b∧v=Value.bool b:=by
 intro us r
 have hl:=r.length
 rw [List.length_map] at hl
 refine ⟨hl.symm,fun i v h=>?_⟩
 have hi:i < us.length:=(List.getElem?_eq_some_iff.mp h).1
 have hib:i < bs.length:=by nofun
 obtain ⟨u,hu,ru⟩:=r.get (i:=i) (x:=.bl bs[i]) (by simp [hib])
 rw [h] at hu
 cases hu
 exact ⟨bs[i],by simp [hib],ru⟩
theorem pO {pins:List (Addr×Obj)}{s:Shared}{σ:St}{H:Hp}{p:Addr}{bs:List Bool}(I:Inv X pins σ H s)(hq:SqL X.K H p (bs.map V.bl))(A:Around)(hA:A.handled=none){E:Value→Shared→Prop}{Q:VK}{r:Bool}
  (fn:(List Nat)→(Nat→Bool)→Bool) (hr:fn (List.range bs.length) (fun i=>bs.getD i false)=r) (q:Q (.bl r) H) :
  wpAny (model X.prog X.w) A (pyIter (.ref p)) (fun it s₂=>∃ I fp wr n P St tr,it=.ref I∧Walks X.prog X.w A I fp wr n P St∧St 0 s₂.heap∧TruthOf X.prog X.w A P tr ∧
   ∀ h' tk,(∀ b o,b ∉ wr→s₂.heap.get? b=some o→h'.get? b=some o)→EP X pins σ Q (.bool (fn (List.range n) tr)) { s₂ with heap:=h',toks:=tk }) E s:=by
 obtain ⟨its,rv,pl,hz⟩:=I.list hq
 obtain ⟨hl,hat⟩:=vc rv
 refine wpAny_pyIter_list pl.isList ?_
 have ne:p≠s.heap.objs.size:=by
  obtain ⟨o,ho,_⟩:=pl.isList
  exact Nat.ne_of_lt (Heap.lt_size ho)
 have hW:=Walks.list (prog:=X.prog) (w:=X.w) hA s.heap.objs.size p ne its.toArray
 have hW2:Walks X.prog X.w A s.heap.objs.size [s.heap.objs.size,p] [s.heap.objs.size] bs.length (fun i v=>∃ b,bs[i]?=some b∧v=Value.bool b) (fun i h=>h.IsListIter s.heap.objs.size p i∧h.IsList p its.toArray):=by
  have e:its.toArray.size=bs.length:=by simp [hl]
  rw [e] at hW
  exact { sub:=hW.sub,frame:=hW.frame,item:=fun i s Q E hi st hQ=>hW.item i s Q E hi st fun v h' tk hv=>hQ v h' tk (hat i v (by first|exact List.mem_singleton.mp hv|simpa using hv)),done:=hW.done,self:=hW.self }
 refine ⟨s.heap.objs.size,_,_,_,_,_,_,rfl,hW2,⟨⟨_,Heap.get?_push_size _ rfl,rfl,rfl⟩,?_⟩,nn bs,fun h' tk kk=>?_⟩
 ·obtain ⟨o,ho,r⟩:=pl.isList
  exact ⟨o,Heap.get?_push_of_some _ ho,r⟩
 ·refine ⟨.bl r,H,I.kept (h':=h') (t':=tk) fun b o e=>kk b o ?_ (Heap.get?_push_of_some _ e),by rw [← hr]; rfl,q⟩
  intro z
  have z:b=s.heap.objs.size:=by first|exact List.mem_singleton.mp z|simpa using z
  exact absurd (Heap.lt_size e) (by rw [z]; exact Nat.lt_irrefl _)
theorem vd (hc:X.calm=true):CallR X (.builtin "all") (fun xs H Q=>∃ (p:Addr) (bs:List Bool),xs=[.ref p]∧SqL X.K H p (bs.map V.bl)∧Q (.bl (bs.all id)) H):=by
 intro pins s σ H xs us Q I r h
 obtain ⟨p,bs,rfl,hq,q⟩:=h
 obtain ⟨u,rfl,ru⟩:=eM r
 cases ru
 exact call_all_walk (pO I hq X.A.in1 (I.ok.hd hc) (fun l f=>l.all f) rA q)
def pP (i j:Int):Prop:=0≤j∧j≤3∧i.natAbs < 2 ^ 1000
theorem zj:OpR X (binaryOp .Pow) (rI pP fun i j=>.int (i ^ j.toNat)):=opI fun i j _ _ _ _ _ hc q=>by
 refine pow_int hc.1 ?_ q
 have hb:Builtin.Int.intBits i≤1000:=intBits_le hc.2.2
 have h2:=hc.2.1
 have h1:(Builtin.Int.intBits i:Int) * j≤1000 * j:=Int.mul_le_mul_of_nonneg_right (by nofun) hc.1
 nofun
theorem pQ:OpR X (compareOp .In) (fun x y H Q=>∃ (c:Nat) (j:Str),x=.str ⟨#[c]⟩∧y=.str j∧Q (.bl (decide (c ∈ j.cps.toList))) H):=by
 intro pins s σ H x y v u Q I rx ry h
 obtain ⟨c,j,rfl,rfl,q⟩:=h
 exact qV pins s σ H _ _ v u Q I rx ry ⟨_,j,rfl,rfl,by rw [PySem.StrLaws.found_one]; exact q⟩
theorem kF:OpR X (compareOp .NotIn) (fun x y H Q=>∃ (c:Nat) (j:Str),x=.str ⟨#[c]⟩∧y=.str j∧Q (.bl (!decide (c ∈ j.cps.toList))) H):=by
 intro pins s σ H x y v u Q I rx ry h
 obtain ⟨c,j,rfl,rfl,q⟩:=h
 exact lO pins s σ H _ _ v u Q I rx ry ⟨_,j,rfl,rfl,by rw [PySem.StrLaws.found_one]; exact q⟩
theorem gh {x y:Str}(h:x.cps.toList=y.cps.toList):x=y:=by
 cases x with | mk a=>cases y with | mk b=>exact congrArg Str.mk (Array.toList_inj.mp h)
theorem et (x:Str):x.length=x.cps.toList.length:=by simp [Str.length]
theorem dL (x y:Str):(x++y).cps.toList=x.cps.toList++y.cps.toList:=by
 show (x.cps++y.cps).toList=_
 simp
def dR {α:Type}(xs:List α)(lo hi:Option Int):List α:=(xs.drop (HT.sIx xs.length 0 lo)).take (HT.sIx xs.length xs.length hi - HT.sIx xs.length 0 lo)
theorem sliceRange_one (a b:Nat):sliceRange (a:Int) (b:Int) 1=(List.range (b - a)).map fun k=>a+k:=by
 unfold sliceRange
 simp only [show (1:Int) > 0 by decide,if_true]
 have e:(if (a:Int) < (b:Int) then ((b:Int) - (a:Int)+1 - 1) / 1 else 0).toNat=b - a:=by
  split <;> (try rw [Int.ediv_one]) <;> nofun
 rw [e]
 refine List.map_congr_left fun k _=>?_
 nofun
theorem pR (lo hi:Option Int)(n:Nat):Builtin.Str.strSliceIndices lo hi 1 n=(List.range (HT.sIx n n hi - HT.sIx n 0 lo)).map fun k=>HT.sIx n 0 lo+k:=by
 unfold Builtin.Str.strSliceIndices
 rw [← sliceRange_one]
 simp only [show (1:Int) > 0 by decide,if_true]
 congr 1
 ·cases lo with
  | none=>rfl
  | some v=>rw [← HT.clip_eq]; dsimp only; split <;> nofun
 ·cases hi with
  | none=>rfl
  | some v=>rw [← HT.clip_eq]; dsimp only; split <;> nofun
theorem jW {α:Type}(xs:List α)(a:Nat):∀ k:Nat,a+k≤xs.length→((List.range k).map fun j=>a+j).filterMap (fun i=>xs[i]?)=(xs.drop a).take k
 | 0,_=>by simp
 | k+1,h=>by
  have hk:a+k < xs.length:=by nofun
  rw [List.range_succ,List.map_append,List.filterMap_append,jW xs a k (by nofun),List.take_add_one]
  congr 1
  simp [List.getElem?_drop,hk]
theorem rB (x:Str)(lo hi:Option Int):(Txt.slice x lo hi).cps.toList=dR x.cps.toList lo hi:=by
 have hl:x.cps.toList.length=x.length:=by simp [Str.length]
 have h1:=HT.sIx_le x.length 0 (Nat.zero_le _) lo
 have h2:=HT.sIx_le x.length x.length (Nat.le_refl _) hi
 unfold Txt.slice dR
 rw [hl,pR]
 split
 ·rename_i hc
  simp only [beq_self_eq_true,Bool.true_and,List.length_map,List.length_range,beq_iff_eq] at hc
  have e1:HT.sIx x.length 0 lo=0:=by nofun
  have e2:HT.sIx x.length x.length hi=x.length:=by nofun
  rw [e1,e2,List.drop_zero,Nat.sub_zero,List.take_of_length_le (by nofun)]
 ·show (List.filterMap (fun i=>x.cps[i]?) _).toArray.toList=_
  have e:(fun i:Nat=>x.cps[i]?)=fun i:Nat=>x.cps.toList[i]?:=by funext i; simp
  rw [e]
  by_cases h:HT.sIx x.length 0 lo≤HT.sIx x.length x.length hi
  ·rw [jW x.cps.toList _ _ (by rw [hl]; nofun)]
  ·have e0:HT.sIx x.length x.length hi - HT.sIx x.length 0 lo=0:=by nofun
   rw [e0]
   simp
def Fj:V→Option Int→Option Int→Hp→VK→Prop:=fun x lo hi H Q=>∃ z,x=.str z∧z.length≤sizeLine∧∀ y:Str,y.cps.toList=dR z.cps.toList lo hi→Q (.str y) H
theorem Cm:SlR X Fj:=by
 intro pins s σ H x v vl vu lo hi sl Q I rx hs pl pu h
 obtain ⟨z,rfl,hz,q⟩:=h
 obtain ⟨t,rfl⟩:=rx
 refine ⟨"str", _,F.slot_str_getitem.lookup,typeIs_str _ _ _,?_⟩
 have fin:(Txt.slice z lo hi).length≤sizeLine∧∀ t' k,EP X pins σ Q (.str (Txt.slice z lo hi) t') { s with toks:=k } :=
  ⟨Nat.le_trans (Txt.slice_le z _ _) hz,fun t' k=>⟨.str _,H,I.tok k,⟨t',rfl⟩,q _ (rB z lo hi)⟩⟩
 obtain ⟨o,ho,hc,hd⟩:=hs
 cases pl with
 | none =>
  cases pu with
  | none=>exact wpAny_getItem_str_slice (l:=none) (u:=none) (st:=none) ⟨o,ho,hc,hd⟩ rfl (post_val_or_str fin)
  | int j uj=>exact wpAny_getItem_str_slice (l:=none) (u:=some (j,uj)) (st:=none) ⟨o,ho,hc,hd⟩ rfl (post_val_or_str fin)
 | int i ui =>
  cases pu with
  | none=>exact wpAny_getItem_str_slice (l:=some (i,ui)) (u:=none) (st:=none) ⟨o,ho,hc,hd⟩ rfl (post_val_or_str fin)
  | int j uj=>exact wpAny_getItem_str_slice (l:=some (i,ui)) (u:=some (j,uj)) (st:=none) ⟨o,ho,hc,hd⟩ rfl (post_val_or_str fin)
theorem rC:∀ {zs:List Str} {us:List Value},Vals (zs.map V.str) us→∃ l:List (Str×Tok),us=strValues l∧l.map (·.1)=zs
 | [],_,r=>by
  rw [List.map_nil] at r
  cases r
  exact ⟨[],rfl,rfl⟩
 | z::zs,_,r=>by
  rw [List.map_cons] at r
  cases r with
  | cons r1 r2 =>
   obtain ⟨t,rfl⟩:=r1
   obtain ⟨l,rfl,rfl⟩:=rC r2
   exact ⟨(z,t)::l,rfl,rfl⟩
def ve (K:PySem.W.Frag):V→List V→Hp→VK→Prop:=fun x vs H Q=>∃ (z:Str) (p:Addr) (zs:List Str),x=.str z∧vs=[.ref p]∧SqL K H p (zs.map V.str)∧(zs.map (·.length)).sum+zs.length * z.length≤16777216∧Q (.str (Builtin.Str.glued z zs)) H
theorem zk:MtR X "str.join" (ve X.K):=by
 intro pins s σ H x vs v us Q I rx rv h
 obtain ⟨z,p,zs,rfl,rfl,hq,hz,q⟩:=h
 obtain ⟨t,rfl⟩:=rx
 obtain ⟨u,rfl,ru⟩:=eM rv
 cases ru
 obtain ⟨its,r,pl,hl⟩:=I.list hq
 obtain ⟨l,rfl,e⟩:=rC r
 exact SC.join pl.isList e (joinOk_of hz) fun t' k=>⟨.str _,H,I.tok k,⟨t',rfl⟩,q⟩
theorem lZ (zs:List Str):(Builtin.Str.glued Str.empty zs).cps.toList=(zs.map fun z=>z.cps.toList).flatten:=by
 unfold Builtin.Str.glued
 have gen:∀ (l:List Str) (a:Array Nat),(l.foldl (fun acc p=>acc++Str.empty.cps++p.cps) a).toList=a.toList++(l.map fun z=>z.cps.toList).flatten:=by
  intro l
  induction l with
  | nil=>intro a; simp
  | cons y l ih=>intro a; rw [List.foldl_cons,ih]; simp [Str.empty]
 rw [gen]
 cases zs with
 | nil=>simp [Str.empty]
 | cons y l=>simp
end
end L2
namespace L2
open PySem PySem.Spec PyProof.Rows
inductive DV where
 | non | bl (b:Bool) | int (i:Int) | str (x:Str) | lst (xs:List DV) | tup (xs:List DV)
mutual
inductive Deep (K:PySem.W.Frag)(H:Hp):V→DV→Prop where
 | non:Deep K H .non .non
 | bl (b:Bool):Deep K H (.bl b) (.bl b)
 | int (i:Int):Deep K H (.int i) (.int i)
 | str (x:Str):Deep K H (.str x) (.str x)
 | lst {a:Addr} {xs:List V} {ds:List DV}:SqL K H a xs→Deeps K H xs ds→Deep K H (.ref a) (.lst ds)
 | tup {a:Addr} {xs:List V} {ds:List DV}:SqT K H a xs→Deeps K H xs ds→Deep K H (.ref a) (.tup ds)
inductive Deeps (K:PySem.W.Frag)(H:Hp):List V→List DV→Prop where
 | nil:Deeps K H [] []
 | cons {x:V} {d:DV} {xs:List V} {ds:List DV}:Deep K H x d→Deeps K H xs ds→Deeps K H (x::xs) (d::ds)
end
mutual
def deq:DV→DV→Bool
 | .non,.non=>true
 | .bl a,.bl b=>a == b
 | .bl a,.int b=>(if a then 1 else 0) == b
 | .int a,.bl b=>a == (if b then 1 else 0)
 | .int a,.int b=>a == b
 | .str a,.str b=>a == b
 | .lst a,.lst b=>deqs a b
 | .tup a,.tup b=>deqs a b
 | _,_=>false
def deqs:List DV→List DV→Bool
 | [],[]=>true
 | a::r,b::s=>deq a b && deqs r s
 | _,_=>false
end
mutual
def dep:DV→Nat
 | .lst a=>deps a+1
 | .tup a=>deps a+1
 | _=>0
def deps:List DV→Nat
 | []=>0
 | a::r=>max (dep a) (deps r)
end
mutual
theorem oj:∀ d:DV,deq d d=true
 | .non=>rfl
 | .bl b=>beq_self_eq_true b
 | .int i=>beq_self_eq_true i
 | .str x=>beq_self_eq_true x
 | .lst xs=>deqs_refl xs
 | .tup xs=>deqs_refl xs
theorem deqs_refl:∀ ds:List DV,deqs ds ds=true
 | []=>rfl
 | d::ds=>Bool.and_eq_true_iff.mpr ⟨oj d,deqs_refl ds⟩
end
theorem Deeps.length {K:PySem.W.Frag}{H:Hp}{xs:List V}{ds:List DV}(h:Deeps K H xs ds):xs.length=ds.length :=
 Deeps.rec (motive_1:=fun _ _ _=>True) (motive_2:=fun xs ds _=>xs.length=ds.length) trivial (fun _=>trivial) (fun _=>trivial) (fun _=>trivial) (fun _ _ _=>trivial) (fun _ _ _=>trivial) rfl (fun _ _ _ t=>congrArg (·+1) t) h
theorem Deeps.get {K:PySem.W.Frag}{H:Hp}:∀ {xs:List V} {ds:List DV} {i:Nat} {x:V},Deeps K H xs ds→xs[i]?=some x→∃ d,ds[i]?=some d∧Deep K H x d∧dep d≤deps ds
 | _,_,_,_,.nil,e=>by simp at e
 | _,_,0,_,.cons h _,e=>by
  simp at e; subst e
  exact ⟨_,rfl,h,by simp only [deps]; nofun⟩
 | _,_,i+1,x,.cons h t,e=>by
  obtain ⟨d,h1,h2,h3⟩:=Deeps.get (i:=i) (x:=x) t (by first|exact List.mem_singleton.mp e|simpa using e)
  exact ⟨d,by first|exact List.mem_singleton.mp h1|simpa using h1,h2,by simp only [deps]; nofun⟩
theorem jX:∀ {ds es:List DV},ds.length=es.length→(List.range ds.length).all (fun j=>deq (ds.getD j .non) (es.getD j .non))=deqs ds es:=by
 intro ds
 induction ds with
 | nil=>intro es h; cases es with
  | nil=>rfl
  | cons _ _=>simp at h
 | cons d ds ih =>
  intro es h
  cases es with
  | nil=>simp at h
  | cons e es =>
   have h':ds.length=es.length:=by first|exact List.mem_singleton.mp h|simpa using h
   rw [List.length_cons,List.range_succ_eq_map,List.all_cons,List.all_map]
   exact congrArg (deq d e && ·) (ih h')
theorem kG:∀ {ds es:List DV},ds.length≠es.length→deqs ds es=false
 | [],[],h=>absurd rfl h
 | [],_::_,_=>rfl
 | _::_,[],_=>rfl
 | d::ds,e::es,h=>by
  have h':ds.length≠es.length:=by first|exact List.mem_singleton.mp h|simpa using h
  show (deq d e && deqs ds es)=false
  rw [kG h',Bool.and_false]
theorem vf {ds es:List DV}:((List.range (min ds.length es.length)).all (fun j=>deq (ds.getD j .non) (es.getD j .non)) && ds.length == es.length)=deqs ds es:=by
 by_cases h:ds.length=es.length
 ·rw [← jX h,← h,Nat.min_self]
  simp
 ·rw [kG h]
  simp [h]
section
variable {X:Cx} {pins:List (Addr×Obj)} {σ:St} {H:Hp} {s:Shared}
theorem Inv.seq_inj (I:Inv X pins σ H s){a:Addr}{xs ys:List V}(h:SqL X.K H a xs)(h':SqT X.K H a ys):False:=by
 obtain ⟨its,_,p,_⟩:=I.list h
 obtain ⟨its',_,p',_⟩:=I.tuple h'
 obtain ⟨o,e,c,_⟩:=p.isList
 obtain ⟨o',e',c',_⟩:=p'
 rw [e] at e'
 cases e'
 rw [c] at c'
 injection c' with z
 exact absurd z (by decide)
theorem Deep.inj (I:Inv X pins σ H s){x:V}{d e:DV}(h:Deep X.K H x d):Deep X.K H x e→d=e:=by
 refine Deep.rec (motive_1:=fun x d _=>∀ e,Deep X.K H x e→d=e) (motive_2:=fun xs ds _=>∀ es,Deeps X.K H xs es→ds=es) ?_ ?_ ?_ ?_ (fun h _ t e h'=>?_) (fun h _ t e h'=>?_) ?_ (fun _ _ h t e h'=>?_) h e
 ·intro e h'; cases h'; rfl
 ·intro _ e h'; cases h'; rfl
 ·intro _ e h'; cases h'; rfl
 ·intro _ e h'; cases h'; rfl
 ·cases h' with
  | lst h2 t' =>
   have e:=I.list_inj h h2
   subst e
   rw [t _ t']
  | tup h2 _=>exact (I.seq_inj h h2).elim
 ·cases h' with
  | tup h2 t' =>
   have e:=I.tuple_inj h h2
   subst e
   rw [t _ t']
  | lst h2 _=>exact (I.seq_inj h2 h).elim
 ·intro e h'; cases h'; rfl
 ·cases h' with | cons h2 t2=>rw [h _ h2,t _ t2]
theorem Deeps.inj (I:Inv X pins σ H s){xs:List V}{ds es:List DV}(h:Deeps X.K H xs ds):Deeps X.K H xs es→ds=es :=
 Deeps.rec (motive_1:=fun _ _ _=>True) (motive_2:=fun xs ds _=>∀ es,Deeps X.K H xs es→ds=es) trivial (fun _=>trivial) (fun _=>trivial) (fun _=>trivial) (fun _ _ _=>trivial) (fun _ _ _=>trivial) (fun es h'=>by cases h'; rfl) (fun h _ _ t es h'=>by cases h' with | cons h2 t2=>rw [h.inj I h2,t _ t2]) h es
theorem ma (I:Inv X pins σ H s):∀ (n:Nat) (d e:DV) (x y:V) (u v:Value) (A:Around),dep d≤n→A.units+n < cLine→Deep X.K H x d→Deep X.K H y e→RelV x u→RelV y v →
  SeqAt.RcAt A s u v (deq d e)∧SeqAt.RcNeAt A s u v (!deq d e)∧SeqAt.EqAt A s u v (deq d e):=by
 intro n
 induction n with
 | zero =>
  intro d e x y u v A hd hu hx hy rx ry
  have hu0:A.units < cLine:=by nofun
  cases hx with
  | lst _ _=>simp only [dep] at hd; nofun
  | tup _ _=>simp only [dep] at hd; nofun
  | non =>
   cases rx
   cases hy with
   | non=>cases ry; exact ⟨SeqAt.RcAt.none_none,SeqAt.RcNeAt.none_none,SeqAt.EqAt.same _⟩
   | bl b=>cases ry; exact ⟨SeqAt.RcAt.none_bool b,SeqAt.RcNeAt.none_bool b,SeqAt.EqAt.none_bool b⟩
   | int b=>obtain ⟨t,rfl⟩:=ry; exact ⟨SeqAt.RcAt.none_int b t,SeqAt.RcNeAt.none_int b t,SeqAt.EqAt.none_int b t⟩
   | str b=>obtain ⟨t,rfl⟩:=ry; exact ⟨SeqAt.RcAt.none_str b t,SeqAt.RcNeAt.none_str b t,SeqAt.EqAt.none_str b t⟩
   | lst h _=>cases ry; obtain ⟨its,_,p,_⟩:=I.list h; exact ⟨SeqAt.RcAt.none_list p.isList hu0,SeqAt.RcNeAt.none_list p.isList hu0,SeqAt.EqAt.none_list p.isList hu0⟩
   | tup h _=>cases ry; obtain ⟨its,_,p,_⟩:=I.tuple h; exact ⟨SeqAt.RcAt.none_tuple p hu0,SeqAt.RcNeAt.none_tuple p hu0,SeqAt.EqAt.none_tuple p hu0⟩
  | bl a =>
   cases rx
   cases hy with
   | non=>cases ry; exact ⟨SeqAt.RcAt.bool_none a,SeqAt.RcNeAt.bool_none a,SeqAt.EqAt.bool_none a⟩
   | bl b=>cases ry; exact ⟨SeqAt.RcAt.bool_bool a b,SeqAt.RcNeAt.bool_bool a b,SeqAt.EqAt.bool_bool a b⟩
   | int b=>obtain ⟨t,rfl⟩:=ry; exact ⟨SeqAt.RcAt.bool_int a b t,SeqAt.RcNeAt.bool_int a b t,SeqAt.EqAt.bool_int a b t⟩
   | str b=>obtain ⟨t,rfl⟩:=ry; exact ⟨SeqAt.RcAt.bool_str a b t,SeqAt.RcNeAt.bool_str a b t,SeqAt.EqAt.bool_str a b t⟩
   | lst h _=>cases ry; obtain ⟨its,_,p,_⟩:=I.list h; exact ⟨SeqAt.RcAt.bool_list a p.isList hu0,SeqAt.RcNeAt.bool_list a p.isList hu0,SeqAt.EqAt.bool_list a p.isList hu0⟩
   | tup h _=>cases ry; obtain ⟨its,_,p,_⟩:=I.tuple h; exact ⟨SeqAt.RcAt.bool_tuple a p hu0,SeqAt.RcNeAt.bool_tuple a p hu0,SeqAt.EqAt.bool_tuple a p hu0⟩
  | int a =>
   obtain ⟨t',rfl⟩:=rx
   cases hy with
   | non=>cases ry; exact ⟨SeqAt.RcAt.int_none a t',SeqAt.RcNeAt.int_none a t',SeqAt.EqAt.int_none a t'⟩
   | bl b=>cases ry; exact ⟨SeqAt.RcAt.int_bool a t' b,SeqAt.RcNeAt.int_bool a t' b,SeqAt.EqAt.int_bool a t' b⟩
   | int b=>obtain ⟨t,rfl⟩:=ry; exact ⟨SeqAt.RcAt.int_int a t' b t,SeqAt.RcNeAt.int_int a t' b t,SeqAt.EqAt.int_int a t' b t⟩
   | str b=>obtain ⟨t,rfl⟩:=ry; exact ⟨SeqAt.RcAt.int_str a t' b t,SeqAt.RcNeAt.int_str a t' b t,SeqAt.EqAt.int_str a t' b t⟩
   | lst h _=>cases ry; obtain ⟨its,_,p,_⟩:=I.list h; exact ⟨SeqAt.RcAt.int_list a t' p.isList hu0,SeqAt.RcNeAt.int_list a t' p.isList hu0,SeqAt.EqAt.int_list a t' p.isList hu0⟩
   | tup h _=>cases ry; obtain ⟨its,_,p,_⟩:=I.tuple h; exact ⟨SeqAt.RcAt.int_tuple a t' p hu0,SeqAt.RcNeAt.int_tuple a t' p hu0,SeqAt.EqAt.int_tuple a t' p hu0⟩
  | str a =>
   obtain ⟨t',rfl⟩:=rx
   cases hy with
   | non=>cases ry; exact ⟨SeqAt.RcAt.str_none a t',SeqAt.RcNeAt.str_none a t',SeqAt.EqAt.str_none a t'⟩
   | bl b=>cases ry; exact ⟨SeqAt.RcAt.str_bool a t' b,SeqAt.RcNeAt.str_bool a t' b,SeqAt.EqAt.str_bool a t' b⟩
   | int b=>obtain ⟨t,rfl⟩:=ry; exact ⟨SeqAt.RcAt.str_int a t' b t,SeqAt.RcNeAt.str_int a t' b t,SeqAt.EqAt.str_int a t' b t⟩
   | str b=>obtain ⟨t,rfl⟩:=ry; exact ⟨SeqAt.RcAt.str_str a t' b t,SeqAt.RcNeAt.str_str a t' b t,SeqAt.EqAt.str_str a t' b t⟩
   | lst h _=>cases ry; obtain ⟨its,_,p,_⟩:=I.list h; exact ⟨SeqAt.RcAt.str_list a t' p.isList hu0,SeqAt.RcNeAt.str_list a t' p.isList hu0,SeqAt.EqAt.str_list a t' p.isList hu0⟩
   | tup h _=>cases ry; obtain ⟨its,_,p,_⟩:=I.tuple h; exact ⟨SeqAt.RcAt.str_tuple a t' p hu0,SeqAt.RcNeAt.str_tuple a t' p hu0,SeqAt.EqAt.str_tuple a t' p hu0⟩
 | succ n ih =>
  intro d e x y u v A hd hu hx hy rx ry
  have hu0:A.units < cLine:=by nofun
  have items:∀ {xs ys:List V} {ds es:List DV} {us vs:List Value},Deeps X.K H xs ds→Deeps X.K H ys es→deps ds≤n→Vals xs us→Vals ys vs→∀ j (h1:j < us.toArray.size) (h2:j < vs.toArray.size),SeqAt.EqAt A.in1 s us.toArray[j] vs.toArray[j] (deq (ds.getD j .non) (es.getD j .non)):=by
   intro xs ys ds es us vs hds hes hn rv rv' j h1 h2
   have h1':j < us.length:=by first|exact List.mem_singleton.mp h1|simpa using h1
   have h2':j < vs.length:=by first|exact List.mem_singleton.mp h2|simpa using h2
   have l1:=rv.length
   have l2:=rv'.length
   have ex:xs[j]?=some (xs[j]'(by nofun)):=List.getElem?_eq_getElem (by nofun)
   have ey:ys[j]?=some (ys[j]'(by nofun)):=List.getElem?_eq_getElem (by nofun)
   obtain ⟨d1,e1,p1,b1⟩:=hds.get ex
   obtain ⟨d2,e2,p2,b2⟩:=hes.get ey
   obtain ⟨u1,f1,r1⟩:=rv.get ex
   obtain ⟨u2,f2,r2⟩:=rv'.get ey
   have g1:us.toArray[j]=u1:=by
    have:us[j]?=some us[j]:=List.getElem?_eq_getElem h1'
    rw [f1] at this
    simpa using (Option.some.inj this).symm
   have g2:vs.toArray[j]=u2:=by
    have:vs[j]?=some vs[j]:=List.getElem?_eq_getElem h2'
    rw [f2] at this
    simpa using (Option.some.inj this).symm
   rw [g1,g2,List.getD_eq_getElem?_getD,List.getD_eq_getElem?_getD,e1,e2]
   exact (ih d1 d2 _ _ u1 u2 A.in1 (by nofun) (by show A.units+1+n < cLine; nofun) p1 p2 r1 r2).2.2
  by_cases h0:dep d≤0
  ·exact ih d e x y u v A (by nofun) (by nofun) hx hy rx ry
  cases hx with
  | non=>simp only [dep] at h0; nofun
  | bl _=>simp only [dep] at h0; nofun
  | int _=>simp only [dep] at h0; nofun
  | str _=>simp only [dep] at h0; nofun
  | @lst a xs ds h t =>
   cases rx
   simp only [dep] at hd
   obtain ⟨its,rv,p,hz⟩:=I.list h
   cases hy with
   | non=>cases ry; exact ⟨SeqAt.RcAt.list_none p.isList hu0,SeqAt.RcNeAt.list_none p.isList hu0,SeqAt.EqAt.list_none p.isList hu0⟩
   | bl b=>cases ry; exact ⟨SeqAt.RcAt.list_bool b p.isList hu0,SeqAt.RcNeAt.list_bool b p.isList hu0,SeqAt.EqAt.list_bool b p.isList hu0⟩
   | int b=>obtain ⟨t2,rfl⟩:=ry; exact ⟨SeqAt.RcAt.list_int b t2 p.isList hu0,SeqAt.RcNeAt.list_int b t2 p.isList hu0,SeqAt.EqAt.list_int b t2 p.isList hu0⟩
   | str b=>obtain ⟨t2,rfl⟩:=ry; exact ⟨SeqAt.RcAt.list_str b t2 p.isList hu0,SeqAt.RcNeAt.list_str b t2 p.isList hu0,SeqAt.EqAt.list_str b t2 p.isList hu0⟩
   | tup h' _ =>
    cases ry
    obtain ⟨its',_,p',_⟩:=I.tuple h'
    exact ⟨SeqAt.RcAt.list_tuple p.isList p' hu0,SeqAt.RcNeAt.list_tuple p.isList p' hu0,SeqAt.EqAt.list_tuple p.isList p' hu0⟩
   | @lst b ys es h' t' =>
    cases ry
    obtain ⟨its',rv',p',hz'⟩:=I.list h'
    have l1:=rv.length
    have l2:=rv'.length
    have l3:=t.length
    have l4:=t'.length
    have main:SeqAt.RcAt A s (.ref a) (.ref b) (deqs ds es)∧SeqAt.RcNeAt A s (.ref a) (.ref b) (!deqs ds es):=by
     by_cases hl:ds.length=es.length
     ·have e1:(List.range its.toArray.size).all (fun j=>deq (ds.getD j .non) (es.getD j .non))=deqs ds es:=by
       rw [← jX hl,show its.toArray.size=ds.length by simp; nofun]
      rw [← e1]
      exact ⟨SeqAt.RcAt.lists p.isList p'.isList (by simp; nofun) hu0 (items t t' (by nofun) rv rv'),SeqAt.RcNeAt.lists p.isList p'.isList (by simp; nofun) hu0 (items t t' (by nofun) rv rv')⟩
     ·rw [kG hl]
      exact ⟨SeqAt.RcAt.lists_lengths p.isList p'.isList (by simp; nofun) hu0,SeqAt.RcNeAt.lists_lengths p.isList p'.isList (by simp; nofun) hu0⟩
    refine ⟨main.1,main.2,?_⟩
    show SeqAt.EqAt A s (.ref a) (.ref b) (deqs ds es)
    by_cases hab:a=b
    ·subst hab
     have ee:=I.list_inj h h'
     subst ee
     rw [Deeps.inj I t t',deqs_refl]
     exact SeqAt.EqAt.same _
    ·exact SeqAt.EqAt.of_refs hab main.1
  | @tup a xs ds h t =>
   cases rx
   simp only [dep] at hd
   obtain ⟨its,rv,p,hz⟩:=I.tuple h
   cases hy with
   | non=>cases ry; exact ⟨SeqAt.RcAt.tuple_none p hu0,SeqAt.RcNeAt.tuple_none p hu0,SeqAt.EqAt.tuple_none p hu0⟩
   | bl b=>cases ry; exact ⟨SeqAt.RcAt.tuple_bool b p hu0,SeqAt.RcNeAt.tuple_bool b p hu0,SeqAt.EqAt.tuple_bool b p hu0⟩
   | int b=>obtain ⟨t2,rfl⟩:=ry; exact ⟨SeqAt.RcAt.tuple_int b t2 p hu0,SeqAt.RcNeAt.tuple_int b t2 p hu0,SeqAt.EqAt.tuple_int b t2 p hu0⟩
   | str b=>obtain ⟨t2,rfl⟩:=ry; exact ⟨SeqAt.RcAt.tuple_str b t2 p hu0,SeqAt.RcNeAt.tuple_str b t2 p hu0,SeqAt.EqAt.tuple_str b t2 p hu0⟩
   | lst h' _ =>
    cases ry
    obtain ⟨its',_,p',_⟩:=I.list h'
    exact ⟨SeqAt.RcAt.tuple_list p p'.isList hu0,SeqAt.RcNeAt.tuple_list p p'.isList hu0,SeqAt.EqAt.tuple_list p p'.isList hu0⟩
   | @tup b ys es h' t' =>
    cases ry
    obtain ⟨its',rv',p',hz'⟩:=I.tuple h'
    have l1:=rv.length
    have l2:=rv'.length
    have l3:=t.length
    have l4:=t'.length
    have e1:((List.range (min its.toArray.size its'.toArray.size)).all (fun j=>deq (ds.getD j .non) (es.getD j .non)) && its.toArray.size == its'.toArray.size)=deqs ds es:=by
     rw [← vf,show its.toArray.size=ds.length by simp; nofun,show its'.toArray.size=es.length by simp; nofun]
    have main:SeqAt.RcAt A s (.ref a) (.ref b) (deqs ds es)∧SeqAt.RcNeAt A s (.ref a) (.ref b) (!deqs ds es):=by
     rw [← e1]
     exact ⟨SeqAt.RcAt.tuples p p' hu0 (items t t' (by nofun) rv rv'),SeqAt.RcNeAt.tuples p p' hu0 (items t t' (by nofun) rv rv')⟩
    refine ⟨main.1,main.2,?_⟩
    show SeqAt.EqAt A s (.ref a) (.ref b) (deqs ds es)
    by_cases hab:a=b
    ·subst hab
     have ee:=I.tuple_inj h h'
     subst ee
     rw [Deeps.inj I t t',deqs_refl]
     exact SeqAt.EqAt.same _
    ·exact SeqAt.EqAt.of_refs hab main.1
end
section
variable {X:Cx}
def Fk (K:PySem.W.Frag):R2:=fun x y H Q=>∃ d e,Deep K H x d∧Deep K H y e∧dep d≤40∧Q (.bl (deq d e)) H
def Fl (K:PySem.W.Frag):R2:=fun x y H Q=>∃ d e,Deep K H x d∧Deep K H y e∧dep d≤40∧Q (.bl (!deq d e)) H
theorem Cn (hu:X.A.units+64 < cLine):OpR X (compareOp .Eq) (Fk X.K):=by
 intro pins s σ H x y v u Q I rx ry h
 obtain ⟨d,e,hd,he,hn,q⟩:=h
 exact (ma I 40 d e x y v u X.A hn (by nofun) hd he rx ry).1 _ _ _ _ ⟨.bl _,H,I,rfl,q⟩
theorem Co (hu:X.A.units+64 < cLine):OpR X (compareOp .NotEq) (Fl X.K):=by
 intro pins s σ H x y v u Q I rx ry h
 obtain ⟨d,e,hd,he,hn,q⟩:=h
 exact (ma I 40 d e x y v u X.A hn (by nofun) hd he rx ry).2.1 _ _ _ _ ⟨.bl _,H,I,rfl,q⟩
end
end L2
namespace L2
open PySem PySem.Spec PyProof.Rows
structure Own (P:Program)(w:World)(K:PySem.W.Frag)(mg:Str→Option Value)(base:Heap)(x:Str)(k:Nat)(ps:List Str)(sp:Sp):Prop where
 ex:∃ (f:Addr) (fd:FuncData),FnOk P w K mg base CX0 k f fd ps sp∧mg x=some (.ref f)∧PySem.W.keepIn K (.ref f)=true∧Binds K fd ps []
def Glo (mg:Str→Option Value)(x:Str)(v:V):Prop:=∃ u,mg x=some u∧RelV v u
section
variable {X:Cx}
theorem Cp {x:Str}{k:Nat}{ps:List Str}{sp:Sp}{e:Expr}{es:List Expr}{t:TA}{p pos:Pos}(O:Own X.prog X.w X.K X.mg X.base x k ps sp)(hr:Room k X.A)(ha:PA X (e::es) t)(hg:autoParam (Gl X x) L2.aR._auto_1)
  (hdb:autoParam ((x == ("__debug__" : Str))=false) L2.aD._auto_1) (he:autoParam (starEach (e::es) X.env=(false,eval e X.env)::starEach es X.env) L2.aR._auto_1) (hpl:autoParam ((backTo pos (starEach es X.env)).any (·.1)=false) L2.aR._auto_1) :
  PE X (.Call (.Name x p) (e::es) [] pos) (ra sp [] E0 t):=by
 obtain ⟨f,fd,F,hm,hk,hb⟩:=O.ex
 exact yS F hr hg hm hk hb .nil EC ha hdb he hpl
theorem xq {x:Str} {v:V} {pos:Pos} (h:Glo X.mg x v) (hg:autoParam (Gl X x) L2.aR._auto_1) (hd:autoParam ((x == ("__debug__" : Str))=false) L2.aD._auto_1):PE X (.Name x pos) (tC v):=by
 obtain ⟨u,hm,r⟩:=h
 exact yt hg hm r hd
theorem EI {x:Str} {T:String} {pos:Pos} (hm:X.mg x=none) (hv:bootBuiltins x=some (.type T)) (hg:autoParam (Gl X x) L2.aR._auto_1) (hn:autoParam (x ≠ "__name__") L2.aD._auto_1) (hd:autoParam ((x == ("__debug__" : Str))=false) L2.aD._auto_1):PE X (.Name x pos) (tC (.ty T)) :=
 yu hg hm hv rfl hn hd
def Cq (K:PySem.W.Frag):V→Option Int→Option Int→Hp→VK→Prop:=fun x lo hi H Q=>Fj x lo hi H Q∨Fg K x lo hi H Q∨Fc K x lo hi H Q
theorem xr:SlR X (Cq X.K):=Cm.or (y3.or B8)
def D0 (K:PySem.W.Frag):List V→Hp→VK→Prop:=fun xs H Q=>(∃ z,xs=[.str z]∧z.length≤sizeLine∧Q (.int z.length) H)∨(∃ p ys,xs=[.ref p]∧(SqL K H p ys∨SqT K H p ys)∧Q (.int ys.length) H)∨(∃ a kvs,xs=[V.ref a]∧Rd H a (.dK kvs)∧Q (.int kvs.length) H)
theorem pT:CallR X (.builtin "len") (fun xs H Q=>∃ a kvs,xs=[V.ref a]∧Rd H a (.dK kvs)∧Q (.int kvs.length) H):=by
 intro pins s σ H xs us Q I r h
 obtain ⟨a,kvs,rfl,ha,q⟩:=h
 obtain ⟨u,rfl,ru⟩:=eM r
 cases ru
 exact EA I ha fun t s' I'=>⟨.int kvs.length,H,I',⟨t,rfl⟩,q⟩
theorem DGet.kR {H:Hp}{a:Addr}{kvs:List (Key×V)}{k:Key}(e:Rd H a (.dK kvs)):DGet H a (kV k) (lT kvs k):=.inl ⟨kvs,k,e,rfl,rfl⟩
theorem rD:CallR X (.builtin "len") (D0 X.K):=lQ.or (lP.or pT)
def EJ:List V→Hp→VK→Prop:=fun xs H Q=>∃ i j,xs=[.int i,.int j]∧Q (.int (if j > i then j else i)) H
def EK:List V→Hp→VK→Prop:=fun xs H Q=>∃ i j,xs=[.int i,.int j]∧Q (.int (if j < i then j else i)) H
theorem rE (hc:X.calm=true):CallR X (.builtin "max") EJ:=qX hc
theorem rF (hc:X.calm=true):CallR X (.builtin "min") EK:=qY hc
def D1 (K:PySem.W.Frag):List V→Hp→VK→Prop:=fun xs H Q=>∃ (p:Addr) (bs:List Bool),xs=[.ref p]∧SqL K H p (bs.map V.bl)∧Q (.bl (bs.all id)) H
theorem rG (hc:X.calm=true):CallR X (.builtin "all") (D1 X.K):=vd hc
def rInS:R2:=fun x y H Q=>∃ (c:Nat) (j:Str),x=.str ⟨#[c]⟩∧y=.str j∧Q (.bl (decide (c ∈ j.cps.toList))) H
def zm:R2:=fun x y H Q=>∃ (c:Nat) (j:Str),x=.str ⟨#[c]⟩∧y=.str j∧Q (.bl (!decide (c ∈ j.cps.toList))) H
def Fm (K:PySem.W.Frag):R2:=fun x y H Q=>rInS x y H Q∨rIn K false x y H Q
def rH (K:PySem.W.Frag):R2:=fun x y H Q=>zm x y H Q∨rIn K true x y H Q
theorem Cr:OpR X (compareOp .In) (Fm X.K):=OpR.or pQ rg
theorem rJ:OpR X (compareOp .NotIn) (rH X.K):=OpR.or kF lN
end
section
variable {σ:St} {H:Hp} {Q:VK} {R:Bool→Hp→Prop} {QA:List V→Hp→Prop} {D:Ends} {K:PySem.W.Frag}
end
theorem ck {H:Hp}{p:Addr}{o:HO}(hp:H p=none):Same H (upd H p o):=fun b u h=>by rw [bR (cz h hp)]; exact h
theorem SqT.same {K:PySem.W.Frag}{H H':Hp}{a:Addr}{xs:List V}(h:SqT K H a xs)(e:Same H H'):SqT K H' a xs:=by
 rcases h with (h | ⟨o,h⟩) | h
 ·exact .inl (.inl (e _ _ h))
 ·exact .inl (.inr ⟨o,e _ _ h⟩)
 ·exact .inr h
end L2
namespace L2
open PySem PySem.Spec PyProof.Rows
def zn (N:List Str)(names:List (Str×NameKind)):List Str→List Nat→Bool
 | [],[]=>true
 | x::F,i::ixs=>(N[i]? == some x) && (names.lookup x == some .free) && zn N names F ixs
 | _,_=>false
theorem om {N:List Str}{names:List (Str×NameKind)}:∀ {F:List Str} {ixs:List Nat},zn N names F ixs=true→ixs.length=F.length ∧
  ∀ (j i:Nat) (x:Str),ixs[j]?=some i→F[j]?=some x→N[i]?=some x∧names.lookup x=some .free
 | [],[],_=>⟨rfl,fun j i x h=>by simp at h⟩
 | [],_::_,h=>(Bool.false_ne_true h).elim
 | _::_,[],h=>(Bool.false_ne_true h).elim
 | y::F,k::ixs,h=>by
  obtain ⟨h,h3⟩:=Bool.and_eq_true_iff.mp h
  obtain ⟨h1,h2⟩:=Bool.and_eq_true_iff.mp h
  replace h1:=eq_of_beq h1
  replace h2:=eq_of_beq h2
  obtain ⟨l,r⟩:=om h3
  refine ⟨by rw [List.length_cons,List.length_cons,l],fun j i x a b=>?_⟩
  cases j with
  | zero =>
   simp at a b
   subst a b
   exact ⟨h1,h2⟩
  | succ j=>exact r j i x (by first|exact List.mem_singleton.mp a|simpa using a) (by first|exact List.mem_singleton.mp b|simpa using b)
def Fn (names out:List (Str×NameKind)):Bool:=names.all fun y=>(y.2 != .cell) && (y.2 != .local || names.lookup y.1 == some .local) && (y.2 != .free || out.lookup y.1 == some .cell || out.lookup y.1 == some .free)
theorem CompScope.of {X:Cx}{T F:List Str}{ixs:List Nat}{scope:Scope}(kind:scope.kind=.function)(h1:zn X.N scope.names F ixs=true)(h2:Fn scope.names X.env.scope.names=true):CompScope X T F ixs scope:=by
 obtain ⟨l,c⟩:=om h1
 unfold Fn at h2
 rw [List.all_eq_true] at h2
 refine ⟨kind,fun y hy=>?_,fun y hy e=>?_,fun j i x=>c j i x,l,fun y hy e=>?_⟩
 ·have:=h2 y hy
  simp only [Bool.and_eq_true] at this
  simpa using this.1.1
 ·have:=h2 y hy
  simp only [Bool.and_eq_true] at this
  have q:=this.1.2
  rw [e] at q
  simpa using q
 ·have:=h2 y hy
  simp only [Bool.and_eq_true] at this
  have q:=this.2
  rw [e] at q
  simpa using q
section
variable {X:Cx}
def D2 (K:PySem.W.Frag):R2:=fun x y H Q=>rEq x y H Q∨Fk K x y H Q
def D3 (K:PySem.W.Frag):R2:=fun x y H Q=>rNe x y H Q∨Fl K x y H Q
theorem Cs (hu:X.A.units+64 < cLine):OpR X (compareOp .Eq) (D2 X.K):=Eo.or (Cn hu)
theorem Cu (hu:X.A.units+64 < cLine):OpR X (compareOp .NotEq) (D3 X.K):=Ep.or (Co hu)
end
end L2
namespace L2
open PySem
theorem cG:bootBuiltins "len" = some (.builtin "len"):=by decide +kernel
theorem xt:bootBuiltins "max" = some (.builtin "max"):=by decide +kernel
theorem Cv:bootBuiltins "min" = some (.builtin "min"):=by decide +kernel
theorem aZ:bootBuiltins "isinstance" = some (.builtin "isinstance"):=by decide +kernel
theorem md:bootBuiltins "all" = some (.builtin "all"):=by decide +kernel
theorem me:bootBuiltins "sorted" = some (.builtin "sorted"):=by decide +kernel
theorem fX:bootBuiltins "str" = some (.type "str"):=by decide +kernel
theorem rK:bootBuiltins "list" = some (.type "list"):=by decide +kernel
theorem eu:bootBuiltins "tuple" = some (.type "tuple"):=by decide +kernel
theorem xu:bootBuiltins "set" = some (.type "set"):=by decide +kernel
end L2
namespace L2
open PySem
theorem xw {α:Type}{xs:List α}{i:Int}(h0:0≤i)(h:i < xs.length):∃ c,atI xs i=some c∧c ∈ xs:=by
 obtain ⟨k,rfl⟩:=Int.eq_ofNat_of_zero_le h0
 have hk:k < xs.length:=by nofun
 exact ⟨xs[k],gQ (List.getElem?_eq_getElem hk),List.getElem_mem hk⟩
theorem vg {α:Type}{xs:List α}{lo hi:Option Int}{c:α}(h:c ∈ dR xs lo hi):c ∈ xs:=List.mem_of_mem_drop (List.mem_of_mem_take h)
theorem nq {α:Type}(xs:List α)(lo hi:Option Int):(dR xs lo hi).length≤xs.length:=by
 unfold dR
 rw [List.length_take,List.length_drop]
 nofun
theorem kH {α:Type}(xs:List α)(k:Nat):dR xs none (some (k:Int))=xs.take k:=by
 unfold dR
 rw [HT.sIx_none,HT.sIx_nat,Nat.sub_zero,List.drop_zero]
 by_cases h:k≤xs.length
 ·rw [Nat.min_eq_left h]
 ·rw [Nat.min_eq_right (by nofun),List.take_of_length_le (Nat.le_refl _),List.take_of_length_le (by nofun)]
theorem gw {α:Type}(xs:List α)(k:Nat):dR xs (some (k:Int)) none=xs.drop k:=by
 unfold dR
 rw [HT.sIx_none,HT.sIx_nat]
 by_cases h:k≤xs.length
 ·rw [Nat.min_eq_left h,List.take_of_length_le (by rw [List.length_drop]; nofun)]
 ·rw [Nat.min_eq_right (by nofun),List.drop_of_length_le (Nat.le_refl _),List.drop_of_length_le (by nofun)]
  simp
theorem nr {z:Str}{l:List Nat}(h:z.cps.toList=l):z.length=l.length:=by rw [← h]; simp [Str.length]
end L2
namespace L2
open PySem PySem.Spec PyProof.Rows
section
variable {X:Cx}
theorem Cw (K:PySem.W.Frag)(hu:X.A.units+64 < cLine)(h:autoParam (X.K=K) L2.aR._auto_1):OpR X (compareOp .Eq) (D2 K):=by subst h; exact Cs hu
theorem Cy (K:PySem.W.Frag)(hu:X.A.units+64 < cLine)(h:autoParam (X.K=K) L2.aR._auto_1):OpR X (compareOp .NotEq) (D3 K):=by subst h; exact Cu hu
theorem zo (K:PySem.W.Frag)(h:autoParam (X.K=K) L2.aR._auto_1):SlR X (Cq K):=by subst h; exact xr
theorem rL (K:PySem.W.Frag)(h:autoParam (X.K=K) L2.aR._auto_1):CallR X (.builtin "len") (D0 K):=by subst h; exact rD
theorem rM (K:PySem.W.Frag)(hc:X.calm=true)(h:autoParam (X.K=K) L2.aR._auto_1):CallR X (.builtin "all") (D1 K):=by subst h; exact rG hc
theorem vh (K:PySem.W.Frag)(h:autoParam (X.K=K) L2.aR._auto_1):MtR X "str.join" (ve K):=by subst h; exact zk
theorem Cz {o e:Expr} {es:List Expr} {to:TE} {t:TA} {name:Str} {apos cpos:Pos} {T id:String} {r:V→List V→Hp→VK→Prop} (K:PySem.W.Frag) (pa:PlainAttrs T) (slot:Slot T name id) (hty:typeOf (.builtin id)=pure (.type "method_descriptor")) (hm:MtR X id r) (ho:PE X o to) (ha:PA X (e::es) t)
  (hK:autoParam (X.K=K) L2.aR._auto_1) (hbase:autoParam (attributeBase o name X.env (eval o X.env)=eval o X.env) L2.aR._auto_1)
  (hfew:autoParam (((backTo cpos (starEach (e::es) X.env)).all (fun x=>!x.1) && (backToKw cpos (keywordEach [] X.env)).all (fun x=>x.1.isSome)
   && decide ((e::es).length+([]:List Keyword).length+(if ([]:List Keyword).isEmpty then 0 else 1) < 30))=true) L2.aR._auto_1)
  (hline:autoParam ((apos.endLine == cpos.line)=true) L2.aR._auto_1) (hs:autoParam (starEach (e::es) X.env=(false,eval e X.env)::starEach es X.env) L2.aR._auto_1) (hplain:autoParam ((backTo cpos (starEach es X.env)).any (·.1)=false) L2.aR._auto_1) :
  PE X (.Call (.Attribute o name apos) (e::es) [] cpos) (tBM K T r to t):=by subst hK; exact Ey pa slot hty hm ho ha hbase hfew hline hs hplain
theorem zp {o:Expr} {to:TE} {name:Str} {apos cpos:Pos} {T id:String} {r:V→List V→Hp→VK→Prop} (K:PySem.W.Frag) (pa:PlainAttrs T) (slot:Slot T name id) (hty:typeOf (.builtin id)=pure (.type "method_descriptor")) (hm:MtR X id r) (ho:PE X o to)
  (hK:autoParam (X.K=K) L2.aR._auto_1) (hbase:autoParam (attributeBase o name X.env (eval o X.env)=eval o X.env) L2.aR._auto_1) (hline:autoParam ((apos.endLine == cpos.line)=true) L2.aR._auto_1):PE X (.Call (.Attribute o name apos) [] [] cpos) (DZ K T r to):=by subst hK; exact Cf pa slot hty hm ho hbase hline
theorem zq {es:List Expr}{k:Nat}{t:TGs}{n:Nat}{pos:Pos}(K:PySem.W.Frag)(hc:X.calm=true)(h:PGs X es t)(hK:autoParam (X.K=K) L2.aR._auto_1)
  (hn:autoParam ((assignEach es X.env).length=n) L2.aR._auto_1) (hst:autoParam ((assignEach es X.env).findIdx? (·.1)=none) L2.aR._auto_1):PG X (.Tuple es k pos) (DW K n t):=by subst hK; exact BF hc h hn hst
theorem vi {tg l:Expr}{tl:TE}(K:PySem.W.Frag)(hl:PE X l tl)(hK:autoParam (X.K=K) L2.aR._auto_1):PI X tg l (uZ K tl):=by subst hK; exact yH hl
theorem zr {tg l:Expr}{tl:TE}(K:PySem.W.Frag)(hl:PE X l tl)(hK:autoParam (X.K=K) L2.aR._auto_1):PI X tg l (DX K tl):=by subst hK; exact BK hl
end
end L2
namespace L2
open PySem
end L2
namespace L2
theorem iI {α:Type}:∀ zs:List α,(zs.map fun _=>1).sum=zs.length
 | []=>rfl
 | z::zs=>by rw [List.map_cons,List.sum_cons,iI zs,List.length_cons]; nofun
end L2
namespace L2
open PySem PySem.Spec PyProof.Rows
end L2
namespace L2
open PySem PySem.Spec PyProof.Rows
def cV:Expr→Bool
 | .Starred _ _=>false
 | _=>true
theorem cH {e:Expr}{es:List Expr}{env:Env}(h:cV e=true):starEach (e::es) env=(false,eval e env)::starEach es env:=by
 cases e <;> first | rfl | (cases h)
theorem eN {es:List Expr}{env:Env}{pos:Pos}(h:es.all cV=true):(backTo pos (starEach es env)).any (·.1)=false:=by
 induction es with
 | nil=>rfl
 | cons e es ih =>
  rw [List.all_cons,Bool.and_eq_true] at h
  rw [cH h.1]
  have:=ih h.2
  simpa [backTo] using this
section
variable {X:Cx}
theorem pa_c {e:Expr}{es:List Expr}{te:TE}{t:TA}(ha:PE X e te)(hr:PA X es t)(hn:autoParam (cV e=true) L2.aR._auto_1):PA X (e::es) (fV te t):=q0 ha hr (cH hn)
theorem zt {x:Str}{k:Nat}{ps:List Str}{sp:Sp}{e:Expr}{es:List Expr}{t:TA}{p pos:Pos}(O:Own X.prog X.w X.K X.mg X.base x k ps sp)(hr:Room k X.A)(ha:PA X (e::es) t)(hg:autoParam (Gl X x) L2.aR._auto_1)(hn:autoParam ((e::es).all cV=true) L2.aR._auto_1)
  (hdb:autoParam ((x == ("__debug__" : Str))=false) L2.aD._auto_1):PE X (.Call (.Name x p) (e::es) [] pos) (ra sp [] E0 t):=by
 have h:=hn
 rw [List.all_cons,Bool.and_eq_true] at h
 exact Cp O hr ha hg hdb (cH h.1) (eN h.2)
theorem rN {x:Str} {p pos:Pos} {e:Expr} {es:List Expr} {t:TA} {id:String} {r:List V→Hp→VK→Prop} (hc:CallR X (.builtin id) r) (hm:X.mg x=none) (hv:bootBuiltins x=some (.builtin id)) (ha:PA X (e::es) t) (hg:autoParam (Gl X x) L2.aR._auto_1) (hns:autoParam ((e::es).all cV=true) L2.aR._auto_1) (hn:autoParam (x ≠ "__name__") L2.aD._auto_1)
  (hdb:autoParam ((x == ("__debug__" : Str))=false) L2.aD._auto_1):PE X (.Call (.Name x p) (e::es) [] pos) (tCB r t):=by
 have h:=hns
 rw [List.all_cons,Bool.and_eq_true] at h
 exact u4 hc hg hm hv ha hn hdb (cH h.1) (eN h.2)
theorem rO {x:Str} {p pos:Pos} {e:Expr} {es:List Expr} {t:TA} {T:String} {r:List V→Hp→VK→Prop} (hc:CallR X (.type T) r) (hm:X.mg x=none) (hv:bootBuiltins x=some (.type T)) (ha:PA X (e::es) t) (hg:autoParam (Gl X x) L2.aR._auto_1) (hns:autoParam ((e::es).all cV=true) L2.aR._auto_1) (hn:autoParam (x ≠ "__name__") L2.aD._auto_1)
  (hdb:autoParam ((x == ("__debug__" : Str))=false) L2.aD._auto_1):PE X (.Call (.Name x p) (e::es) [] pos) (tCB r t):=by
 have h:=hns
 rw [List.all_cons,Bool.and_eq_true] at h
 exact re hc hg hm hv ha hn hdb (cH h.1) (eN h.2)
end
end L2
namespace L2
open PySem PySem.Spec PyProof.Rows
structure BE (X:Cx)(e:Expr)(t:TE):Prop where h:PE X e t
structure BT (X:Cx)(e:Expr)(t:TT):Prop where h:PT X e t
structure BW (X:Cx)(e:Expr)(t:TT):Prop where h:PW X e t
structure BA (X:Cx)(es:List Expr)(t:TA):Prop where h:PA X es t
structure BS (X:Cx)(s:Stmt)(t:TS):Prop where h:PS X s t
structure BSs (X:Cx)(s:List Stmt)(t:TS):Prop where h:PSs X s t
structure BG (X:Cx)(e:Expr)(t:TG):Prop where h:PG X e t
structure BGs (X:Cx)(es:List Expr)(t:TGs):Prop where h:PGs X es t
structure BI (X:Cx)(tg e:Expr)(t:TI):Prop where h:PI X tg e t
structure BO (X:Cx)(e:Option Expr)(t:TO):Prop where h:PO X e t
structure BIf (X:Cx)(es:List Expr)(t:TT):Prop where h:Bm X es t
structure BPs (X:Cx)(pos:Pos)(ks:List (Option Expr))(vs:List Expr)(t:List (TE×TE)):Prop where h:PPs X pos ks vs t
structure BOp (X:Cx)(f:Value→Value→Sem Value)(r:R2):Prop where h:OpR X f r
structure BCall (X:Cx)(f:Value)(r:List V→Hp→VK→Prop):Prop where h:CallR X f r
structure BMt (X:Cx)(id:String)(r:V→List V→Hp→VK→Prop):Prop where h:MtR X id r
section
variable {X:Cx}
theorem cI (i:Nat) {x:Str} {pos:Pos} (hN:X.N[i]?=some x) (hv:Vis X.env.scope x) (hd:autoParam ((x == ("__debug__" : Str))=false) L2.aD._auto_1) (hcd:autoParam ((x == ("__classdict__" : Str))=false) L2.aD._auto_1):BE X (.Name x pos) (uM i):=⟨xh hN hv hd hcd⟩
theorem ae (i:Nat){x:Str}{pos:Pos}(hN:autoParam (X.N[i]?=some x) L2.aR._auto_1)(hv:autoParam (X.env.scope.names.lookup x=some .local) L2.aR._auto_1)(hd:autoParam ((x==("__debug__":Str))=false) L2.aD._auto_1)(hcd:autoParam ((x==("__classdict__":Str))=false) L2.aD._auto_1):BE X (.Name x pos) (uM i):=cI i hN (.inl hv) hd hcd
theorem ai {i j pos}:BE X (.Constant (.int i) j pos) (tC (.int i)):=⟨Bs⟩
theorem ez {b j pos}:BE X (.Constant (.bool b) j pos) (tC (.bl b)):=⟨Ec⟩
theorem eO {j pos}:BE X (.Constant .none j pos) (tC .non):=⟨Bt⟩
theorem am {x j pos}:BE X (.Constant (.str x) j pos) (tC (.str x)):=⟨Bu⟩
theorem dG {x:Str} {v:V} {pos:Pos} (h:Glo X.mg x v) (hg:X.env.kindOf x=some .globalImplicit) (hd:autoParam ((x == ("__debug__" : Str))=false) L2.aD._auto_1):BE X (.Name x pos) (tC v):=⟨xq h hg hd⟩
theorem gx {x:Str} {T:String} {pos:Pos} (hm:X.mg x=none) (hv:bootBuiltins x=some (.type T)) (hg:X.env.kindOf x=some .globalImplicit) (hn:autoParam (x ≠ "__name__") L2.aD._auto_1) (hd:autoParam ((x == ("__debug__" : Str))=false) L2.aD._auto_1):BE X (.Name x pos) (tC (.ty T)):=⟨EI hm hv hg hn hd⟩
theorem bu {a b:Expr}{ta tb:TE}{pos:Pos}{op:Operator}{r:R2}(ho:BOp X (binaryOp op) r)(ha:BE X a ta)(hb:BE X b tb):BE X (.BinOp a op b pos) (tOp r ta tb):=⟨Em ho.h ha.h hb.h⟩
theorem rP {a:Expr}{ta:TE}{pos:Pos}(ha:BE X a ta):BE X (.UnaryOp .USub a pos) (tUn (rU fun i=>.int (-i)) ta):=⟨En BV ha.h⟩
theorem fZ {op}{a:Expr}{t:TE}{pos:Pos}(h:BE X a t):BE X (.BoolOp op [a] pos) t:=⟨Bz h.h⟩
theorem eP {a b:Expr}{aw:List Expr}{ta tb:TE}{pos:Pos}(ha:BE X a ta)(hb:BE X (.BoolOp .And (b::aw) pos) tb):BE X (.BoolOp .And (a::b::aw) pos) (yw ta tb):=⟨BB ha.h hb.h⟩
theorem dM {a b:Expr}{ta tb:TE}{pos:Pos}{op:CmpOp}{r:R2}(ho:BOp X (compareOp op) r)(ha:BE X a ta)(hb:BE X b tb)(hm:behindInMarks op b=false):BE X (.Compare a [op] [b] pos) (tOp r ta tb):=⟨yO ho.h ha.h hb.h hm⟩
theorem oo {a b c:Expr}{ta tb tc:TE}{pos:Pos}{op op':CmpOp}{r r':R2}(ho:BOp X (compareOp op) r)(ho':BOp X (compareOp op') r')(ha:BE X a ta)(hb:BE X b tb)(hc:BE X c tc)(hm:lastMarks [op,op'] [b,c]=false):BE X (.Compare a [op,op'] [b,c] pos) (lH r r' ta tb tc):=⟨u0 ho.h ho'.h ha.h hb.h hc.h hm⟩
theorem CA {a b c:Expr}{tA:TT}{ta tb:TE}{pos:Pos}(hc:BT X c tA)(ha:BE X a ta)(hb:BE X b tb):BE X (.IfExp c a b pos) (tIf tA ta tb):=⟨uT hc.h ha.h hb.h⟩
theorem aP {x:Str}{k:Nat}{ps:List Str}{sp:Sp}{e:Expr}{es:List Expr}{t:TA}{p pos:Pos}(O:Own X.prog X.w X.K X.mg X.base x k ps sp)(hr:Room k X.A)(ha:BA X (e::es) t)(hg:X.env.kindOf x=some .globalImplicit)(hn:(e::es).all cV=true)
  (hdb:autoParam ((x == ("__debug__" : Str))=false) L2.aD._auto_1):BE X (.Call (.Name x p) (e::es) [] pos) (ra sp [] E0 t):=⟨zt O hr ha.h hg hn hdb⟩
theorem ay {x:Str} {p pos:Pos} {e:Expr} {es:List Expr} {t:TA} {id:String} {r:List V→Hp→VK→Prop} (hc:BCall X (.builtin id) r) (hm:X.mg x=none) (hv:bootBuiltins x=some (.builtin id)) (ha:BA X (e::es) t) (hg:X.env.kindOf x=some .globalImplicit) (hns:(e::es).all cV=true) (hn:autoParam (x ≠ "__name__") L2.aD._auto_1)
  (hdb:autoParam ((x == ("__debug__" : Str))=false) L2.aD._auto_1):BE X (.Call (.Name x p) (e::es) [] pos) (tCB r t):=⟨rN hc.h hm hv ha.h hg hns hn hdb⟩
theorem dS {x:Str} {p pos:Pos} {e:Expr} {es:List Expr} {t:TA} {T:String} {r:List V→Hp→VK→Prop} (hc:BCall X (.type T) r) (hm:X.mg x=none) (hv:bootBuiltins x=some (.type T)) (ha:BA X (e::es) t) (hg:X.env.kindOf x=some .globalImplicit) (hns:(e::es).all cV=true) (hn:autoParam (x ≠ "__name__") L2.aD._auto_1)
  (hdb:autoParam ((x == ("__debug__" : Str))=false) L2.aD._auto_1):BE X (.Call (.Name x p) (e::es) [] pos) (tCB r t):=⟨rO hc.h hm hv ha.h hg hns hn hdb⟩
theorem vj {es:List Expr}{env:Env}{pos:Pos}(h:es.all cV=true)(hl:es.length < 29):((backTo pos (starEach es env)).all (fun x=>!x.1) && (backToKw pos (keywordEach [] env)).all (fun x=>x.1.isSome)
      && decide (es.length+([]:List Keyword).length+(if ([]:List Keyword).isEmpty then 0 else 1) < 30))=true:=by
  have h1:(backTo pos (starEach es env)).all (fun x=>!x.1)=true:=by
    clear hl
    induction es with
    | nil=>rfl
    | cons e es ih =>
      rw [List.all_cons,Bool.and_eq_true] at h
      rw [cH h.1]
      exact ih h.2
  rw [h1]
  exact decide_eq_true (Nat.lt_succ_of_lt hl)
theorem dm {o e:Expr} {es:List Expr} {to:TE} {t:TA} {name:Str} {apos cpos:Pos} {T id:String} {r:V→List V→Hp→VK→Prop} (K:PySem.W.Frag) (pa:PlainAttrs T) (slot:Slot T name id) (hty:typeOf (.builtin id)=pure (.type "method_descriptor")) (hm:BMt X id r) (ho:BE X o to) (ha:BA X (e::es) t)
  (hK:X.K=K) (hbase:attributeBase o name X.env (eval o X.env)=eval o X.env) (hn:(e::es).all cV=true) (hl:(e::es).length < 29) (hline:(apos.endLine == cpos.line)=true):BE X (.Call (.Attribute o name apos) (e::es) [] cpos) (tBM K T r to t):=by
 have h:=hn
 rw [List.all_cons,Bool.and_eq_true] at h
 exact ⟨Cz K pa slot hty hm.h ho.h ha.h hK hbase (vj hn hl) hline (cH h.1) (eN h.2)⟩
theorem vk {o:Expr} {to:TE} {name:Str} {apos cpos:Pos} {T id:String} {r:V→List V→Hp→VK→Prop} (K:PySem.W.Frag) (pa:PlainAttrs T) (slot:Slot T name id) (hty:typeOf (.builtin id)=pure (.type "method_descriptor")) (hm:BMt X id r) (ho:BE X o to)
  (hK:X.K=K) (hbase:attributeBase o name X.env (eval o X.env)=eval o X.env) (hline:(apos.endLine == cpos.line)=true):BE X (.Call (.Attribute o name apos) [] [] cpos) (DZ K T r to):=⟨zp K pa slot hty hm.h ho.h hK hbase hline⟩
theorem kI {e:Expr}{te:TE}{lo hi:Option Expr}{tl th:TO}{pos p2:Pos}(K:PySem.W.Frag)(he:BE X e te)(hl:BO X lo tl)(hu:BO X hi th)(hK:X.K=K):BE X (.Subscript e (.Slice lo hi none p2) pos) (tSl (Cq K) te tl th):=⟨n8 (zo K hK) he.h hl.h hu.h⟩
theorem cZ {es:List Expr}{t:TA}{pos:Pos}(h:BA X es t):BE X (.List es pos) (Ew t):=⟨B5 h.h⟩
theorem gb {es:List Expr}{t:TA}{x1}{pos:Pos}(h:BA X es t):BE X (.Tuple es x1 pos) (Ev t):=⟨BZ h.h⟩
theorem rQ {pos:Pos}:BE X (.Dict [] [] pos) oa:=⟨u7⟩
theorem zu {pos:Pos}{k:Option Expr}{keys:List (Option Expr)}{values:List Expr}{trs:List (TE×TE)}(h:BPs X pos (k::keys) values trs)(hall:(k::keys).all (·.isSome)=true)(hl:(k::keys).length=values.length)(h15:(k::keys).length≤15):BE X (.Dict (k::keys) values pos) (zb trs):=⟨zc h.h hall hl (fun z=>nomatch z) h15⟩
theorem zv {pos:Pos}:BPs X pos [] [] []:=⟨za⟩
theorem gy {pos:Pos}{k v:Expr}{ks:List (Option Expr)}{vs:List Expr}{tk tv:TE}{trs:List (TE×TE)}(hk:BE X k tk)(hv:BE X v tv)(hr:BPs X pos ks vs trs):BPs X pos (some k::ks) (v::vs) ((tk,tv)::trs):=⟨u8 hk.h hv.h hr.h⟩
theorem dX {T F:List Str}{ixs:List Nat}{scope:Scope}{elt tg iter:Expr}{ifs:List Expr}{pos:Pos}{wi:TI}{g:TG}{tc:TT}{te:TE}(hc:X.calm=true)(S:CompScope X T F ixs scope)(hi:BI X tg iter wi)
  (hg:∀ C s H fp,BG (dA X (T++F) scope (bU X.env scope.names []) C s H fp) tg g) (ht:∀ C s H fp,BIf (dA X (T++F) scope (bU X.env scope.names []) C s H fp) ifs tc) (he:∀ C s H fp,BE (dA X (T++F) scope (bU X.env scope.names []) C s H fp) elt te)
  (hs:∀ x,foldedSetIterable iter X.env x=pure x):BE X (.ListComp elt [⟨tg,iter,ifs,0⟩] scope pos) (pN T.length ixs wi g tc te) :=
 ⟨zg hc S hi.h (fun C s H fp=>(hg C s H fp).h) (fun C s H fp=>(ht C s H fp).h) (fun C s H fp=>(he C s H fp).h) hs⟩
theorem ag:BA X [] m7:=⟨xl⟩
theorem au {e:Expr}{es:List Expr}{te:TE}{t:TA}(ha:BE X e te)(hr:BA X es t)(hn:cV e=true):BA X (e::es) (fV te t):=⟨pa_c ha.h hr.h hn⟩
theorem cg:BO X none nc:=⟨yU⟩
theorem bA {e:Expr}{te:TE}(h:BE X e te):BO X (some e) (yT te):=⟨yV h.h⟩
theorem eA:BIf X [] EG:=⟨zd⟩
theorem rR {c:Expr}{t:TT}(h:BT X c t):BIf X [c] t:=⟨ze h.h⟩
theorem bh {a b:Expr}{ta tb:TE}{pos:Pos}{op:CmpOp}{r:R2}(ho:BOp X (compareOp op) r)(ha:BE X a ta)(hb:BE X b tb)(hm:behindInMarks op b=false):BT X (.Compare a [op] [b] pos) (nb (tOp r ta tb)):=⟨yQ ho.h ha.h hb.h hm⟩
theorem kJ {a b c:Expr}{ta tb tc:TE}{pos:Pos}{op op':CmpOp}{r r':R2}(ho:BOp X (compareOp op) r)(ho':BOp X (compareOp op') r')(ha:BE X a ta)(hb:BE X b tb)(hc:BE X c tc)(hm:lastMarks [op,op'] [b,c]=false):BT X (.Compare a [op,op'] [b,c] pos) (nb (lH r r' ta tb tc)):=⟨u3 ho.h ho'.h ha.h hb.h hc.h hm⟩
theorem dh {a:Expr}{tA:TT}{pos:Pos}(ha:BT X a tA):BT X (.UnaryOp .Not a pos) (Ee tA):=⟨By ha.h⟩
theorem pU {e:Expr}{t:TT}(h:BW X e t):BT X e t:=⟨h.h.pt⟩
theorem i1 {a:Expr}{tA:TT}{pos:Pos}(ha:BT X a tA):BW X (.BoolOp .And [a] pos) tA:=⟨yv ha.h⟩
theorem ip {a:Expr}{tA:TT}{pos:Pos}(ha:BT X a tA):BW X (.BoolOp .Or [a] pos) tA:=⟨Bw ha.h⟩
theorem jY {a b:Expr}{aw:List Expr}{tA tB':TT}{pos:Pos}(ha:BT X a tA)(hb:BW X (.BoolOp .And (b::aw) pos) tB'):BW X (.BoolOp .And (a::b::aw) pos) (Ed tA tB'):=⟨Bx ha.h hb.h⟩
theorem i2 {a b:Expr}{aw:List Expr}{tA tB':TT}{pos:Pos}(ha:BT X a tA)(hb:BW X (.BoolOp .Or (b::aw) pos) tB'):BW X (.BoolOp .Or (a::b::aw) pos) (tOr tA tB'):=⟨Ef ha.h hb.h⟩
theorem cq {f:Expr}{as:List Expr}{ks:List Keyword}{pos:Pos}{t:TE}(h:BE X (.Call f as ks pos) t):BT X (.Call f as ks pos) (tB t):=⟨Bv h.h (by intro _; cases f <;> rfl)⟩
theorem cu {pos:Pos}{i:Nat}{x:Str}(hN:X.N.Nodup)(hi:X.N[i]?=some x)(hx:Loc X.env.scope x)(hf:X.fn x=true∨X.env.scope.names.lookup x=some .local):BG X (.Name x pos) (kz i):=⟨yD hN hi hx hf⟩
theorem rS:BGs X [] Ei:=⟨yG⟩
theorem fG {e:Expr}{es:List Expr}{t:TG}{u:TGs}(h1:BG X e t)(h2:BGs X es u)(hs:(assignEach (e::es) X.env).map (·.2)=assign e X.env::(assignEach es X.env).map (·.2)):BGs X (e::es) (yF t u):=⟨uW h1.h h2.h hs⟩
theorem xx {es:List Expr}{k:Nat}{t:TGs}{n:Nat}{pos:Pos}(K:PySem.W.Frag)(hc:X.calm=true)(h:BGs X es t)(hK:X.K=K)(hn:(assignEach es X.env).length=n)(hst:(assignEach es X.env).findIdx? (·.1)=none):BG X (.Tuple es k pos) (DW K n t):=⟨zq K hc h.h hK hn hst⟩
theorem oq {o i:Expr}{to ti:TE}{pos:Pos}(ho:BE X o to)(hi:BE X i ti)
  (ha:∀ v,assign (.Subscript o i pos) X.env v=(do
   let ov ← holding [v] (eval o X.env)
   let iv ← holding [v,ov] (eval i X.env)
   standAt pos
   holding [v,ov,iv] (setItem ov iv v)
   release [v,ov,iv] [])):BG X (.Subscript o i pos) (Ej to ti y2):=⟨BH ho.h hi.h u6 ha⟩
theorem zw {tg l:Expr}{tl:TE}(K:PySem.W.Frag)(hl:BE X l tl)(hK:X.K=K):BI X tg l (uZ K tl):=⟨vi K hl.h hK⟩
theorem rT {tg l:Expr}{tl:TE}(K:PySem.W.Frag)(hl:BE X l tl)(hK:X.K=K):BI X tg l (DX K tl):=⟨zr K hl.h hK⟩
theorem mf {tg l:Expr}{tl:TE}(K:PySem.W.Frag)(hl:BE X l tl)(hK:X.K=K):BI X tg l (EH tl):=⟨Ck hl.h⟩
theorem eQ {tg a:Expr} {ta:TA} {p pos:Pos} (hg:X.env.kindOf "range" = some .globalImplicit) (hm:X.mg "range" = none) (ha:BA X [a] ta) (hn:cV a=true):BI X tg (.Call (.Name "range" p) [a] [] pos) (yI ta):=⟨qP hg hm ha.h (cH hn)⟩
theorem rV {tg a b:Expr} {ta:TA} {p pos:Pos} (hg:X.env.kindOf "range" = some .globalImplicit) (hm:X.mg "range" = none) (ha:BA X [a,b] ta) (hn:cV a=true) (hn2:cV b=true):BI X tg (.Call (.Name "range" p) [a,b] [] pos) (yJ ta) :=
 ⟨qQ hg hm ha.h (by rw [cH hn,cH hn2]; rfl) (by rw [cH hn2]; rfl)⟩
theorem aO:BSs X [] qK:=⟨yx⟩
theorem al {st:Stmt}{t:TS}(h:BS X st t):BSs X [st] t:=⟨na h.h⟩
theorem ad {st:Stmt}{aw:List Stmt}{t u:TS}(h1:BS X st t)(h2:BSs X aw u):BSs X (st::aw) (Bj t u):=⟨uU h1.h h2.h⟩
theorem zx {e:Expr}{te:TE}{pos:Pos}(he:BE X e te)(hs:swapsWith e none pos.line X.env=pure false):BS X (.Expr e pos) (yz te):=⟨yB he.h hs⟩
theorem aN {e:Expr}{te:TE}{pos:Pos}(he:BE X e te):BS X (.Return (some e) pos) (BC te):=⟨BD he.h⟩
theorem bQ {c:Expr}{a b:List Stmt}{tc:TT}{t u:TS}{pos:Pos}(hc:BT X c tc)(ha:BSs X a t)(hb:BSs X b u):BS X (.If c a b pos) (Bk tc t u):=⟨Eg hc.h ha.h hb.h⟩
theorem aL {i:Nat}{x:Str}{e:Expr}{te:TE}{pos' pos:Pos}(hN:X.N.Nodup)(hi:X.N[i]?=some x)(hx:Loc X.env.scope x)(he:BE X e te)(hs:swapsWith e (some (.Name x pos')) pos.line X.env=pure false)(hf:X.fn x=true∨X.env.scope.names.lookup x=some .local) :
  BS X (.Assign [.Name x pos'] e pos) (uX te (kz i)):=⟨xi hN hi hx he.h hs hf⟩
theorem jZ {tg e:Expr}{te:TE}{g:TG}{pos:Pos}(he:BE X e te)(hg:BG X tg g)(hs:swapsWithSole [tg] e pos.line X.env=pure false)(hw:swappedStores [tg] e X.env=pure none)(h1:(assignEach [tg] X.env).map (·.2)=[assign tg X.env]):BS X (.Assign [tg] e pos) (uX te g):=⟨BJ he.h hg.h hs hw h1⟩
theorem ot {tg iter:Expr}{body:List Stmt}{wi:TI}{g:TG}{tb:TS}{pos:Pos}(hp:PassesOwn (model X.prog X.w) X.A X.env X.xe)(hc:X.calm=true)(hi:BI X tg iter wi)(hg:BG X tg g)(hb:BSs X body tb)(hs:∀ x,foldedSetIterable iter X.env x=pure x):BS X (.For tg iter body [] pos) (Ek wi g tb):=⟨BL hp hc hi.h hg.h hb.h hs⟩
theorem kK:BOp X (binaryOp .Sub) (rI0 fun i j=>.int (i - j)):=⟨BP⟩
theorem nt:BOp X (binaryOp .Mult) (rI CMul fun i j=>.int (i * j)):=⟨BQ⟩
theorem kL:BOp X (binaryOp .FloorDiv) (rI yL fun i j=>.int (i / j)):=⟨yM⟩
theorem i3:BOp X (binaryOp .Mod) (rI (fun _ j=>0 < j) fun i j=>.int (i % j)):=⟨BR⟩
theorem zy:BOp X (binaryOp .Pow) (rI BM fun i j=>.int (i ^ j.toNat)):=⟨BU⟩
theorem ou:BOp X (binaryOp .Pow) (rI pP fun i j=>.int (i ^ j.toNat)):=⟨zj⟩
theorem bE (K:PySem.W.Frag)(hu:X.A.units+64 < cLine)(h:X.K=K):BOp X (compareOp .Eq) (D2 K):=⟨Cw K hu h⟩
theorem xy (K:PySem.W.Frag)(hu:X.A.units+64 < cLine)(h:X.K=K):BOp X (compareOp .NotEq) (D3 K):=⟨Cy K hu h⟩
def Fo:R2:=fun x y H Q=>y=.non∧Q (.bl (decide (x=.non))) H
def EL:R2:=fun x y H Q=>y=.non∧Q (.bl (!decide (x=.non))) H
theorem nu:BOp X (compareOp .Is) Fo:=⟨BX⟩
theorem vm:BOp X (compareOp .IsNot) EL:=⟨yN⟩
theorem cJ (K:PySem.W.Frag)(h:X.K=K):BCall X (.builtin "len") (D0 K):=⟨rL K h⟩
theorem xz (hc:X.calm=true):BCall X (.builtin "max") EJ:=⟨rE hc⟩
theorem CB (hc:X.calm=true):BCall X (.builtin "min") EK:=⟨rF hc⟩
theorem mh (K:PySem.W.Frag)(hc:X.calm=true)(h:X.K=K):BCall X (.builtin "all") (D1 K):=⟨rM K hc h⟩
theorem i4 (K:PySem.W.Frag)(h:X.K=K):BMt X "str.join" (ve K):=⟨vh K h⟩
theorem rW (K:PySem.W.Frag)(h:X.K=K):BMt X "list.append" kC:=⟨lS⟩
end
theorem zz {b:Expr}{op:CmpOp}(h:op≠.In)(h2:op≠.NotIn):behindInMarks op b=false:=BY b h h2
theorem aA {b:Expr}{op:CmpOp}(h:autoParam (op≠.In) L2.aD._auto_1)(h2:autoParam (op≠.NotIn) L2.aD._auto_1):behindInMarks op b=false:=zz h h2
theorem Fun.okB {P:Program}{w:World}{K:PySem.W.Frag}{mg:Str→Option Value}{base:Heap}{x qual:Str}{st:Stmt}{f:Addr}{fd:FuncData}{N ps:List Str}{k:Nat}{sp:Sp}(F:Fun K x qual st f fd)(S:FnScope N ps (ak st))(len:∀ vs H Q E,sp vs H Q E→vs.length=ps.length)
  (hbody:∀ (cdv:Value) (A:Around) (outer:List Env) (s:Shared) (H:Hp) (vs:List V) (Q:VK) (E:XK),Room k (A.deeper (envOfC qual (ak st) s.heap.objs.size f cdv))→sp vs H Q E →
   ∃ t,BSs (n5 CX0 P w K mg base N qual (ak st) f cdv A outer s H E).nox (bf st) t∧t { nx:=fun _ H'=>Q .non H',rt:=Q } (eh N vs) H):FnOk P w K mg base CX0 (k+1) f fd ps sp :=
 F.ok S len fun cdv A outer s H vs Q E hr h=>by
  obtain ⟨t,h1,h2⟩:=hbody cdv A outer s H vs Q E hr h
  exact ⟨t,h1.h,h2⟩
end L2
namespace L2
open PySem
end L2
set_option maxHeartbeats 4000000
namespace KS
open PySem PySem.Spec PyProof.Rows
def Ris (xs:Array Nat):Prop:=xs.toList.Pairwise (· < ·)
theorem Ris.lt {xs:Array Nat}(h:Ris xs){i j d:Nat}(hij:i < j)(hj:j < xs.size):xs.getD i d < xs.getD j d:=by
 have hi:i < xs.size:=Nat.lt_trans hij hj
 have q:=List.pairwise_iff_getElem.mp h i j (by first|exact List.mem_singleton.mp hi|simpa using hi) (by first|exact List.mem_singleton.mp hj|simpa using hj) hij
 rw [Array.getD_eq_getD_getElem?,Array.getD_eq_getD_getElem?,Array.getElem?_eq_getElem hi,Array.getElem?_eq_getElem hj]
 simpa using q
theorem kM {xs:Array Nat}{j:Nat}(h:Ris xs):∀ (fuel lo hi:Nat),lo≤hi→hi≤xs.size→hi - lo≤fuel→(∀ k,k < lo→xs.getD k j < j)→(∀ k,hi≤k→k < xs.size→j≤xs.getD k j) →
  SetTable.below.go xs j fuel lo hi≤xs.size∧(∀ k,k < SetTable.below.go xs j fuel lo hi→xs.getD k j < j)∧∀ k,SetTable.below.go xs j fuel lo hi≤k→k < xs.size→j≤xs.getD k j
 | 0,lo,hi,a,b,c,p,q=>by
  have e:hi=lo:=by nofun
  subst e
  exact ⟨b,p,q⟩
 | fuel+1,lo,hi,a,b,c,p,q=>by
  have e0:SetTable.below.go xs j (fuel+1) lo hi=if lo < hi then (if xs.getD ((lo+hi) / 2) j < j then SetTable.below.go xs j fuel ((lo+hi) / 2+1) hi else SetTable.below.go xs j fuel lo ((lo+hi) / 2)) else lo:=rfl
  rw [e0]
  by_cases hlt:lo < hi
  ·rw [if_pos hlt]
   have hm:(lo+hi) / 2 < hi:=by nofun
   by_cases hv:xs.getD ((lo+hi) / 2) j < j
   ·rw [if_pos hv]
    refine kM h fuel _ hi (by nofun) b (by nofun) (fun k hk=>?_) q
    by_cases e:k=(lo+hi) / 2
    ·rw [e]; exact hv
    ·exact Nat.lt_trans (h.lt (i:=k) (j:=(lo+hi) / 2) (by nofun) (by nofun)) hv
   ·rw [if_neg hv]
    refine kM h fuel lo _ (by nofun) (by nofun) (by nofun) p fun k hk hs=>?_
    by_cases e:k=(lo+hi) / 2
    ·rw [e]; nofun
    ·have:=h.lt (i:=(lo+hi) / 2) (j:=k) (d:=j) (by nofun) hs
     nofun
  ·rw [if_neg hlt]
   have e:hi=lo:=by nofun
   subst e
   exact ⟨b,p,q⟩
theorem gR {xs:Array Nat}(h:Ris xs)(j:Nat):SetTable.below xs j≤xs.size∧(∀ k,k < SetTable.below xs j→xs.getD k j < j)∧∀ k,SetTable.below xs j≤k→k < xs.size→j≤xs.getD k j :=
 kM h _ _ _ (Nat.zero_le _) (Nat.le_refl _) (by nofun) (fun k hk=>absurd hk (Nat.not_lt_zero _)) fun k hk hs=>absurd hs (by nofun)
theorem pV {xs:Array Nat}(h:Ris xs):SetTable.below xs 0=0:=by
 obtain ⟨_,b,_⟩:=gR h 0
 by_cases e:SetTable.below xs 0=0
 ·exact e
 ·exact absurd (b 0 (by nofun)) (Nat.not_lt_zero _)
theorem pW {xs:Array Nat}(h:Ris xs){i p:Nat}(e:xs[i]?=some p):SetTable.below xs (p+1)=i+1:=by
 obtain ⟨hi,ep⟩:=Array.getElem?_eq_some_iff.mp e
 obtain ⟨a,b,c⟩:=gR h (p+1)
 have g:∀ d,xs.getD i d=p:=fun d=>by rw [Array.getD_eq_getD_getElem?,e]; rfl
 by_cases l:SetTable.below xs (p+1)≤i
 ·have:=c i l hi
  rw [g] at this
  nofun
 ·by_cases r:SetTable.below xs (p+1)=i+1
  ·exact r
  ·have h1:=b (i+1) (by nofun)
   have h2:=h.lt (i:=i) (j:=i+1) (d:=p+1) (by nofun) (by nofun)
   rw [g] at h2
   nofun
def NotIn (xs:Array Nat)(j:Nat):Prop:=xs[SetTable.below xs j]?≠some j
theorem pX {xs:Array Nat}(h:Ris xs){j:Nat}(n:NotIn xs j):Ris (SetTable.insertAt xs (SetTable.below xs j) j):=by
 obtain ⟨a,b,c⟩:=gR h j
 unfold NotIn at n
 generalize SetTable.below xs j=p at a b c n
 have e:(SetTable.insertAt xs p j).toList=xs.toList.take p++j::xs.toList.drop p:=by
  unfold SetTable.insertAt
  simp [Array.toList_extract,List.extract_eq_drop_take,Array.length_toList]
  exact List.take_of_length_le (by rw [List.length_drop,Array.length_toList]; exact Nat.le_refl _)
 have lo:∀ x ∈ xs.toList.take p,x < j:=by
  intro x hx
  obtain ⟨k,hk⟩:=List.mem_iff_getElem?.mp hx
  rw [List.getElem?_take] at hk
  split at hk
  ·rename_i hkp
   have:=b k hkp
   rw [Array.getD_eq_getD_getElem?,← Array.getElem?_toList,hk] at this
   exact this
  ·cases hk
 have hi:∀ x ∈ xs.toList.drop p,j < x:=by
  intro x hx
  obtain ⟨k,hk⟩:=List.mem_iff_getElem?.mp hx
  rw [List.getElem?_drop] at hk
  have hs:p+k < xs.size:=by
   have:=(List.getElem?_eq_some_iff.mp hk).1
   simpa using this
  have q:=c (p+k) (by nofun) hs
  rw [Array.getD_eq_getD_getElem?,← Array.getElem?_toList,hk] at q
  have q:j≤x:=q
  rcases Nat.lt_or_ge j x with z | z
  ·exact z
  ·have ex:x=j:=by nofun
   subst ex
   exfalso
   by_cases k0:k=0
   ·subst k0
    exact n (by rw [← Array.getElem?_toList]; exact hk)
   ·have g1:=h.lt (i:=p) (j:=p+k) (d:=x) (by nofun) hs
    have g2:=c p (Nat.le_refl _) (by nofun)
    have g3:xs.getD (p+k) x=x:=by rw [Array.getD_eq_getD_getElem?,← Array.getElem?_toList,hk]; rfl
    nofun
 unfold Ris
 rw [e]
 refine List.pairwise_append.mpr ⟨List.Pairwise.sublist (List.take_sublist p _) h,List.pairwise_cons.mpr ⟨hi,List.Pairwise.sublist (List.drop_sublist p _) h⟩,fun x hx y hy=>?_⟩
 rcases List.mem_cons.mp hy with rfl | hy
 ·exact lo x hx
 ·exact Nat.lt_trans (lo x hx) (hi y hy)
theorem mi (t:SetTable)(p:SetTable.Probe):(t.advance p).dummy=p.dummy:=by
 unfold SetTable.advance
 split
 ·rfl
 ·rfl
theorem gT {t:SetTable}{f:Nat→Int}{h:Int}:∀ (fuel:Nat) (p:SetTable.Probe) (j:Nat) (d:Option Nat),(∀ x,p.dummy=some x→NotIn t.place x)→SetTable.probe.go t f h fuel p=some (.empty j d)→NotIn t.place j∧∀ x,d=some x→NotIn t.place x
 | 0,p,j,d,_,e=>by unfold SetTable.probe.go at e; cases e
 | fuel+1,p,j,d,hp,e=>by
  unfold SetTable.probe.go at e
  have ns:∀ {s:SetTable.Slot},t.slot p.j=s→(∀ i,s≠.live i)→NotIn t.place p.j:=by
   intro s es hs hn
   unfold SetTable.slot at es
   dsimp only at es
   rw [if_pos (by rw [hn]; simp)] at es
   exact hs _ es.symm
  cases hsl:t.slot p.j with
  | empty =>
   rw [hsl] at e
   have e:=Option.some.inj e
   injection e with e1 e2
   subst e1 e2
   exact ⟨ns hsl (fun i z=>nomatch z),hp⟩
  | dummy =>
   rw [hsl] at e
   refine gT fuel _ j d (fun x hx=>?_) e
   rw [mi] at hx
   have hx:some p.j=some x:=hx
   injection hx with hx
   rw [← hx]
   exact ns hsl fun i z=>nomatch z
  | live i =>
   rw [hsl] at e
   dsimp only at e
   split at e
   ·cases e
   ·exact gT fuel _ j d (fun x hx=>hp x (by rw [mi] at hx; exact hx)) e
theorem pY {t:SetTable}{h:Int}{j:Nat}{b:Bool}(e:t.freeSlot h=some (j,b)):NotIn t.place j:=by
 unfold SetTable.freeSlot at e
 split at e
 ·rename_i j' d hp
  obtain ⟨h1,h2⟩:=gT _ _ _ _ (fun x hx=>by cases (show (none:Option Nat)=some x from hx)) hp
  have e:=Option.some.inj e
  have e1:d.getD j'=j:=congrArg Prod.fst e
  subst e1
  cases d with
  | none=>exact h1
  | some x=>exact h2 x rfl
 ·cases e
theorem zA (t:SetTable)(es:Array (Int×Value))(h:Int)(x:Value)(hr:t.plain=true→Ris t.place):(layNew t es h x).2.1.plain=true→Ris (layNew t es h x).2.1.place:=by
 unfold layNew
 split
 ·rename_i slot wd e
  dsimp only
  unfold SetTable.orStandIn
  split
  ·intro hp
   have hp:t.plain=true:=hp
   exact pX (hr hp) (pY e)
  ·exact fun z=>by cases z
 ·exact fun z=>by cases z
theorem vn {mask finger moves:Nat}{led plain:Bool}{hs:Array Int}{t:SetTable}{order:Array Nat}(h:SetTable.laid mask finger moves led plain hs=some (t,order)):Ris t.place:=by
 unfold SetTable.laid at h
 cases e:SetTable.layClean mask hs with
 | none=>rw [e] at h; cases h
 | some owner =>
  rw [e] at h
  have h':=Option.some.inj h
  rw [← congrArg (fun p=>p.1.place) h']
  dsimp only
  unfold Ris
  rw [List.toList_toArray,List.pairwise_map]
  refine List.Pairwise.filterMap _ (R:=(· < ·)) (fun a a' haa b hb b' hb'=>?_) List.pairwise_lt_range
  obtain ⟨y,_,rfl⟩:=Option.map_eq_some_iff.mp hb
  obtain ⟨y',_,rfl⟩:=Option.map_eq_some_iff.mp hb'
  exact haa
theorem rX (t:SetTable)(es:Array (Int×Value))(wanted:Nat):(relayAll t es wanted).2.1.plain=true→Ris (relayAll t es wanted).2.1.place:=by
 unfold relayAll
 split
 ·rename_i t' order e
  dsimp only
  split
  ·exact fun _=>vn (show SetTable.laid _ _ _ t.led t.plain _=some (t',order) from e)
  ·exact fun z=>by cases z
 ·exact fun z=>by cases z
end KS
set_option maxHeartbeats 4000000
namespace KS
open PySem PySem.Spec PyProof.Rows
theorem zB (t:SetTable)(es:Array (Int×Value))(h:Int)(x:Value):(layNew t es h x).2.1.led=t.led∧((layNew t es h x).2.1.plain=true→t.plain=true):=by
 unfold layNew
 split
 ·dsimp only
  unfold SetTable.orStandIn
  split
  ·exact ⟨rfl,fun z=>z⟩
  ·exact ⟨rfl,fun z=>by cases z⟩
 ·exact ⟨rfl,fun z=>by cases z⟩
theorem vo {mask finger moves:Nat}{led plain:Bool}{hs:Array Int}{t:SetTable}{order:Array Nat}(h:SetTable.laid mask finger moves led plain hs=some (t,order)):t.led=led∧t.plain=plain:=by
 unfold SetTable.laid at h
 cases e:SetTable.layClean mask hs with
 | none=>rw [e] at h; cases h
 | some owner =>
  rw [e] at h
  have h':=Option.some.inj h
  exact ⟨(congrArg (fun p=>p.1.led) h').symm,(congrArg (fun p=>p.1.plain) h').symm⟩
theorem rY (t:SetTable)(es:Array (Int×Value))(wanted:Nat):(relayAll t es wanted).2.1.led=t.led∧((relayAll t es wanted).2.1.plain=true→t.plain=true):=by
 unfold relayAll
 split
 ·rename_i t' order e
  have q:=vo (show SetTable.laid _ _ _ t.led t.plain _=some (t',order) from e)
  dsimp only
  split
  ·exact ⟨q.1,fun z=>by rw [q.2] at z; exact z⟩
  ·exact ⟨rfl,fun z=>by cases z⟩
 ·exact ⟨rfl,fun z=>by cases z⟩
section
variable {prog:Program} {w:World} {K:Type} [DecidableEq K] (knd:KeyKind prog w K)
def SetZ (h:Heap)(a:Addr)(σ:List K)(L:Bool):Prop :=
 ∃ o es ep t,h.get? a=some o∧o.ExactSet∧o.data=.set es ep t∧ElemsOf knd es.toList∧(∀ k,k ∈ σ↔∃ e ∈ es.toList,knd.is k e.2=true)∧es.size < scanBound∧t.fits es.size=true∧es.size=σ.length∧σ.Nodup∧t.led=L∧(t.plain=true→Ris t.place)
def dedup1 (σ:List K)(k:K):List K:=if k ∈ σ then σ else σ++[k]
variable {knd} {A:Around} {E:Value→Shared→Prop} {s:Shared}
theorem nodup_snoc {σ:List K}{k:K}(h:σ.Nodup)(hk:k ∉ σ):(σ++[k]).Nodup:=by
 rw [List.nodup_append]
 refine ⟨h,by simp,fun x hx y hy e=>?_⟩
 have hy:y=k:=by first|exact List.mem_singleton.mp hy|simpa using hy
 rw [e,hy] at hx
 exact hk hx
theorem SetZ.at {h h':Heap}{a:Addr}{σ:List K}{L:Bool}(hS:SetZ knd h a σ L)(k:∀ o,h.get? a=some o→h'.get? a=some o):SetZ knd h' a σ L:=by
 obtain ⟨o,es,ep,t,ho,r⟩:=hS
 exact ⟨o,es,ep,t,k o ho,r⟩
theorem Fp {h:Heap}{a:Addr}{o:Obj}{es:Array (Int×Value)}{ep:Nat}{t:SetTable}(ho:h.get? a=some o)(hd:o.data=.set es ep t)(es':Array (Int×Value))(t':SetTable) :
  (h.update a (Obj.putSet es' t')).get? a=some { o with data:=.set es' (ep+1) t' }:=by
 have q:=Heap.get?_update_self (Obj.putSet es' t') ho (by rw [putSet_of es' t' hd]; rfl)
 rw [putSet_of es' t' hd] at q
 exact q
theorem zD {g:Bool→Sem Unit}(hg:∀ (b:Bool) (s₁:Shared) (Q':Unit→Shared→Prop),Q' () s₁→wpAny (model prog w) A (g b) Q' E s₁)
  {a:Addr} {o:Obj} {es:Array (Int×Value)} {ep:Nat} {t:SetTable} (ho:s.heap.get? a=some o) (hex:o.ExactSet) (hd:o.data=.set es ep t)
  {es1:Array (Int×Value)} {t2:SetTable} {τ:List K} {L:Bool} (hel:ElemsOf knd es1.toList) (hm:∀ k',k' ∈ τ↔∃ e ∈ es1.toList,knd.is k' e.2=true)
  (hb:es1.size < scanBound) (hf:t2.fits es1.size=true) (hn:es1.size=τ.length) (hnd:τ.Nodup) (hled:t2.led=L) (hpl:t2.plain=true→Ris t2.place) {wasDummy:Bool} {R:Option Bool→Shared→Prop}
  (h:∀ h',Heap.SameBut a s.heap h'→SetZ knd h' a τ L→R (some true) { s with heap:=h' }) :
  wpAny (model prog w) A (do
    storeSet a es1 t2
    if (!wasDummy && t2.tooFull)=true then do
      g (relayAll t2 es1 (SetTable.grown es1.size)).2.2
      storeSet a (relayAll t2 es1 (SetTable.grown es1.size)).1 (relayAll t2 es1 (SetTable.grown es1.size)).2.1
      pure (some true)
     else pure (some true)) R E s:=by
 refine wpAny_bind (wpAny_storeSet_of ho hd ?_ (fits_of_scanBound hb))
 have g1:=Fp ho hd es1 t2
 have b1:=Heap.SameBut.update s.heap a (Obj.putSet es1 t2)
 split
 ·have hp:=relayAll_perm t2 es1 (SetTable.grown es1.size)
  have hfr:=relayAll_fits t2 es1 (SetTable.grown es1.size)
  have hlr:=rY t2 es1 (SetTable.grown es1.size)
  have hrr:=rX t2 es1 (SetTable.grown es1.size)
  generalize hR:relayAll t2 es1 (SetTable.grown es1.size)=Y at hp hfr hlr hrr ⊢
  obtain ⟨es2,t3,gave⟩:=Y
  dsimp only at hp hfr hlr hrr ⊢
  have z2:es2.size=es1.size:=by rw [← Array.length_toList,hp.length_eq,Array.length_toList]
  refine wpAny_bind (hg _ _ _ ?_)
  refine wpAny_bind (wpAny_storeSet_of g1 rfl ?_ (fits_of_scanBound (by rw [z2]; exact hb)))
  exact wpAny_pure (h _ (b1.trans (Heap.SameBut.update _ a _)) ⟨_,es2,_,t3,Fp g1 rfl es2 t3,hex,rfl,hel.perm hp,fun k'=>(hm k').trans ⟨fun ⟨e,he,q⟩=>⟨e,hp.mem_iff.mpr he,q⟩,fun ⟨e,he,q⟩=>⟨e,hp.mem_iff.mp he,q⟩⟩,
   by rw [z2]; exact hb,hfr,z2.trans hn,hnd,hlr.1.trans hled,hrr⟩)
 ·exact wpAny_pure (h _ b1 ⟨_,es1,_,t2,g1,hex,rfl,hel,hm,hb,hf,hn,hnd,hled,hpl⟩)
theorem addZ {a:Addr}{σ:List K}{L:Bool}{k:K}{x:Value}{Q:Bool→Shared→Prop}(hkey:knd.is k x=true)(hsc:x.scannable=true)(hS:SetZ knd s.heap a σ L)(hroom:σ.length+1 < scanBound)
  (h:∀ b h',Heap.SameBut a s.heap h'→SetZ knd h' a (dedup1 σ k) L→Q b { s with heap:=h' }):wpAny (model prog w) A (setAddHashed a x (knd.hash k)) Q E s:=by
 obtain ⟨o,es,ep,t,ho,hex,hd,hel,hm,hb,hf,hn,hnd,hled,hpl⟩:=id hS
 unfold setAddHashed setAddHashedIn
 refine wpAny_holding (wpAny_bind (wpAny_setState_of ho hd hf ?_))
 dsimp only
 rw [byScan_of hsc hb hel]
 simp only [↓reduceIte]
 unfold setAddByScan
 refine wpAny_bind ?_
 refine wpAny_bind (wpAny_rule ?_)
 refine wpAny_bind (wpAny_setScan_of hkey ho hd hf hel ?_)
 cases hr:List.findIdx? (fun e=>knd.is k e.2) es.toList with
 | some j =>
  dsimp only
  obtain ⟨hj,hpj,_⟩:=List.findIdx?_eq_some_iff_getElem.mp hr
  have hk:k ∈ σ:=(hm k).mpr ⟨es.toList[j],List.getElem_mem hj,hpj⟩
  refine wpAny_pure (wpAny_pure ?_)
  have q:=h false s.heap (Heap.SameBut.refl a s.heap) (by unfold dedup1; rw [if_pos hk]; exact hS)
  exact q
 | none =>
  dsimp only
  have hk:k ∉ σ:=fun z=>by
   obtain ⟨e,he,hp⟩:=(hm k).mp z
   have:=List.findIdx?_eq_none_iff.mp hr e he
   rw [hp] at this
   cases this
  have way:∀ (b:Bool) {s₁:Shared} {Q':Unit→Shared→Prop},Q' () s₁→wpAny (model prog w) A (match b with | true=>rule "set.scan.the-table-gave-way" | false=>pure ()) Q' E s₁:=fun b s₁ Q' hq=>by
   cases b
   ·exact wpAny_pure hq
   ·exact wpAny_rule hq
  have hp:=layNew_perm t es (knd.hash k) x
  have hfi:=layNew_fits t es (knd.hash k) x
  have hll:=zB t es (knd.hash k) x
  have hlr:=zA t es (knd.hash k) x hpl
  generalize hL:layNew t es (knd.hash k) x=Y at hp hfi hll hlr ⊢
  obtain ⟨es1,t1,wasDummy,gave⟩:=Y
  dsimp only at hp hfi hll hlr ⊢
  rw [Array.toList_push] at hp
  have z1:es1.size=es.size+1:=by rw [← Array.length_toList,hp.length_eq,List.length_append,Array.length_toList]; rfl
  have hel1:ElemsOf knd es1.toList:=(hel.push hkey hsc).perm hp
  have hm1:∀ k',k' ∈ σ++[k]↔∃ e ∈ es1.toList,knd.is k' e.2=true:=fun k'=>by
   rw [List.mem_append,hm k',List.mem_singleton]
   constructor
   ·rintro (⟨e,he,q⟩ | rfl)
    ·exact ⟨e,hp.mem_iff.mpr (List.mem_append_left _ he),q⟩
    ·exact ⟨_,hp.mem_iff.mpr (List.mem_append_right _ (List.mem_singleton.mpr rfl)),hkey⟩
   ·rintro ⟨e,he,q⟩
    rcases List.mem_append.mp (hp.mem_iff.mp he) with he | he
    ·exact .inl ⟨e,he,q⟩
    ·rw [List.mem_singleton] at he
     subst he
     exact .inr (knd.inj x k' k q hkey)
  refine wpAny_bind (way _ ?_)
  have fin:∀ h',Heap.SameBut a s.heap h'→SetZ knd h' a (σ++[k]) L→Q true { s with heap:=h' }:=fun h' b' z=>h true h' b' (by unfold dedup1; rw [if_neg hk]; exact z)
  have hn1:es1.size=(σ++[k]).length:=by rw [List.length_append,z1,hn]; rfl
  split
  ·refine wpAny_bind ?_
   rw [hashByValue_scannable 8 hsc]
   refine wpAny_pure ?_
   cases hpk:plainKind x with
   | false =>
    refine zD ?_ ho hex hd hel1 hm1 (by nofun) (by rw [if_neg (by decide)]; exact SetTable.fits_plain_off hfi) hn1 (nodup_snoc hnd hk) (L:=L) (by rw [if_neg (by decide)]; exact hll.1.trans hled) (by rw [if_neg (by decide)]; exact fun z=>nomatch z) ?_
    ·intro b s₁ Q' hq
     exact way b hq
    ·intro h' b' z
     dsimp only
     exact wpAny_pure (fin h' b' z)
   | true =>
    refine zD ?_ ho hex hd hel1 hm1 (by nofun) (by rw [if_pos rfl]; exact hfi) hn1 (nodup_snoc hnd hk) (L:=L) (by rw [if_pos rfl]; exact hll.1.trans hled) (by rw [if_pos rfl]; exact hlr) ?_
    ·intro b s₁ Q' hq
     exact way b hq
    ·intro h' b' z
     dsimp only
     exact wpAny_pure (fin h' b' z)
  ·rename_i hpf
   refine wpAny_bind (wpAny_pure ?_)
   simp only [↓reduceIte]
   refine zD ?_ ho hex hd hel1 hm1 (by nofun) hfi hn1 (nodup_snoc hnd hk) (L:=L) (hll.1.trans hled) hlr ?_
   ·intro b s₁ Q' hq
    exact way b hq
   ·intro h' b' z
    dsimp only
    exact wpAny_pure (fin h' b' z)
def metZ (val:Nat→K)(i:Nat):List K:=((List.range i).map val).foldl dedup1 []
theorem i5 (val:Nat→K)(i:Nat):metZ val (i+1)=dedup1 (metZ val i) (val i):=by
 unfold metZ
 rw [List.range_succ,List.map_append,List.foldl_append]
 rfl
theorem metZ_len (val:Nat→K):∀ i,(metZ val i).length≤i
 | 0=>Nat.le_refl _
 | i+1=>by
  rw [i5]
  have ih:=metZ_len val i
  unfold dedup1
  split
  ·nofun
  ·rw [List.length_append,List.length_singleton]; nofun
theorem metZ_mem (val:Nat→K):∀ (i:Nat) (k:K),k ∈ metZ val i↔∃ j,j < i∧val j=k
 | 0,k=>by
  constructor
  ·intro h; cases h
  ·rintro ⟨j,hj,_⟩; nofun
 | i+1,k=>by
  have e:k ∈ metZ val (i+1)↔k ∈ metZ val i∨val i=k:=by
   rw [i5]
   unfold dedup1
   split
   ·rename_i h
    exact ⟨.inl,fun z=>z.elim id fun z=>z ▸ h⟩
   ·rw [List.mem_append,List.mem_singleton]
    exact ⟨fun z=>z.imp id Eq.symm,fun z=>z.imp id Eq.symm⟩
  rw [e,metZ_mem val i k]
  constructor
  ·rintro (⟨j,hj,q⟩ | q)
   ·exact ⟨j,by nofun,q⟩
   ·exact ⟨i,by nofun,q⟩
  ·rintro ⟨j,hj,q⟩
   by_cases z:j=i
   ·exact .inr (z ▸ q)
   ·exact .inl ⟨j,by nofun,q⟩
theorem zE {R:Result→Shared→Prop}{I:Addr}{fp wr:List Addr}{G:Array GenState→Array GenState→Prop}{n:Nat}{P:Nat→Value→Prop}{St:Nat→Shared→Prop}(W:WalksS prog w A.in1 I fp wr G n P St)(S:Addr)(hSf:S ∉ fp){L:Bool}
  (val:Nat→K) (hval:∀ i v,P i v→knd.is (val i) v=true∧v.scannable=true) (hb:n+1 < scanBound) :
  ∀ (k i:Nat) (s:Shared),n - i=k→i≤n→St i s→SetZ knd s.heap S (metZ val i) L →
   (∀ s',Moved (S::wr) G s s'→SetZ knd s'.heap S (metZ val n) L→R (.ok (.ret .none)) s') →
   codeAny (model prog w) A (.builtin "set.update.loop" ⟨[.ref S,.ref I],[]⟩) R s:=by
 have hSw:S ∉ wr:=fun h=>hSf (W.sub _ h)
 have hsub:∀ b ∈ wr,b ∈ S::wr:=fun b hb=>List.mem_cons_of_mem _ hb
 intro k
 induction k with
 | zero =>
  intro i s hk hi hst hS hR
  obtain rfl:i=n:=by nofun
  refine codeAny_builtin PyProof.Rows.F.entry_set_update_loop ?_
  rw [Around.under_plainId PyProof.Rows.F.plain_set_update_loop _]
  show wpAny _ A.in1 (pyNext (.ref I) >>= _) _ _ s
  refine wpAny_bind (W.done s _ _ hst fun s' hm=>?_)
  show wpAny _ A.in1 (ret Value.none) _ _ s'
  exact wpAny_pure (hR s' (hm.mono hsub) (hS.at fun o ho=>hm.heap S o hSw ho))
 | succ k ih =>
  intro i s hk hi hst hS hR
  have hlt:i < n:=by nofun
  refine codeAny_builtin PyProof.Rows.F.entry_set_update_loop ?_
  rw [Around.under_plainId PyProof.Rows.F.plain_set_update_loop _]
  show wpAny _ A.in1 (pyNext (.ref I) >>= _) _ _ s
  refine wpAny_bind (W.item i s _ _ hlt hst fun v s' hP hst' hm=>?_)
  obtain ⟨hv1,hv2⟩:=hval i v hP
  have hS':SetZ knd s'.heap S (metZ val i) L:=hS.at fun o ho=>hm.heap S o hSw ho
  show wpAny _ A.in1 (holding [v] (setAdd S v) >>= _) _ _ s'
  refine wpAny_bind (wpAny_holding ?_)
  unfold setAdd
  refine wpAny_holding ?_
  refine wpAny_bind (knd.pyHash (k:=val i) hv1 ?_)
  refine addZ (s:={ s' with toks:=s'.toks+1 }) hv1 hv2 hS' (by have:=metZ_len val i; nofun) fun b h' hsb hS2=>?_
  rw [← i5] at hS2
  refine wpAny_pure ⟨plainId_quiet PyProof.Rows.F.plain_set_update_loop _,ih (i+1) _ (by nofun) hlt (W.frame _ s' _ _ hst' (Nat.le_succ _) fun b hb o e=>?_) hS2 fun s'' hm'' hS''=>?_⟩
  ·rw [hsb.2 b (fun h:b=S=>hSf (by rw [← h]; exact hb))]; exact e
  ·refine hR s'' (Moved.trans W.gtrans ((hm.mono hsub).then_heap (Nat.le_succ _) fun b o hb e=>?_) hm'') hS''
   rw [hsb.2 b (fun h:b=S=>hb (by rw [h]; exact List.mem_cons_self))]; exact e
end
section
variable {prog:Program} {w:World} {A:Around} {E:Value→Shared→Prop} {s:Shared}
abbrev byText (w:World):Bool:=w.params.followText "set-order"
abbrev dq (w:World):Obj:={ cls:=.type "set", dict:=none,data:=.set #[] 0 (.fresh 0 0 (!byText w)) }
theorem zF (a:Value){Q₁:Value→Shared→Prop}(h:Q₁ (.ref s.heap.objs.size) { s with heap:=s.heap.push (dq w) }) :
  codeAny (model prog w) A (.call (.builtin "set.__new__") ⟨[.type "set", a],[]⟩) (wants Q₁ E) s:=by
 refine codeAny_of_tree ?_
 show wpAny _ A.in1 (do checkBuiltinCall "set.__new__" ⟨[.type "set", a],[]⟩; again (.builtin "set.__new__" ⟨[.type "set", a],[]⟩)) _ _ s
 refine wpAny_bind (wpAny_of_eq (F.newCall_set_1 a) (wpAny_pure ⟨plainId_quiet F.plain_set_new _,codeAny_builtin F.entry_set_new ?_⟩))
 rw [Around.under_plainId F.plain_set_new _]
 unfold Builtin.«set.__new__» Builtin.Frozenset.newClass
 have hsub:=sub_set_self
 obtain ⟨hp,g,d,tk,os⟩:=s
 dsimp only
 wp_walk
 refine wpAny_askSetting (wpAny_pure ?_)
 dsimp only
 simp only [newObj]
 refine wpAny_bind (wpAny_alloc (wpAny_pure ?_))
 exact wpAny_pure h
end
section
variable {prog:Program} {w:World} {K:Type} [DecidableEq K] {knd:KeyKind prog w K} {A:Around} {E:Value→Shared→Prop} {s:Shared}
theorem CC {h:Heap}{a:Addr}(ho:h.get? a=some (dq w)):SetZ knd h a [] (!byText w) :=
 ⟨_,#[],0,_,ho,⟨rfl,rfl,rfl⟩,rfl,fun e he=>by simp at he,fun k=>by simp,by decide,rfl,rfl,List.nodup_nil,rfl,fun _=>List.Pairwise.nil⟩
set_option maxRecDepth 100000 in
set_option maxHeartbeats 8000000 in
theorem set_of_list {l:Addr}{items:Array Value}{Q:Value→Shared→Prop}(hh:A.handled=none)(hl:s.heap.IsList l items)(val:Nat→K)
  (hval:∀ i v,items[i]?=some v→knd.is (val i) v=true∧v.scannable=true) (hb:items.size+1 < scanBound)
  (h:∀ (h':Heap) (tk:Nat),SetZ knd h' s.heap.objs.size (metZ val items.size) (!byText w)→(∀ b o,b < s.heap.objs.size→s.heap.get? b=some o→h'.get? b=some o)→Q (.ref s.heap.objs.size) { s with heap:=h',toks:=tk }) :
  wpAny (model prog w) A (call (.type "set") [.ref l]) Q E s:=by
 obtain ⟨c,tl,hmro⟩:=F.called_set.mro
 have hmade:=F.called_set.made
 have hsub:=F.called_set.sub
 refine wpAny_call (codeAny_of_tree ?_)
 show wpAny _ _ (callAny (.type "set") _) _ _ _
 refine wpAny_pure ⟨Code.quiet_builtin _ (by decide +kernel),codeAny_builtin F.entry_type_call ?_⟩
 rw [Around.under_plain (weight_type_call_type "set" [.ref l] []) rfl]
 have h1:=F.called_set.notType
 have h2:=F.called_set.canCreate
 have hct:=F.typeCall_set_1 (.ref l)
 repeat (any_goals (first | assumption | wp_step))
 refine codeAny_mono (zF (.ref l) (E:=E) (Q₁:=fun obj s₁=>obj=.ref s.heap.objs.size∧s₁={ s with heap:=s.heap.push (dq w) }) ⟨rfl,rfl⟩) fun r s₁ hr=>?_
 cases r with
 | error e=>exact hr
 | ok fl =>
  cases fl with
  | ret obj =>
   obtain ⟨rfl,rfl⟩:=hr
   have hS:(s.heap.push (dq w)).get? s.heap.objs.size=some (dq w):=Heap.get?_push_size _ rfl
   have hT:Shared.TypeIs { s with heap:=s.heap.push (dq w) } (.ref s.heap.objs.size) "set" := ⟨_,hS,rfl⟩
   have hli:=F.called_set.init.lookup
   have hbi:=F.called_set.init.bind (.ref s.heap.objs.size)
   repeat (any_goals (first | assumption | wp_step))
   refine codeAny_mono (codeAny_call_builtin (R:=wants (fun r s₂=>r=.none∧∃ h' tk,s₂={ s with heap:=h',toks:=tk } ∧
     SetZ knd h' s.heap.objs.size (metZ val items.size) (!byText w)∧(∀ b o,b < s.heap.objs.size→s.heap.get? b=some o→h'.get? b=some o)) E) F.called_set.init.plain F.entry_set_init (check_set_init_1 hT ?_)) fun r₂ s₂ hr₂=>?_
   ·obtain ⟨ol,hol,hcl,nl,hdl⟩:=hl
    obtain ⟨ocls,odict,odata,oslots⟩:=ol
    simp only at hcl hdl
    subst hcl; subst hdl
    have hol':(s.heap.push (dq w)).get? l=some { cls:=.type "list", dict:=odict,data:=.seq items nl,slots:=oslots }:=Heap.get?_push_of_some _ hol
    have hsls:=F.sub_list_set
    have hslf:=F.sub_list_frozenset
    have hne:(Value.type "list" == Value.type "dict")=false:=by decide
    have hl1:(s.heap.push (dq w)).IsList l items:=⟨_,hol',rfl,nl,rfl⟩
    unfold Builtin.«set.__init__» noKeywords Builtin.Frozenset.updateFrom
    generalize hPI:pyIter=PI
    wp_walk
    subst hPI
    refine wpAny_pyIter_list hl1 ?_
    refine wpAny_bind (wpAny_runValue ?_)
    have hlS:l < s.heap.objs.size:=Heap.lt_size hol
    have hh3:A.in1.in1.in1.handled=none:=by simp [hh]
    have hneI:l≠(s.heap.push (dq w)).objs.size:=by
     rw [Heap.size_push]; exact Nat.ne_of_lt (Nat.lt_succ_of_lt hlS)
    have hSf:s.heap.objs.size ∉ [(s.heap.push (dq w)).objs.size,l]:=by
     rw [Heap.size_push]; simp only [List.mem_cons,List.mem_singleton,List.not_mem_nil,or_false,not_or]
     exact ⟨Nat.ne_of_lt (Nat.lt_succ_self _),Nat.ne_of_gt hlS⟩
    refine zE (knd:=knd) ((Walks.list hh3 _ l hneI items).toS) s.heap.objs.size hSf val (fun i v hv=>hval i v hv) hb (items.size - 0) 0 _ (by nofun) (Nat.zero_le _)
     ⟨⟨_,Heap.get?_push_size _ rfl,rfl,rfl⟩,(hl1.push _)⟩ (CC (Heap.get?_push_of_some _ hS)) ?hR
    case hR =>
     intro s' hm hS'
     obtain ⟨h',g',d',tk',os'⟩:=s'
     have eg:g'=s.gens:=hm.gens
     have ed:d'=s.drawn:=hm.drawn
     have eo:os'=s.os:=hm.os
     subst eg; subst ed; subst eo
     show wpAny _ _ _ _ _ _
     refine wpAny_pure ?_
     show wpAny _ _ (ret Value.none) _ _ _
     refine wpAny_pure ⟨rfl,h',tk',rfl,hS',fun b o hb e=>?_⟩
     have hb1:b≠s.heap.objs.size:=Nat.ne_of_lt hb
     have hb2:b≠(s.heap.push (dq w)).objs.size:=by
      rw [Heap.size_push]; exact Nat.ne_of_lt (Nat.lt_succ_of_lt hb)
     exact hm.heap b o (by simp only [List.mem_cons,List.mem_singleton,List.not_mem_nil,or_false,not_or]; exact ⟨hb1,hb2⟩) (Heap.get?_push_of_some _ (Heap.get?_push_of_some _ e))
   ·cases r₂ with
    | error e=>exact hr₂
    | ok fl₂ =>
     cases fl₂ with
     | ret r =>
      obtain ⟨rfl,h',tk,rfl,hS',hk'⟩:=hr₂
      repeat (any_goals (first | assumption | wp_step))
      exact h _ _ hS' hk'
     | next=>exact hr₂.elim
     | brk=>exact hr₂.elim
     | cont=>exact hr₂.elim
  | next=>exact hr.elim
  | brk=>exact hr.elim
  | cont=>exact hr.elim
end
end KS
set_option maxHeartbeats 4000000
namespace KS
open PySem PySem.Spec PyProof.Rows
theorem jK:entryFor table "set.__iter__" = some Builtin.«frozenset.__iter__»:=entryFor_alias (id' := "frozenset.__iter__") (by kernel_rfl) rfl (by decide +kernel) (by kernel_rfl)
theorem kN (a:Value):argsOk "set.__iter__" ⟨[a],[]⟩:=by unfold argsOk; kernel_rfl
theorem gc:Slot "set_iterator" "__iter__" "set_iterator.__iter__" :=
 .of (owner := "set_iterator") (n := "__iter__") (by rw [typeLookup_type,builtinLookup_eq_fast]; kernel_rfl) (by decide +kernel) (by decide +kernel) (by decide +kernel)
  (by first | exact .inl (by decide +kernel) | exact .inr (by decide +kernel)) (by rw [isSubtype_type]; kernel_rfl)
theorem bG:Slot "set_iterator" "__next__" "set_iterator.__next__" :=
 .of (owner := "set_iterator") (n := "__next__") (by rw [typeLookup_type,builtinLookup_eq_fast]; kernel_rfl) (by decide +kernel) (by decide +kernel) (by decide +kernel)
  (by first | exact .inl (by decide +kernel) | exact .inr (by decide +kernel)) (by rw [isSubtype_type]; kernel_rfl)
theorem i6:entryFor table "set_iterator.__iter__" = some Builtin.«dict_keyiterator.__iter__»:=entryFor_alias (id' := "dict_keyiterator.__iter__") (by kernel_rfl) rfl (by decide +kernel) (by kernel_rfl)
theorem dt:entryFor table "set_iterator.__next__" = some Builtin.«set_iterator.__next__»:=entryFor_of_fast (by kernel_rfl)
theorem jL (a:Value):argsOk "set_iterator.__iter__" ⟨[a],[]⟩:=by unfold argsOk; kernel_rfl
theorem dC (a:Value):argsOk "set_iterator.__next__" ⟨[a],[]⟩:=by unfold argsOk; kernel_rfl
theorem gU {α:Type}:∀ (l:List α) (i:Nat) (h:i < l.length),(l[i]::l.eraseIdx i).Perm l
 | [],_,h=>by simp at h
 | x::l,0,_=>.refl _
 | x::l,i+1,h=>by
  have h':i < l.length:=by first|exact List.mem_singleton.mp h|simpa using h
  show (l[i]::x::l.eraseIdx i).Perm (x::l)
  exact (List.Perm.swap x l[i] _).trans (List.Perm.cons x (gU l i h'))
section
variable {prog:Program} {w:World} {A:Around} {E:Value→Shared→Prop} {s:Shared}
theorem mj {α:Type}{n:Nat}{k:Nat→Sem α}{Q:α→Shared→Prop}{M:Model}(hn:n≠0)(h:∀ i d',i < n→wpAny M A (k i) Q E { s with drawn:=d' }):wpAny M A (choose .order n >>= k) Q E s:=by
 intro Γ p hΓ
 refine ⟨hn,h _ _ (Nat.mod_lt _ (Nat.pos_of_ne_zero hn)) Γ p hΓ⟩
theorem j1 {α:Type}{M:Model}:∀ (n:Nat) (xs:List α) (s:Shared) (Q:List α→Shared→Prop),xs.length=n→(∀ ys d',ys.Perm xs→Q ys { s with drawn:=d' })→wpAny M A (drawOrder n xs) Q E s
 | 0,xs,s,Q,hl,h=>by
  have e:xs=[]:=List.eq_nil_of_length_eq_zero hl
  subst e
  exact wpAny_pure (h [] s.drawn (.refl _))
 | n+1,[],s,Q,hl,h=>by simp at hl
 | n+1,x::xs,s,Q,hl,h=>by
  refine mj (by simp) fun i d1 hi=>?_
  have hx:(x::xs)[i]?=some (x::xs)[i]:=List.getElem?_eq_getElem hi
  rw [hx]
  dsimp only
  refine wpAny_bind (j1 n ((x::xs).eraseIdx i) _ _ (by rw [List.length_eraseIdx_of_lt hi]; simpa using hl) fun ys d' hp=>wpAny_pure (h _ d' ?_))
  exact (List.Perm.cons _ hp).trans (gU _ i hi)
end
end KS
set_option maxHeartbeats 4000000
namespace KS
open PySem PySem.Spec PyProof.Rows
section
variable {prog:Program} {w:World} {A:Around} {E:Value→Shared→Prop} {s:Shared}
abbrev dY (first:Value)(i:Nat)(x:Value)(n ep:Nat):Obj:={ cls:=.type "set_iterator", dict:=none,data:=.fields #[first,.int (i:Int) 0,x,.int (n:Int) 0,.int (ep:Int) 0],slots:=#[] }
theorem rZ {I:Addr}{Q:Option Value→Shared→Prop}(hh:A.handled=none)(hQ:∀ h',(∀ b o,s.heap.get? b=some o→h'.get? b=some o)→Q none { s with heap:=h' }){QQ:PySem.Fin→Shared→Prop} :
  wpAny (model prog w) A.in1 (do let e ← newExc (.type "StopIteration") []; raiseNew e:Sem PySem.Fin) QQ (fun e s'=>wpAny (model prog w) A (do if (← isInstance e (.type "StopIteration"))=true then pure none else throw e) Q E s') s:=by
 refine wpAny_bind ?_
 simp only [newExc,newTuple]
 refine wpAny_bind (wpAny_newObj_type ?_ (by size_fits))
 refine wpAny_bind (m:=firstArgMember _ _) (wpAny_of_eq (a:=Value.none) (by first | rfl | (simp only [firstArgMember]; rfl)) ?_)
 refine wpAny_newObj_type ?_ (by size_fits)
 simp only [raiseNew]
 refine wpAny_bind (wpAny_handled ?_)
 rw [show A.in1.handled=none from hh]
 refine wpAny_bind (wpAny_pure (wpAny_throw ?_))
 refine wpAny_bind (wpAny_isInstance (T := "StopIteration") (b:=true) ⟨_,Heap.get?_push_size _ rfl,rfl⟩ isSubtype_stop ?_)
 exact wpAny_pure (hQ _ fun b o e=>Heap.get?_push_of_some _ (Heap.get?_push_of_some _ e))
variable {I a:Addr} {o:Obj} {es:Array (Int×Value)} {ep i n f:Nat} {t:SetTable} {Q:Option Value→Shared→Prop}
theorem ox {x:Value}{nx:Nat}(ho:s.heap.get? I=some (dY (.int (f:Int) 0) i (.ref a) n ep))(ha:s.heap.get? a=some o)(hd:o.data=.set es ep t)(hf:t.fits es.size=true)(hn:n=es.size)
  (hs:∀ (E':Value→Shared→Prop) (Q':Option (Value×Nat)→Shared→Prop),Q' (some (x,nx)) s→wpAny (model prog w) A.in1 (setNext a f i ep) Q' E' s)
  (hQ:∀ h',h'.get? I=some (dY (.int (nx:Int) 0) (i+1) (.ref a) n ep)→Heap.SameBut I s.heap h'→Q (some x) { s with heap:=h' }):wpAny (model prog w) A (pyNext (.ref I)) Q E s:=by
 have hT:s.TypeIs (.ref I) "set_iterator" := ⟨_,ho,rfl⟩
 subst hn
 unfold pyNext
 refine wpAny_bind (wpAny_attempt (wpAny_callSpecial?_slot (name:=Str.ofString "__next__") hT bG (wpAny_call_entry bG hT dt ?_ (dC _))))
 unfold Builtin.«set_iterator.__next__»
 refine wpAny_bind (m:=slotArgs "__next__" 0 _) (wpAny_pure ?_)
 try dsimp only
 refine wpAny_bind (wpAny_fieldsOf ho rfl ?_)
 try dsimp only
 refine wpAny_bind (wpAny_setEntries_of ha hd hf ?_)
 rw [if_neg (by simp)]
 try dsimp only
 simp only [Int.toNat_natCast]
 refine wpAny_bind (hs _ _ ?_)
 try dsimp only
 refine wpAny_bind (wpAny_setField_rec ho (by simp) fun h1 g1 b1=>?_)
 refine wpAny_bind (wpAny_setField_rec (s:={ s with heap:=h1 }) g1 (by simp) fun h2 g2 b2=>?_)
 refine wpAny_pure ⟨x,rfl,wpAny_pure (hQ h2 ?_ (b1.trans b2))⟩
 rw [g2]
 rfl
theorem oy (hh:A.handled=none)(ho:s.heap.get? I=some (dY (.int (f:Int) 0) i (.ref a) n ep))(ha:s.heap.get? a=some o)(hd:o.data=.set es ep t)(hf:t.fits es.size=true)(hn:n=es.size)
  (hs:∀ (E':Value→Shared→Prop) (Q':Option (Value×Nat)→Shared→Prop),Q' none s→wpAny (model prog w) A.in1 (setNext a f i ep) Q' E' s)
  (hQ:∀ h',(∀ b ob,b≠I→s.heap.get? b=some ob→h'.get? b=some ob)→Q none { s with heap:=h' }):wpAny (model prog w) A (pyNext (.ref I)) Q E s:=by
 have hT:s.TypeIs (.ref I) "set_iterator" := ⟨_,ho,rfl⟩
 subst hn
 unfold pyNext
 refine wpAny_bind (wpAny_attempt (wpAny_callSpecial?_slot (name:=Str.ofString "__next__") hT bG (wpAny_call_entry bG hT dt ?_ (dC _))))
 unfold Builtin.«set_iterator.__next__»
 refine wpAny_bind (m:=slotArgs "__next__" 0 _) (wpAny_pure ?_)
 try dsimp only
 refine wpAny_bind (wpAny_fieldsOf ho rfl ?_)
 try dsimp only
 refine wpAny_bind (wpAny_setEntries_of ha hd hf ?_)
 rw [if_neg (by simp)]
 try dsimp only
 simp only [Int.toNat_natCast]
 refine wpAny_bind (hs _ _ ?_)
 try dsimp only
 refine wpAny_bind (wpAny_setField_rec ho (by simp) fun h1 g1 b1=>?_)
 exact rZ (s:={ s with heap:=h1 }) (I:=I) hh fun h' k=>hQ h' fun b ob hb e=>k b ob ((b1.2 b hb).trans e)
theorem pZ {x:Value}{hx:Int}{pl:Addr}{op:Obj}{pls:Array Value}{c place:Nat}(ho:s.heap.get? I=some (dY (.ref pl) i (.ref a) n ep))(ha:s.heap.get? a=some o)(hd:o.data=.set es ep t)(hf:t.fits es.size=true)(hn:n=es.size)
  (hp:s.heap.get? pl=some op) (hpd:op.data=.seq pls c) (hpi:pls[i]?=some (.int (place:Int) 0)) (hx':es[place]?=some (hx,x))
  (hQ:∀ h',h'.get? I=some (dY (.ref pl) (i+1) (.ref a) n ep)→Heap.SameBut I s.heap h'→Q (some x) { s with heap:=h' }):wpAny (model prog w) A (pyNext (.ref I)) Q E s:=by
 have hT:s.TypeIs (.ref I) "set_iterator" := ⟨_,ho,rfl⟩
 subst hn
 unfold pyNext
 refine wpAny_bind (wpAny_attempt (wpAny_callSpecial?_slot (name:=Str.ofString "__next__") hT bG (wpAny_call_entry bG hT dt ?_ (dC _))))
 unfold Builtin.«set_iterator.__next__»
 refine wpAny_bind (m:=slotArgs "__next__" 0 _) (wpAny_pure ?_)
 try dsimp only
 refine wpAny_bind (wpAny_fieldsOf ho rfl ?_)
 try dsimp only
 refine wpAny_bind (wpAny_setEntries_of ha hd hf ?_)
 rw [if_neg (by simp)]
 try dsimp only
 simp only [Int.toNat_natCast]
 refine wpAny_bind (m:=seqItems? _) ?_
 unfold seqItems?
 refine wpAny_bind (wpAny_load hp ?_)
 rw [hpd]
 refine wpAny_pure ?_
 dsimp only
 rw [hpi]
 dsimp only
 simp only [Int.toNat_natCast]
 refine wpAny_bind (m:=setNextDrawn _ _ _) ?_
 unfold setNextDrawn
 refine wpAny_bind (wpAny_setState_of ha hd hf ?_)
 dsimp only
 simp only [bne_self_eq_false,Bool.false_eq_true,if_false]
 rw [hx']
 refine wpAny_pure ?_
 refine wpAny_bind (wpAny_setField_rec ho (by simp) fun h1 g1 b1=>?_)
 refine wpAny_pure ⟨x,rfl,wpAny_pure (hQ h1 ?_ b1)⟩
 rw [g1]
 rfl
theorem p5 {pl:Addr}{op:Obj}{pls:Array Value}{c:Nat}(hh:A.handled=none)(ho:s.heap.get? I=some (dY (.ref pl) i (.ref a) n ep))(ha:s.heap.get? a=some o)(hd:o.data=.set es ep t)(hf:t.fits es.size=true)(hn:n=es.size)
  (hp:s.heap.get? pl=some op) (hpd:op.data=.seq pls c) (hpi:pls[i]?=none)
  (hQ:∀ h',(∀ b ob,b≠I→s.heap.get? b=some ob→h'.get? b=some ob)→Q none { s with heap:=h' }):wpAny (model prog w) A (pyNext (.ref I)) Q E s:=by
 have hT:s.TypeIs (.ref I) "set_iterator" := ⟨_,ho,rfl⟩
 subst hn
 unfold pyNext
 refine wpAny_bind (wpAny_attempt (wpAny_callSpecial?_slot (name:=Str.ofString "__next__") hT bG (wpAny_call_entry bG hT dt ?_ (dC _))))
 unfold Builtin.«set_iterator.__next__»
 refine wpAny_bind (m:=slotArgs "__next__" 0 _) (wpAny_pure ?_)
 try dsimp only
 refine wpAny_bind (wpAny_fieldsOf ho rfl ?_)
 try dsimp only
 refine wpAny_bind (wpAny_setEntries_of ha hd hf ?_)
 rw [if_neg (by simp)]
 try dsimp only
 simp only [Int.toNat_natCast]
 refine wpAny_bind (m:=seqItems? _) ?_
 unfold seqItems?
 refine wpAny_bind (wpAny_load hp ?_)
 rw [hpd]
 refine wpAny_pure ?_
 dsimp only
 rw [hpi]
 dsimp only
 refine wpAny_bind (wpAny_setField_rec ho (by simp) fun h1 g1 b1=>?_)
 refine wpAny_bind (wpAny_setField_rec (s:={ s with heap:=h1 }) g1 (by simp) fun h2 g2 b2=>?_)
 exact rZ (s:={ s with heap:=h2 }) (I:=I) hh fun h' k=>hQ h' fun b ob hb e=>k b ob ((b2.2 b hb).trans ((b1.2 b hb).trans e))
theorem iq {slot g:Nat}{r:Option (Value×Nat)}{Q':Option (Value×Nat)→Shared→Prop}{A':Around}(hby:byText w=true)(ha:s.heap.get? a=some o)(hd:o.data=.set es ep t)(hf:t.fits es.size=true)
  (hr:((pickOrder (w.params.setOrder a ep) es)[g]?).map (fun e=>(e.2,slot))=r) (h:Q' r s):wpAny (model prog w) A' (setNext a slot g ep) Q' E s:=by
 unfold setNext
 refine wpAny_bind (wpAny_setState_of ha hd hf ?_)
 dsimp only
 unfold setsByText
 refine wpAny_bind (wpAny_bind (wpAny_askSetting (wpAny_pure ?_)))
 rw [show (model prog w).w.params.followText "set-order" = true from hby]
 simp only [bne_self_eq_false,Bool.false_eq_true,if_false,if_true]
 refine wpAny_bind (m:=setWalk a) ?_
 unfold setWalk
 refine wpAny_bind (wpAny_setState_of ha hd hf ?_)
 dsimp only
 unfold setsByText
 refine wpAny_bind (wpAny_bind (wpAny_askSetting (wpAny_pure ?_)))
 rw [show (model prog w).w.params.followText "set-order" = true from hby]
 simp only [if_true]
 refine wpAny_bind (wpAny_askSetting (wpAny_pure ?_))
 refine wpAny_pure ?_
 rw [← hr] at h
 exact h
theorem i7 {slot g:Nat}{Q':Option (Value×Nat)→Shared→Prop}{A':Around}(hby:byText w=false)(ha:s.heap.get? a=some o)(hd:o.data=.set es ep t)(hf:t.fits es.size=true)(hdr:(!t.plain && decide (es.size > 1))=false)(hled:t.led=true)
  (h:Q' (match es[SetTable.below t.place slot]?,t.place[SetTable.below t.place slot]? with | some (_,x),some j=>some (x,j+1) | _,_=>none) s):wpAny (model prog w) A' (setNext a slot g ep) Q' E s:=by
 unfold setNext
 refine wpAny_bind (wpAny_setState_of ha hd hf ?_)
 dsimp only
 unfold setsByText
 refine wpAny_bind (wpAny_bind (wpAny_askSetting (wpAny_pure ?_)))
 rw [show (model prog w).w.params.followText "set-order" = false from hby]
 simp only [Bool.false_eq_true,if_false]
 show wpAny _ _ (if (!t.plain && decide (es.size > 1))=true then _ else _) _ _ _
 rw [hdr]
 simp only [Bool.false_eq_true,if_false]
 refine wpAny_bind ?_
 show wpAny _ _ (if (!t.led && !es.isEmpty)=true then _ else _) _ _ _
 rw [hled]
 simp only [Bool.not_true,Bool.false_and,Bool.false_eq_true,if_false]
 exact wpAny_pure (wpAny_pure h)
end
end KS
set_option maxHeartbeats 4000000
namespace KS
open PySem PySem.Spec PyProof.Rows
theorem r8 {α:Type}(next:Nat→Nat):∀ (fuel k:Nat) (left:List α) (out:Array α),left.length≤fuel→(pickOrder.go next fuel k left out).toList.Perm (out.toList++left)
 | 0,k,left,out,h=>by
  have e:left=[]:=List.eq_nil_of_length_eq_zero (by nofun)
  subst e
  show out.toList.Perm (out.toList++[])
  rw [List.append_nil]
 | fuel+1,k,[],out,_=>by
  show out.toList.Perm (out.toList++[])
  rw [List.append_nil]
 | fuel+1,k,x::left,out,h=>by
  show (match (x::left)[next k % (x::left).length]? with
   | some y=>pickOrder.go next fuel (k+1) ((x::left).eraseIdx (next k % (x::left).length)) (out.push y)
   | none=>out).toList.Perm _
  have hi:next k % (x::left).length < (x::left).length:=Nat.mod_lt _ (by simp)
  rw [List.getElem?_eq_getElem hi]
  dsimp only
  refine (r8 next fuel (k+1) _ _ (by rw [List.length_eraseIdx_of_lt hi]; simp at h ⊢; nofun)).trans ?_
  rw [Array.toList_push,List.append_assoc]
  exact List.Perm.append_left _ (gU _ _ hi)
theorem eR {α:Type}(next:Nat→Nat)(xs:Array α):(pickOrder next xs).toList.Perm xs.toList:=by
 unfold pickOrder
 have q:=r8 next xs.size 0 xs.toList #[] (by simp)
 simpa using q
theorem xA (es:Array (Int×Value)):∀ ys:List Nat,(∀ j ∈ ys,j < es.size)→ys.filterMap (fun j=>(es[j]?).map (·.2))=ys.map fun j=>((es[j]?).map (·.2)).getD Value.none
 | [],_=>rfl
 | j::ys,h=>by
  have hj:=h j List.mem_cons_self
  rw [List.filterMap_cons,Array.getElem?_eq_getElem hj]
  show es[j].2::ys.filterMap (fun j=>(es[j]?).map (·.2))=_
  rw [xA es ys fun i hi=>h i (List.mem_cons_of_mem _ hi),List.map_cons,Array.getElem?_eq_getElem hj]
  rfl
section
variable {prog:Program} {w:World} {A:Around} {E:Value→Shared→Prop} {s:Shared} {I a:Addr} {o:Obj} {es:Array (Int×Value)} {ep n:Nat} {t:SetTable}
theorem i8 {i:Nat}{f x:Value}{Q:Value→Shared→Prop}(ho:s.heap.get? I=some (dY f i x n ep))(h:Q (.ref I) s):wpAny (model prog w) A (pyIter (.ref I)) Q E s:=by
 have hT:s.TypeIs (.ref I) "set_iterator" := ⟨_,ho,rfl⟩
 refine wpAny_pyIter_slot hT gc (wpAny_call_entry gc hT i6 ?_ (jL _))
 show wpAny _ _ (ret (.ref I)) _ _ s
 exact wpAny_pure ⟨_,rfl, "set_iterator", _,hT,bG.lookup,h⟩
theorem r9 {h':Heap}(hs:Heap.SameBut I s.heap h'):Moved [I] Eq s { s with heap:=h' } :=
 ⟨fun b ob hb e=>(hs.2 b (fun z=>hb (by simp [z]))).trans e,rfl,rfl,rfl,Nat.le_refl _⟩
theorem sd {h':Heap}(hs:∀ b ob,b≠I→s.heap.get? b=some ob→h'.get? b=some ob):Moved [I] Eq s { s with heap:=h' } :=
 ⟨fun b ob hb e=>hs b ob (fun z=>hb (by simp [z])) e,rfl,rfl,rfl,Nat.le_refl _⟩
theorem p6 (hh:A.handled=none)(hne:a≠I)(hd:o.data=.set es ep t)(hf:t.fits es.size=true)(hby:byText w=true) :
  WalksS prog w A I [I,a] [I] Eq es.size (fun i v=>((pickOrder (w.params.setOrder a ep) es).toList.map (·.2))[i]?=some v) (fun i s=>s.heap.get? I=some (dY (.int ((0:Nat):Int) 0) i (.ref a) es.size ep)∧s.heap.get? a=some o) where
 sub:=fun b hb=>by simp at hb; simp [hb]
 grefl:=fun _=>rfl
 gtrans:=fun _ _ _ x y=>x.trans y
 frame:=fun i s h' tk st _ k=>⟨k I (by simp) _ st.1,k a (by simp) _ st.2⟩
 item:=fun i s Q E hi st hQ=>by
  have hl:(pickOrder (w.params.setOrder a ep) es).size=es.size:=by rw [← Array.length_toList,(eR _ es).length_eq,Array.length_toList]
  have hx:(pickOrder (w.params.setOrder a ep) es)[i]?=some ((pickOrder (w.params.setOrder a ep) es)[i]'(by nofun)):=Array.getElem?_eq_getElem _
  refine ox (x:=((pickOrder (w.params.setOrder a ep) es)[i]'(by nofun)).2) (nx:=0) st.1 st.2 hd hf rfl (fun E' Q' q=>iq hby st.2 hd hf (by rw [hx]; rfl) q) fun h' g b=>hQ _ _ ?_ ⟨g,(b.2 a hne).trans st.2⟩ (r9 b)
  rw [List.getElem?_map,Array.getElem?_toList,hx]
  rfl
 done:=fun s Q E st hQ=>by
  have hl:(pickOrder (w.params.setOrder a ep) es).size=es.size:=by rw [← Array.length_toList,(eR _ es).length_eq,Array.length_toList]
  refine oy hh st.1 st.2 hd hf rfl (fun E' Q' q=>iq hby st.2 hd hf (by rw [Array.getElem?_eq_none (by nofun)]; rfl) q) fun h' k=>hQ _ (sd k)
 self:=fun i s Q E st h=>i8 st.1 h
theorem se (hh:A.handled=none)(hne:a≠I)(hd:o.data=.set es ep t)(hf:t.fits es.size=true)(hby:byText w=false)(hdr:(!t.plain && decide (es.size > 1))=false)(hr:Ris t.place)(hled:t.led=true) :
  WalksS prog w A I [I,a] [I] Eq es.size (fun i v=>(es.toList.map (·.2))[i]?=some v) (fun i s=>(∃ f:Nat,SetTable.below t.place f=i∧s.heap.get? I=some (dY (.int (f:Int) 0) i (.ref a) es.size ep))∧s.heap.get? a=some o) where
 sub:=fun b hb=>by simp at hb; simp [hb]
 grefl:=fun _=>rfl
 gtrans:=fun _ _ _ x y=>x.trans y
 frame:=fun i s h' tk st _ k=>by
  obtain ⟨⟨f,f0,g⟩,ga⟩:=st
  exact ⟨⟨f,f0,k I (by simp) _ g⟩,k a (by simp) _ ga⟩
 item:=fun i s Q E hi st hQ=>by
  obtain ⟨⟨f,f0,g⟩,ga⟩:=st
  have hsz:t.place.size=es.size:=by
   have hf':=hf
   simp only [SetTable.fits,Bool.and_eq_true,beq_iff_eq] at hf'
   exact hf'.1
  have hpl:t.place[i]?=some (t.place[i]'(by nofun)):=Array.getElem?_eq_getElem _
  have hes:es[i]?=some (es[i]'hi):=Array.getElem?_eq_getElem _
  refine ox (x:=(es[i]'hi).2) (nx:=(t.place[i]'(by nofun))+1) g ga hd hf rfl (fun E' Q' q=>i7 hby ga hd hf hdr hled (by rw [f0,hes,hpl]; exact q)) fun h' g' b=>hQ _ _ ?_ ⟨⟨_,pW hr hpl,g'⟩,(b.2 a hne).trans ga⟩ (r9 b)
  rw [List.getElem?_map,Array.getElem?_toList,hes]
  rfl
 done:=fun s Q E st hQ=>by
  obtain ⟨⟨f,f0,g⟩,ga⟩:=st
  refine oy hh g ga hd hf rfl (fun E' Q' q=>i7 hby ga hd hf hdr hled ?_) fun h' k=>hQ _ (sd k)
  have hbe:es[SetTable.below t.place f]?=none:=by rw [f0]; exact Array.getElem?_eq_none (Nat.le_refl _)
  rw [hbe]
  exact q
 self:=fun i s Q E st h=>by
  obtain ⟨⟨f,f0,g⟩,ga⟩:=st
  exact i8 g h
theorem nv {pl:Addr}{op:Obj}{ys:List Nat}{c:Nat}(hh:A.handled=none)(hne:a≠I)(hnp:pl≠I)(hd:o.data=.set es ep t)(hf:t.fits es.size=true)(hpd:op.data=.seq (ys.map fun (i:Nat)=>Value.int (i:Int) 0).toArray c)(hys:ys.Perm (List.range es.size)) :
  WalksS prog w A I [I,a,pl] [I] Eq es.size (fun i v=>(ys.filterMap fun j=>(es[j]?).map (·.2))[i]?=some v) (fun i s=>s.heap.get? I=some (dY (.ref pl) i (.ref a) es.size ep)∧s.heap.get? a=some o∧s.heap.get? pl=some op) where
 sub:=fun b hb=>by simp at hb; simp [hb]
 grefl:=fun _=>rfl
 gtrans:=fun _ _ _ x y=>x.trans y
 frame:=fun i s h' tk st _ k=>⟨k I (by simp) _ st.1,k a (by simp) _ st.2.1,k pl (by simp) _ st.2.2⟩
 item:=fun i s Q E hi st hQ=>by
  have hl:ys.length=es.size:=by rw [hys.length_eq,List.length_range]
  have hyi:ys[i]?=some (ys[i]'(by nofun)):=List.getElem?_eq_getElem _
  have hlt:ys[i]'(by nofun) < es.size:=List.mem_range.mp (hys.mem_iff.mp (List.getElem_mem _))
  have hes:es[ys[i]'(by nofun)]?=some es[ys[i]'(by nofun)]:=Array.getElem?_eq_getElem hlt
  refine pZ (x:=es[ys[i]'(by nofun)].2) (hx:=es[ys[i]'(by nofun)].1) (place:=ys[i]'(by nofun)) st.1 st.2.1 hd hf rfl st.2.2 hpd (by rw [List.getElem?_toArray,List.getElem?_map,hyi]; rfl) hes fun h' g b=>hQ _ _ ?_ ⟨g,(b.2 a hne).trans st.2.1,(b.2 pl hnp).trans st.2.2⟩ (r9 b)
  have all:=xA es ys fun j hj=>List.mem_range.mp (hys.mem_iff.mp hj)
  rw [all,List.getElem?_map,hyi]
  show some (((es[ys[i]'(by nofun)]?).map (·.2)).getD Value.none)=_
  rw [hes]
  rfl
 done:=fun s Q E st hQ=>by
  have hl:ys.length=es.size:=by rw [hys.length_eq,List.length_range]
  exact p5 hh st.1 st.2.1 hd hf rfl st.2.2 hpd (by rw [List.getElem?_toArray,List.getElem?_eq_none (by rw [List.length_map]; nofun)]) fun h' k=>hQ _ (sd k)
 self:=fun i s Q E st h=>i8 st.1 h
theorem vp {Q:Value→Shared→Prop}(ha:s.heap.get? a=some o)(hex:o.ExactSet)(hd:o.data=.set es ep t)(hf:t.fits es.size=true)(hb:es.size < scanBound)(hled:t.led=!byText w)(hpl:t.plain=true→Ris t.place)
  (h:∀ (I:Addr) (fp:List Addr) (St:Nat→Shared→Prop) (ord:List Value) (h':Heap) (d':Drawn),(∀ A':Around,A'.handled=none→WalksS prog w A' I fp [I] Eq es.size (fun i v=>ord[i]?=some v) St)→St 0 { s with heap:=h',drawn:=d' } →
   (∀ b ∈ fp,b < h'.objs.size)→I ∈ fp→a≠I→(∀ b ∈ fp,b=a∨s.heap.objs.size≤b)→ord.Perm (es.toList.map (·.2))→(∀ b ob,s.heap.get? b=some ob→h'.get? b=some ob)→Q (.ref I) { s with heap:=h',drawn:=d' }) :
  wpAny (model prog w) A (pyIter (.ref a)) Q E s:=by
 have hT:s.TypeIs (.ref a) "set" := ⟨o,ha,hex.1⟩
 refine wpAny_pyIter_slot hT F.slot_set_iter (wpAny_call_entry F.slot_set_iter hT jK ?_ (kN _))
 unfold Builtin.«frozenset.__iter__»
 refine wpAny_bind (m:=Builtin.Frozenset.slot0 "__iter__" _) (wpAny_pure ?_)
 refine wpAny_bind (m:=Builtin.Frozenset.sizeOf _) (wpAny_bind (wpAny_setEntries_of ha hd hf (wpAny_pure ?_)))
 have alt:a < s.heap.objs.size:=Heap.lt_size ha
 unfold setDrawn
 refine wpAny_bind (wpAny_bind (wpAny_setState_of ha hd hf ?_))
 dsimp only
 unfold setsByText
 refine wpAny_bind (wpAny_bind (wpAny_askSetting (wpAny_pure ?_)))
 refine wpAny_pure ?_
 show wpAny _ _ (if (!byText w && (!t.plain && decide (es.size > 1)))=true then _ else _) _ _ _
 have fin:∀ (first:Value) (h1:Heap) (d1:Drawn),(∀ b ob,s.heap.get? b=some ob→h1.get? b=some ob)→s.heap.objs.size≤h1.objs.size →
   (∀ (I:Addr),I=h1.objs.size→Q (.ref I) { s with heap:=h1.push (dY first 0 (.ref a) es.size ep),drawn:=d1 }) →
   wpAny (model prog w) A.in1 (do
    let e ← setEpoch a
    let v ← newFields "set_iterator" [first,rawInt 0,Value.ref a,rawInt es.size,rawInt e]
    ret v) (fun fin s'=>∃ v,fin=Fin.done (Flow.ret v)∧∃ T' r,s'.TypeIs v T'∧typeLookup (Value.type T') (Str.ofString "__next__")=pure (some r)∧Q v s') E { s with heap:=h1,drawn:=d1 }:=by
  intro first h1 d1 k hz q
  refine wpAny_bind (wpAny_setEpoch_of (s:={ s with heap:=h1,drawn:=d1 }) (k a o ha) hd hf ?_)
  exact wpAny_bind (wpAny_newObj_type (wpAny_pure ⟨_,rfl, "set_iterator", _,⟨_,Heap.get?_push_size _ rfl,rfl⟩,bG.lookup,q _ rfl⟩))
 by_cases hdr:(!byText w && (!t.plain && decide (es.size > 1)))=true
 ·rw [if_pos hdr]
  refine wpAny_bind (j1 es.size (List.range es.size) s _ (by simp) fun ys d' hp=>?_)
  refine wpAny_bind (wpAny_newTuple ?_ (by rw [List.length_map,hp.length_eq,List.length_range]; exact fits_of_scanBound hb))
  generalize hP:({ cls:=.type "tuple", data:=.seq (ys.map fun (i:Nat)=>rawInt (i:Int)).toArray }:Obj)=op
  have hz1:(s.heap.push op).objs.size=s.heap.objs.size+1:=Heap.size_push ..
  have hop:op.data=.seq (ys.map fun (i:Nat)=>Value.int (i:Int) 0).toArray 0:=by rw [← hP]; rfl
  refine fin _ (s.heap.push op) d' (fun b ob e=>Heap.get?_push_of_some _ e) (by rw [hz1]; exact Nat.le_succ _) fun I hI=>?_
  rw [hz1] at hI
  have hpI:s.heap.objs.size≠I:=by rw [hI]; exact Nat.ne_of_lt (Nat.lt_succ_self _)
  have haI:a≠I:=by rw [hI]; exact Nat.ne_of_lt (Nat.lt_succ_of_lt alt)
  have hz2:((s.heap.push op).push (dY (.ref s.heap.objs.size) 0 (.ref a) es.size ep)).objs.size=s.heap.objs.size+2:=by rw [Heap.size_push,hz1]
  have q1:((s.heap.push op).push (dY (.ref s.heap.objs.size) 0 (.ref a) es.size ep)).get? I=some (dY (.ref s.heap.objs.size) 0 (.ref a) es.size ep):=by
   rw [hI,← hz1]
   exact Heap.get?_push_size _ rfl
  have q2:((s.heap.push op).push (dY (.ref s.heap.objs.size) 0 (.ref a) es.size ep)).get? a=some o:=Heap.get?_push_of_some _ (Heap.get?_push_of_some _ ha)
  have q3:((s.heap.push op).push (dY (.ref s.heap.objs.size) 0 (.ref a) es.size ep)).get? s.heap.objs.size=some op:=Heap.get?_push_of_some _ (Heap.get?_push_size s.heap (o:=op) (by rw [← hP]; rfl))
  have q4:∀ b ∈ [I,a,s.heap.objs.size],b < ((s.heap.push op).push (dY (.ref s.heap.objs.size) 0 (.ref a) es.size ep)).objs.size:=by
   intro b hb
   rw [hz2]
   simp only [List.mem_cons,List.not_mem_nil,or_false] at hb
   rcases hb with rfl | rfl | rfl
   ·rw [hI]; exact Nat.lt_succ_self _
   ·exact Nat.lt_succ_of_lt (Nat.lt_succ_of_lt alt)
   ·exact Nat.lt_succ_of_lt (Nat.lt_succ_self _)
  have q6:∀ b ∈ [I,a,s.heap.objs.size],b=a∨s.heap.objs.size≤b:=by
   intro b hb
   simp only [List.mem_cons,List.not_mem_nil,or_false] at hb
   rcases hb with rfl | rfl | rfl
   ·exact .inr (by rw [hI]; exact Nat.le_succ _)
   ·exact .inl rfl
   ·exact .inr (Nat.le_refl _)
  have q5:(ys.filterMap fun j=>(es[j]?).map (·.2)).Perm (es.toList.map (·.2)):=by
   refine (hp.filterMap fun j=>(es[j]?).map (·.2)).trans ?_
   rw [← PySem.filterMap_getElem?_range es,List.map_filterMap]
  exact h I [I,a,s.heap.objs.size] _ (ys.filterMap fun j=>(es[j]?).map (·.2)) _ d' (fun A' hA=>nv (op:=op) hA haI hpI hd hf hop hp) ⟨q1,q2,q3⟩ q4 (by simp) haI q6 q5 (fun b ob e=>Heap.get?_push_of_some _ (Heap.get?_push_of_some _ e))
 ·rw [if_neg hdr]
  refine wpAny_bind (wpAny_pure ?_)
  refine fin _ s.heap s.drawn (fun b ob e=>e) (Nat.le_refl _) fun I hI=>?_
  have haI:a≠I:=by rw [hI]; exact Nat.ne_of_lt alt
  have hfp:∀ b ∈ [I,a],b < (s.heap.push (dY (rawInt 0) 0 (.ref a) es.size ep)).objs.size:=by
   intro b hb
   rw [Heap.size_push]
   simp only [List.mem_cons,List.not_mem_nil,or_false] at hb
   rcases hb with rfl | rfl
   ·rw [hI]; exact Nat.lt_succ_self _
   ·exact Nat.lt_succ_of_lt alt
  have q1:(s.heap.push (dY (rawInt 0) 0 (.ref a) es.size ep)).get? I=some (dY (rawInt 0) 0 (.ref a) es.size ep):=by rw [hI]; exact Heap.get?_push_size _ rfl
  have q2:(s.heap.push (dY (rawInt 0) 0 (.ref a) es.size ep)).get? a=some o:=Heap.get?_push_of_some _ ha
  have q6:∀ b ∈ [I,a],b=a∨s.heap.objs.size≤b:=by
   intro b hb
   simp only [List.mem_cons,List.not_mem_nil,or_false] at hb
   rcases hb with rfl | rfl
   ·exact .inr (by rw [hI]; exact Nat.le_refl _)
   ·exact .inl rfl
  cases hby:byText w with
  | true=>exact h I [I,a] _ ((pickOrder (w.params.setOrder a ep) es).toList.map (·.2)) _ s.drawn (fun A' hA=>p6 hA haI hd hf hby) ⟨q1,q2⟩ hfp (by simp) haI q6 ((eR _ es).map _) (fun b ob e=>Heap.get?_push_of_some _ e)
  | false =>
   have hdr':(!t.plain && decide (es.size > 1))=false:=by
    rw [hby,Bool.not_false,Bool.true_and] at hdr
    exact Bool.eq_false_iff.mpr hdr
   have hr:Ris t.place:=by
    cases q:t.plain with
    | true=>exact hpl q
    | false =>
     rw [q,Bool.not_false,Bool.true_and] at hdr'
     have h1:¬ es.size > 1:=of_decide_eq_false hdr'
     have hsz:t.place.size=es.size:=by
      have hf':=hf
      simp only [SetTable.fits,Bool.and_eq_true,beq_iff_eq] at hf'
      exact hf'.1
     have hl:t.place.toList.length≤1:=by rw [Array.length_toList]; nofun
     unfold Ris
     match hq:t.place.toList,hl with
     | [],_=>exact .nil
     | [x],_=>exact List.pairwise_singleton _ _
   exact h I [I,a] _ (es.toList.map (·.2)) _ s.drawn (fun A' hA=>se hA haI hd hf hby hdr' hr (by rw [hled,hby]; rfl)) ⟨⟨0,pV hr,q1⟩,q2⟩ hfp (by simp) haI q6 (.refl _) (fun b ob e=>Heap.get?_push_of_some _ e)
end
end KS
set_option maxHeartbeats 4000000
namespace KS
open PySem PySem.Spec PyProof.Rows
section
variable {prog:Program} {w:World} {A:Around} {E:Value→Shared→Prop} {s:Shared} {a:Addr} {o:Obj} {es:Array (Int×Value)} {ep:Nat} {t:SetTable}
theorem vq {Q:Bool→Shared→Prop} (hT:s.TypeIs (.ref a) "set") (h:Q false s):wpAny (model prog w) A (Builtin.List.listLengthHint (.ref a)) Q E s:=by
 unfold Builtin.List.listLengthHint
 refine wpAny_bind (wpAny_specialOf hT F.slot_set_len.lookup ?_)
 generalize hid:("set.__len__" : String)=id0
 wp_delta
 rw [show splitId id0=some ("set", "__len__") from by subst hid; decide +kernel]
 subst hid
 refine wpAny_bind (wpAny_isInstance (b:=true) hT sub_set_self ?_)
 rw [if_neg (by decide)]
 show wpAny _ _ (if _=true then _ else _) _ _ _
 rw [if_pos (by decide +kernel)]
 refine wpAny_bind (wpAny_typeOf hT ?_)
 exact wpAny_pure h
theorem i9 {Q:List Value→Shared→Prop}(hh:A.handled=none)(ha:s.heap.get? a=some o)(hex:o.ExactSet)(hd:o.data=.set es ep t)(hf:t.fits es.size=true)(hb:es.size < scanBound)(hled:t.led=!byText w)(hpl:t.plain=true→Ris t.place)
  (hQ:∀ (vs:List Value) (h':Heap) (d':Drawn) (tk:Nat),vs.Perm (es.toList.map (·.2))→s.heap.objs.size < h'.objs.size→(∀ b ob,s.heap.get? b=some ob→h'.get? b=some ob)→Q vs { s with heap:=h',drawn:=d',toks:=tk }) :
  wpAny (model prog w) A (collect (.ref a)) Q E s:=by
 have alt:a < s.heap.objs.size:=Heap.lt_size ha
 unfold collect
 refine wpAny_bind (wpAny_runValue (codeAny_builtin F.entry_proto_collect ?_))
 rw [Around.under_plainId F.plain_proto_collect _]
 show wpAny _ A.in1 (newList [] >>= fun l=>again (.builtin "list.__iadd__" ⟨[l,.ref a],[]⟩)) _ _ s
 refine wpAny_bind (wpAny_newObj_type ?_)
 refine wpAny_pure ⟨plainId_quiet F.plain_list_iadd _,codeAny_builtin F.entry_list_iadd ?_⟩
 rw [Around.under_plainId F.plain_list_iadd _]
 generalize hL:({ cls:=.type "list", dict:=none,data:=.seq ([]:List Value).toArray }:Obj)=ol
 have g1:(s.heap.push ol).get? s.heap.objs.size=some ol:=Heap.get?_push_size s.heap (o:=ol) (by rw [← hL]; rfl)
 have ga:(s.heap.push ol).get? a=some o:=Heap.get?_push_of_some _ ha
 have hT:Shared.TypeIs { s with heap:=s.heap.push ol } (.ref a) "set" := ⟨o,ga,hex.1⟩
 show wpAny _ A.in1 (Builtin.List.listExtendWith (.ref s.heap.objs.size) (.ref a) (.ref s.heap.objs.size)) _ _ _
 unfold Builtin.List.listExtendWith
 refine wpAny_bind (wpAny_typeOf hT ?_)
 have h1:Builtin.List.listSameRef (.ref s.heap.objs.size) (.ref a)=false:=by
  simp only [Builtin.List.listSameRef,beq_eq_false_iff_ne]
  exact (Nat.ne_of_lt alt).symm
 rw [if_neg (by rw [h1]; decide)]
 refine wpAny_bind (vp (s:={ s with heap:=s.heap.push ol }) ga hex hd hf hb hled hpl fun I fp St ord h2 d2 W st0 hfp hI haI hfq hord hk=>?_)
 refine wpAny_bind (wpAny_holding (vq ⟨o,hk a o ga,hex.1⟩ ?_))
 rw [if_pos (by decide)]
 refine wpAny_bind (wpAny_rule ?_)
 refine wpAny_bind ?_
 have g2:h2.get? s.heap.objs.size=some { cls:=.type "list", data:=.seq ([]:List Value).toArray }:=by rw [hL]; exact hk _ _ g1
 show wpAny _ A.in1 (updateSeq s.heap.objs.size (·.push .none) >>= fun _=>updateSeq s.heap.objs.size (·.pop)) _ _ _
 refine wpAny_bind (wpAny_updateSeq (s:={ s with heap:=h2,drawn:=d2 }) g2 rfl ?_)
 have g3:=Heap.get?_update_self (Obj.mapSeq (·.push Value.none)) g2 rfl
 refine wpAny_updateSeq g3 rfl ?_
 have g4:=Heap.get?_update_self (Obj.mapSeq (·.pop)) g3 rfl
 generalize hh3:(h2.update s.heap.objs.size (Obj.mapSeq (·.push Value.none))).update s.heap.objs.size (Obj.mapSeq (·.pop))=h3 at g4 ⊢
 have oth:∀ b ob,b≠s.heap.objs.size→h2.get? b=some ob→h3.get? b=some ob:=fun b ob hne e=>by
  rw [← hh3]
  exact (Heap.get?_update_other _ _ (Ne.symm hne)).trans ((Heap.get?_update_other _ _ (Ne.symm hne)).trans e)
 have hz:(s.heap.push ol).objs.size=s.heap.objs.size+1:=Heap.size_push ..
 have hSf:s.heap.objs.size ∉ fp:=fun hm=>by
  rcases hfq _ hm with z | z
  ·exact absurd z (Nat.ne_of_lt alt).symm
  ·have z:(s.heap.push ol).objs.size≤s.heap.objs.size:=z
   rw [hz] at z
   exact absurd z (Nat.not_succ_le_self _)
 have hIS:I≠s.heap.objs.size:=fun e=>hSf (e ▸ hI)
 have st1:=(W A.in1 hh).frame 0 _ h3 s.toks st0 (Nat.le_refl _) fun b hb ob e=>oth b ob (fun z=>hSf (z ▸ hb)) e
 have lt0:∀ b ob,s.heap.get? b=some ob→b≠s.heap.objs.size∧b≠I:=fun b ob e=>by
  refine ⟨Nat.ne_of_lt (Heap.lt_size e),fun z=>?_⟩
  rcases hfq _ hI with y | y
  ·exact haI y.symm
  ·have y:(s.heap.push ol).objs.size≤I:=y
   rw [hz,← z] at y
   exact absurd (Nat.lt_of_lt_of_le (Heap.lt_size e) (Nat.le_of_succ_le y)) (Nat.lt_irrefl _)
 refine wpAny_pure ⟨plainId_quiet F.plain_extend_loop _,codeAny_extend_loopS (W A.in1 hh) (fits_of_scanBound hb) _ hSf _ es.size 0 _ _ _ rfl (Nat.zero_le _) st1 g4 (ItemsOf.nil _) fun s' acc c' hm gS hacc=>?_⟩
 show wpAny _ A (load s.heap.objs.size >>= _) _ _ s'
 refine wpAny_bind (wpAny_load gS ?_)
 refine wpAny_pure ?_
 obtain ⟨h9,g9,d9,tk9,os9⟩:=s'
 have eg:g9=s.gens:=hm.gens.symm
 have ed:d9=d2:=hm.drawn
 have eo:os9=s.os:=hm.os
 subst eg ed eo
 have hl:ord.length=es.size:=by rw [hord.length_eq,List.length_map,Array.length_toList]
 have hv:acc.toList=ord:=by
  refine List.ext_getElem? fun j=>?_
  by_cases hj:j < acc.size
  ·have e1:acc[j]?=some acc[j]:=Array.getElem?_eq_getElem hj
   rw [Array.getElem?_toList,e1,hacc.2 j _ e1]
  ·have hj':es.size≤j:=by rw [hacc.1] at hj; nofun
   rw [Array.getElem?_toList,Array.getElem?_eq_none (by nofun),List.getElem?_eq_none (by nofun)]
 refine hQ _ h9 _ tk9 (by rw [hv]; exact hord) (Heap.lt_size gS) fun b ob e=>?_
 obtain ⟨n1,n2⟩:=lt0 b ob e
 exact hm.heap b ob (by simp [n1,n2]) (oth b ob n1 (hk b ob (Heap.get?_push_of_some _ e)))
end
end KS
set_option maxHeartbeats 4000000
namespace KS
open PySem PySem.Spec PyProof.Rows
theorem gk {α:Type}[DecidableEq α]:∀ (σ ss:List α),σ.Nodup→(∀ k ∈ σ,k ∈ ss)→ss.length=σ.length→ss.Perm σ
 | [],ss,_,_,hl=>by
  have:ss=[]:=List.eq_nil_of_length_eq_zero (by first|exact List.mem_singleton.mp hl|simpa using hl)
  subst this; exact .refl _
 | k::σ,ss,hn,hm,hl=>by
  have hk:k ∈ ss:=hm k (List.mem_cons_self ..)
  have hp:=List.perm_cons_erase hk
  have hn':=List.nodup_cons.mp hn
  have hlen:(ss.erase k).length=σ.length:=by
   have:=hp.length_eq
   simp only [List.length_cons] at this hl
   nofun
  refine hp.trans (.cons k (gk σ (ss.erase k) hn'.2 (fun j hj=>?_) hlen))
  have hne:j≠k:=fun e=>hn'.1 (e ▸ hj)
  exact (List.mem_erase_of_ne hne).mpr (hm j (List.mem_cons_of_mem _ hj))
theorem vt {x:Str}{v:Value}(h:Value.isStrOf x v=true):strOf v=x:=by
 obtain ⟨t,rfl⟩:=Value.isStrOf_shape h; rfl
section
variable {prog:Program} {w:World} {A:Around} {E:Value→Shared→Prop} {s:Shared}
theorem sorted_set {a:Addr}{σ:List Str}{Q:Value→Shared→Prop}(hh:A.handled=none)(hS:SetZ (PySem.strKind prog w) s.heap a σ (!byText w))(h64:σ.length < 64)
  (hQ:∀ (p:Addr) (out:List Value) (ss:List Str) (e:Nat) (h':Heap) (d':Drawn) (tk:Nat),s.heap.objs.size≤p→h'.get? p=some (seqObj "list" out.toArray e)→StrsAre out ss→ss.Perm σ→sortedS ss=true →
   (∀ b o,s.heap.get? b=some o→h'.get? b=some o)→Q (.ref p) { s with heap:=h',drawn:=d',toks:=tk }) :
  wpAny (model prog w) A (call (.builtin "sorted") [.ref a]) Q E s:=by
 obtain ⟨o,es,ep,t,ho,hex,hd,hE,hmem,hb,hf,hsz,hnd,hled,hpl⟩:=hS
 refine Calls.call_function_entry kind_sorted plain_sorted entry_sorted (args_sorted1 _) ?_
 unfold Builtin.«sorted»
 refine wpAny_bind (m:=checkCount "sorted" 1 1 _) (wpAny_pure ?_)
 refine wpAny_bind (i9 (by first|exact List.mem_singleton.mp hh|simpa using hh) ho hex hd hf hb hled hpl fun vs h' d' tk hperm hlt hk=>?_)
 have hlen:vs.length=σ.length:=by rw [hperm.length_eq,List.length_map,Array.length_toList]; exact hsz
 refine wpAny_bind (wpAny_newList ?_ (hsz:=by rw [sizeLine_eq]; nofun))
 show wpAny _ _ _ _ _ { s with heap:=h'.push (seqObj "list" vs.toArray 0),drawn:=d',toks:=tk }
 have hoL:(h'.push (seqObj "list" vs.toArray 0)).get? h'.objs.size=some (seqObj "list" vs.toArray 0):=Heap.get?_push_size _ rfl
 have hstr:∀ v ∈ vs,∃ x t,v=.str x t:=fun v hv=>by
  have hv':=hperm.mem_iff.mp hv
  obtain ⟨e,he,rfl⟩:=List.mem_map.mp hv'
  obtain ⟨⟨k,hk,_⟩,_⟩:=hE e he
  obtain ⟨t,q⟩:=Value.isStrOf_shape hk
  exact ⟨k,t,q⟩
 have hSA:=strsAre_map vs hstr
 have hps:(vs.map strOf).Perm σ:=by
  refine gk σ _ hnd (fun k hk=>?_) (by rw [List.length_map,hlen])
  obtain ⟨e,he,hke⟩:=(hmem k).mp hk
  refine List.mem_map.mpr ⟨e.2,hperm.mem_iff.mpr (List.mem_map.mpr ⟨e,he,rfl⟩),vt hke⟩
 have hle:s.heap.objs.size≤h'.objs.size:=Nat.le_of_lt hlt
 refine wpAny_bind (wpAny_holding (wpAny_call_entry slot_list_sort ⟨_,hoL,rfl⟩ entry_list_sort (list_sort_treeK strKind_oneLt hoL hSA.keysOf (fun v₁ v₂ aw e=>keyKind_strs (by rw [← e]; exact hSA)) (by rw [hlen]; exact h64) fun st' a1 a2=>⟨_,rfl,?_⟩) (args_list_sort _)))
 obtain ⟨ss',b1,b2,b3⟩:=sorted_out_str hSA a1 a2
 obtain ⟨e',he'⟩:=sortedHeap_at (out:=(arrOf st').map (·.2)) hoL
 refine wpAny_pure ⟨_,rfl,hQ h'.objs.size ((arrOf st').map (·.2)).toList ss' e' _ d' tk hle (by rw [Array.toArray_toList]; exact he') b1 (b2.trans hps) b3 fun b ob hb=>?_⟩
 have hbl:b < h'.objs.size:=Nat.lt_of_lt_of_le (Heap.lt_size hb) hle
 rw [sortedHeap_old (Nat.ne_of_lt hbl) (by rw [size_push']; exact Nat.lt_succ_of_lt hbl)]
 exact Heap.get?_push_of_some _ (hk b ob hb)
end
end KS
set_option maxHeartbeats 4000000
namespace L2
open PySem PySem.Spec PyProof.Rows
theorem eT {vs:List Value}{ss:List Str}(h:StrsAre vs ss):Vals (ss.map V.str) vs:=by
 induction h with
 | nil=>exact .nil
 | cons y t h ih=>exact .cons ⟨t,rfl⟩ ih
theorem eU:∀ {ss:List Str} {vs:List Value},Vals (ss.map V.str) vs→StrsAre vs ss
 | [],_,.nil=>.nil
 | s::ss,_,.cons ⟨t,e⟩ r=>by subst e; exact .cons s t (eU r)
theorem xB:∀ {vs:List Value} {ss:List Str} {i:Nat} {v:Value},StrsAre vs ss→vs[i]?=some v→∃ t,v=.str (ss.getD i "") t
 | _,_,_,_,.nil,e=>by simp at e
 | _,_,0,_,.cons y t h,e=>by simp at e; exact ⟨t,by rw [← e]; rfl⟩
 | _,_,i+1,v,.cons y t h,e=>by
  obtain ⟨u,q⟩:=xB (i:=i) (v:=v) h (by first|exact List.mem_singleton.mp e|simpa using e)
  exact ⟨u,by first|exact List.mem_singleton.mp q|simpa using q⟩
theorem StrsAre.len:∀ {vs:List Value} {ss:List Str},StrsAre vs ss→vs.length=ss.length
 | _,_,.nil=>rfl
 | _,_,.cons _ _ h=>by simp [StrsAre.len h]
def CD (P:Program)(w:World)(q:Addr)(σ:List Str):HO:=.ext fun h=>KS.SetZ (PySem.strKind P w) h q σ (!KS.byText w)
section
variable {X:Cx}
theorem Inv.laidD {pins:List (Addr×Obj)}{σ:St}{H:Hp}{s:Shared}{h':Heap}{a:Addr}{o:HO}{t':Nat}{d':Drawn}(I:Inv X pins σ H s)(k:∀ b u,s.heap.get? b=some u→h'.get? b=some u)(hp:s.heap.objs.size≤a)(new:ObjOk X.prog X.w (upd H a o) h' a o) :
  Inv X pins σ (upd H a o) { s with heap:=h',drawn:=d',toks:=t' } :=
 I.call (ch:=[]) (g':=s.gens) (Un.laid k hp (I.hok.fresh hp)) (I.hok.laid k hp new) I.bare (fun _ z=>nomatch z)
def D4 (P:Program)(w:World)(K:PySem.W.Frag):List V→Hp→VK→Prop:=fun xs H Q=>∃ (p:Addr) (zs:List Str),xs=[.ref p]∧SqL K H p (zs.map .str)∧zs.length+1 < scanBound ∧
 ∀ q σ,H q=none→(∀ k,k ∈ σ↔k ∈ zs)→σ.Nodup→σ.length≤zs.length→Q (.ref q) (upd H q (CD P w q σ))
theorem sg (hc:X.calm=true):CallR X (.type "set") (D4 X.prog X.w X.K):=by
 intro pins s σ H xs us Q I r h
 obtain ⟨p,zs,rfl,hq,hz,q⟩:=h
 obtain ⟨u,rfl,rx⟩:=eM r
 cases rx
 obtain ⟨its,r',pl,hz'⟩:=I.list hq
 have hS:=eU r'
 have hlen:=StrsAre.len hS
 refine KS.set_of_list (knd:=PySem.strKind X.prog X.w) (I.ok.hd hc) pl.isList (fun i=>zs.getD i "") (fun i v e=>?_) (by simp only [List.size_toArray]; nofun) fun h' tk hZ hk=>?_
 ·obtain ⟨t,rfl⟩:=xB (i:=i) hS (by first|exact List.mem_singleton.mp e|simpa using e)
  exact ⟨lE _ t,rfl⟩
 ·have hmem:∀ k,k ∈ KS.metZ (fun i=>zs.getD i "") its.toArray.size↔k ∈ zs:=fun k=>by
   rw [KS.metZ_mem]
   simp only [List.size_toArray,hlen]
   constructor
   ·rintro ⟨j,hj,rfl⟩
    rw [List.getD,List.getElem?_eq_getElem hj]; exact List.getElem_mem hj
   ·intro hk
    obtain ⟨j,hj,e⟩:=List.getElem_of_mem hk
    exact ⟨j,hj,by rw [List.getD,List.getElem?_eq_getElem hj]; exact e⟩
  have hZ':=id hZ
  obtain ⟨o,es,ep,t,ho,_,_,_,_,_,_,_,hnd,_,_⟩:=hZ'
  refine ⟨.ref s.heap.objs.size,_,I.laid (t':=tk) (o:=CD X.prog X.w s.heap.objs.size (KS.metZ (fun i=>zs.getD i "") its.toArray.size)) (fun b o e=>hk b o (Heap.lt_size e) e) (Nat.le_refl _) ?_,rfl,q _ _ (I.hok.fresh (Nat.le_refl _)) hmem hnd ?_⟩
  ·exact ⟨hZ,⟨o,ho⟩,fun h1 h2 z k=>KS.SetZ.at z k⟩
  ·exact Nat.le_trans (KS.metZ_len _ _) (by simp only [List.size_toArray]; nofun)
def sh (P:Program)(w:World)(K:PySem.W.Frag):List V→Hp→VK→Prop:=fun xs H Q=>∃ (p:Addr) (σ:List Str),xs=[.ref p]∧(H p=some (CD P w p σ)∨SqL K H p (σ.map .str))∧σ.length < 64 ∧
 ∀ q ss,H q=none→ss.Perm σ→sortedS ss=true→Q (.ref q) (upd H q (.lst (ss.map .str)))
theorem ml (hc:X.calm=true):CallR X (.builtin "sorted") (sh X.prog X.w X.K):=by
 intro pins s σ H xs us Q I r h
 obtain ⟨p,τ,rfl,hq,hz,q⟩:=h
 obtain ⟨u,rfl,rx⟩:=eM r
 cases rx
 rcases hq with hq | hq
 ·obtain ⟨hS,_,_⟩:=I.hok p _ hq
  refine KS.sorted_set (I.ok.hd hc) hS hz fun q' out ss e h' d' tk hle hg hSA hp hs hk=>?_
  have hl:ss.length < 64:=by rw [hp.length_eq]; exact hz
  refine ⟨.ref q',_,I.laidD (t':=tk) (d':=d') (o:=.lst (ss.map .str)) hk hle ⟨?_,out,e,eT hSA,hg⟩,rfl,q q' ss (I.hok.fresh hle) hp hs⟩
  rw [List.length_map,sizeLine_eq]; nofun
 ·obtain ⟨its,r',pl,hz'⟩:=I.list hq
  have hS:=eU r'
  have hlen:=StrsAre.len hS
  refine sorted_strs pl.isList hS (by nofun) fun out ss h1 h2 h3=>?_
  obtain ⟨e,he⟩:=sortedAll_at s.heap its out
  have hl:ss.length < 64:=by rw [h2.length_eq]; exact hz
  refine ⟨.ref (s.heap.objs.size+1),_,I.laid (t':=s.toks) (o:=.lst (ss.map .str)) (fun b o e=>sortedAll_old e) (Nat.le_succ _) ⟨?_,out.toList,e,eT h1,by rw [Array.toArray_toList]; exact he⟩,rfl,q _ ss (I.hok.fresh (Nat.le_succ _)) h2 h3⟩
  rw [List.length_map,sizeLine_eq]; nofun
theorem p7 (hc:X.calm=true):CallR X (.type "list") (fun xs H Q=>∃ p kvs,xs=[.ref p]∧Rd H p (.dK kvs)∧∀ l,H l=none→Q (.ref l) (upd H l (.lst (kvs.map fun kv=>kV kv.1)))):=by
 intro pins s σ H xs us Q I r h
 obtain ⟨p,kvs,rfl,hq,q⟩:=h
 obtain ⟨u,rfl,rx⟩:=eM r
 cases rx
 obtain ⟨hz,hS,vs,rv,m⟩:kvs.length≤sizeLine∧(p == sysModules)=false∧∃ vs,KV kvs vs∧s.heap.DictOf (cn X.prog X.w) p vs:=hq.ok I.hok
 obtain ⟨ep,hat⟩:=m.dictAt
 have hl:kvs.length=vs.length:=Paired.length rv
 refine PySem.W.kdl_call (PySem.W.kdl_dict (knd:=cn X.prog X.w) (kvs:=vs) (ep:=ep) hS) (I.ok.hd hc) hat (by rw [← hl]; exact hz) fun h' tk acc' c' hk hD hacc=>?_
 have hv:Vals (kvs.map fun kv=>kV kv.1) acc'.toList:=by
  have hal:acc'.toList.length=kvs.length:=by rw [Array.length_toList,hacc.1,hl]
  have hget:∀ j v,acc'.toList[j]?=some v→∃ k x,vs[j]?=some (k,x)∧lD k v=true:=fun j v e=>hacc.2 j v (by rw [← Array.getElem?_toList]; exact e)
  clear hacc hD
  generalize acc'.toList=us at hal hget
  clear hat m hl hz q hq I
  induction rv generalizing us with
  | nil=>cases us with | nil=>exact .nil | cons a b=>simp at hal
  | cons h1 h2 ih =>
   cases us with
   | nil=>simp at hal
   | cons a b =>
    refine .cons ?_ (ih b (by first|exact List.mem_singleton.mp hal|simpa using hal) fun j v e=>by simpa using hget (j+1) v (by first|exact List.mem_singleton.mp e|simpa using e))
    obtain ⟨k,x,e1,e2⟩:=hget 0 a rfl
    simp only [List.getElem?_cons_zero,Option.some.injEq] at e1
    subst e1
    have e3:_=k:=h1.1
    show RelV (kV _) a
    rw [e3]
    rcases cf e2 with ⟨i,t,rfl,rfl⟩ | ⟨z,t,rfl,rfl⟩
    ·exact ⟨t,rfl⟩
    ·exact ⟨t,rfl⟩
 exact ⟨.ref s.heap.objs.size,_,I.laid (t':=tk) (o:=.lst (kvs.map fun kv=>kV kv.1)) hk (Nat.le_refl _) ⟨by rw [List.length_map]; exact hz,acc'.toList,c',hv,by rw [Array.toArray_toList]; exact hD⟩,rfl,q _ (I.hok.fresh (Nat.le_refl _))⟩
def si (K:PySem.W.Frag):List V→Hp→VK→Prop:=fun xs H Q=>(∃ p ys,xs=[.ref p]∧(SqL K H p ys∨SqT K H p ys)∧∀ l,H l=none→Q (.ref l) (upd H l (.lst ys)))∨∃ p kvs,xs=[.ref p]∧Rd H p (.dK kvs)∧∀ l,H l=none→Q (.ref l) (upd H l (.lst (kvs.map fun kv=>kV kv.1)))
def sj (K:PySem.W.Frag):List V→Hp→VK→Prop:=fun xs H Q=>∃ p ys,xs=[.ref p]∧((SqL K H p ys∧∀ l,H l=none→Q (.ref l) (upd H l (.tup ys)))∨(SqT K H p ys∧Q (.ref p) H))
theorem sk (K:PySem.W.Frag)(hc:X.calm=true)(h:X.K=K):BCall X (.type "list") (si K):=by subst h; exact ⟨lR.or (p7 hc)⟩
theorem iJ (K:PySem.W.Frag)(h:X.K=K):BCall X (.type "tuple") (sj K):=by subst h; exact ⟨kB⟩
theorem CF (P:Program)(w:World)(K:PySem.W.Frag)(hc:X.calm=true)(hP:X.prog=P)(hw:X.w=w)(h:X.K=K):BCall X (.type "set") (D4 P w K):=by subst h hP hw; exact ⟨sg hc⟩
theorem zG {o i value:Expr}{td ty tv:TE}{pos' pos:Pos}(hu:X.A.units+1 < cLine)(ho:BE X o td)(hi:BE X i ty)(hv:BE X value tv)(hs:swapsWith value (some (.Subscript o i pos')) pos.line X.env=pure false) :
  BS X (.Assign [.Subscript o i pos'] value pos) (y6 td ty tv):=⟨y8 hu ho.h hi.h hv.h hs⟩
theorem zH {T F:List Str}{ixs:List Nat}{scope:Scope}{i:Nat}{y:Str}{elt tg iter:Expr}{ifs:List Expr}{pos py spos:Pos}{wi:TI}{g:TG}{tc:TT}{te:TE}(hc:X.calm=true)(S:CompScope X T F ixs scope)(hi:BI X tg iter wi)
  (hg:∀ C s H fp,BG (dA X (T++F) scope (bU X.env scope.names []) C s H fp) tg g) (ht:∀ C s H fp,BIf (dA X (T++F) scope (bU X.env scope.names []) C s H fp) ifs tc) (he:∀ C s H fp,BE (dA X (T++F) scope (bU X.env scope.names []) C s H fp) elt te)
  (hs:∀ x,foldedSetIterable iter X.env x=pure x) (hN:X.N.Nodup) (hix:X.N[i]?=some y) (hx:Loc X.env.scope y)
  (hsw:swapsWith (.ListComp elt [⟨tg,iter,ifs,0⟩] scope pos) (some (.Name y py)) spos.line X.env=pure true) (hf:X.fn y=true∨X.env.scope.names.lookup y=some .local) :
  BS X (.Assign [.Name y py] (.ListComp elt [⟨tg,iter,ifs,0⟩] scope pos) spos) (uX (pN T.length ixs wi g tc te) (kz i)) :=
 ⟨zi hc S hi.h (fun C s H fp=>(hg C s H fp).h) (fun C s H fp=>(ht C s H fp).h) (fun C s H fp=>(he C s H fp).h) hs hN hix hx hsw hf⟩
theorem EM {α:Type}{x:α}{r:List α}:atI (x::r) (0:Int)=some x:=gQ (j:=0) rfl
def D5 (K:PySem.W.Frag)(mg:Str→Option Value)(x:Str)(xs:List V):Prop:=∃ a,mg x=some (.ref a)∧∀ H,SqT K H a xs
theorem so {K:PySem.W.Frag}{p:Addr}{ys:List V}{H:Hp}{Q:VK}(h:SqL K H p ys)(q:∀ l,H l=none→Q (.ref l) (upd H l (.lst ys))):si K [.ref p] H Q:=.inl ⟨p,ys,rfl,.inl h,q⟩
theorem sq {K:PySem.W.Frag}{p:Addr}{ys:List V}{H:Hp}{Q:VK}(h:SqT K H p ys)(q:∀ l,H l=none→Q (.ref l) (upd H l (.lst ys))):si K [.ref p] H Q:=.inl ⟨p,ys,rfl,.inr h,q⟩
theorem p8 {K:PySem.W.Frag}{p:Addr}{kvs:List (Key×V)}{H:Hp}{Q:VK}(h:Rd H p (.dK kvs))(q:∀ l,H l=none→Q (.ref l) (upd H l (.lst (kvs.map fun kv=>kV kv.1)))):si K [.ref p] H Q:=.inr ⟨p,kvs,rfl,h,q⟩
theorem p9 {K:PySem.W.Frag}{p:Addr}{ys:List V}{H:Hp}{Q:VK}(h:SqL K H p ys)(q:∀ l,H l=none→Q (.ref l) (upd H l (.tup ys))):sj K [.ref p] H Q:=⟨p,ys,rfl,.inl ⟨h,q⟩⟩
theorem ir {zs:List Str}{z:Str}(h:zs.Nodup):(KS.dedup1 zs z).Nodup:=by
 unfold KS.dedup1
 split
 ·exact h
 ·rename_i hz; exact KS.nodup_snoc h hz
theorem j2 {zs:List Str}{z y:Str}:y ∈ KS.dedup1 zs z↔y ∈ zs∨y=z:=by
 unfold KS.dedup1
 split
 ·rename_i hz
  exact ⟨.inl,fun h=>h.elim id fun e=>e ▸ hz⟩
 ·simp
theorem j3 (zs:List Str)(z:Str):zs.length≤(KS.dedup1 zs z).length∧(KS.dedup1 zs z).length≤zs.length+1∧1≤(KS.dedup1 zs z).length:=by
 unfold KS.dedup1
 split
 ·rename_i hz
  exact ⟨Nat.le_refl _,Nat.le_succ _,List.length_pos_of_mem hz⟩
 ·simp
end
end L2
set_option maxHeartbeats 4000000
namespace L2
open PySem PySem.Spec PyProof.Rows
inductive D where
 | non | bl (b:Bool) | int (i:Int) | str (x:Str) | lst (xs:List D) | tup (xs:List D) | dct (ks:List Key) (xs:List D) | ty (T:String) | opq (a:Addr) (n:Nat)
def plKV:Key×V→Bool
 | (.inr z,.int i)=>decide (z.length≤20) && z.cps.toList.all (fun c=>decide (c < 16 ^ 8)) && decide (i.natAbs.log2 < 20) && decide ((PySem.PyData.shown (.int i)).length≤8)
 | _=>false
mutual
inductive Den (K:PySem.W.Frag)(F:Hp):V→D→Prop where
 | non:Den K F .non .non
 | bl (b:Bool):Den K F (.bl b) (.bl b)
 | int (i:Int):Den K F (.int i) (.int i)
 | str (x:Str):Den K F (.str x) (.str x)
 | ty (T:String):Den K F (.ty T) (.ty T)
 | lst {a:Addr} {xs:List V} {ds:List D}:SqL K F a xs→Dens K F xs ds→Den K F (.ref a) (.lst ds)
 | tup {a:Addr} {xs:List V} {ds:List D}:SqT K F a xs→Dens K F xs ds→Den K F (.ref a) (.tup ds)
 | dct {a:Addr} {ys:List (Key×V)} {ks:List Key} {ds:List D}:Rd F a (.dK ys)→ys.map (·.1)=ks→Dens K F (ys.map (·.2)) ds→Den K F (.ref a) (.dct ks ds)
 | opq {a:Addr} {ys:List (Key×V)} {n:Nat}:Rd F a (.dK ys)→ys.length=n→ys.all plKV=true→Den K F (.ref a) (.opq a n)
inductive Dens (K:PySem.W.Frag)(F:Hp):List V→List D→Prop where
 | nil:Dens K F [] []
 | cons {x:V} {d:D} {xs:List V} {ds:List D}:Den K F x d→Dens K F xs ds→Dens K F (x::xs) (d::ds)
end
theorem Same.rd {F F':Hp}{a:Addr}{u:HO}(e:Same F F')(h:Rd F a u):Rd F' a u:=h.elim (fun h=>.inl (e _ _ h)) fun ⟨o,h⟩=>.inr ⟨o,e _ _ h⟩
theorem Den.mono {K:PySem.W.Frag}{F F':Hp}(e:Same F F'){v:V}{d:D}(h:Den K F v d):Den K F' v d :=
 Den.rec (motive_1:=fun v d _=>Den K F' v d) (motive_2:=fun v d _=>Dens K F' v d) .non .bl .int .str .ty (fun h _ t=>.lst (e.seq h) t) (fun h _ t=>.tup (h.same e) t) (fun h k _ t=>.dct (e.rd h) k t) (fun h k p=>.opq (e.rd h) k p) .nil (fun _ _ h t=>.cons h t) h
theorem Dens.mono {K:PySem.W.Frag}{F F':Hp}(e:Same F F'){v:List V}{d:List D}(h:Dens K F v d):Dens K F' v d :=
 Dens.rec (motive_1:=fun _ _ _=>True) (motive_2:=fun v d _=>Dens K F' v d) trivial (fun _=>trivial) (fun _=>trivial) (fun _=>trivial) (fun _=>trivial) (fun _ _ _=>trivial) (fun _ _ _=>trivial) (fun _ _ _ _=>trivial) (fun _ _ _=>trivial) .nil (fun h _ _ t=>.cons (h.mono e) t) h
section
variable {K:PySem.W.Frag} {F H:Hp}
theorem Dens.length {xs:List V}{ds:List D}(h:Dens K F xs ds):xs.length=ds.length :=
 Dens.rec (motive_1:=fun _ _ _=>True) (motive_2:=fun xs ds _=>xs.length=ds.length) trivial (fun _=>trivial) (fun _=>trivial) (fun _=>trivial) (fun _=>trivial) (fun _ _ _=>trivial) (fun _ _ _=>trivial) (fun _ _ _ _=>trivial) (fun _ _ _=>trivial) rfl (fun _ _ _ t=>congrArg (·+1) t) h
theorem Dens.get:∀ {xs:List V} {ds:List D} {i:Nat} {d:D},Dens K F xs ds→ds[i]?=some d→∃ x,xs[i]?=some x∧Den K F x d
 | _,_,_,_,.nil,e=>by simp at e
 | _,_,0,_,.cons h _,e=>by simp at e; subst e; exact ⟨_,rfl,h⟩
 | _,_,i+1,d,.cons h t,e=>by
  obtain ⟨x,h1,h2⟩:=Dens.get (i:=i) (d:=d) t (by first|exact List.mem_singleton.mp e|simpa using e)
  exact ⟨x,by first|exact List.mem_singleton.mp h1|simpa using h1,h2⟩
theorem Dens.get':∀ {xs:List V} {ds:List D} {i:Nat} {x:V},Dens K F xs ds→xs[i]?=some x→∃ d,ds[i]?=some d∧Den K F x d
 | _,_,_,_,.nil,e=>by simp at e
 | _,_,0,_,.cons h _,e=>by simp at e; subst e; exact ⟨_,rfl,h⟩
 | _,_,i+1,d,.cons h t,e=>by
  obtain ⟨x,h1,h2⟩:=Dens.get' (i:=i) (x:=d) t (by first|exact List.mem_singleton.mp e|simpa using e)
  exact ⟨x,by first|exact List.mem_singleton.mp h1|simpa using h1,h2⟩
theorem Dens.append {xs ys:List V}{ds es:List D}(h:Dens K F xs ds)(s:Dens K F ys es):Dens K F (xs++ys) (ds++es) :=
 Dens.rec (motive_1:=fun _ _ _=>True) (motive_2:=fun xs ds _=>Dens K F (xs++ys) (ds++es)) trivial (fun _=>trivial) (fun _=>trivial) (fun _=>trivial) (fun _=>trivial) (fun _ _ _=>trivial) (fun _ _ _=>trivial) (fun _ _ _ _=>trivial) (fun _ _ _=>trivial) s (fun h _ _ t=>.cons h t) h
theorem Dens.take:∀ {xs:List V} {ds:List D} (n:Nat),Dens K F xs ds→Dens K F (xs.take n) (ds.take n)
 | _,_,0,_=>.nil
 | _,_,_+1,.nil=>.nil
 | _,_,n+1,.cons r t=>.cons r (Dens.take n t)
theorem Dens.drop:∀ {xs:List V} {ds:List D} (n:Nat),Dens K F xs ds→Dens K F (xs.drop n) (ds.drop n)
 | _,_,0,r=>r
 | _,_,_+1,.nil=>.nil
 | _,_,n+1,.cons r t=>Dens.drop n t
theorem Dens.set {x:V}{d:D}(r:Den K F x d):∀ {xs:List V} {ds:List D} (i:Nat),Dens K F xs ds→Dens K F (xs.set i x) (ds.set i d)
 | _,_,_,.nil=>.nil
 | _,_,0,.cons _ t=>.cons r t
 | _,_,i+1,.cons q t=>.cons q (Dens.set r i t)
theorem Dens.snoc {xs:List V}{ds:List D}{x:V}{d:D}(h:Dens K F xs ds)(q:Den K F x d):Dens K F (xs++[x]) (ds++[d]):=h.append (.cons q .nil)
theorem Dens.reverse:∀ {xs:List V} {ds:List D},Dens K F xs ds→Dens K F xs.reverse ds.reverse
 | _,_,.nil=>.nil
 | _,_,.cons r t=>by rw [List.reverse_cons,List.reverse_cons]; exact (Dens.reverse t).snoc r
theorem Dens.strs:∀ (zs:List Str),Dens K F (zs.map V.str) (zs.map D.str)
 | []=>.nil
 | z::zs=>.cons (.str z) (Dens.strs zs)
theorem Dens.ints:∀ (zs:List Int),Dens K F (zs.map V.int) (zs.map D.int)
 | []=>.nil
 | z::zs=>.cons (.int z) (Dens.ints zs)
theorem Den.str_eq {v:V}{z:Str}(h:Den K F v (.str z)):v=.str z:=by cases h; rfl
theorem Den.int_eq {v:V}{z:Int}(h:Den K F v (.int z)):v=.int z:=by cases h; rfl
theorem Den.bl_eq {v:V}{z:Bool}(h:Den K F v (.bl z)):v=.bl z:=by cases h; rfl
theorem Den.non_eq {v:V}(h:Den K F v .non):v=.non:=by cases h; rfl
theorem Dens.strs_eq:∀ {zs:List Str} {xs:List V},Dens K F xs (zs.map D.str)→xs=zs.map V.str
 | [],_,.nil=>rfl
 | z::zs,_,.cons h t=>by rw [h.str_eq,Dens.strs_eq t]; rfl
theorem Dens.ints_eq:∀ {zs:List Int} {xs:List V},Dens K F xs (zs.map D.int)→xs=zs.map V.int
 | [],_,.nil=>rfl
 | z::zs,_,.cons h t=>by rw [h.int_eq,Dens.ints_eq t]; rfl
theorem Dens.bls_eq:∀ {zs:List Bool} {xs:List V},Dens K F xs (zs.map D.bl)→xs=zs.map V.bl
 | [],_,.nil=>rfl
 | z::zs,_,.cons h t=>by rw [h.bl_eq,Dens.bls_eq t]; rfl
end
mutual
def sr:D→DV
 | .non=>.non
 | .bl b=>.bl b
 | .int i=>.int i
 | .str x=>.str x
 | .lst xs=>.lst (toDVs xs)
 | .tup xs=>.tup (toDVs xs)
 | .dct _ _=>.non
 | .ty _=>.non
 | .opq _ _=>.non
def toDVs:List D→List DV
 | []=>[]
 | d::ds=>sr d::toDVs ds
end
mutual
def okD:D→Bool
 | .lst xs=>okDs xs
 | .tup xs=>okDs xs
 | .dct _ _=>false
 | .ty _=>false
 | .opq _ _=>false
 | _=>true
def okDs:List D→Bool
 | []=>true
 | d::ds=>okD d && okDs ds
end
theorem Den.deep {K:PySem.W.Frag}{H:Hp}{v:V}{d:D}(h:Den K H v d):okD d=true→Deep K H v (sr d) :=
 Den.rec (motive_1:=fun v d _=>okD d=true→Deep K H v (sr d)) (motive_2:=fun v d _=>okDs d=true→Deeps K H v (toDVs d)) (fun _=>.non) (fun b _=>.bl b) (fun b _=>.int b) (fun b _=>.str b) (fun _ o=>nomatch o) (fun h _ t o=>.lst h (t o)) (fun h _ t o=>.tup h (t o)) (fun _ _ _ _ o=>nomatch o) (fun _ _ _ o=>nomatch o) (fun _=>.nil) (fun _ _ h t o=>.cons (h (Bool.and_eq_true_iff.mp o).1) (t (Bool.and_eq_true_iff.mp o).2)) h
def dEq (d e:D):Bool:=deq (sr d) (sr e)
inductive OV where
 | fz (d:D) | fl (ds:List D) | fd (ks:List Key) (ds:List D)
inductive Ow (K:PySem.W.Frag)(F H:Hp):V→OV→List Addr→Prop where
 | fz {v:V} {d:D}:Den K F v d→Ow K F H v (.fz d) []
 | fl {a:Addr} {xs:List V} {ds:List D}:H a=some (.lst xs)→Dens K F xs ds→Ow K F H (.ref a) (.fl ds) [a]
 | fd {a:Addr} {ys:List (Key×V)} {ks:List Key} {ds:List D}:H a=some (.dK ys)→ys.map (·.1)=ks→Dens K F (ys.map (·.2)) ds→Ow K F H (.ref a) (.fd ks ds) [a]
inductive Ows (K:PySem.W.Frag)(F H:Hp):List V→List OV→List Addr→Prop where
 | nil:Ows K F H [] [] []
 | cons {x:V} {o:OV} {xs:List V} {os:List OV} {A B:List Addr}:Ow K F H x o A→Ows K F H xs os B→Ows K F H (x::xs) (o::os) (A++B)
theorem Ow.keep {K:PySem.W.Frag}{F F' H H':Hp}(e:Same F F'){v:V}{o:OV}{A:List Addr}(h:Ow K F H v o A)(k:∀ a u,a ∈ A→H a=some u→H' a=some u):Ow K F' H' v o A:=by
 cases h with
 | fz h=>exact .fz (h.mono e)
 | fl h t=>exact .fl (k _ _ (List.mem_cons_self ..) h) (t.mono e)
 | fd h q t=>exact .fd (k _ _ (List.mem_cons_self ..) h) q (t.mono e)
theorem Ow.live {K:PySem.W.Frag}{F H:Hp}{v:V}{o:OV}{A:List Addr}(h:Ow K F H v o A):∀ a ∈ A,∃ u,H a=some u:=by
 cases h with
 | fz h=>exact fun _ z=>nomatch z
 | fl h t=>exact fun b z=>⟨_,List.mem_singleton.mp z ▸ h⟩
 | fd h q t=>exact fun b z=>⟨_,List.mem_singleton.mp z ▸ h⟩
def xC:OV→D
 | .fz d=>d
 | .fl ds=>.lst ds
 | .fd ks ds=>.dct ks ds
theorem Ow.freeze {K:PySem.W.Frag}{F F' H:Hp}(e:Same F F'){v:V}{o:OV}{A:List Addr}(h:Ow K F H v o A)(k:∀ a u,a ∈ A→H a=some u→F' a=some u):Den K F' v (xC o):=by
 cases h with
 | fz h=>exact h.mono e
 | fl h t=>exact .lst (SqL.of (k _ _ (List.mem_cons_self ..) h)) (t.mono e)
 | fd h q t=>exact .dct (.inl (k _ _ (List.mem_cons_self ..) h)) q (t.mono e)
def flat:OV→Option D
 | .fz d=>some d
 | .fl ds=>some (.lst ds)
 | .fd ks ds=>some (.dct ks ds)
inductive Acc (K:PySem.W.Frag)(F H:Hp):V→D→Prop where
 | fz {v:V} {d:D}:Den K F v d→Acc K F H v d
 | lst {a:Addr} {xs:List V} {ds:List D}:H a=some (.lst xs)→Dens K F xs ds→Acc K F H (.ref a) (.lst ds)
 | dct {a:Addr} {ys:List (Key×V)} {ks:List Key} {ds:List D}:H a=some (.dK ys)→ys.map (·.1)=ks→Dens K F (ys.map (·.2)) ds→Acc K F H (.ref a) (.dct ks ds)
section
variable {K:PySem.W.Frag} {F H:Hp}
theorem Ow.acc {v:V}{o:OV}{A:List Addr}{d:D}(h:Ow K F H v o A)(e:flat o=some d):Acc K F H v d:=by
 cases h with
 | fz h=>simp only [flat,Option.some.injEq] at e; subst e; exact .fz h
 | fl h t=>simp only [flat,Option.some.injEq] at e; subst e; exact .lst h t
 | fd h q t=>simp only [flat,Option.some.injEq] at e; subst e; exact .dct h q t
theorem Acc.den {v:V}{d:D}(e:Same F H)(h:Acc K F H v d):Den K H v d:=by
 cases h with
 | fz h=>exact h.mono e
 | lst h t=>exact .lst (SqL.of h) (t.mono e)
 | dct h k t=>exact .dct (.inl h) k (t.mono e)
theorem Acc.asL {v:V}{ds:List D}(e:Same F H)(h:Acc K F H v (.lst ds)):∃ a xs,v=.ref a∧SqL K H a xs∧Dens K F xs ds:=by
 cases h with
 | fz h=>cases h with | lst h t=>exact ⟨_,_,rfl,e.seq h,t⟩
 | lst h t=>exact ⟨_,_,rfl,SqL.of h,t⟩
theorem Acc.asT {v:V}{ds:List D}(e:Same F H)(h:Acc K F H v (.tup ds)):∃ a xs,v=.ref a∧SqT K H a xs∧Dens K F xs ds:=by
 cases h with
 | fz h=>cases h with | tup h t=>exact ⟨_,_,rfl,h.same e,t⟩
theorem Acc.asD {v:V}{ks:List Key}{ds:List D}(e:Same F H)(h:Acc K F H v (.dct ks ds)):∃ a ys,v=.ref a∧Rd H a (.dK ys)∧ys.map (·.1)=ks∧Dens K F (ys.map (·.2)) ds:=by
 cases h with
 | fz h=>cases h with | dct h k t=>exact ⟨_,_,rfl,e.rd h,k,t⟩
 | dct h k t=>exact ⟨_,_,rfl,.inl h,k,t⟩
theorem Acc.str_eq {v:V}{z:Str}(h:Acc K F H v (.str z)):v=.str z:=by cases h with | fz h=>exact h.str_eq
theorem Acc.int_eq {v:V}{z:Int}(h:Acc K F H v (.int z)):v=.int z:=by cases h with | fz h=>exact h.int_eq
theorem Acc.bl_eq {v:V}{z:Bool}(h:Acc K F H v (.bl z)):v=.bl z:=by cases h with | fz h=>exact h.bl_eq
theorem Acc.non_eq {v:V}(h:Acc K F H v .non):v=.non:=by cases h with | fz h=>exact h.non_eq
theorem Acc.ty_eq {v:V}{T:String}(h:Acc K F H v (.ty T)):v=.ty T:=by cases h with | fz h=>cases h; rfl
end
abbrev FSt:=List (Option OV)
inductive Slots (K:PySem.W.Frag)(F H:Hp):St→FSt→List Addr→Prop where
 | nil:Slots K F H [] [] []
 | skip {x:Option V} {σ:St} {ρ:FSt} {A:List Addr}:Slots K F H σ ρ A→Slots K F H (x::σ) (none::ρ) A
 | has {v:V} {o:OV} {σ:St} {ρ:FSt} {A B:List Addr}:Ow K F H v o A→Slots K F H σ ρ B→Slots K F H (some v::σ) (some o::ρ) (A++B)
section
variable {K:PySem.W.Frag} {F F' H H':Hp}
theorem Slots.keep (e:Same F F'){σ:St}{ρ:FSt}{A:List Addr}(h:Slots K F H σ ρ A)(k:∀ a u,a ∈ A→H a=some u→H' a=some u):Slots K F' H' σ ρ A:=by
 induction h with
 | nil=>exact .nil
 | skip t ih=>exact .skip (ih k)
 | has h t ih=>exact .has (h.keep e fun a u ha=>k a u (List.mem_append_left _ ha)) (ih fun a u ha=>k a u (List.mem_append_right _ ha))
theorem Slots.live {σ:St}{ρ:FSt}{A:List Addr}(h:Slots K F H σ ρ A):∀ a ∈ A,∃ u,H a=some u:=by
 induction h with
 | nil=>exact fun _ z=>nomatch z
 | skip t ih=>exact ih
 | has h t ih=>exact fun b z=>(List.mem_append.mp z).elim (h.live b) (ih b)
theorem Slots.len {σ:St}{ρ:FSt}{A:List Addr}(h:Slots K F H σ ρ A):σ.length=ρ.length:=by
 induction h with
 | nil=>rfl
 | skip t ih=>exact congrArg (·+1) ih
 | has _ t ih=>exact congrArg (·+1) ih
theorem Slots.take {σ:St}{ρ:FSt}{A:List Addr}{i:Nat}{o:OV}(h:Slots K F H σ ρ A)(e:ρ[i]?=some (some o)):∃ v B A',σ[i]?=some (some v)∧Ow K F H v o B∧A.Perm (B++A')∧Slots K F H σ (ρ.set i none) A':=by
 induction h generalizing i with
 | nil=>cases e
 | skip t ih =>
  cases i with
  | zero=>cases e
  | succ i =>
   obtain ⟨v,B,A',h1,h2,h3,h4⟩:=ih (i:=i) e
   exact ⟨v,B,A',h1,h2,h3,.skip h4⟩
 | @has _ _ _ _ C _ h t ih =>
  cases i with
  | zero=>cases e; exact ⟨_,_,_,rfl,h,List.Perm.refl _,.skip t⟩
  | succ i =>
   obtain ⟨v,B,A',h1,h2,h3,h4⟩:=ih (i:=i) e
   exact ⟨v,B,C++A',h1,h2,(List.Perm.append_left C h3).trans (by rw [← List.append_assoc,← List.append_assoc]; exact List.Perm.append_right A' List.perm_append_comm),.has h h4⟩
theorem Slots.drop {σ:St}{ρ:FSt}{A:List Addr}(i:Nat)(x:Option V)(h:Slots K F H σ ρ A):∃ A' B,A.Perm (B++A')∧Slots K F H (σ.set i x) (ρ.set i none) A':=by
 induction h generalizing i with
 | nil=>exact ⟨[],[],List.Perm.refl _,.nil⟩
 | skip t ih =>
  cases i with
  | zero=>exact ⟨_,[],List.Perm.refl _,.skip t⟩
  | succ i =>
   obtain ⟨A',B,h1,h2⟩:=ih i
   exact ⟨A',B,h1,.skip h2⟩
 | @has _ _ _ _ C _ h t ih =>
  cases i with
  | zero=>exact ⟨_,_,List.Perm.refl _,.skip t⟩
  | succ i =>
   obtain ⟨A',B,h3,h4⟩:=ih i
   exact ⟨C++A',B,(List.Perm.append_left C h3).trans (by rw [← List.append_assoc,← List.append_assoc]; exact List.Perm.append_right A' List.perm_append_comm),.has h h4⟩
theorem Slots.put {σ:St}{ρ:FSt}{A B:List Addr}{i:Nat}{v:V}{o:OV}(s:Slots K F H σ ρ A)(e:ρ[i]?=some none)(hv:σ[i]?=some (some v))(h:Ow K F H v o B):∃ A',A'.Perm (B++A)∧Slots K F H σ (ρ.set i (some o)) A':=by
 induction s generalizing i with
 | nil=>cases e
 | skip t ih =>
  cases i with
  | zero=>cases hv; exact ⟨_,List.Perm.refl _,.has h t⟩
  | succ i =>
   obtain ⟨A',h1,h2⟩:=ih (i:=i) e hv
   exact ⟨A',h1,.skip h2⟩
 | @has _ _ _ _ C _ h' t ih =>
  cases i with
  | zero=>cases e
  | succ i =>
   obtain ⟨A',h1,h2⟩:=ih (i:=i) e hv
   exact ⟨C++A',(List.Perm.append_left C h1).trans (by rw [← List.append_assoc,← List.append_assoc]; exact List.Perm.append_right _ List.perm_append_comm),.has h' h2⟩
end
end L2
set_option maxHeartbeats 4000000
namespace L2
open PySem PySem.Spec PyProof.Rows
inductive RV where
 | ov (o:OV) | br (i:Nat)
structure Rel (K:PySem.W.Frag)(F Z H:Hp)(σ:St)(ρ:FSt)(A:List Addr):Prop where
 sl:Slots K F H σ ρ A
 nd:A.Nodup
 fr:∀ a ∈ A,F a=none∧Z a=none
 fh:Same F H
 zh:Same Z H
 dj:∀ a o,F a=some o→Z a=none
def RV1 (K:PySem.W.Frag)(F H:Hp)(σ:St)(v:V):RV→List Addr→Prop
 | .ov o,B=>Ow K F H v o B
 | .br i,B=>σ[i]?=some (some v)∧B=[]
structure Fresh (F Z:Hp)(A B:List Addr):Prop where
 nd:B.Nodup
 fr:∀ b ∈ B,F b=none∧Z b=none∧b ∉ A
theorem Fresh.nil {F Z:Hp}{A:List Addr}:Fresh F Z A []:=⟨List.nodup_nil,fun _ z=>nomatch z⟩
inductive RVL (K:PySem.W.Frag)(F H:Hp)(σ:St):List V→List RV→List Addr→Prop where
 | nil:RVL K F H σ [] [] []
 | cons {v:V} {r:RV} {vs:List V} {rs:List RV} {A B:List Addr}:RV1 K F H σ v r A→RVL K F H σ vs rs B→RVL K F H σ (v::vs) (r::rs) (A++B)
section
variable {K:PySem.W.Frag} {F F' Z H H':Hp} {σ:St} {ρ:FSt} {A:List Addr}
theorem RV1.keep {v:V}{r:RV}{B:List Addr}(h:RV1 K F H σ v r B)(e:Same F F')(k:∀ a u,a ∈ B→H a=some u→H' a=some u):RV1 K F' H' σ v r B:=by
 cases r with
 | ov o=>exact Ow.keep e h k
 | br i=>exact h
theorem RV1.live {v:V}{r:RV}{B:List Addr}(h:RV1 K F H σ v r B):∀ b ∈ B,∃ u,H b=some u:=by
 cases r with
 | ov o=>exact Ow.live h
 | br i=>intro b hb; rw [h.2] at hb; cases hb
theorem RVL.keep (e:Same F F'){v:List V}{r:List RV}{B:List Addr}(h:RVL K F H σ v r B)(k:∀ a u,a ∈ B→H a=some u→H' a=some u):RVL K F' H' σ v r B:=by
 induction h with
 | nil=>exact .nil
 | cons h t ih=>exact .cons (h.keep e fun a u ha=>k a u (List.mem_append_left _ ha)) (ih fun a u ha=>k a u (List.mem_append_right _ ha))
theorem mix (B:List Addr)(H Z:Hp):∃ G:Hp,(∀ b,b ∈ B→G b=H b)∧∀ b,b ∉ B→G b=Z b:=by
 classical
 exact ⟨fun b=>if b ∈ B then H b else Z b,fun b hb=>if_pos hb,fun b hb=>if_neg hb⟩
theorem Rel.hold {B:List Addr}(R:Rel K F Z H σ ρ A)(live:∀ b ∈ B,∃ u,H b=some u)(f:Fresh F Z A B):∃ Z',Same Z Z'∧Rel K F Z' H σ ρ A∧(∀ b ∈ B,∃ u,Z' b=some u) ∧
  ∀ F2 H2 ρ2 A2,Same F F2→Rel K F2 Z' H2 σ ρ2 A2→Rel K F2 Z H2 σ ρ2 A2∧Fresh F2 Z A2 B∧∀ b u,b ∈ B→H b=some u→H2 b=some u:=by
 obtain ⟨Z',hin,hout⟩:=mix B H Z
 refine ⟨Z',fun b o h=>?_,⟨R.sl,R.nd,fun a ha=>⟨(R.fr a ha).1,?_⟩,R.fh,fun b o h=>?_,fun a o h=>?_⟩,fun b hb=>?_,fun F2 H2 ρ2 A2 e2 R2=>?_⟩
 ·rw [hout b fun hb=>by rw [(f.fr b hb).2.1] at h; cases h]; exact h
 ·rw [hout a fun hb=>(f.fr a hb).2.2 ha]; exact (R.fr a ha).2
 ·by_cases hb:b ∈ B
  ·rw [hin b hb] at h; exact h
  ·rw [hout b hb] at h; exact R.zh b o h
 ·rw [hout a fun hb=>by rw [(f.fr a hb).1] at h; cases h]; exact R.dj a o h
 ·obtain ⟨u,hu⟩:=live b hb
  exact ⟨u,by rw [hin b hb]; exact hu⟩
 ·have sz:Same Z Z':=fun b o h=>by
   rw [hout b fun hb=>by rw [(f.fr b hb).2.1] at h; cases h]; exact h
  refine ⟨⟨R2.sl,R2.nd,fun a ha=>⟨(R2.fr a ha).1,sz.free (R2.fr a ha).2⟩,R2.fh,sz.trans R2.zh,fun a o h=>sz.free (R2.dj a o h)⟩,⟨f.nd,fun b hb=>?_⟩,fun b u hb hu=>?_⟩
  ·obtain ⟨u,hu⟩:=live b hb
   refine ⟨?_,(f.fr b hb).2.1,fun h=>?_⟩
   ·cases q:F2 b with
    | none=>rfl
    | some w =>
     have:=R2.dj b w q
     rw [hin b hb,hu] at this; cases this
   ·have:=(R2.fr b h).2
    rw [hin b hb,hu] at this; cases this
  ·exact R2.zh b u (by rw [hin b hb]; exact hu)
structure Pure (F H F' H':Hp):Prop where
 ff:Same F F'
 hh:Same H H'
 fh:Same F' H'
 nw:∀ a o,F' a=some o→F a=none→H a=none
theorem Pure.refl (e:Same F H):Pure F H F H:=⟨Same.refl _,Same.refl _,e,fun a o h n=>by rw [n] at h; cases h⟩
theorem Pure.new {p:Addr}{o:HO}(e:Same F H)(hp:H p=none):Pure F H F (upd H p o):=⟨Same.refl _,ck hp,e.trans (ck hp),fun a o h n=>by rw [n] at h; cases h⟩
theorem Pure.frz {p:Addr}{o:HO}(e:Same F H)(hp:H p=none):Pure F H (upd F p o) (upd H p o):=by
 have hf:F p=none:=e.free hp
 refine ⟨ck hf,ck hp,fun b u h=>?_,fun a u h n=>?_⟩
 ·by_cases hb:b=p
  ·subst hb; rw [bn] at h ⊢; exact h
  ·rw [bR hb] at h ⊢; exact e b u h
 ·by_cases hb:a=p
  ·subst hb; exact hp
  ·rw [bR hb,n] at h; cases h
theorem Pure.trans {F1 F2 H1 H2:Hp}(a:Pure F H F1 H1)(b:Pure F1 H1 F2 H2):Pure F H F2 H2:=⟨a.ff.trans b.ff,a.hh.trans b.hh,b.fh,fun c o h n=>by
 cases q:F1 c with
 | none=>exact a.hh.free (b.nw c o h q)
 | some u=>exact a.nw c u q n⟩
theorem Rel.step (R:Rel K F Z H σ ρ A)(p:Pure F H F' H'):Rel K F' Z H' σ ρ A:=by
 refine ⟨R.sl.keep p.ff fun a u _ h=>p.hh a u h,R.nd,fun a ha=>⟨?_,(R.fr a ha).2⟩,p.fh,R.zh.trans p.hh,fun a o h=>?_⟩
 ·cases q:F' a with
  | none=>rfl
  | some o =>
   have:=p.nw a o q (R.fr a ha).1
   obtain ⟨u,hu⟩:=R.sl.live a ha
   rw [hu] at this; cases this
 ·cases q:F a with
  | none=>exact R.zh.free (p.nw a o h q)
  | some u=>exact R.dj a u q
structure New (H F':Hp)(B:List Addr):Prop where
 nd:B.Nodup
 fr:∀ b ∈ B,H b=none∧F' b=none
theorem New.nil:New H F' []:=⟨List.nodup_nil,fun _ z=>nomatch z⟩
theorem New.one {p:Addr}(h:H p=none)(f:F' p=none):New H F' [p]:=⟨by simp,fun b hb=>by
 have:b=p:=by first|exact List.mem_singleton.mp hb|simpa using hb
 rw [this]; exact ⟨h,f⟩⟩
theorem Rel.fresh {B:List Addr}(R:Rel K F Z H σ ρ A)(n:New H F' B):Fresh F' Z A B:=⟨n.nd,fun b hb=>⟨(n.fr b hb).2,R.zh.free (n.fr b hb).1,fun ha=>by
 obtain ⟨u,hu⟩:=R.sl.live b ha
 rw [(n.fr b hb).1] at hu; cases hu⟩⟩
def CG:RV→FSt→Option (D×FSt)
 | .ov o,ρ=>some (xC o,ρ)
 | .br i,ρ=>match ρ[i]? with
  | some (some o)=>some (xC o,ρ.set i (some (.fz (xC o))))
  | _=>none
def fzR:RV→FSt→Option (D×FSt)
 | .ov (.fz d),ρ=>some (d,ρ)
 | .ov (.fl ds),ρ=>some (.lst ds,ρ)
 | .ov (.fd ks ds),ρ=>some (.dct ks ds,ρ)
 | .br i,ρ=>match ρ[i]? with
  | some (some (.fz d))=>some (d,ρ)
  | some (some (.fl ds))=>some (.lst ds,ρ.set i (some (.fz (.lst ds))))
  | some (some (.fd ks ds))=>some (.dct ks ds,ρ.set i (some (.fz (.dct ks ds))))
  | _=>none
theorem CH {ρ:FSt}{i:Nat}{x:Option OV}(h:ρ[i]?=some x):ρ.set i x=ρ:=by
 apply List.ext_getElem?
 intro j
 by_cases hj:i=j
 ·subst hj
  rw [h,List.getElem?_set_self (List.getElem?_eq_some_iff.mp h).1]
 ·rw [List.getElem?_set_ne hj]
theorem CI (r:RV)(ρ:FSt):fzR r ρ=CG r ρ:=by
 cases r with
 | ov o=>cases o <;> simp [fzR,CG,xC]
 | br i =>
  simp only [fzR,CG]
  cases e:ρ[i]? with
  | none=>rfl
  | some x =>
   cases x with
   | none=>rfl
   | some o =>
    cases o with
    | fz d=>simp only [xC]; rw [CH e]
    | fl ds=>simp [xC]
    | fd ks ds=>simp [xC]
def fzL:List RV→FSt→Option (List D×FSt)
 | [],ρ=>some ([],ρ)
 | r::rs,ρ=>match fzR r ρ with
  | some (d,ρ1)=>match fzL rs ρ1 with
   | some (ds,ρ2)=>some (d::ds,ρ2)
   | none=>none
  | none=>none
theorem Rel.grow {B:List Addr}(R:Rel K F Z H σ ρ A)(live:∀ b ∈ B,∃ u,H b=some u)(f:∀ b ∈ B,F b=none∧Z b=none∧b ∉ A):∃ F',Same F F'∧Rel K F' Z H σ ρ A∧(∀ a u,a ∈ B→H a=some u→F' a=some u)∧∀ a o,F' a=some o→F a=none→a ∈ B:=by
 obtain ⟨G,hin,hout⟩:=mix B H F
 have s:Same F G:=fun b o h=>by
  rw [hout b fun hb=>by rw [(f b hb).1] at h; cases h]; exact h
 refine ⟨G,s,⟨R.sl.keep s fun _ _ _ h=>h,R.nd,fun a ha=>⟨?_,(R.fr a ha).2⟩,fun b o h=>?_,R.zh,fun a o h=>?_⟩,fun a u ha h=>?_,fun a o h n=>?_⟩
 ·rw [hout a fun hb=>(f a hb).2.2 ha]; exact (R.fr a ha).1
 ·by_cases hb:b ∈ B
  ·rw [hin b hb] at h; exact h
  ·rw [hout b hb] at h; exact R.fh b o h
 ·by_cases hb:a ∈ B
  ·exact (f a hb).2.1
  ·rw [hout a hb] at h; exact R.dj a o h
 ·rw [hin a ha]; exact h
 ·by_cases hb:a ∈ B
  ·exact hb
  ·rw [hout a hb,n] at h; cases h
theorem dI {A B C:List Addr}(h:A.Perm (B++C))(n:A.Nodup):B.Nodup∧C.Nodup∧(∀ b ∈ B,b ∉ C):=by
 have:=h.nodup_iff.mp n
 rw [List.nodup_append] at this
 exact ⟨this.1,this.2.1,fun b hb hc=>this.2.2 b hb b hc rfl⟩
theorem Rel.takeI {i:Nat}{o:OV}(R:Rel K F Z H σ ρ A)(e:ρ[i]?=some (some o)):∃ v B A',σ[i]?=some (some v)∧Ow K F H v o B∧Rel K F Z H σ (ρ.set i none) A'∧Fresh F Z A' B∧A.Perm (B++A'):=by
 obtain ⟨v,B,A',h1,h2,h3,h4⟩:=R.sl.take e
 obtain ⟨n1,n2,n3⟩:=dI h3 R.nd
 have mA:∀ a ∈ A',a ∈ A:=fun a ha=>h3.mem_iff.mpr (List.mem_append.mpr (.inr ha))
 have mB:∀ a ∈ B,a ∈ A:=fun a ha=>h3.mem_iff.mpr (List.mem_append.mpr (.inl ha))
 exact ⟨v,B,A',h1,h2,⟨h4,n2,fun a ha=>R.fr a (mA a ha),R.fh,R.zh,R.dj⟩,⟨n1,fun b hb=>⟨(R.fr b (mB b hb)).1,(R.fr b (mB b hb)).2,n3 b hb⟩⟩,h3⟩
theorem kO {ρ:FSt}{i:Nat}{o:OV}(e:ρ[i]?=some (some o)):(ρ.set i none)[i]?=some none:=by
 have hi:i < ρ.length:=(List.getElem?_eq_some_iff.mp e).1
 simp [hi]
theorem Rel.putI {i:Nat}{o:OV}{v:V}{B:List Addr}(R:Rel K F Z H σ ρ A)(e:ρ[i]?=some none)(hv:σ[i]?=some (some v))(h:Ow K F H v o B)(f:Fresh F Z A B):∃ A',Rel K F Z H σ (ρ.set i (some o)) A'∧A'.Perm (B++A):=by
 obtain ⟨A',h1,h2⟩:=R.sl.put e hv h
 refine ⟨A',⟨h2,h1.nodup_iff.mpr ?_,fun a ha=>?_,R.fh,R.zh,R.dj⟩,h1⟩
 ·exact List.nodup_append.mpr ⟨f.nd,R.nd,fun a ha b hb z=>(f.fr a ha).2.2 (z ▸ hb)⟩
 ·rcases List.mem_append.mp (h1.mem_iff.mp ha) with q | q
  ·exact ⟨(f.fr a q).1,(f.fr a q).2.1⟩
  ·exact R.fr a q
theorem Rel.frz {v:V}{r:RV}{B:List Addr}{d:D}{ρ':FSt}(R:Rel K F Z H σ ρ A)(h:RV1 K F H σ v r B)(f:Fresh F Z A B)(e:fzR r ρ=some (d,ρ')) :
  ∃ F' A',Same F F'∧Rel K F' Z H σ ρ' A'∧Den K F' v d∧(∀ a o,F' a=some o→F a=none→a ∈ A∨a ∈ B)∧∀ a ∈ A',a ∈ A:=by
 rw [CI] at e
 cases r with
 | ov o =>
  simp only [CG,Option.some.injEq,Prod.mk.injEq] at e
  obtain ⟨rfl,rfl⟩:=e
  obtain ⟨F',s,R',k,n⟩:=R.grow (Ow.live h) f.fr
  exact ⟨F',A,s,R',Ow.freeze s h k,fun a o h1 h2=>.inr (n a o h1 h2),fun _ z=>z⟩
 | br i =>
  simp only [CG] at e
  split at e
  ·rename_i o ho
   simp only [Option.some.injEq,Prod.mk.injEq] at e
   obtain ⟨rfl,rfl⟩:=e
   obtain ⟨v',B',A',h1,h2,R',f',pm⟩:=R.takeI ho
   have hv:v'=v:=Option.some.inj (Option.some.inj (h1.symm.trans h.1))
   subst hv
   obtain ⟨F',s,R2,k,n⟩:=R'.grow (Ow.live h2) f'.fr
   have dn:=Ow.freeze s h2 k
   obtain ⟨A3,R3,p3⟩:=R2.putI (kO ho) h1 (.fz dn) Fresh.nil
   rw [List.set_set] at R3
   refine ⟨F',A3,s,R3,dn,fun a o h1 h2=>.inl (pm.mem_iff.mpr (List.mem_append.mpr (.inl (n a o h1 h2)))),fun a ha=>?_⟩
   have:=p3.mem_iff.mp ha
   exact pm.mem_iff.mpr (List.mem_append.mpr (.inr (by first|exact List.mem_singleton.mp this|simpa using this)))
  ·cases e
theorem Rel.frzL:∀ {rs:List RV} {vs:List V} {B:List Addr} {ds:List D} {ρ ρ':FSt} {F:Hp} {A:List Addr},Rel K F Z H σ ρ A→RVL K F H σ vs rs B→Fresh F Z A B→fzL rs ρ=some (ds,ρ') →
  ∃ F' A',Same F F'∧Rel K F' Z H σ ρ' A'∧Dens K F' vs ds:=by
 intro rs
 induction rs with
 | nil =>
  intro vs B ds ρ ρ' F A R h f e
  simp only [fzL,Option.some.injEq,Prod.mk.injEq] at e
  obtain ⟨rfl,rfl⟩:=e
  cases h
  exact ⟨F,A,Same.refl _,R,.nil⟩
 | cons r rs ih =>
  intro vs B ds ρ ρ' F A R h f e
  cases h with
  | @cons v _ vs _ B1 B2 h t =>
   simp only [fzL] at e
   split at e
   ·rename_i d ρ1 e1
    split at e
    ·rename_i ds' ρ2 e2
     simp only [Option.some.injEq,Prod.mk.injEq] at e
     obtain ⟨rfl,rfl⟩:=e
     obtain ⟨n1,n2,n3⟩:=dI (List.Perm.refl (B1++B2)) f.nd
     obtain ⟨F1,A1,s1,R1,d1,w1,m1⟩:=R.frz h ⟨n1,fun b hb=>f.fr b (List.mem_append.mpr (.inl hb))⟩ e1
     obtain ⟨F2,A2,s2,R2,d2⟩:=ih R1 (t.keep s1 fun _ _ _ z=>z) ⟨n2,fun b hb=>by
      have fb:=f.fr b (List.mem_append.mpr (.inr hb))
      refine ⟨?_,fb.2.1,fun z=>fb.2.2 (m1 b z)⟩
      cases q:F1 b with
      | none=>rfl
      | some u =>
       rcases w1 b u q fb.1 with z | z
       ·exact absurd z fb.2.2
       ·exact absurd hb (n3 b z)⟩ e2
     exact ⟨F2,A2,s1.trans s2,R2,.cons (d1.mono s2) d2⟩
    ·cases e
   ·cases e
def look (ρ:FSt):RV→Option OV
 | .ov o=>some o
 | .br i=>match ρ[i]? with
  | some (some o)=>some o
  | _=>none
def jM (ρ:FSt):RV→Option D
 | .ov o=>flat o
 | .br i=>match ρ[i]? with
  | some (some o)=>flat o
  | _=>none
def j4 (ρ:FSt):List RV→Option (List D)
 | []=>some []
 | r::rs=>match jM ρ r with
  | some d=>match j4 ρ rs with
   | some ds=>some (d::ds)
   | none=>none
  | none=>none
theorem Rel.acc {v:V}{r:RV}{B:List Addr}{d:D}(R:Rel K F Z H σ ρ A)(h:RV1 K F H σ v r B)(e:jM ρ r=some d):Acc K F H v d:=by
 cases r with
 | ov o=>exact Ow.acc h e
 | br i =>
  simp only [jM] at e
  split at e
  ·rename_i o ho
   obtain ⟨v',B',A',h1,h2,_⟩:=R.takeI ho
   have hv:v'=v:=Option.some.inj (Option.some.inj (h1.symm.trans h.1))
   subst hv
   exact h2.acc e
  ·cases e
inductive Accs (K:PySem.W.Frag)(F H:Hp):List V→List D→Prop where
 | nil:Accs K F H [] []
 | cons {v:V} {d:D} {vs:List V} {ds:List D}:Acc K F H v d→Accs K F H vs ds→Accs K F H (v::vs) (d::ds)
theorem Rel.accs {rs:List RV}{vs:List V}{B:List Addr}{ds:List D}(R:Rel K F Z H σ ρ A)(h:RVL K F H σ vs rs B)(e:j4 ρ rs=some ds):Accs K F H vs ds:=by
 induction h generalizing ds with
 | nil=>cases e; exact .nil
 | @cons v r vs rs A B h t ih =>
  unfold j4 at e
  cases e1:jM ρ r with
  | none=>rw [e1] at e; cases e
  | some d =>
   cases e2:j4 ρ rs with
   | none=>rw [e1,e2] at e; cases e
   | some ds' =>
    rw [e1,e2] at e
    cases e
    exact .cons (R.acc h e1) (ih e2)
end
end L2
set_option maxHeartbeats 4000000
namespace L2
open PySem PySem.Spec PyProof.Rows
abbrev FE:=FSt→(RV→FSt→Prop)→Prop
abbrev FT:=FSt→(Bool→FSt→Prop)→Prop
abbrev FA:=FSt→(List RV→FSt→Prop)→Prop
abbrev FO:=FSt→(Option Int→FSt→Prop)→Prop
def View (μ:List Nat)(τ σ:St):Prop:=∀ j i:Nat,μ[j]?=some i→τ[j]?=σ[i]?∧j < τ.length∧i < σ.length
theorem View.id {n:Nat}{σ:St}(hn:σ.length=n):View (List.range n) σ σ:=fun j i h=>by
 rw [List.getElem?_eq_some_iff] at h
 obtain ⟨h1,h2⟩:=h
 rw [List.getElem_range] at h2
 rw [List.length_range] at h1
 subst h2
 exact ⟨rfl,by nofun,by nofun⟩
structure EF (K:PySem.W.Frag)(μ:List Nat)(t:TE)(f:FE):Prop where
 h:∀ {F Z H:Hp} {τ σ:St} {ρ:FSt} {A:List Addr} {Q:VK} {P:RV→FSt→Prop},View μ τ σ→Rel K F Z H σ ρ A→f ρ P →
  (∀ r ρ' v F' H' A' B,P r ρ'→Same F F'→Rel K F' Z H' σ ρ' A'→RV1 K F' H' σ v r B→Fresh F' Z A' B→Q v H')→t τ H Q
structure TF (K:PySem.W.Frag)(μ:List Nat)(t:TT)(f:FT):Prop where
 h:∀ {F Z H:Hp} {τ σ:St} {ρ:FSt} {A:List Addr} {Q:Bool→Hp→Prop} {P:Bool→FSt→Prop},View μ τ σ→Rel K F Z H σ ρ A→f ρ P →
  (∀ b ρ' F' H' A',P b ρ'→Same F F'→Rel K F' Z H' σ ρ' A'→Q b H')→t τ H Q
structure AF (K:PySem.W.Frag)(μ:List Nat)(t:TA)(f:FA):Prop where
 h:∀ {F Z H:Hp} {τ σ:St} {ρ:FSt} {A:List Addr} {Q:List V→Hp→Prop} {P:List RV→FSt→Prop},View μ τ σ→Rel K F Z H σ ρ A→f ρ P →
  (∀ rs ρ' vs F' H' A' B,P rs ρ'→Same F F'→Rel K F' Z H' σ ρ' A'→RVL K F' H' σ vs rs B→Fresh F' Z A' B→Q vs H')→t τ H Q
structure OF (K:PySem.W.Frag)(μ:List Nat)(t:TO)(f:FO):Prop where
 h:∀ {F Z H:Hp} {τ σ:St} {ρ:FSt} {A:List Addr} {Q:Option Int→Hp→Prop} {P:Option Int→FSt→Prop},View μ τ σ→Rel K F Z H σ ρ A→f ρ P →
  (∀ x ρ' F' H' A',P x ρ'→Same F F'→Rel K F' Z H' σ ρ' A'→Q x H')→t τ H Q
def xD (K:PySem.W.Frag)(F H:Hp)(P:OV→Prop)(Q:VK):Prop:=∀ o v F' H' B,P o→Pure F H F' H'→Ow K F' H' v o B→New H F' B→Q v H'
structure OpF (K:PySem.W.Frag)(r:R2)(f:D→D→(OV→Prop)→Prop):Prop where
 h:∀ {F H:Hp} {x y:V} {d e:D} {Q:VK} {P:OV→Prop},Same F H→Acc K F H x d→Acc K F H y e→f d e P→xD K F H P Q→r x y H Q
structure CallF (K:PySem.W.Frag)(r:List V→Hp→VK→Prop)(f:List D→(OV→Prop)→Prop):Prop where
 h:∀ {F H:Hp} {xs:List V} {ds:List D} {Q:VK} {P:OV→Prop},Same F H→Accs K F H xs ds→f ds P→xD K F H P Q→r xs H Q
structure SlF (K:PySem.W.Frag)(r:V→Option Int→Option Int→Hp→VK→Prop)(f:D→Option Int→Option Int→(OV→Prop)→Prop):Prop where
 h:∀ {F H:Hp} {x:V} {d:D} {lo hi:Option Int} {Q:VK} {P:OV→Prop},Same F H→Acc K F H x d→f d lo hi P→xD K F H P Q→r x lo hi H Q
@[irreducible] def br (b:Bool)(A B:Prop):Prop:=if b=true then A else B
theorem iE {A B:Prop}(h:A):br true A B:=by unfold br; exact h
theorem mm {A B:Prop}(h:B):br false A B:=by unfold br; exact h
theorem xE {A B:Prop}(h:br true A B):A:=by unfold br at h; exact h
theorem xF {A B:Prop}(h:br false A B):B:=by unfold br at h; exact h
theorem bd {b:Bool}{A B:Prop}(c:Prop)(e:b=true↔c)(h1:c→A)(h2:¬ c→B):br b A B:=by
 cases b with
 | true=>exact iE (h1 (e.mp rfl))
 | false=>exact mm (h2 fun z=>nomatch e.mpr z)
def av (i:Nat):FE:=fun ρ Q=>match ρ[i]? with
 | some (some (.fz d))=>Q (.ov (.fz d)) ρ
 | some (some _)=>Q (.br i) ρ
 | _=>False
def fC (d:D):FE:=fun ρ Q=>Q (.ov (.fz d)) ρ
def on2 (ρ:FSt)(r s:RV)(k:D→D→Prop):Prop:=match jM ρ r with
 | some d=>match jM ρ s with
  | some e=>k d e
  | none=>False
 | none=>False
def on1 (ρ:FSt)(r:RV)(k:D→Prop):Prop:=match jM ρ r with
 | some d=>k d
 | none=>False
def onL (ρ:FSt)(rs:List RV)(k:List D→Prop):Prop:=match j4 ρ rs with
 | some d=>k d
 | none=>False
def onB (d:D)(k:Bool→Prop):Prop:=match d with
 | .bl b=>k b
 | _=>False
def fOp (f:D→D→(OV→Prop)→Prop)(fa fb:FE):FE:=fun ρ Q=>fa ρ fun r ρ1=>fb ρ1 fun s ρ2=>on2 ρ2 r s fun d e=>f d e fun o=>Q (.ov o) ρ2
def jN (fa fb:FE):FE:=fun ρ Q=>fa ρ fun r ρ1=>on1 ρ1 r fun d=>onB d fun c=>br c (fb ρ1 Q) (Q (.ov (.fz (.bl false))) ρ1)
def EN (fc:FT)(fa fb:FE):FE:=fun ρ Q=>fc ρ fun b ρ1=>br b (fa ρ1 Q) (fb ρ1 Q)
def j5 (f f':D→D→(OV→Prop)→Prop)(fa fb fc:FE):FE:=fun ρ Q=>fa ρ fun r ρ1=>fb ρ1 fun s ρ2=>on2 ρ2 r s fun d e=>f d e fun o=>match o with
 | .fz (.bl k)=>br k (fc ρ2 fun t ρ3=>on2 ρ3 s t fun d' e'=>f' d' e' fun o=>Q (.ov o) ρ3) (Q (.ov (.fz (.bl false))) ρ2)
 | _=>False
def bj (fa:FE):FT:=fun ρ Q=>fa ρ fun r ρ1=>on1 ρ1 r fun d=>onB d fun c=>Q c ρ1
def jO (ft:FT):FT:=fun ρ Q=>ft ρ fun c ρ1=>Q (!c) ρ1
def zI (fa fb:FT):FT:=fun ρ Q=>fa ρ fun c ρ1=>br c (fb ρ1 Q) (Q false ρ1)
def fOr (fa fb:FT):FT:=fun ρ Q=>fa ρ fun c ρ1=>br c (Q true ρ1) (fb ρ1 Q)
def qG:FT:=fun ρ Q=>Q true ρ
def bc:FA:=fun ρ Q=>Q [] ρ
def ac (fa:FE)(fr:FA):FA:=fun ρ Q=>fa ρ fun r ρ1=>fr ρ1 fun rs ρ2=>Q (r::rs) ρ2
def fCB (f:List D→(OV→Prop)→Prop)(fa:FA):FE:=fun ρ Q=>fa ρ fun rs ρ1=>onL ρ1 rs fun ds=>f ds fun o=>Q (.ov o) ρ1
def iF (fa:FA):FE:=fun ρ Q=>fa ρ fun rs ρ1=>match fzL rs ρ1 with
 | some (ds,ρ2)=>ds.length≤sizeLine∧Q (.ov (.fl ds)) ρ2
 | none=>False
def vv (fa:FA):FE:=fun ρ Q=>fa ρ fun rs ρ1=>match fzL rs ρ1 with
 | some (ds,ρ2)=>ds.length≤sizeLine∧Q (.ov (.fz (.tup ds))) ρ2
 | none=>False
def bW:FO:=fun ρ Q=>Q none ρ
def da (fa:FE):FO:=fun ρ Q=>fa ρ fun r ρ1=>on1 ρ1 r fun d=>match d with
 | .int i=>Q (some i) ρ1
 | _=>False
def fSl (f:D→Option Int→Option Int→(OV→Prop)→Prop)(fe:FE)(fl fh:FO):FE:=fun ρ Q=>fe ρ fun r ρ1=>fl ρ1 fun lo ρ2=>fh ρ2 fun hi ρ3=>on1 ρ3 r fun d=>f d lo hi fun o=>Q (.ov o) ρ3
def CJ:FE:=fun ρ Q=>Q (.ov (.fd [] [])) ρ
section
variable {K:PySem.W.Frag} {μ:List Nat}
theorem db {ρ:FSt}{r:RV}{k:D→Prop}(h:on1 ρ r k):∃ d,jM ρ r=some d∧k d:=by
 unfold on1 at h
 split at h
 ·exact ⟨_,by assumption,h⟩
 ·exact h.elim
theorem su {ρ:FSt}{r s:RV}{k:D→D→Prop}(h:on2 ρ r s k):∃ d e,jM ρ r=some d∧jM ρ s=some e∧k d e:=by
 unfold on2 at h
 split at h
 ·split at h
  ·exact ⟨_,_,by assumption,by assumption,h⟩
  ·exact h.elim
 ·exact h.elim
theorem sv {ρ:FSt}{r:List RV}{k:List D→Prop}(h:onL ρ r k):∃ d,j4 ρ r=some d∧k d:=by
 unfold onL at h
 split at h
 ·exact ⟨_,by assumption,h⟩
 ·exact h.elim
theorem xG {d:D}{k:Bool→Prop}(h:onB d k):∃ b,d=.bl b∧k b:=by
 unfold onB at h
 split at h
 ·exact ⟨_,rfl,h⟩
 ·exact h.elim
theorem cU {i j:Nat}(hj:μ[j]?=some i):EF K μ (uM j) (av i):=⟨by
 intro F Z H τ σ ρ A Q P vw R h q
 unfold av at h
 generalize e:ρ[i]?=o at h
 cases o with
 | none=>exact False.elim h
 | some o =>
  cases o with
  | none=>exact False.elim h
  | some o =>
   obtain ⟨v,B,A',h1,h2,h3,h4,h5⟩:=R.takeI e
   refine ⟨v,(vw j i hj).1.trans h1,?_⟩
   cases o with
   | fz d =>
    cases h2 with
    | fz dn=>exact q _ _ v F H A [] h (Same.refl _) R (.fz dn) Fresh.nil
   | _=>exact q _ _ v F H A [] h (Same.refl _) R ⟨h1,rfl⟩ Fresh.nil⟩
theorem CK {v:V}{d:D}(hd:∀ F,Den K F v d):EF K μ (tC v) (fC d):=⟨fun {F Z H τ σ ρ A Q P} vw R h q=>q _ _ v F H A [] h (Same.refl _) R (.fz (hd F)) Fresh.nil⟩
theorem aj {i:Int}:EF K μ (tC (.int i)) (fC (.int i)):=CK fun _=>.int i
theorem ap {i:Str}:EF K μ (tC (.str i)) (fC (.str i)):=CK fun _=>.str i
theorem eV {i:Bool}:EF K μ (tC (.bl i)) (fC (.bl i)):=CK fun _=>.bl i
theorem ja:EF K μ (tC .non) (fC .non):=CK fun _=>.non
theorem gW {T:String}:EF K μ (tC (.ty T)) (fC (.ty T)):=CK fun _=>.ty T
theorem Rel.after {F Z H:Hp}{σ:St}{ρ:FSt}{A:List Addr}{P:OV→Prop}{Q:VK}(R:Rel K F Z H σ ρ A)(q:∀ o v F' H' B,P o→Same F F'→Rel K F' Z H' σ ρ A→Ow K F' H' v o B→Fresh F' Z A B→Q v H'):xD K F H P Q :=
 fun o v F' H' B p pu ow nw=>q o v F' H' B p pu.ff (R.step pu) ow (R.fresh nw)
theorem aq {r:R2}{f:D→D→(OV→Prop)→Prop}{ta tb:TE}{fa fb:FE}(ho:OpF K r f)(ha:EF K μ ta fa)(hb:EF K μ tb fb):EF K μ (tOp r ta tb) (fOp f fa fb):=⟨by
 intro F Z H τ σ ρ A Q P vw R h q
 refine ha.h vw R h fun r1 ρ1 x F1 H1 A1 B1 h1 s1 R1 v1 f1=>?_
 obtain ⟨Z',sz,R1',zl,back⟩:=R1.hold v1.live f1
 refine hb.h vw R1' h1 fun r2 ρ2 y F2 H2 A2 B2 h2 s2 R2 v2 f2=>?_
 obtain ⟨R2',f1',k1⟩:=back _ _ _ _ s2 R2
 obtain ⟨d,e,e1,e2,h3⟩:=su h2
 refine ho.h R2'.fh (R2'.acc (v1.keep s2 k1) e1) (R2'.acc v2 e2) h3 (R2'.after fun o v F3 H3 B p s3 R3 ow fr=>q _ _ _ _ _ _ _ p ((s1.trans s2).trans s3) R3 ow fr)⟩
theorem eD {ta tb:TE}{fa fb:FE}(ha:EF K μ ta fa)(hb:EF K μ tb fb):EF K μ (yw ta tb) (jN fa fb):=⟨by
 intro F Z H τ σ ρ A Q P vw R h q
 refine ha.h vw R h fun r1 ρ1 x F1 H1 A1 B1 h1 s1 R1 v1 f1=>?_
 obtain ⟨d,e1,h2⟩:=db h1
 obtain ⟨c,rfl,h3⟩:=xG h2
 refine ⟨c,(R1.acc v1 e1).bl_eq,?_⟩
 cases c with
 | true=>exact hb.h vw R1 (xE h3) fun r2 ρ2 y F2 H2 A2 B2 h2 s2=>q _ _ _ _ _ _ _ h2 (s1.trans s2)
 | false=>exact q _ _ _ _ _ _ _ (xF h3) s1 R1 (.fz (.bl false)) Fresh.nil⟩
theorem CL {tc:TT}{ta tb:TE}{fc:FT}{fa fb:FE}(hc:TF K μ tc fc)(ha:EF K μ ta fa)(hb:EF K μ tb fb):EF K μ (tIf tc ta tb) (EN fc fa fb):=⟨by
 intro F Z H τ σ ρ A Q P vw R h q
 refine hc.h vw R h fun b ρ1 F1 H1 A1 h1 s1 R1=>?_
 cases b with
 | true=>exact ha.h vw R1 (xE h1) fun r2 ρ2 y F2 H2 A2 B2 h2 s2=>q _ _ _ _ _ _ _ h2 (s1.trans s2)
 | false=>exact hb.h vw R1 (xF h1) fun r2 ρ2 y F2 H2 A2 B2 h2 s2=>q _ _ _ _ _ _ _ h2 (s1.trans s2)⟩
theorem gz {r r':R2}{f f':D→D→(OV→Prop)→Prop}{ta tb tc:TE}{fa fb fc:FE}(ho:OpF K r f)(ho':OpF K r' f')(ha:EF K μ ta fa)(hb:EF K μ tb fb)(hc:EF K μ tc fc):EF K μ (lH r r' ta tb tc) (j5 f f' fa fb fc):=⟨by
 intro F Z H τ σ ρ A Q P vw R h q
 refine ha.h vw R h fun r1 ρ1 x F1 H1 A1 B1 h1 s1 R1 v1 f1=>?_
 obtain ⟨Z',sz,R1',zl,back⟩:=R1.hold v1.live f1
 refine hb.h vw R1' h1 fun r2 ρ2 y F2 H2 A2 B2 h2 s2 R2 v2 f2=>?_
 obtain ⟨R2',f1',k1⟩:=back _ _ _ _ s2 R2
 obtain ⟨d,e,e1,e2,h3⟩:=su h2
 have f2':Fresh F2 Z A2 B2:=⟨f2.nd,fun b hb=>⟨(f2.fr b hb).1,sz.free (f2.fr b hb).2.1,(f2.fr b hb).2.2⟩⟩
 refine ho.h R2'.fh (R2'.acc (v1.keep s2 k1) e1) (R2'.acc v2 e2) h3 fun o v F3 H3 B p pu ow nw=>?_
 have R3:=R2'.step pu
 have f3:Fresh F3 Z A2 B2:=⟨f2'.nd,fun b hb=>⟨(by
  cases z:F3 b with
  | none=>rfl
  | some u =>
   obtain ⟨w,hw⟩:=v2.live b hb
   rw [pu.nw b u z (f2'.fr b hb).1] at hw
   exact nomatch hw),(f2'.fr b hb).2⟩⟩
 have v3:=v2.keep pu.ff fun a u _ z=>pu.hh a u z
 split at p
 ·rename_i k
  cases ow with
  | fz dn =>
   refine ⟨k,dn.bl_eq,?_⟩
   cases k with
   | false=>exact q _ _ _ _ _ _ _ (xF p) ((s1.trans s2).trans pu.ff) R3 (.fz (.bl false)) Fresh.nil
   | true =>
    obtain ⟨Z2,sz2,R3',zl2,back2⟩:=R3.hold v3.live f3
    refine hc.h vw R3' (xE p) fun r4 ρ4 w F4 H4 A4 B4 h4 s4 R4 v4 f4=>?_
    obtain ⟨R4',f4',k4⟩:=back2 _ _ _ _ s4 R4
    obtain ⟨d',e',e1',e2',h5⟩:=su h4
    exact ho'.h R4'.fh (R4'.acc (v3.keep s4 k4) e1') (R4'.acc v4 e2') h5 (R4'.after fun o v F5 H5 B p s5 R5 ow fr=>q _ _ _ _ _ _ _ p ((((s1.trans s2).trans pu.ff).trans s4).trans s5) R5 ow fr)
 ·exact p.elim⟩
theorem aG {ta:TE}{fa:FE}(ha:EF K μ ta fa):TF K μ (nb ta) (bj fa):=⟨by
 intro F Z H τ σ ρ A Q P vw R h q
 refine ha.h vw R h fun r1 ρ1 x F1 H1 A1 B1 h1 s1 R1 v1 f1=>?_
 obtain ⟨d,e1,h2⟩:=db h1
 obtain ⟨c,rfl,h3⟩:=xG h2
 exact ⟨c,(R1.acc v1 e1).bl_eq,q _ _ _ _ _ h3 s1 R1⟩⟩
theorem kP {ta:TE}{fa:FE}(ha:EF K μ ta fa):TF K μ (tB ta) (bj fa):=⟨(aG ha).h⟩
theorem di {t:TT}{f:FT}(h:TF K μ t f):TF K μ (Ee t) (jO f):=⟨fun {F Z H τ σ ρ A Q P} vw R p q=>h.h vw R p fun b ρ1 F1 H1 A1 h1=>q _ _ _ _ _ h1⟩
theorem j6 {t u:TT}{f g:FT}(h:TF K μ t f)(h':TF K μ u g):TF K μ (Ed t u) (zI f g):=⟨fun {F Z H τ σ ρ A Q P} vw R p q=>h.h vw R p fun b ρ1 F1 H1 A1 h1 s1 R1=>by
 cases b with
 | true=>exact h'.h vw R1 (xE h1) fun b ρ2 F2 H2 A2 h2 s2=>q _ _ _ _ _ h2 (s1.trans s2)
 | false=>exact q _ _ _ _ _ (xF h1) s1 R1⟩
theorem jb {t u:TT}{f g:FT}(h:TF K μ t f)(h':TF K μ u g):TF K μ (tOr t u) (fOr f g):=⟨fun {F Z H τ σ ρ A Q P} vw R p q=>h.h vw R p fun b ρ1 F1 H1 A1 h1 s1 R1=>by
 cases b with
 | false=>exact h'.h vw R1 (xF h1) fun b ρ2 F2 H2 A2 h2 s2=>q _ _ _ _ _ h2 (s1.trans s2)
 | true=>exact q _ _ _ _ _ (xE h1) s1 R1⟩
theorem gA:TF K μ EG qG:=⟨fun {F Z H τ σ ρ A Q P} vw R p q=>q _ _ _ _ _ p (Same.refl _) R⟩
theorem ah:AF K μ m7 bc:=⟨fun {F Z H τ σ ρ A Q P} vw R p q=>q _ _ _ _ _ _ _ p (Same.refl _) R .nil Fresh.nil⟩
theorem aa {ta:TE}{tr:TA}{fa:FE}{fr:FA}(ha:EF K μ ta fa)(hr:AF K μ tr fr):AF K μ (fV ta tr) (ac fa fr):=⟨by
 intro F Z H τ σ ρ A Q P vw R h q
 refine ha.h vw R h fun r1 ρ1 x F1 H1 A1 B1 h1 s1 R1 v1 f1=>?_
 obtain ⟨Z',sz,R1',zl,back⟩:=R1.hold v1.live f1
 refine hr.h vw R1' h1 fun r2 ρ2 y F2 H2 A2 B2 h2 s2 R2 v2 f2=>?_
 obtain ⟨R2',f1',k1⟩:=back _ _ _ _ s2 R2
 refine q _ _ _ _ _ _ _ h2 (s1.trans s2) R2' (.cons (v1.keep s2 k1) v2) ⟨List.nodup_append.mpr ⟨f1'.nd,f2.nd,fun a ha b hb z=>?_⟩,fun b hb=>?_⟩
 ·obtain ⟨u,hu⟩:=zl a ha
  rw [z,(f2.fr b hb).2.1] at hu; cases hu
 ·rcases List.mem_append.mp hb with z | z
  ·exact f1'.fr b z
  ·exact ⟨(f2.fr b z).1,sz.free (f2.fr b z).2.1,(f2.fr b z).2.2⟩⟩
theorem bN {r:List V→Hp→VK→Prop}{f:List D→(OV→Prop)→Prop}{t:TA}{fa:FA}(hc:CallF K r f)(ha:AF K μ t fa):EF K μ (tCB r t) (fCB f fa):=⟨by
 intro F Z H τ σ ρ A Q P vw R h q
 refine ha.h vw R h fun rs ρ1 xs F1 H1 A1 B1 h1 s1 R1 v1 f1=>?_
 obtain ⟨ds,e1,h2⟩:=sv h1
 exact hc.h R1.fh (R1.accs v1 e1) h2 (R1.after fun o v F3 H3 B p s3 R3 ow fr=>q _ _ _ _ _ _ _ p (s1.trans s3) R3 ow fr)⟩
theorem dc {t:TA}{fa:FA}(ha:AF K μ t fa):EF K μ (Ew t) (iF fa):=⟨by
 intro F Z H τ σ ρ A Q P vw R h q
 refine ha.h vw R h fun rs ρ1 xs F1 H1 A1 B1 h1 s1 R1 v1 f1=>?_
 split at h1
 ·rename_i ds ρ2 e
  obtain ⟨F2,A2,s2,R2,dn⟩:=R1.frzL v1 f1 e
  refine ⟨by rw [dn.length]; exact h1.1,fun p hp=>?_⟩
  have hf:F2 p=none:=R2.fh.free hp
  exact R2.after (P:=fun o=>P (.ov o) ρ2) (fun o v F3 H3 B p s3 R3 ow fr=>q _ _ _ _ _ _ _ p ((s1.trans s2).trans s3) R3 ow fr) _ _ F2 _ [p] h1.2 (Pure.new R2.fh hp) (.fl bn dn) (New.one hp hf)
 ·exact h1.elim⟩
theorem iu {t:TA}{fa:FA}(ha:AF K μ t fa):EF K μ (Ev t) (vv fa):=⟨by
 intro F Z H τ σ ρ A Q P vw R h q
 refine ha.h vw R h fun rs ρ1 xs F1 H1 A1 B1 h1 s1 R1 v1 f1=>?_
 split at h1
 ·rename_i ds ρ2 e
  obtain ⟨F2,A2,s2,R2,dn⟩:=R1.frzL v1 f1 e
  refine ⟨by rw [dn.length]; exact h1.1,fun p hp=>?_⟩
  have hf:F2 p=none:=R2.fh.free hp
  refine R2.after (P:=fun o=>P (.ov o) ρ2) (fun o v F3 H3 B p s3 R3 ow fr=>q _ _ _ _ _ _ _ p ((s1.trans s2).trans s3) R3 ow fr) _ _ (upd F2 p (.tup xs)) _ [] h1.2 (Pure.frz R2.fh hp) (.fz (.tup (SqT.of bn) (dn.mono (ck hf)))) New.nil
 ·exact h1.elim⟩
theorem zJ:EF K μ oa CJ:=⟨by
 intro F Z H τ σ ρ A Q P vw R h q p hp
 have hf:F p=none:=R.fh.free hp
 exact R.after (P:=fun o=>P (.ov o) ρ) (fun o v F3 H3 B p s3 R3 ow fr=>q _ _ _ _ _ _ _ p s3 R3 ow fr) _ _ F _ [p] h (Pure.new R.fh hp) (.fd bn rfl .nil) (New.one hp hf)⟩
theorem ci:OF K μ nc bW:=⟨fun {F Z H τ σ ρ A Q P} vw R p q=>q _ _ _ _ _ p (Same.refl _) R⟩
theorem bB {ta:TE}{fa:FE}(ha:EF K μ ta fa):OF K μ (yT ta) (da fa):=⟨by
 intro F Z H τ σ ρ A Q P vw R h q
 refine ha.h vw R h fun r1 ρ1 x F1 H1 A1 B1 h1 s1 R1 v1 f1=>?_
 obtain ⟨d,e1,h2⟩:=db h1
 split at h2
 ·rename_i i
  exact ⟨i,(R1.acc v1 e1).int_eq,q _ _ _ _ _ h2 s1 R1⟩
 ·exact h2.elim⟩
theorem dB {r:V→Option Int→Option Int→Hp→VK→Prop}{f:D→Option Int→Option Int→(OV→Prop)→Prop}{te:TE}{tl th:TO}{fe:FE}{fl fh:FO}(hr:SlF K r f)(he:EF K μ te fe)(hl:OF K μ tl fl)(hh:OF K μ th fh):EF K μ (tSl r te tl th) (fSl f fe fl fh):=⟨by
 intro F Z H τ σ ρ A Q P vw R h q
 refine he.h vw R h fun r1 ρ1 x F1 H1 A1 B1 h1 s1 R1 v1 f1=>?_
 obtain ⟨Z',sz,R1',zl,back⟩:=R1.hold v1.live f1
 refine hl.h vw R1' h1 fun lo ρ2 F2 H2 A2 h2 s2 R2=>?_
 refine hh.h vw R2 h2 fun hi ρ3 F3 H3 A3 h3 s3 R3=>?_
 obtain ⟨R3',f1',k1⟩:=back _ _ _ _ (s2.trans s3) R3
 obtain ⟨d,e1,h4⟩:=db h3
 exact hr.h R3'.fh (R3'.acc (v1.keep (s2.trans s3) k1) e1) h4 (R3'.after fun o v F5 H5 B p s5 R5 ow fr=>q _ _ _ _ _ _ _ p (((s1.trans s2).trans s3).trans s5) R5 ow fr)⟩
end
end L2
set_option maxHeartbeats 4000000
namespace L2
open PySem PySem.Spec PyProof.Rows
abbrev Ct:=List OV→(OV→List OV→Prop)→Prop
def takeR:RV→FSt→Option (OV×FSt)
 | .ov o,ρ=>some (o,ρ)
 | .br i,ρ=>match ρ[i]? with
  | some (some o)=>some (o,ρ.set i none)
  | _=>none
def takeL:List RV→FSt→Option (List OV×FSt)
 | [],ρ=>some ([],ρ)
 | r::rs,ρ=>match takeR r ρ with
  | some (o,ρ1)=>match takeL rs ρ1 with
   | some (os,ρ2)=>some (o::os,ρ2)
   | none=>none
  | none=>none
def putL:List RV→List OV→FSt→FSt
 | .br i::rs,o::os,ρ=>putL rs os (ρ.set i (some o))
 | .ov _::rs,_::os,ρ=>putL rs os ρ
 | _,_,ρ=>ρ
def spM (K:PySem.W.Frag)(c:Ct):Sp:=fun vs H Q _=>∃ (F Z:Hp) (os:List OV) (C:List Addr) (P:OV→List OV→Prop),Same F H∧Same Z H∧(∀ a o,F a=some o→Z a=none)∧Ows K F H vs os C∧C.Nodup∧(∀ a ∈ C,F a=none∧Z a=none)∧c os P ∧
 ∀ o os' v F' H' C' B,P o os'→Same F F'→Same F' H'→Same Z H'→(∀ a o,F' a=some o→Z a=none)→Ows K F' H' vs os' C'→Ow K F' H' v o B→(C'++B).Nodup→(∀ a ∈ C'++B,F' a=none∧Z a=none)→Q v H'
def bx (c:Ct)(fa:FA):FE:=fun ρ Q=>fa ρ fun rs ρ1=>match takeL rs ρ1 with
 | some (os,ρ2)=>c os fun o os'=>Q (.ov o) (putL rs os' ρ2)
 | none=>False
def fFz (fe:FE):FE:=fun ρ Q=>fe ρ fun r ρ1=>match fzR r ρ1 with
 | some (d,ρ2)=>Q (.ov (.fz d)) ρ2
 | none=>False
section
variable {K:PySem.W.Frag} {μ:List Nat} {F F' Z H H':Hp} {σ:St} {ρ:FSt} {A:List Addr}
theorem Rel.takeR {v:V}{r:RV}{B:List Addr}{o:OV}{ρ':FSt}(R:Rel K F Z H σ ρ A)(h:RV1 K F H σ v r B)(f:Fresh F Z A B)(e:L2.takeR r ρ=some (o,ρ')) :
  ∃ C A',Rel K F Z H σ ρ' A'∧Ow K F H v o C∧Fresh F Z A' C∧(∀ a ∈ A',a ∈ A)∧∀ a ∈ C,a ∈ A∨a ∈ B:=by
 cases r with
 | ov o' =>
  simp only [L2.takeR,Option.some.injEq,Prod.mk.injEq] at e
  obtain ⟨rfl,rfl⟩:=e
  exact ⟨B,A,R,h,f,fun _ z=>z,fun _ z=>.inr z⟩
 | br i =>
  simp only [L2.takeR] at e
  split at e
  ·rename_i o' ho
   simp only [Option.some.injEq,Prod.mk.injEq] at e
   obtain ⟨rfl,rfl⟩:=e
   obtain ⟨v',B',A',h1,h2,R',f',pm⟩:=R.takeI ho
   have hv:v'=v:=Option.some.inj (Option.some.inj (h1.symm.trans h.1))
   subst hv
   exact ⟨B',A',R',h2,f',fun a ha=>pm.mem_iff.mpr (List.mem_append.mpr (.inr ha)),fun a ha=>.inl (pm.mem_iff.mpr (List.mem_append.mpr (.inl ha)))⟩
  ·cases e
theorem Rel.takeL:∀ {rs:List RV} {vs:List V} {B:List Addr} {os:List OV} {ρ ρ':FSt} {A:List Addr},Rel K F Z H σ ρ A→RVL K F H σ vs rs B→Fresh F Z A B→L2.takeL rs ρ=some (os,ρ') →
  ∃ C A',Rel K F Z H σ ρ' A'∧Ows K F H vs os C∧Fresh F Z A' C∧(∀ a ∈ A',a ∈ A)∧∀ a ∈ C,a ∈ A∨a ∈ B:=by
 intro rs
 induction rs with
 | nil =>
  intro vs B os ρ ρ' A R h f e
  simp only [L2.takeL,Option.some.injEq,Prod.mk.injEq] at e
  obtain ⟨rfl,rfl⟩:=e
  cases h
  exact ⟨[],A,R,.nil,f,fun _ z=>z,fun _ z=>nomatch z⟩
 | cons r rs ih =>
  intro vs B os ρ ρ' A R h f e
  cases h with
  | @cons v _ vs _ B1 B2 h t =>
   simp only [L2.takeL] at e
   split at e
   ·rename_i o ρ1 e1
    split at e
    ·rename_i os' ρ2 e2
     simp only [Option.some.injEq,Prod.mk.injEq] at e
     obtain ⟨rfl,rfl⟩:=e
     obtain ⟨n1,n2,n3⟩:=dI (List.Perm.refl (B1++B2)) f.nd
     obtain ⟨C1,A1,R1,o1,f1,m1,c1⟩:=R.takeR h ⟨n1,fun b hb=>f.fr b (List.mem_append.mpr (.inl hb))⟩ e1
     obtain ⟨C2,A2,R2,o2,f2,m2,c2⟩:=ih R1 t ⟨n2,fun b hb=>by
      have fb:=f.fr b (List.mem_append.mpr (.inr hb))
      exact ⟨fb.1,fb.2.1,fun z=>fb.2.2 (m1 b z)⟩⟩ e2
     refine ⟨C1++C2,A2,R2,.cons o1 o2,⟨List.nodup_append.mpr ⟨f1.nd,f2.nd,fun a ha b hb z=>?_⟩,fun b hb=>?_⟩,fun a ha=>m1 a (m2 a ha),fun a ha=>?_⟩
     ·subst z
      rcases c2 a hb with z | z
      ·exact (f1.fr a ha).2.2 z
      ·rcases c1 a ha with y | y
       ·exact (f.fr a (List.mem_append.mpr (.inr z))).2.2 y
       ·exact n3 a y z
     ·rcases List.mem_append.mp hb with z | z
      ·exact ⟨(f1.fr b z).1,(f1.fr b z).2.1,fun y=>(f1.fr b z).2.2 (m2 b y)⟩
      ·exact f2.fr b z
     ·rcases List.mem_append.mp ha with z | z
      ·rcases c1 a z with y | y
       ·exact .inl y
       ·exact .inr (List.mem_append.mpr (.inl y))
      ·rcases c2 a z with y | y
       ·exact .inl (m1 a y)
       ·exact .inr (List.mem_append.mpr (.inr y))
    ·cases e
   ·cases e
theorem Rel.assign {i:Nat}{v:V}{o:OV}{B:List Addr}(R:Rel K F Z H σ ρ A)(h:Ow K F H v o B)(f:Fresh F Z A B):∃ A',Rel K F Z H (σ.set i (some v)) (ρ.set i (some o)) A'∧∀ a ∈ A',a ∈ A∨a ∈ B:=by
 obtain ⟨A1,C,pm,s1⟩:=R.sl.drop i (some v)
 obtain ⟨n1,n2,n3⟩:=dI pm R.nd
 have mA:∀ a ∈ A1,a ∈ A:=fun a ha=>pm.mem_iff.mpr (List.mem_append.mpr (.inr ha))
 have R1:Rel K F Z H (σ.set i (some v)) (ρ.set i none) A1:=⟨s1,n2,fun a ha=>R.fr a (mA a ha),R.fh,R.zh,R.dj⟩
 by_cases hi:i < ρ.length
 ·have hl:=R.sl.len
  obtain ⟨A2,R2,p2⟩:=R1.putI (i:=i) (v:=v) (o:=o) (B:=B) (by simp [hi]) (by simp [hl,hi]) h ⟨f.nd,fun b hb=>⟨(f.fr b hb).1,(f.fr b hb).2.1,fun z=>(f.fr b hb).2.2 (mA b z)⟩⟩
  rw [List.set_set] at R2
  refine ⟨A2,R2,fun a ha=>?_⟩
  rcases List.mem_append.mp (p2.mem_iff.mp ha) with z | z
  ·exact .inr z
  ·exact .inl (mA a z)
 ·have hl:=R.sl.len
  rw [List.set_eq_of_length_le (by nofun)] at R1 ⊢
  rw [List.set_eq_of_length_le (by nofun)] at R1 ⊢
  exact ⟨A1,R1,fun a ha=>.inl (mA a ha)⟩
theorem CM {σ:St}{i:Nat}{v:V}(h:σ[i]?=some (some v)):σ.set i (some v)=σ:=by
 apply List.ext_getElem?
 intro j
 by_cases hj:i=j
 ·subst hj
  have:=(List.getElem?_eq_some_iff.mp h).1
  rw [h,List.getElem?_set_self this]
 ·rw [List.getElem?_set_ne hj]
theorem Rel.putL:∀ {rs:List RV} {vs:List V} {os:List OV} {B C:List Addr} {ρ:FSt} {A:List Addr},Rel K F Z H σ ρ A→RVL K F' H' σ vs rs B→Ows K F H vs os C→Fresh F Z A C →
  ∃ A',Rel K F Z H σ (L2.putL rs os ρ) A'∧∀ a ∈ A',a ∈ A∨a ∈ C:=by
 intro rs
 induction rs with
 | nil =>
  intro vs os B C ρ A R h hO f
  exact ⟨A,R,fun _ z=>.inl z⟩
 | cons r rs ih =>
  intro vs os B C ρ A R h hO f
  cases h with
  | @cons v _ vs _ B1 B2 h t =>
   cases hO with
   | @cons _ o _ os C1 C2 h1 t1 =>
    obtain ⟨n1,n2,n3⟩:=dI (List.Perm.refl (C1++C2)) f.nd
    have f1:Fresh F Z A C1:=⟨n1,fun b hb=>f.fr b (List.mem_append.mpr (.inl hb))⟩
    have f2:Fresh F Z A C2:=⟨n2,fun b hb=>f.fr b (List.mem_append.mpr (.inr hb))⟩
    cases r with
    | ov o' =>
     obtain ⟨A',R',m⟩:=ih R t t1 f2
     refine ⟨A',R',fun a ha=>(m a ha).elim .inl fun z=>.inr (List.mem_append.mpr (.inr z))⟩
    | br i =>
     obtain ⟨A1,R1,m1⟩:=R.assign (i:=i) h1 f1
     rw [CM h.1] at R1
     obtain ⟨A',R',m⟩:=ih R1 t t1 ⟨n2,fun b hb=>⟨(f2.fr b hb).1,(f2.fr b hb).2.1,fun z=>(m1 b z).elim (f2.fr b hb).2.2 fun y=>n3 b y hb⟩⟩
     refine ⟨A',R',fun a ha=>?_⟩
     rcases m a ha with z | z
     ·exact (m1 a z).elim .inl fun y=>.inr (List.mem_append.mpr (.inl y))
     ·exact .inr (List.mem_append.mpr (.inr z))
theorem aB {c:Ct}{t:TA}{fa:FA}{E:XK}(ha:AF K μ t fa):EF K μ (ra (spM K c) [] E t) (bx c fa):=⟨by
 intro F Z H τ σ ρ A Q P vw R h q
 refine ha.h vw R h fun rs ρ1 vs F1 H1 A1 B1 h1 s1 R1 v1 f1=>?_
 rw [List.append_nil]
 split at h1
 ·rename_i os ρ2 e
  obtain ⟨C,A2,R2,o2,f2,m2,c2⟩:=R1.takeL v1 f1 e
  -- what is not handed over is held
  obtain ⟨Z',hin,hout⟩:=mix A2 H1 Z
  have hz:∀ a,a ∈ A2→Z a=none:=fun a ha=>(R2.fr a ha).2
  have sz:Same Z Z':=fun a o z=>by rw [hout a fun y=>by rw [hz a y] at z; cases z]; exact z
  refine ⟨F1,Z',os,C,_,R2.fh,fun a o z=>?_,fun a o z=>?_,o2,f2.nd,fun a ha=>⟨(f2.fr a ha).1,by rw [hout a (f2.fr a ha).2.2]; exact (f2.fr a ha).2.1⟩,h1,fun o os' v F3 H3 C3 B p s3 fh zh dj w3 w4 nd fr=>?_⟩
  ·by_cases y:a ∈ A2
   ·rw [hin a y] at z; exact z
   ·rw [hout a y] at z; exact R2.zh a o z
  ·rw [hout a fun y=>by rw [(R2.fr a y).1] at z; cases z]; exact R2.dj a o z
  ·have nA:∀ a ∈ A2,∃ u,Z' a=some u:=fun a ha=>by
    obtain ⟨u,hu⟩:=R2.sl.live a ha
    exact ⟨u,by rw [hin a ha]; exact hu⟩
   have R3:Rel K F3 Z H3 σ ρ2 A2:=⟨R2.sl.keep s3 fun a u ha hu=>zh a u (by rw [hin a ha]; exact hu),R2.nd,fun a ha=>⟨(by
    cases z:F3 a with
    | none=>rfl
    | some u =>
     have:=dj a u z
     obtain ⟨w,hw⟩:=nA a ha
     rw [hw] at this
     exact nomatch this),(R2.fr a ha).2⟩,fh,sz.trans zh,fun a o z=>sz.free (dj a o z)⟩
   have nC:∀ a ∈ C3++B,a ∉ A2:=fun a ha y=>by
    obtain ⟨w,hw⟩:=nA a y
    rw [(fr a ha).2] at hw; cases hw
   obtain ⟨n1,n2,n3⟩:=dI (List.Perm.refl (C3++B)) nd
   have fC:Fresh F3 Z A2 C3:=⟨n1,fun b hb=>by
    have:=fr b (List.mem_append.mpr (.inl hb))
    exact ⟨this.1,sz.free this.2,nC b (List.mem_append.mpr (.inl hb))⟩⟩
   obtain ⟨A4,R4,m4⟩:=R3.putL v1 w3 fC
   refine q _ _ _ _ _ _ _ p (s1.trans s3) R4 w4 ⟨n2,fun b hb=>?_⟩
   have:=fr b (List.mem_append.mpr (.inr hb))
   exact ⟨this.1,sz.free this.2,fun z=>(m4 b z).elim (nC b (List.mem_append.mpr (.inr hb))) fun y=>n3 b y hb⟩
 ·exact h1.elim⟩
theorem cM {te:TE}{fe:FE}(he:EF K μ te fe):EF K μ te (fFz fe):=⟨by
 intro F Z H τ σ ρ A Q P vw R h q
 refine he.h vw R h fun r ρ1 v F1 H1 A1 B1 h1 s1 R1 v1 f1=>?_
 split at h1
 ·rename_i d ρ2 e
  obtain ⟨F2,A2,s2,R2,dn,_,_⟩:=R1.frz v1 f1 e
  exact q _ _ _ _ _ _ _ h1 (s1.trans s2) R2 (.fz dn) Fresh.nil
 ·exact h1.elim⟩
end
theorem oz:∀ {l:List Nat} {j k i:Nat},l.Nodup→l[j]?=some i→l[k]?=some i→j=k
 | [],_,_,_,_,h,_=>by simp at h
 | a::l,0,0,_,_,_,_=>rfl
 | a::l,0,k+1,i,n,h,h'=>by
  simp at h h'
  subst h
  exact absurd (List.mem_of_getElem? h') (List.nodup_cons.mp n).1
 | a::l,j+1,0,i,n,h,h'=>by
  simp at h h'
  subst h'
  exact absurd (List.mem_of_getElem? h) (List.nodup_cons.mp n).1
 | a::l,j+1,k+1,i,n,h,h'=>by
  simp at h h'
  rw [oz (List.nodup_cons.mp n).2 h h']
abbrev FG:=D→FSt→(FSt→Prop)→Prop
abbrev FGs:=List D→FSt→(FSt→Prop)→Prop
structure GF (K:PySem.W.Frag)(μ:List Nat)(T:List Nat)(g:TG)(f:FG):Prop where
 h:∀ {F Z H:Hp} {τ σ:St} {ρ:FSt} {A:List Addr} {v:V} {d:D} {Q:St→Hp→Prop} {P:FSt→Prop},View μ τ σ→Rel K F Z H σ ρ A→Den K F v d→f d ρ P →
  (∀ τ' σ' ρ' A',P ρ'→View μ τ' σ'→Rel K F Z H σ' ρ' A'→(∀ i,i ∉ T→σ'[i]?=σ[i]?)→σ'.length=σ.length→((∀ j i:Nat,μ[j]?=some i→i=j)→τ=σ→τ'=σ')→(∀ a ∈ A',a ∈ A)→Q τ' H)→g v τ H Q
structure GsF (K:PySem.W.Frag)(μ:List Nat)(T:List Nat)(g:TGs)(f:FGs):Prop where
 h:∀ {F Z H:Hp} {τ σ:St} {ρ:FSt} {A:List Addr} {v:List V} {d:List D} {Q:St→Hp→Prop} {P:FSt→Prop},View μ τ σ→Rel K F Z H σ ρ A→Dens K F v d→f d ρ P →
  (∀ τ' σ' ρ' A',P ρ'→View μ τ' σ'→Rel K F Z H σ' ρ' A'→(∀ i,i ∉ T→σ'[i]?=σ[i]?)→σ'.length=σ.length→((∀ j i:Nat,μ[j]?=some i→i=j)→τ=σ→τ'=σ')→(∀ a ∈ A',a ∈ A)→Q τ' H)→g v τ H Q
def az (i:Nat):FG:=fun d ρ P=>P (ρ.set i (some (.fz d)))
def zK:FGs:=fun ds ρ P=>match ds with
 | []=>P ρ
 | _=>False
def jc (f:FG)(fs:FGs):FGs:=fun ds ρ P=>match ds with
 | d::ds=>f d ρ fun ρ1=>fs ds ρ1 P
 | _=>False
def zL (n:Nat)(f:FGs):FG:=fun d ρ P=>match d with
 | .tup ds=>ds.length=n∧f ds ρ P
 | _=>False
section
variable {K:PySem.W.Frag} {μ:List Nat}
theorem dF {i j:Nat}(hj:μ[j]?=some i)(hn:μ.Nodup):GF K μ [i] (kz j) (az i):=⟨by
 intro F Z H τ σ ρ A v d Q P vw R dn h q
 obtain ⟨A',R',m⟩:=R.assign (i:=i) (.fz dn) Fresh.nil
 refine q _ (σ.set i (some v)) _ _ h (fun j' i' h'=>⟨?_,by rw [List.length_set]; exact (vw j' i' h').2.1,by rw [List.length_set]; exact (vw j' i' h').2.2⟩) R' (fun i' hi'=>?_) (List.length_set ..) (fun hid e=>?_) fun a ha=>(m a ha).elim id fun z=>nomatch z
 ·by_cases hjj:j=j'
  ·subst hjj
   rw [hj] at h'; cases h'
   have:=vw j i hj
   rw [List.getElem?_set_self this.2.1,List.getElem?_set_self this.2.2]
  ·have hii:i≠i':=fun z=>by
    subst z
    exact hjj (oz hn hj h')
   rw [List.getElem?_set_ne hjj,List.getElem?_set_ne hii]
   exact (vw j' i' h').1
 ·rw [List.getElem?_set_ne fun z=>hi' (by simp [z])]
 ·rw [hid j i hj,e]⟩
theorem sw:GsF K μ [] Ei zK:=⟨by
 intro F Z H τ σ ρ A v d Q P vw R dn h q
 cases dn with
 | nil=>exact ⟨rfl,q _ _ _ _ h vw R (fun _ _=>rfl) rfl (fun _ e=>e) fun _ z=>z⟩
 | cons _ _=>exact h.elim⟩
theorem fH {T T':List Nat}{g:TG}{gs:TGs}{f:FG}{fs:FGs}(h1:GF K μ T g f)(h2:GsF K μ T' gs fs):GsF K μ (T++T') (yF g gs) (jc f fs):=⟨by
 intro F Z H τ σ ρ A v d Q P vw R dn h q
 cases dn with
 | nil=>exact h.elim
 | cons d1 d2 =>
  refine ⟨_,_,rfl,h1.h vw R d1 h fun τ' σ' ρ' A' p vw' R' k kl id' m=>h2.h vw' R' d2 p fun τ2 σ2 ρ2 A2 p2 vw2 R2 k2 kl2 id2 m2=>q _ _ _ _ p2 vw2 R2 (fun i hi=>?_) (kl2.trans kl) (fun a b=>id2 a (id' a b)) fun a ha=>m a (m2 a ha)⟩
  rw [List.mem_append,not_or] at hi
  rw [k2 i hi.2,k i hi.1]⟩
theorem xH {n:Nat}{T:List Nat}{gs:TGs}{fs:FGs}(h2:GsF K μ T gs fs):GF K μ T (DW K n gs) (zL n fs):=⟨by
 intro F Z H τ σ ρ A v d Q P vw R dn h q
 cases dn with
 | tup hs t=>exact ⟨_,_,rfl,hs.same R.fh,t.length.trans h.1,h2.h vw R t h.2 q⟩
 | _=>exact h.elim⟩
end
end L2
set_option maxHeartbeats 4000000
namespace L2
open PySem PySem.Spec PyProof.Rows
structure Walk (K:PySem.W.Frag)(F:Hp)(J:It)(ds:List D):Prop where
 go:∀ H i,Same F H→i < ds.length→J.go i H
 yld:∀ H i x H',Same F H→i < ds.length→J.yld i H x H'→H'=H∧∃ d,ds[i]?=some d∧Den K F x d
 stop:∀ H,Same F H→J.stop ds.length H
abbrev FI:=FSt→(List D→FSt→Prop)→Prop
structure ITF (K:PySem.W.Frag)(μ:List Nat)(t:TI)(f:FI):Prop where
 h:∀ {F Z H:Hp} {τ σ:St} {ρ:FSt} {A:List Addr} {Q:It→Hp→Prop} {P:List D→FSt→Prop},View μ τ σ→Rel K F Z H σ ρ A→f ρ P →
  (∀ ds ρ' J F' H' A',P ds ρ'→Same F F'→Rel K F' Z H' σ ρ' A'→Walk K F' J ds→Q J H')→t τ H Q
def xI (fe:FE):FI:=fun ρ Q=>fe ρ fun r ρ1=>match fzR r ρ1 with
 | some (.lst ds,ρ2)=>Q ds ρ2
 | _=>False
def vx (fe:FE):FI:=fun ρ Q=>fe ρ fun r ρ1=>match fzR r ρ1 with
 | some (.tup ds,ρ2)=>Q ds ρ2
 | _=>False
def eW (z:Str):List D:=z.cps.toList.map fun c=>.str ⟨#[c]⟩
def qa (fe:FE):FI:=fun ρ Q=>fe ρ fun r ρ1=>match fzR r ρ1 with
 | some (.str z,ρ2)=>Q (eW z) ρ2
 | _=>False
def dU (lo:Int)(n:Nat):List D:=(List.range n).map fun (k:Nat)=>.int (lo+(k:Int))
def iw (fa:FA):FI:=fun ρ Q=>fa ρ fun rs ρ1=>onL ρ1 rs fun ds=>match ds with
 | [.int j]=>(-(2 ^ 62)≤j∧j < 2 ^ 62)∧Q (dU 0 j.toNat) ρ1
 | _=>False
def xJ (fa:FA):FI:=fun ρ Q=>fa ρ fun rs ρ1=>onL ρ1 rs fun ds=>match ds with
 | [.int i,.int j]=>(-(2 ^ 62)≤i∧i < 2 ^ 62∧-(2 ^ 62)≤j∧j < 2 ^ 62)∧Q (dU i (j - i).toNat) ρ1
 | _=>False
section
variable {K:PySem.W.Frag} {μ:List Nat} {F:Hp}
theorem sx {a:Addr}{xs:List V}{ds:List D}(h:SqL K F a xs)(t:Dens K F xs ds):Walk K F (Itl K a) ds :=
 ⟨fun H i s hi=>by
  obtain ⟨x,h1,h2⟩:=t.get (List.getElem?_eq_getElem hi)
  exact ⟨xs,x,s.seq h,h1⟩,fun H i x H' s hi y=>by
  obtain ⟨rfl,y⟩:=y
  obtain ⟨d,h1,h2⟩:=t.get' (y xs (s.seq h))
  exact ⟨rfl,d,h1,h2⟩,fun H s=>⟨xs,s.seq h,by rw [t.length]; exact Nat.le_refl _⟩⟩
theorem vy {a:Addr}{xs:List V}{ds:List D}(h:SqT K F a xs)(t:Dens K F xs ds):Walk K F (Itt K a) ds :=
 ⟨fun H i s hi=>by
  obtain ⟨x,h1,h2⟩:=t.get (List.getElem?_eq_getElem hi)
  exact ⟨xs,x,h.same s,h1⟩,fun H i x H' s hi y=>by
  obtain ⟨rfl,y⟩:=y
  obtain ⟨d,h1,h2⟩:=t.get' (y xs (h.same s))
  exact ⟨rfl,d,h1,h2⟩,fun H s=>⟨xs,h.same s,by rw [t.length]; exact Nat.le_refl _⟩⟩
theorem vz {z:Str}:Walk K F (Its z) (eW z) :=
 ⟨fun H i s hi=>by (have hi:i < z.cps.size:=by simpa [eW] using hi); exact hi,fun H i x H' s hi y=>by
  obtain ⟨rfl,c,h1,rfl⟩:=y
  exact ⟨rfl,.str ⟨#[c]⟩,by rw [eW,List.getElem?_map,h1]; rfl,.str _⟩,fun H s=>by
  show (eW z).length=z.cps.size
  simp [eW]⟩
theorem oA {lo:Int}{n:Nat}:Walk K F (Itr lo n) (dU lo n) :=
 ⟨fun H i s hi=>by (have hi:i < n:=by simpa [dU] using hi); exact hi,fun H i x H' s hi y=>by
  obtain ⟨rfl,rfl⟩:=y
  have hi:i < n:=by simpa [dU] using hi
  exact ⟨rfl,.int (lo+i),by simp [dU,hi],.int _⟩,fun H s=>by
  show n≤(dU lo n).length
  simp [dU]⟩
theorem vA {te:TE}{fe:FE}(he:EF K μ te fe):ITF K μ (uZ K te) (xI fe):=⟨by
 intro F Z H τ σ ρ A Q P vw R h q
 refine he.h vw R h fun r ρ1 v F1 H1 A1 B1 h1 s1 R1 v1 f1=>?_
 generalize e:fzR r ρ1=o at h1
 obtain _ | ⟨d,ρ2⟩:=o
 ·exact False.elim h1
 cases d
 case lst ds =>
  obtain ⟨F2,A2,s2,R2,dn,_,_⟩:=R1.frz v1 f1 e
  cases dn with
  | lst hs t=>exact ⟨_,rfl,⟨_,R2.fh.seq hs⟩,q _ _ _ _ _ _ h1 (s1.trans s2) R2 (sx hs t)⟩
 all_goals exact False.elim h1⟩
theorem ny {te:TE}{fe:FE}(he:EF K μ te fe):ITF K μ (DX K te) (vx fe):=⟨by
 intro F Z H τ σ ρ A Q P vw R h q
 refine he.h vw R h fun r ρ1 v F1 H1 A1 B1 h1 s1 R1 v1 f1=>?_
 generalize e:fzR r ρ1=o at h1
 obtain _ | ⟨d,ρ2⟩:=o
 ·exact False.elim h1
 cases d
 case tup ds =>
  obtain ⟨F2,A2,s2,R2,dn,_,_⟩:=R1.frz v1 f1 e
  cases dn with
  | tup hs t=>exact ⟨_,rfl,⟨_,hs.same R2.fh⟩,q _ _ _ _ _ _ h1 (s1.trans s2) R2 (vy hs t)⟩
 all_goals exact False.elim h1⟩
theorem jd {te:TE}{fe:FE}(he:EF K μ te fe):ITF K μ (EH te) (qa fe):=⟨by
 intro F Z H τ σ ρ A Q P vw R h q
 refine he.h vw R h fun r ρ1 v F1 H1 A1 B1 h1 s1 R1 v1 f1=>?_
 split at h1
 ·rename_i z ρ2 e
  obtain ⟨F2,A2,s2,R2,dn,_,_⟩:=R1.frz v1 f1 e
  exact ⟨z,dn.str_eq,q _ _ _ _ _ _ h1 (s1.trans s2) R2 vz⟩
 ·exact h1.elim⟩
theorem dZ {F H:Hp}{xs:List V}{d:D}(h:Accs K F H xs [d]):∃ x,xs=[x]∧Acc K F H x d:=by
 cases h with | cons a t=>cases t; exact ⟨_,rfl,a⟩
theorem oB {F H:Hp}{xs:List V}{d e:D}(h:Accs K F H xs [d,e]):∃ x y,xs=[x,y]∧Acc K F H x d∧Acc K F H y e:=by
 cases h with | cons a t=>obtain ⟨y,rfl,b⟩:=dZ t; exact ⟨_,_,rfl,a,b⟩
theorem gB {t:TA}{fa:FA}(ha:AF K μ t fa):ITF K μ (yI t) (iw fa):=⟨by
 intro F Z H τ σ ρ A Q P vw R h q
 refine ha.h vw R h fun rs ρ1 xs F1 H1 A1 B1 h1 s1 R1 v1 f1=>?_
 obtain ⟨ds,e1,h2⟩:=sv h1
 obtain _ | ⟨d,r⟩:=ds
 ·exact False.elim h2
 cases d
 case int j =>
  cases r with
  | cons=>exact False.elim h2
  | nil =>
   obtain ⟨x,rfl,a⟩:=dZ (R1.accs v1 e1)
   exact ⟨j,by rw [a.int_eq],h2.1.1,h2.1.2,q _ _ _ _ _ _ h2.2 s1 R1 oA⟩
 all_goals exact False.elim h2⟩
theorem vB {t:TA}{fa:FA}(ha:AF K μ t fa):ITF K μ (yJ t) (xJ fa):=⟨by
 intro F Z H τ σ ρ A Q P vw R h q
 refine ha.h vw R h fun rs ρ1 xs F1 H1 A1 B1 h1 s1 R1 v1 f1=>?_
 obtain ⟨ds,e1,h2⟩:=sv h1
 split at h2
 ·rename_i i j
  obtain ⟨x,y,rfl,a,b⟩:=oB (R1.accs v1 e1)
  exact ⟨i,j,by rw [a.int_eq,b.int_eq],h2.1,q _ _ _ _ _ _ h2.2 s1 R1 oA⟩
 ·exact h2.elim⟩
end
structure FEnds where
 nx:FSt→Prop
 rt:OV→FSt→Prop
 bk:FSt→Prop:=fun _=>False
 ct:FSt→Prop:=fun _=>False
abbrev FS:=FEnds→FSt→Prop
def Pin (n:Nat)(m:List Nat)(σ0 σ:St):Prop:=σ.length=n∧∀ i ∈ m,σ[i]?=σ0[i]?
structure EndsOk (K:PySem.W.Frag)(n:Nat)(m:List Nat)(F Z:Hp)(σ0:St)(D:Ends)(fD:FEnds):Prop where
 nx:∀ F' H' σ' ρ' A',Same F F'→Rel K F' Z H' σ' ρ' A'→Pin n m σ0 σ'→fD.nx ρ'→D.nx σ' H'
 rt:∀ F' H' σ' ρ' A' v o B,Same F F'→Rel K F' Z H' σ' ρ' A'→Pin n m σ0 σ'→Ow K F' H' v o B→Fresh F' Z A' B→fD.rt o ρ'→D.rt v H'
 bk:∀ F' H' σ' ρ' A',Same F F'→Rel K F' Z H' σ' ρ' A'→Pin n m σ0 σ'→fD.bk ρ'→D.bk σ' H'
 ct:∀ F' H' σ' ρ' A',Same F F'→Rel K F' Z H' σ' ρ' A'→Pin n m σ0 σ'→fD.ct ρ'→D.ct σ' H'
theorem EndsOk.mono {K:PySem.W.Frag}{n:Nat}{m:List Nat}{F F1 Z:Hp}{σ0:St}{D:Ends}{fD:FEnds}(E:EndsOk K n m F Z σ0 D fD)(e:Same F F1):EndsOk K n m F1 Z σ0 D fD :=
 ⟨fun F' H' σ' ρ' A' s=>E.nx F' H' σ' ρ' A' (e.trans s),fun F' H' σ' ρ' A' v o B s=>E.rt F' H' σ' ρ' A' v o B (e.trans s),fun F' H' σ' ρ' A' s=>E.bk F' H' σ' ρ' A' (e.trans s),fun F' H' σ' ρ' A' s=>E.ct F' H' σ' ρ' A' (e.trans s)⟩
structure SF (K:PySem.W.Frag)(n:Nat)(m:List Nat)(t:TS)(f:FS):Prop where
 h:∀ {F Z H:Hp} {σ0 σ:St} {ρ:FSt} {A:List Addr} {D:Ends} {fD:FEnds},Rel K F Z H σ ρ A→Pin n m σ0 σ→EndsOk K n m F Z σ0 D fD→f fD ρ→t D σ H
def bX:FS:=fun D ρ=>D.nx ρ
def kQ:FSt→(FSt→Prop)→Prop
 | [],k=>k []
 | a::l,k=>kQ l fun l'=>k (a::l')
theorem eE:∀ (ρ:FSt) (k:FSt→Prop),kQ ρ k↔k ρ
 | [],k=>Iff.rfl
 | a::l,k=>by rw [kQ,eE l]
def bI (f g:FS):FS:=fun D ρ=>f { D with nx:=fun ρ'=>kQ ρ' (g D) } ρ
@[irreducible] def fIf (c:FT)(f g:FS)(E:FEnds)(ρ:FSt):Prop:=c ρ fun b ρ1=>br b (f E ρ1) (g E ρ1)
theorem cN {c:FT}{f g:FS}{E:FEnds}{ρ:FSt}(h:c ρ fun b ρ1=>br b (f E ρ1) (g E ρ1)):fIf c f g E ρ:=by unfold fIf; exact h
theorem cF {c:FT}{f:FS}{E:FEnds}{ρ:FSt}(p:Prop)(aw:p→E.nx ρ)(h:(p→E.nx ρ)→c ρ fun b ρ1=>br b (f E ρ1) (E.nx ρ1)):fIf c f bX E ρ:=cN (h aw)
def cX (fe:FE):FS:=fun D ρ=>fe ρ fun r ρ1=>match takeR r ρ1 with
 | some (o,ρ2)=>D.rt o ρ2
 | none=>False
def CN (fe:FE):FS:=fun D ρ=>fe ρ fun _ ρ1=>D.nx ρ1
def de (fe:FE)(fg:FG):FS:=fun D ρ=>fe ρ fun r ρ1=>match fzR r ρ1 with
 | some (d,ρ2)=>fg d ρ2 D.nx
 | none=>False
def sy (i:Nat)(fe:FE):FS:=fun D ρ=>fe ρ fun r ρ1=>match r with
 | .ov o=>D.nx (ρ1.set i (some o))
 | .br _=>False
def oC (fg:FG)(fb:FS)(E:FEnds):List D→FSt→Prop
 | [],ρ=>E.nx ρ
 | d::ds,ρ=>fg d ρ fun ρ1=>fb { nx:=oC fg fb E ds,ct:=oC fg fb E ds,bk:=E.nx,rt:=E.rt } ρ1
@[irreducible] def eF (fg:FG)(fb:FS)(E:FEnds)(ds:List D)(ρ:FSt):Prop:=oC fg fb E ds ρ
theorem kS (fg:FG)(fb:FS)(E:FEnds)(ds:List D):eF fg fb E ds=oC fg fb E ds:=by funext ρ; unfold eF; rfl
theorem mn (fg:FG)(fb:FS)(E:FEnds)(ρ:FSt):eF fg fb E [] ρ=E.nx ρ:=by rw [kS]; rfl
theorem mq (fg:FG)(fb:FS)(E:FEnds)(d:D)(ds:List D)(ρ:FSt):eF fg fb E (d::ds) ρ=fg d ρ fun ρ1=>fb { nx:=eF fg fb E ds,ct:=eF fg fb E ds,bk:=E.nx,rt:=E.rt } ρ1:=by rw [kS,kS]; rfl
def CO (fi:FI)(fg:FG)(fb:FS):FS:=fun D ρ=>fi ρ fun ds ρ1=>kQ ρ1 (eF fg fb D ds)
theorem sA {fg:FG}{fb:FS}{E:FEnds}{ρ:FSt}(h:E.nx ρ):eF fg fb E [] ρ:=by rw [mn]; exact h
theorem qb {fg:FG}{fb:FS}{E:FEnds}{d:D}{ds:List D}{ρ:FSt}(h:fg d ρ fun ρ1=>fb { nx:=eF fg fb E ds,ct:=eF fg fb E ds,bk:=E.nx,rt:=E.rt } ρ1):eF fg fb E (d::ds) ρ:=by rw [mq]; exact h
section
variable {K:PySem.W.Frag} {n:Nat} {m:List Nat}
theorem Pin.refl {σ:St}(h:σ.length=n):Pin n m σ σ:=⟨h,fun _ _=>rfl⟩
theorem Pin.set {σ0 σ:St}{i:Nat}{x:Option V}(p:Pin n m σ0 σ)(hi:i ∉ m):Pin n m σ0 (σ.set i x):=⟨by rw [List.length_set]; exact p.1,fun j hj=>by
 rw [List.getElem?_set_ne fun z=>hi (by rw [z]; exact hj)]; exact p.2 j hj⟩
theorem aV:SF K n m qK bX:=⟨fun {F Z H σ0 σ ρ A D fD} R p E h=>E.nx _ _ _ _ _ (Same.refl _) R p h⟩
theorem ar {t u:TS}{f g:FS}(h1:SF K n m t f)(h2:SF K n m u g):SF K n m (Bj t u) (bI f g):=⟨fun {F Z H σ0 σ ρ A D fD} R p E h =>
 h1.h (fD:={ fD with nx:=fun ρ'=>kQ ρ' (g fD) }) R p ⟨fun F' H' σ' ρ' A' s R' p' q=>h2.h R' p' (E.mono s) ((eE ρ' (g fD)).mp q),E.rt,E.bk,E.ct⟩ h⟩
theorem bY {c:TT}{t u:TS}{fc:FT}{f g:FS}(hc:TF K (List.range n) c fc)(h1:SF K n m t f)(h2:SF K n m u g):SF K n m (Bk c t u) (fIf fc f g):=⟨fun {F Z H σ0 σ ρ A D fD} R p E h =>
 hc.h (P:=fun b ρ1=>br b (f fD ρ1) (g fD ρ1)) (View.id p.1) R (by unfold fIf at h; exact h) fun b ρ1 F1 H1 A1 q s R1=>by
  cases b with
  | true=>exact h1.h R1 p (E.mono s) (xE q)
  | false=>exact h2.h R1 p (E.mono s) (xF q)⟩
theorem aQ {te:TE}{fe:FE}(he:EF K (List.range n) te fe):SF K n m (BC te) (cX fe):=⟨by
 intro F Z H σ0 σ ρ A D fD R p E h
 refine he.h (View.id p.1) R h fun r ρ1 v F1 H1 A1 B1 h1 s1 R1 v1 f1=>?_
 split at h1
 ·rename_i o ρ2 e
  obtain ⟨C,A2,R2,o2,f2,_,_⟩:=R1.takeR v1 f1 e
  exact E.rt _ _ _ _ _ _ _ _ s1 R2 p o2 f2 h1
 ·exact h1.elim⟩
theorem zM {te:TE}{fe:FE}(he:EF K (List.range n) te fe):SF K n m (yz te) (CN fe):=⟨fun {F Z H σ0 σ ρ A D fD} R p E h =>
 he.h (View.id p.1) R h fun r ρ1 v F1 H1 A1 B1 h1 s1 R1 v1 f1=>E.nx _ _ _ _ _ s1 R1 p h1⟩
theorem kT (n:Nat):∀ j i:Nat,(List.range n)[j]?=some i→i=j:=fun j i h=>by
 obtain ⟨h1,h2⟩:=List.getElem?_eq_some_iff.mp h
 rw [List.getElem_range] at h2; exact h2.symm
theorem aS {te:TE}{fe:FE}{g:TG}{fg:FG}{T:List Nat}(he:EF K (List.range n) te fe)(hg:GF K (List.range n) T g fg)(hT:∀ i ∈ m,i ∉ T):SF K n m (uX te g) (de fe fg):=⟨by
 intro F Z H σ0 σ ρ A D fD R p E h
 refine he.h (View.id p.1) R h fun r ρ1 v F1 H1 A1 B1 h1 s1 R1 v1 f1=>?_
 split at h1
 ·rename_i d ρ2 e
  obtain ⟨F2,A2,s2,R2,dn,_,_⟩:=R1.frz v1 f1 e
  refine hg.h (View.id p.1) R2 dn h1 fun τ' σ' ρ' A' q _ R' k kl id' _=>?_
  rw [id' (kT n) rfl]
  exact E.nx _ _ _ _ _ (s1.trans s2) R' ⟨kl.trans p.1,fun i hi=>by rw [k i (hT i hi)]; exact p.2 i hi⟩ q
 ·exact h1.elim⟩
theorem kU {i:Nat}{te:TE}{fe:FE}(he:EF K (List.range n) te fe)(hi:i ∉ m):SF K n m (uX te (kz i)) (sy i fe):=⟨by
 intro F Z H σ0 σ ρ A D fD R p E h
 refine he.h (View.id p.1) R h fun r ρ1 v F1 H1 A1 B1 h1 s1 R1 v1 f1=>?_
 cases r with
 | ov o =>
  obtain ⟨A2,R2,_⟩:=R1.assign (i:=i) v1 f1
  exact E.nx _ _ _ _ _ s1 R2 (p.set hi) h1
 | br j=>exact h1.elim⟩
theorem oD {wi:TI}{fi:FI}{g:TG}{fg:FG}{T:List Nat}{tb:TS}{fb:FS}(hi:ITF K (List.range n) wi fi)(hg:GF K (List.range n) T g fg)(hT:∀ i ∈ m,i ∉ T)(hb:SF K n m tb fb):SF K n m (Ek wi g tb) (CO fi fg fb):=⟨by
 intro F Z H σ0 σ ρ A D fD R p E h
 refine hi.h (View.id p.1) R h fun ds ρ1 J F1 H1 A1 h1 s1 R1 wk=>?_
 rw [eE] at h1
 refine ⟨fun i k σ' H'=>k=ds.length - i∧i≤ds.length∧∃ F' ρ' A',Same F1 F'∧Rel K F' Z H' σ' ρ' A'∧Pin n m σ0 σ'∧eF fg fb fD (ds.drop i) ρ',⟨_,rfl,Nat.zero_le _,F1,ρ1,A1,Same.refl _,R1,p,by rw [List.drop_zero]; exact h1⟩,?_⟩
 rintro i k σ' H' ⟨rfl,hle,F',ρ',A',s',R',p',h'⟩
 by_cases hlt:i < ds.length
 ·rw [List.drop_eq_getElem_cons hlt,mq] at h'
  refine .inr ⟨wk.go H' i (s'.trans R'.fh) hlt,fun σ2 H2=>∃ F2 ρ2 A2,Same F1 F2∧Rel K F2 Z H2 σ2 ρ2 A2∧Pin n m σ0 σ2∧eF fg fb fD (ds.drop (i+1)) ρ2,fun σ2 H2 q=>⟨_,by nofun,rfl,hlt,q⟩,fun x H2 y=>?_⟩
  obtain ⟨rfl,d,hd,dn⟩:=wk.yld H' i x H2 (s'.trans R'.fh) hlt y
  rw [List.getElem?_eq_getElem hlt] at hd
  cases hd
  refine hg.h (View.id p'.1) R' (dn.mono s') h' fun τ' σ2 ρ2 A2 q _ R2 k kl id' _=>?_
  rw [id' (kT n) rfl]
  have nxt:∀ F3 H3 σ3 ρ3 A3,Same F' F3→Rel K F3 Z H3 σ3 ρ3 A3→Pin n m σ0 σ3→eF fg fb fD (ds.drop (i+1)) ρ3→∃ F2 ρ2 A2,Same F1 F2∧Rel K F2 Z H3 σ3 ρ2 A2∧Pin n m σ0 σ3∧eF fg fb fD (ds.drop (i+1)) ρ2 :=
   fun F3 H3 σ3 ρ3 A3 s3 R3 p3 q3=>⟨F3,ρ3,A3,s'.trans s3,R3,p3,q3⟩
  refine hb.h (fD:={ nx:=eF fg fb fD (ds.drop (i+1)),ct:=eF fg fb fD (ds.drop (i+1)),bk:=fD.nx,rt:=fD.rt }) R2 ⟨kl.trans p'.1,fun i hi=>by rw [k i (hT i hi)]; exact p'.2 i hi⟩ ⟨nxt,fun F3 H3 σ3 ρ3 A3 v o B s3=>E.rt F3 H3 σ3 ρ3 A3 v o B (s1.trans (s'.trans s3)),fun F3 H3 σ3 ρ3 A3 s3=>E.nx F3 H3 σ3 ρ3 A3 (s1.trans (s'.trans s3)),nxt⟩ q
 ·have e:i=ds.length:=by nofun
  subst e
  rw [List.drop_length,mn] at h'
  exact .inl ⟨wk.stop H' (s'.trans R'.fh),E.nx _ _ _ _ _ (s1.trans s') R' p' h'⟩⟩
end
end L2
set_option maxHeartbeats 4000000
namespace L2
open PySem PySem.Spec PyProof.Rows
def oE (fg:FG)(ft:FT)(fe:FE)(P:List D→FSt→Prop):List D→List D→FSt→Prop
 | [],as,ρ=>P as ρ
 | d::ds,as,ρ=>fg d ρ fun ρ1=>ft ρ1 fun b ρ2=>br b (fe ρ2 fun r ρ3=>match fzR r ρ3 with
  | some (y,ρ4)=>as.length < sizeLine∧oE fg ft fe P ds (as++[y]) ρ4
  | none=>False) (oE fg ft fe P ds as ρ2)
@[irreducible] def gC (fg:FG)(ft:FT)(fe:FE)(P:List D→FSt→Prop)(ds as:List D)(ρ:FSt):Prop:=oE fg ft fe P ds as ρ
theorem kW (fg:FG)(ft:FT)(fe:FE)(P:List D→FSt→Prop)(ds:List D):gC fg ft fe P ds=oE fg ft fe P ds:=by funext as ρ; unfold gC; rfl
theorem mr (fg:FG)(ft:FT)(fe:FE)(P:List D→FSt→Prop)(as:List D)(ρ:FSt):gC fg ft fe P [] as ρ=P as ρ:=by rw [kW]; rfl
theorem ms (fg:FG)(ft:FT)(fe:FE)(P:List D→FSt→Prop)(d:D)(ds as:List D)(ρ:FSt):gC fg ft fe P (d::ds) as ρ=(fg d ρ fun ρ1=>ft ρ1 fun b ρ2=>br b (fe ρ2 fun r ρ3=>match fzR r ρ3 with
  | some (y,ρ4)=>as.length < sizeLine∧gC fg ft fe P ds (as++[y]) ρ4
  | none=>False) (gC fg ft fe P ds as ρ2)):=by rw [kW,kW]; rfl
theorem sB {fg:FG}{ft:FT}{fe:FE}{P:List D→FSt→Prop}{as:List D}{ρ:FSt}(h:P as ρ):gC fg ft fe P [] as ρ:=by rw [mr]; exact h
theorem qc {fg:FG}{ft:FT}{fe:FE}{P:List D→FSt→Prop}{d:D}{ds as:List D}{ρ:FSt}(h:fg d ρ fun ρ1=>ft ρ1 fun b ρ2=>br b (fe ρ2 fun r ρ3=>match fzR r ρ3 with
  | some (y,ρ4)=>as.length < sizeLine∧gC fg ft fe P ds (as++[y]) ρ4
  | none=>False) (gC fg ft fe P ds as ρ2)):gC fg ft fe P (d::ds) as ρ:=by rw [ms]; exact h
def gE (no:Nat)(fi:FI)(fg:FG)(ft:FT)(fe:FE):FE:=fun ρ Q=>fi ρ fun ds ρ1=>kQ (List.replicate no none++ρ1) (gC fg ft fe (fun as ρ'=>Q (.ov (.fl as)) (ρ'.drop no)) ds [])
def muC (no:Nat)(ixs μ:List Nat):List Nat:=List.range no++ixs.map fun j=>no+μ.getD j 0
section
variable {K:PySem.W.Frag} {μ:List Nat} {F Z H:Hp} {σ:St} {ρ:FSt} {A:List Addr}
theorem Slots.none_app {K:PySem.W.Frag}{F H:Hp}{σ:St}{ρ:FSt}{A:List Addr}(h:Slots K F H σ ρ A):∀ n,Slots K F H (List.replicate n none++σ) (List.replicate n none++ρ) A
 | 0=>h
 | n+1=>.skip (Slots.none_app h n)
theorem Slots.dropN {K:PySem.W.Frag}{F H:Hp}{σ:St}{ρ:FSt}{A:List Addr}(n:Nat)(h:Slots K F H σ ρ A):∃ A' B,A=B++A'∧Slots K F H (σ.drop n) (ρ.drop n) A':=by
 induction h generalizing n with
 | nil=>cases n <;> exact ⟨[],[],rfl,.nil⟩
 | skip t ih =>
  cases n with
  | zero=>exact ⟨_,[],rfl,.skip t⟩
  | succ n=>exact ih n
 | @has _ _ _ _ C _ h t ih =>
  cases n with
  | zero=>exact ⟨_,[],rfl,.has h t⟩
  | succ n =>
   obtain ⟨A',B,rfl,h2⟩:=ih n
   exact ⟨A',C++B,by rw [List.append_assoc],h2⟩
theorem Rel.write {a:Addr}{o:HO}(R:Rel K F Z H σ ρ A)(hA:a ∉ A)(hF:F a=none)(hZ:Z a=none):Rel K F Z (upd H a o) σ ρ A:=by
 have e:∀ b u,b≠a→H b=some u→upd H a o b=some u:=fun b u h q=>by rw [bR h]; exact q
 exact ⟨R.sl.keep (Same.refl _) fun b u hb q=>e b u (fun z=>hA (z ▸ hb)) q,R.nd,R.fr,fun b u q=>e b u (fun z=>by rw [z,hF] at q; cases q) (R.fh b u q),fun b u q=>e b u (fun z=>by rw [z,hZ] at q; cases q) (R.zh b u q),R.dj⟩
theorem sC {no:Nat}{ixs:List Nat}{τ:St}(vw:View μ τ σ)(hix:∀ j ∈ ixs,j < μ.length):View (muC no ixs μ) (List.replicate no none++lY τ ixs) (List.replicate no none++σ):=by
 intro j i h
 unfold muC at h
 by_cases hj:j < no
 ·rw [List.getElem?_append_left (by first|exact List.mem_singleton.mp hj|simpa using hj)] at h
  have:=kT no j i h
  subst this
  rw [List.getElem?_append_left (by first|exact List.mem_singleton.mp hj|simpa using hj),List.getElem?_append_left (by first|exact List.mem_singleton.mp hj|simpa using hj)]
  refine ⟨rfl,?_,?_⟩ <;> simp <;> nofun
 ·rw [List.getElem?_append_right (by first|exact List.mem_singleton.mp hj|simpa using hj)] at h
  rw [List.length_range,List.getElem?_map,Option.map_eq_some_iff] at h
  obtain ⟨j0,h1,h2⟩:=h
  have hj0:=hix j0 (List.mem_of_getElem? h1)
  obtain ⟨v1,v2,v3⟩:=vw j0 (μ.getD j0 0) (by rw [List.getD_eq_getElem?_getD,List.getElem?_eq_getElem hj0]; rfl)
  have hk:j - no < ixs.length:=(List.getElem?_eq_some_iff.mp h1).1
  refine ⟨?_,?_,?_⟩
  ·rw [List.getElem?_append_right (by first|exact List.mem_singleton.mp hj|simpa using hj),List.length_replicate,← h2,List.getElem?_append_right (by simp),List.length_replicate,Nat.add_sub_cancel_left,← v1]
   unfold lY
   rw [List.getElem?_map,h1]
   show some ((τ[j0]?).getD none)=τ[j0]?
   rw [List.getElem?_eq_getElem v2]; rfl
  ·unfold lY; simp; nofun
  ·simp; nofun
abbrev CP (K:PySem.W.Frag)(fg:FG)(fc:FT)(fe:FE)(P:RV→FSt→Prop)(no:Nat)(m:List Nat)(F1 Z:Hp)(σ:St)(a:Addr)(aw:List D)(acc:List V)(τ':St)(H':Hp):Prop :=
 ∃ F' ρ' A' σ' as,Same F1 F'∧Rel K F' Z H' σ' ρ' A'∧View m τ' σ'∧(∀ i,no≤i→σ'[i]?=(List.replicate no none++σ)[i]?)∧H' a=some (.lst acc)∧F' a=none∧a ∉ A'∧Dens K F' acc as ∧
   gC fg fc fe (fun as ρ'=>P (.ov (.fl as)) (ρ'.drop no)) aw as ρ'
theorem dN {no:Nat}{ixs:List Nat}{wi:TI}{fi:FI}{g:TG}{fg:FG}{T:List Nat}{tc:TT}{fc:FT}{te:TE}{fe:FE}(hi:ITF K μ wi fi)(hix:∀ j ∈ ixs,j < μ.length)(hg:GF K (muC no ixs μ) T g fg)(hT:∀ i ∈ T,i < no)
  (hc:TF K (muC no ixs μ) tc fc) (he:EF K (muC no ixs μ) te fe):EF K μ (pN no ixs wi g tc te) (gE no fi fg fc fe):=⟨by
 intro F Z H τ σ ρ A Q P vw R h q
 refine hi.h vw R h fun ds ρ1 J F1 H1 A1 h1 s1 R1 wk=>?_
 rw [eE] at h1
 intro a ha
 have hF1:F1 a=none:=R1.fh.free ha
 have hZ1:Z a=none:=R1.zh.free ha
 have hA1:a ∉ A1:=fun z=>by
  obtain ⟨u,hu⟩:=R1.sl.live a z
  rw [ha] at hu; cases hu
 have R1':Rel K F1 Z (upd H1 a (.lst [])) (List.replicate no none++σ) (List.replicate no none++ρ1) A1:=by
  have:=R1.write (o:=.lst []) hA1 hF1 hZ1
  exact ⟨this.sl.none_app no,this.nd,this.fr,this.fh,this.zh,this.dj⟩
 have hfin:∀ F' H' σ' ρ' A' acc as,Same F1 F'→Rel K F' Z H' σ' ρ' A'→(∀ i,no≤i→σ'[i]?=(List.replicate no none++σ)[i]?)→H' a=some (.lst acc)→F' a=none→a ∉ A'→Dens K F' acc as→P (.ov (.fl as)) (ρ'.drop no)→Q (.ref a) H':=by
  intro F' H' σ' ρ' A' acc as s' R' k ha' hF' hA' dn p
  obtain ⟨A2,B2,e2,sl2⟩:=R'.sl.dropN no
  have es:σ'.drop no=σ:=by
   apply List.ext_getElem?
   intro i
   rw [List.getElem?_drop,k (no+i) (by omega),List.getElem?_append_right (by simp),List.length_replicate,Nat.add_sub_cancel_left]
  rw [es] at sl2
  have m2:∀ b ∈ A2,b ∈ A':=fun b hb=>by rw [e2]; exact List.mem_append.mpr (.inr hb)
  have R2:Rel K F' Z H' σ (ρ'.drop no) A2:=⟨sl2,by have:=R'.nd; rw [e2,List.nodup_append] at this; exact this.2.1,fun b hb=>R'.fr b (m2 b hb),R'.fh,R'.zh,R'.dj⟩
  exact q _ _ _ _ _ _ [a] p (s1.trans s') R2 (.fl ha' dn) ⟨by simp,fun b hb=>by
   have:b=a:=by first|exact List.mem_singleton.mp hb|simpa using hb
   subst this
   exact ⟨hF',hZ1,fun z=>hA' (m2 _ z)⟩⟩
 refine ⟨fun i k acc τ' H'=>k=ds.length - i∧i≤ds.length∧CP K fg fc fe P no (muC no ixs μ) F1 Z σ a (ds.drop i) acc τ' H',
  ⟨_,rfl,Nat.zero_le _,F1,_,A1,_,[],Same.refl _,R1',sC vw hix,fun _ _=>rfl,bn,hF1,hA1,.nil,by rw [List.drop_zero]; exact h1⟩,?_⟩
 rintro i k acc τ' H' ⟨rfl,hle,F',ρ',A',σ',as,s',R',vw',kp,hD,hFD,hAD,dn,h'⟩
 by_cases hlt:i < ds.length
 ·rw [List.drop_eq_getElem_cons hlt,ms] at h'
  refine .inr ⟨wk.go H' i (s'.trans R'.fh) hlt,fun acc τ' H'=>CP K fg fc fe P no (muC no ixs μ) F1 Z σ a (ds.drop (i+1)) acc τ' H',fun acc' σ2 H2 z=>⟨_,by omega,rfl,hlt,z⟩,fun x H2 y=>?_⟩
  obtain ⟨rfl,d,hd,dx⟩:=wk.yld H' i x H2 (s'.trans R'.fh) hlt y
  rw [List.getElem?_eq_getElem hlt] at hd
  cases hd
  refine hg.h vw' R' (dx.mono s') h' fun τ2 σ2 ρ2 A2 p2 vw2 R2 k2 kl2 _ m2=>?_
  have kp2:∀ i,no≤i→σ2[i]?=(List.replicate no none++σ)[i]?:=fun i hi=>by
   rw [k2 i fun z=>by have:=hT i z; omega]; exact kp i hi
  have fD:Fresh F' Z A2 [a]:=⟨by simp,fun b hb=>by
   have:b=a:=by first|exact List.mem_singleton.mp hb|simpa using hb
   subst this
   exact ⟨hFD,hZ1,fun z=>hAD (m2 _ z)⟩⟩
  obtain ⟨Z',sz,R2',zl,back⟩:=R2.hold (B:=[a]) (fun b hb=>by
   have:b=a:=by first|exact List.mem_singleton.mp hb|simpa using hb
   subst this
   exact ⟨_,hD⟩) fD
  refine hc.h vw2 R2' p2 fun b ρ3 F3 H3 A3 p3 s3 R3=>?_
  cases b with
  | false =>
   replace p3:=xF p3
   rw [if_neg Bool.false_ne_true]
   obtain ⟨R3',f3,k3⟩:=back _ _ _ _ s3 R3
   have fa:=f3.fr a (by simp)
   exact ⟨F3,ρ3,A3,σ2,as,s'.trans s3,R3',vw2,kp2,k3 a _ (by simp) hD,fa.1,fa.2.2,dn.mono s3,p3⟩
  | true =>
   replace p3:=xE p3
   rw [if_pos rfl]
   refine he.h vw2 R3 p3 fun r ρ4 v F4 H4 A4 B4 p4 s4 R4 v4 f4=>?_
   split at p4
   ·rename_i y ρ5 e5
    obtain ⟨F5,A5,s5,R5,dy,_,_⟩:=R4.frz v4 f4 e5
    obtain ⟨R5',f5,k5⟩:=back _ _ _ _ ((s3.trans s4).trans s5) R5
    have fa:=f5.fr a (by simp)
    refine ⟨k5 a _ (by simp) hD,by rw [dn.length]; exact p4.1,F5,ρ5,A5,σ2,as++[y],((s'.trans s3).trans s4).trans s5,R5'.write fa.2.2 fa.1 hZ1,vw2,kp2,bn,fa.1,fa.2.2,(dn.mono ((s3.trans s4).trans s5)).snoc dy,p4.2⟩
   ·exact p4.elim
 ·have e:i=ds.length:=by omega
  subst e
  rw [List.drop_length,mr] at h'
  exact .inl ⟨wk.stop H' (s'.trans R'.fh),hfin _ _ _ _ _ _ _ s' R' kp hD hFD hAD dn h'⟩⟩
def unL (ρ:FSt)(i:Nat):Option (List D):=match ρ[i]? with
 | some (some (.fl ds))=>some ds
 | _=>none
def unD (ρ:FSt)(i:Nat):Option (List Key×List D):=match ρ[i]? with
 | some (some (.fd ks ds))=>some (ks,ds)
 | _=>none
theorem CQ {i:Nat}{ds:List D}(h:unL ρ i=some ds):ρ[i]?=some (some (.fl ds)):=by
 unfold unL at h
 split at h
 ·rename_i os e
  cases h; exact e
 ·cases h
theorem CS {i:Nat}{ks:List Key}{ds:List D}(h:unD ρ i=some (ks,ds)):ρ[i]?=some (some (.fd ks ds)):=by
 unfold unD at h
 split at h
 ·rename_i ks' os e
  cases h; exact e
 ·cases h
theorem Rel.mutL {i:Nat}{ds:List D}(R:Rel K F Z H σ ρ A)(h:unL ρ i=some ds):∃ a xs,σ[i]?=some (some (.ref a))∧H a=some (.lst xs)∧Dens K F xs ds ∧
  ∀ xs' ds',Dens K F xs' ds'→∃ A',Rel K F Z (upd H a (.lst xs')) σ (ρ.set i (some (.fl ds'))) A':=by
 have e:=CQ h
 obtain ⟨v,B,A',h1,h2,R',f',pm⟩:=R.takeI e
 cases h2 with
 | @fl a xs os hl dn =>
  have fa:=f'.fr a (by simp)
  refine ⟨a,xs,h1,hl,dn,fun xs' ds' dn'=>?_⟩
  have R2:=R'.write (o:=.lst xs') fa.2.2 fa.1 fa.2.1
  obtain ⟨A3,R3,_⟩:=R2.putI (kO e) h1 (.fl bn dn') f'
  rw [List.set_set] at R3
  exact ⟨A3,R3⟩
theorem Rel.mutD {i:Nat}{ks:List Key}{ds:List D}(R:Rel K F Z H σ ρ A)(h:unD ρ i=some (ks,ds)):∃ a ys,σ[i]?=some (some (.ref a))∧H a=some (.dK ys)∧ys.map (·.1)=ks∧Dens K F (ys.map (·.2)) ds ∧
  ∀ ys' ks' ds',ys'.map (·.1)=ks'→Dens K F (ys'.map (·.2)) ds'→∃ A',Rel K F Z (upd H a (.dK ys')) σ (ρ.set i (some (.fd ks' ds'))) A':=by
 have e:=CS h
 obtain ⟨v,B,A',h1,h2,R',f',pm⟩:=R.takeI e
 cases h2 with
 | @fd a ys ks os hl hk dn =>
  have fa:=f'.fr a (by simp)
  refine ⟨a,ys,h1,hl,hk,dn,fun ys' ks' ds' hk' dn'=>?_⟩
  have R2:=R'.write (o:=.dK ys') fa.2.2 fa.1 fa.2.1
  obtain ⟨A3,R3,_⟩:=R2.putI (kO e) h1 (.fd bn hk' dn') f'
  rw [List.set_set] at R3
  exact ⟨A3,R3⟩
def EO (i:Nat)(fe:FE):FE:=fun ρ Q=>(unL ρ i).isSome=true∧fe ρ fun r ρ1=>match fzR r ρ1 with
 | some (d,ρ2)=>(match unL ρ2 i with
  | some ds=>ds.length < sizeLine∧Q (.ov (.fz .non)) (ρ2.set i (some (.fl (ds++[d]))))
  | none=>False)
 | none=>False
theorem CT {i j:Nat}{te:TE}{fe:FE}(hj:μ[j]?=some i)(he:EF K μ te fe):EF K μ (tBM K "list" kC (uM j) (fV te m7)) (EO i fe):=⟨by
 intro F Z H τ σ ρ A Q P vw R h q
 obtain ⟨h0,h⟩:=h
 obtain ⟨ds0,e0⟩:=Option.isSome_iff_exists.mp h0
 obtain ⟨a,xs,h1,h2,h3,_⟩:=R.mutL e0
 refine ⟨.ref a,(vw j i hj).1.trans h1,.inl ⟨rfl,xs,SqL.of h2⟩,?_⟩
 refine he.h vw R h fun r ρ1 v F1 H1 A1 B1 p1 s1 R1 v1 f1=>?_
 split at p1
 ·rename_i d ρ2 e2
  obtain ⟨F2,A2,s2,R2,dy,_,_⟩:=R1.frz v1 f1 e2
  split at p1
  ·rename_i ds e3
   obtain ⟨a',xs',h1',h2',h3',mt⟩:=R2.mutL e3
   rw [h1] at h1'
   cases h1'
   obtain ⟨A3,R3⟩:=mt (xs'++[v]) (ds++[d]) (h3'.snoc dy)
   exact ⟨a,xs',v,rfl,rfl,h2',by rw [h3'.length]; exact p1.1,q _ _ _ _ _ _ _ p1.2 (s1.trans s2) R3 (.fz .non) Fresh.nil⟩
  ·exact p1.elim
 ·exact p1.elim⟩
def mv (i:Nat)(fe fk:FE):FS:=fun E ρ=>fe ρ fun r ρ1=>match fzR r ρ1 with
 | some (d,ρ2)=>(unL ρ2 i).isSome=true∧fk ρ2 fun s ρ3=>on1 ρ3 s fun dk=>(match dk,unL ρ3 i with
  | .int k,some ds=>(match ixN ds.length k with
   | some x=>E.nx (ρ3.set i (some (.fl (ds.set x d))))
   | none=>False)
  | _,_=>False)
 | none=>False
def uN:D→Option Key
 | .int i=>some (.inl i)
 | .str z=>some (.inr z)
 | _=>none
def xK (ks:List Key)(ds:List D)(k:Key)(d:D):List Key×List D :=
 if (ks.any fun x=>decide (x=k))=true then (ks,(ks.zip ds).map fun kd=>if kd.1=k then d else kd.2) else (ks++[k],ds++[d])
def CU (i:Nat)(fe fk:FE):FS:=fun E ρ=>fe ρ fun r ρ1=>match fzR r ρ1 with
 | some (d,ρ2)=>(unD ρ2 i).isSome=true∧fk ρ2 fun s ρ3=>on1 ρ3 s fun dk=>(match uN dk,unD ρ3 i with
  | some k,some (ks,ds)=>ks.length < sizeLine∧E.nx (ρ3.set i (some (.fd (xK ks ds k d).1 (xK ks ds k d).2)))
  | _,_=>False)
 | none=>False
theorem nz {F H:Hp}{v:V}{d:D}{k:Key}(h:Acc K F H v d)(e:uN d=some k):v=kV k:=by
 cases d with
 | int i=>simp only [uN,Option.some.injEq] at e; subst e; exact h.int_eq
 | str z=>simp only [uN,Option.some.injEq] at e; subst e; exact h.str_eq
 | _=>simp [uN] at e
theorem vC {ys:List (Key×V)}{ks:List Key}{ds:List D}{k:Key}{v:V}{d:D}(hk:ys.map (·.1)=ks)(dn:Dens K F (ys.map (·.2)) ds)(dv:Den K F v d):(lB ys k v).map (·.1)=(xK ks ds k d).1∧Dens K F ((lB ys k v).map (·.2)) (xK ks ds k d).2:=by
 have hl:ys.length=ds.length:=by have:=dn.length; simpa using this
 unfold xK lB
 have hq:(ks.any fun x=>decide (x=k))=(ys.any fun kv=>decide (kv.1=k)):=by rw [← hk,List.any_map]; rfl
 by_cases hm:(ks.any fun x=>decide (x=k))=true
 ·have hany:(ys.any fun kv=>decide (kv.1=k))=true:=hq ▸ hm
  rw [if_pos hany,if_pos hm]
  constructor
  ·rw [List.map_map,← hk]
   refine List.map_congr_left fun kv _=>?_
   show (if kv.1=k then (kv.1,v) else kv).1=kv.1
   split <;> rfl
  ·subst hk
   clear hm hany hl hq
   induction ys generalizing ds with
   | nil=>cases dn; exact .nil
   | cons y ys ih =>
    cases dn with
    | cons d1 d2 =>
     refine .cons ?_ (ih d2)
     show Den K F (if y.1=k then (y.1,v) else y).2 (if y.1=k then d else _)
     split
     ·exact dv
     ·exact d1
 ·have hany:¬ (ys.any fun kv=>decide (kv.1=k))=true:=hq ▸ hm
  rw [if_neg hany,if_neg hm]
  refine ⟨by rw [List.map_append,hk]; rfl,?_⟩
  rw [List.map_append]
  exact dn.snoc dv
variable {n:Nat} {m:List Nat}
theorem iK {i:Nat}{te ti:TE}{fe fk:FE}(hin:i < n)(he:EF K (List.range n) te fe)(hk:EF K (List.range n) ti fk):SF K n m (uX te (Ej (uM i) ti y2)) (mv i fe fk):=⟨by
 intro F Z H σ0 σ ρ A D fD R p E h
 refine he.h (View.id p.1) R h fun r ρ1 v F1 H1 A1 B1 p1 s1 R1 v1 f1=>?_
 split at p1
 ·rename_i d ρ2 e2
  obtain ⟨F2,A2,s2,R2,dy,_,_⟩:=R1.frz v1 f1 e2
  obtain ⟨h0,p1⟩:=p1
  obtain ⟨ds0,e0⟩:=Option.isSome_iff_exists.mp h0
  obtain ⟨a,xs,h1,h2,h3,_⟩:=R2.mutL e0
  refine ⟨.ref a,h1,?_⟩
  refine hk.h (View.id p.1) R2 p1 fun s ρ3 w F3 H3 A3 B3 p3 s3 R3 v3 f3=>?_
  obtain ⟨dk,ek,p4⟩:=db p3
  split at p4
  ·rename_i k ds e3
   split at p4
   ·rename_i x ex
    obtain ⟨a',xs',h1',h2',h3',mt⟩:=R3.mutL e3
    rw [h1] at h1'
    cases h1'
    obtain ⟨A4,R4⟩:=mt (xs'.set x v) (ds.set x d) (h3'.set (dy.mono s3) x)
    exact ⟨a,xs',k,x,rfl,(R3.acc v3 ek).int_eq,h2',by rw [h3'.length]; exact ex,E.nx _ _ _ _ _ ((s1.trans s2).trans s3) R4 p p4⟩
   ·exact p4.elim
  ·exact p4.elim
 ·exact p1.elim⟩
theorem zN {i:Nat}{ty tv:TE}{fe fk:FE}(he:EF K (List.range n) tv fe)(hk:EF K (List.range n) ty fk):SF K n m (y6 (uM i) ty tv) (CU i fe fk):=⟨by
 intro F Z H σ0 σ ρ A D fD R p E h
 refine he.h (View.id p.1) R h fun r ρ1 v F1 H1 A1 B1 p1 s1 R1 v1 f1=>?_
 generalize e2:fzR r ρ1=o at p1
 obtain _ | ⟨d,ρ2⟩:=o
 ·exact False.elim p1
 ·obtain ⟨F2,A2,s2,R2,dy,_,_⟩:=R1.frz v1 f1 e2
  obtain ⟨h0,p1⟩:=p1
  obtain ⟨⟨ks0,ds0⟩,e0⟩:=Option.isSome_iff_exists.mp h0
  obtain ⟨a,xs,h1,h2,h3,_⟩:=R2.mutD e0
  refine ⟨.ref a,h1,?_⟩
  refine hk.h (View.id p.1) R2 p1 fun s ρ3 w F3 H3 A3 B3 p3 s3 R3 v3 f3=>?_
  obtain ⟨dk,ek,p4⟩:=db p3
  generalize e4:uN dk=o at p4
  generalize e3:unD ρ3 i=o' at p4
  obtain _ | k:=o
  ·exact False.elim p4
  obtain _ | ⟨ks,ds⟩:=o'
  ·exact False.elim p4
  ·obtain ⟨a',ys,h1',h2',hk',h3',mt⟩:=R3.mutD e3
   rw [h1] at h1'
   cases h1'
   obtain ⟨q1,q2⟩:=vC (k:=k) hk' h3' (dy.mono s3)
   obtain ⟨A4,R4⟩:=mt (lB ys k v) _ _ q1 q2
   have hl:ys.length=ks.length:=by rw [← hk',List.length_map]
   exact ⟨a,_,rfl,.inl ⟨ys,k,h2',nz (R3.acc v3 ek) e4,by rw [hl]; exact p4.1,rfl⟩,E.nx _ _ _ _ _ ((s1.trans s2).trans s3) R4 p p4.2⟩⟩
end
end L2
set_option maxHeartbeats 4000000
namespace L2
open PySem PySem.Spec PyProof.Rows
def outs (m:List Nat):Nat→List OV→FSt→Option (List OV)
 | _,[],_=>some []
 | i,o::os,ρ=>if m.contains i=true then (match ρ[i]? with
   | some (some o')=>(outs m (i+1) os (ρ.set i none)).map (o'::·)
   | _=>none) else (outs m (i+1) os ρ).map (o::·)
def df:OV→Bool
 | .fz _=>true
 | _=>false
def fin (m:List Nat)(os:List OV)(P:OV→List OV→Prop)(o:OV)(ρ:FSt):Prop:=match outs m 0 os ρ with
 | some os'=>P o os'
 | none=>False
def aU (n:Nat)(os:List OV):FSt:=os.map some++List.replicate (n - os.length) none
section
variable {K:PySem.W.Frag}
theorem Ows.length {F H:Hp}{vs:List V}{os:List OV}{A:List Addr}(h:Ows K F H vs os A):vs.length=os.length:=by
 induction h with
 | nil=>rfl
 | cons _ t ih=>exact congrArg (·+1) ih
theorem Slots.nones {F H:Hp}(k:Nat):Slots K F H (List.replicate k none) (List.replicate k none) []:=by
 induction k with
 | zero=>exact .nil
 | succ k ih=>exact .skip ih
theorem Slots.of_ows {F H:Hp}(k:Nat){vs:List V}{os:List OV}{A:List Addr}(h:Ows K F H vs os A):Slots K F H (vs.map some++List.replicate k none) (os.map some++List.replicate k none) A:=by
 induction h with
 | nil=>exact Slots.nones k
 | cons h t ih=>exact .has h ih
theorem Rel.outs {F F' Z H H':Hp}{σ:St}{m:List Nat}:∀ {vs:List V} {os:List OV} {C:List Addr} {i:Nat} {ρ:FSt} {A:List Addr} {os':List OV},Ows K F H vs os C→Same F F'→(∀ j o,os[j]?=some o→i+j ∉ m→df o=true) →
  (∀ j v,vs[j]?=some v→i+j ∈ m→σ[i+j]?=some (some v))→Rel K F' Z H' σ ρ A→L2.outs m i os ρ=some os'→∃ C' A':List Addr,Ows K F' H' vs os' C'∧Rel K F' Z H' σ ρ A∧C'.Nodup∧(∀ a,a ∈ C'→a ∈ A∧a ∉ A')∧(∀ a,a ∈ A'→a ∈ A):=by
 intro vs
 induction vs with
 | nil =>
  intro os C i ρ A os' h s hz hp R e
  cases h
  simp only [L2.outs,Option.some.injEq] at e
  subst e
  exact ⟨[],A,.nil,R,List.nodup_nil,fun _ z=>(nomatch z),fun _ z=>z⟩
 | cons v vs ih =>
  intro os C i ρ A os' h s hz hp R e
  cases h with
  | @cons _ o _ os C1 C2 h t =>
   simp only [L2.outs] at e
   have hz':∀ j o,os[j]?=some o→i+1+j ∉ m→df o=true:=fun j o q n=>hz (j+1) o (by first|exact List.mem_singleton.mp q|simpa using q) (by rw [show i+(j+1)=i+1+j by nofun]; exact n)
   have hp':∀ j v,vs[j]?=some v→i+1+j ∈ m→σ[i+1+j]?=some (some v):=fun j v q n=>by
    have:=hp (j+1) v (by first|exact List.mem_singleton.mp q|simpa using q) (by rw [show i+(j+1)=i+1+j by nofun]; exact n)
    rw [show i+1+j=i+(j+1) by nofun]; exact this
   split at e
   ·rename_i hm
    have hm:i ∈ m:=by first|exact List.mem_singleton.mp hm|simpa using hm
    split at e
    ·rename_i o' ho
     rw [Option.map_eq_some_iff] at e
     obtain ⟨os2,e2,rfl⟩:=e
     obtain ⟨v',B',A',h1,h2,R',f',pm⟩:=R.takeI ho
     have hv:=hp 0 v rfl (by first|exact List.mem_singleton.mp hm|simpa using hm)
     rw [Nat.add_zero] at hv
     have:v'=v:=by rw [hv] at h1; simpa using h1.symm
     subst this
     obtain ⟨C',A2,w1,_,n1,m1,m2⟩:=ih t s hz' hp' R' e2
     refine ⟨B'++C',A2,.cons h2 w1,R,List.nodup_append.mpr ⟨f'.nd,n1,fun a ha b hb z=>(f'.fr a ha).2.2 (by rw [z]; exact (m1 b hb).1)⟩,fun a ha=>?_,fun a ha=>pm.mem_iff.mpr (List.mem_append.mpr (.inr (m2 a ha)))⟩
     rcases List.mem_append.mp ha with z | z
     ·exact ⟨pm.mem_iff.mpr (List.mem_append.mpr (.inl z)),fun y=>(f'.fr a z).2.2 (m2 a y)⟩
     ·exact ⟨pm.mem_iff.mpr (List.mem_append.mpr (.inr (m1 a z).1)),(m1 a z).2⟩
    ·cases e
   ·rename_i hm
    rw [Option.map_eq_some_iff] at e
    obtain ⟨os2,e2,rfl⟩:=e
    have hm:i ∉ m:=by first|exact List.mem_singleton.mp hm|simpa using hm
    have hf:=hz 0 o rfl (by first|exact List.mem_singleton.mp hm|simpa using hm)
    obtain ⟨C',A2,w1,_,n1,m1,m2⟩:=ih t s hz' hp' R e2
    cases h with
    | fz dn=>exact ⟨C',A2,.cons (.fz (dn.mono s)) w1,R,n1,m1,m2⟩
    | _=>simp [df] at hf
theorem Fun.okF {P:Program}{w:World}{mg:Str→Option Value}{base:Heap}{x qual:Str}{st:Stmt}{f:Addr}{fd:FuncData}{N ps:List Str}{k:Nat}{c:Ct}{m:List Nat}{fs:FS}(F:Fun K x qual st f fd)(S:FnScope N ps (ak st))
  (hN:ps.length≤N.length) (hlen:∀ os P,c os P→os.length=ps.length∧∀ j o,os[j]?=some o→j ∉ m→df o=true) (hm:∀ i ∈ m,i < ps.length)
  (hbody:∀ (cdv:Value) (A:Around) (outer:List Env) (s:Shared) (H:Hp) (E:XK),Room k (A.deeper (envOfC qual (ak st) s.heap.objs.size f cdv)) →
   ∃ t,BSs (n5 CX0 P w K mg base N qual (ak st) f cdv A outer s H E).nox (bf st) t∧SF K N.length m t fs)
  (hc:∀ os P,c os P→fs { nx:=fin m os P (.fz .non),rt:=fin m os P } (aU N.length os)):FnOk P w K mg base CX0 (k+1) f fd ps (spM K c):=by
 refine F.okB S (fun vs H Q E h=>?_) (fun cdv A outer s H vs Q E hr h=>?_)
 ·obtain ⟨F1,Z,os,C,Pq,_,_,_,ho,_,_,hcc,_⟩:=h
  rw [ho.length]; exact (hlen os Pq hcc).1
 ·obtain ⟨F1,Z,os,C,Pq,sf,sz,dj,ho,nd,fr,hcc,q⟩:=h
  obtain ⟨t,ht,hs⟩:=hbody cdv A outer s H E hr
  refine ⟨t,ht,?_⟩
  have hl:=(hlen os Pq hcc).1
  have hvl:=ho.length
  have R:Rel K F1 Z H (eh N vs) (aU N.length os) C:=by
   refine ⟨?_,nd,fr,sf,sz,dj⟩
   unfold eh aU
   rw [hvl]
   exact Slots.of_ows _ ho
  have hn:(eh N vs).length=N.length:=by unfold eh; simp; nofun
  have fin_ok:∀ F' H' σ' ρ' A' v o B,Same F1 F'→Rel K F' Z H' σ' ρ' A'→Pin N.length m (eh N vs) σ'→Ow K F' H' v o B→Fresh F' Z A' B→fin m os Pq o ρ'→Q v H':=by
   intro F' H' σ' ρ' A' v o B s' R' p' ow f' h'
   unfold fin at h'
   split at h'
   ·rename_i os' e
    obtain ⟨C',A2,w1,_,n1,m1,m2⟩:=Rel.outs (i:=0) ho s' (fun j o q n=>(hlen os Pq hcc).2 j o q (by first|exact List.mem_singleton.mp n|simpa using n)) (fun j v q n=>by
     have hj:j < vs.length:=(List.getElem?_eq_some_iff.mp q).1
     rw [Nat.zero_add] at n ⊢
     rw [p'.2 j n]
     unfold eh
     rw [List.getElem?_append_left (by first|exact List.mem_singleton.mp hj|simpa using hj),List.getElem?_map,q]; rfl) R' e
    refine q o os' v F' H' C' B h' s' R'.fh R'.zh R'.dj w1 ow (List.nodup_append.mpr ⟨n1,f'.nd,fun a ha b hb z=>(f'.fr b hb).2.2 (by rw [← z]; exact (m1 a ha).1)⟩) fun a ha=>?_
    rcases List.mem_append.mp ha with z | z
    ·exact R'.fr a (m1 a z).1
    ·exact ⟨(f'.fr a z).1,(f'.fr a z).2.1⟩
   ·exact h'.elim
  exact hs.h (fD:={ nx:=fin m os Pq (.fz .non),rt:=fin m os Pq }) R (Pin.refl hn) ⟨fun F' H' σ' ρ' A' s' R' p' h'=>fin_ok F' H' σ' ρ' A' .non (.fz .non) [] s' R' p' (.fz .non) Fresh.nil h',
   fin_ok,fun _ _ _ _ _ _ _ _ z=>z.elim,fun _ _ _ _ _ _ _ _ z=>z.elim⟩ (hc os Pq hcc)
end
end L2
set_option maxHeartbeats 4000000
namespace L2
open PySem PySem.Spec PyProof.Rows
section
variable {X:Cx}
def Fq:R2:=fun x y H Q=>∃ a v,x=.ref a∧DGet H a y (some v)∧Q v H
theorem zO (hu:X.A.units+1 < cLine):IxR X Fq:=by
 intro value slice pins s σ H x y v u Q I rx ry h hs
 obtain ⟨a,z,rfl,g,q⟩:=h
 cases rx
 exact tail_any (nk I g) PySem.F.slot_dict_getitem.lookup (rh hu I g ry fun w' s3 I3 rw'=>⟨z,H,I3,rw',q⟩) hs
def Fs (K:PySem.W.Frag):R2:=fun x y H Q=>rIx K x y H Q∨Fq x y H Q
def Ft:R2:=fun x y H Q=>∃ a o,y=.ref a∧DGet H a x o∧Q (.bl o.isSome) H
def sD:R2:=fun x y H Q=>∃ a o,y=.ref a∧DGet H a x o∧Q (.bl (!o.isSome)) H
theorem CV (hu:X.A.units+1 < cLine):OpR X (compareOp .In) Ft:=by
 intro pins s σ H x y v u Q I rx ry h
 obtain ⟨a,o,rfl,g,q⟩:=h
 cases ry
 exact d_in hu I g rx fun s3 I3=>⟨.bl o.isSome,H,I3,rfl,q⟩
theorem sE (hu:X.A.units+1 < cLine):OpR X (compareOp .NotIn) sD:=by
 intro pins s σ H x y v u Q I rx ry h
 obtain ⟨a,o,rfl,g,q⟩:=h
 cases ry
 exact y4 hu I g rx fun s3 I3=>⟨.bl (!o.isSome),H,I3,rfl,q⟩
def EQ (K:PySem.W.Frag):R2:=fun x y H Q=>Fm K x y H Q∨Ft x y H Q
def sF (K:PySem.W.Frag):R2:=fun x y H Q=>rH K x y H Q∨sD x y H Q
theorem kX (K:PySem.W.Frag)(hu:X.A.units+64 < cLine)(h:X.K=K):BOp X (compareOp .In) (EQ K):=by subst h; exact ⟨OpR.or Cr (CV (by nofun))⟩
theorem qd (K:PySem.W.Frag)(hu:X.A.units+64 < cLine)(h:X.K=K):BOp X (compareOp .NotIn) (sF K):=by subst h; exact ⟨OpR.or rJ (sE (by nofun))⟩
theorem bO {a b:Expr}{ta tb:TE}{pos:Pos}(K:PySem.W.Frag)(hu:X.A.units+64 < cLine)(ha:BE X a ta)(hb:BE X b tb)(hs:∀ o i,subscripted b false o i=operate [o,i] (getItem o i))(hK:X.K=K):BE X (.Subscript a b pos) (tOp (Fs K) ta tb):=by
 subst hK; exact ⟨Ex (IxR.or Cd (zO (by nofun))) ha.h hb.h hs⟩
def CW (pI:Int→Int→Bool)(pS:Str→Str→Bool):R2:=fun x y H Q=>(∃ i j,x=.int i∧y=.int j∧Q (.bl (pI i j)) H)∨∃ i j,x=.str i∧y=.str j∧Q (.bl (pS i j)) H
def cy (x y:Str):Bool:=decide (x.cps.toList < y.cps.toList)
theorem CY:OpR X (compareOp .Lt) (fun x y H Q=>∃ i j,x=.str i∧y=.str j∧Q (.bl (cy i j)) H):=by
 intro pins s σ H x y v u Q I rx ry h
 obtain ⟨i,j,rfl,rfl,q⟩:=h
 obtain ⟨t,rfl⟩:=rx
 obtain ⟨t',rfl⟩:=ry
 exact PyProof.Rows.lt_str ⟨.bl _,H,I,rfl,q⟩
theorem CZ:OpR X (compareOp .LtE) (fun x y H Q=>∃ i j,x=.str i∧y=.str j∧Q (.bl (!cy j i)) H):=by
 intro pins s σ H x y v u Q I rx ry h
 obtain ⟨i,j,rfl,rfl,q⟩:=h
 obtain ⟨t,rfl⟩:=rx
 obtain ⟨t',rfl⟩:=ry
 refine PySem.P.le_str ⟨.bl _,H,I,rfl,?_⟩
 have e:decide (¬ (j.cps.toList < i.cps.toList))=!cy j i:=by unfold cy; rw [decide_not]
 first | exact q | (rw [← e] at q; exact q) | (simpa [cy] using q)
theorem C0:OpR X (compareOp .Gt) (fun x y H Q=>∃ i j,x=.str i∧y=.str j∧Q (.bl (cy j i)) H):=by
 intro pins s σ H x y v u Q I rx ry h
 obtain ⟨i,j,rfl,rfl,q⟩:=h
 obtain ⟨t,rfl⟩:=rx
 obtain ⟨t',rfl⟩:=ry
 exact PySem.P.gt_str ⟨.bl _,H,I,rfl,q⟩
theorem C4:OpR X (compareOp .GtE) (fun x y H Q=>∃ i j,x=.str i∧y=.str j∧Q (.bl (!cy i j)) H):=by
 intro pins s σ H x y v u Q I rx ry h
 obtain ⟨i,j,rfl,rfl,q⟩:=h
 obtain ⟨t,rfl⟩:=rx
 obtain ⟨t',rfl⟩:=ry
 refine PySem.P.ge_str ⟨.bl _,H,I,rfl,?_⟩
 have e:decide (¬ (i.cps.toList < j.cps.toList))=!cy i j:=by unfold cy; rw [decide_not]
 first | exact q | (rw [← e] at q; exact q) | (simpa [cy] using q)
theorem gX:BOp X (compareOp .Lt) (CW (fun i j=>decide (i < j)) cy):=⟨OpR.or Er CY⟩
theorem eX:BOp X (compareOp .LtE) (CW (fun i j=>decide (i≤j)) fun i j=>!cy j i):=⟨OpR.or Es CZ⟩
theorem gY:BOp X (compareOp .Gt) (CW (fun i j=>decide (j < i)) fun i j=>cy j i):=⟨OpR.or Et C0⟩
theorem zP:BOp X (compareOp .GtE) (CW (fun i j=>decide (j≤i)) fun i j=>!cy i j):=⟨OpR.or Eu C4⟩
def tyD:D→String
 | .non => "NoneType"
 | .bl _ => "bool"
 | .int _ => "int"
 | .str _ => "str"
 | .lst _ => "list"
 | .tup _ => "tuple"
 | .dct _ _ => "dict"
 | .ty _ => "type"
 | .opq _ _ => "dict"
def xL (T:String):Bool:=T == "str" || T == "int" || T == "bool" || T == "list" || T == "tuple" || T == "dict" || T == "NoneType"
theorem sG {T:String}(h:xL T=true):okT T:=by
 simp only [xL,Bool.or_eq_true,beq_iff_eq] at h
 unfold okT
 rcases h with (((((h | h) | h) | h) | h) | h) | h <;> simp [h]
def ER (K:PySem.W.Frag):List V→Hp→VK→Prop:=fun xs H Q=>∃ x d T,xs=[x,.ty T]∧Den K H x d∧xL (tyD d)=true∧xL T=true∧Q (.bl (isT (tyD d) T)) H
theorem vD:CallR X (.builtin "isinstance") (ER X.K):=by
 intro pins s σ H xs us Q I r h
 obtain ⟨x,d,T,rfl,dn,o1,o2,q⟩:=h
 obtain ⟨u,u',rfl,ru,ru'⟩:=qW r
 cases (show u'=Value.type T from ru')
 have e:=Cl (K:=X.K) (sG o1) (sG o2)
 have fin:∀ tk,EP X pins σ Q (.bool (isT (tyD d) T)) { s with toks:=tk }:=fun tk=>⟨.bl _,H,I.tok tk,rfl,q⟩
 cases dn with
 | non=>exact gt I ru .non e fin
 | bl b=>exact gt I ru (.bl b) e fin
 | int i=>exact gt I ru (.int i) e fin
 | str z=>exact gt I ru (.str z) e fin
 | ty T'=>simp [tyD,xL] at o1
 | @lst a ys ds hs t =>
  cases (show u=Value.ref a from ru)
  obtain ⟨its,_,⟨o,n,h1,h2,_⟩,_⟩:=I.list hs
  exact PySem.W.kia_one PySem.W.kitx_list I.kIn ⟨_,h1,h2⟩ e (fun z=>nomatch z) fin
 | @tup a ys ds hs t =>
  cases (show u=Value.ref a from ru)
  obtain ⟨its,_,⟨o,h1,h2,_⟩,_⟩:=I.tuple hs
  exact PySem.W.kia_one PySem.W.kitx_tuple I.kIn ⟨o,h1,h2⟩ e (fun z=>nomatch z) fin
 | @dct a ys ks ds hs hk t =>
  cases (show u=Value.ref a from ru)
  obtain ⟨_,_,vs,_,p⟩:=(show ObjOk X.prog X.w H s.heap a (.dK ys) from hs.ok I.hok)
  obtain ⟨o,es,ep,h1,h2,_⟩:=p
  exact PySem.W.kia_one PySem.W.kitx_dict I.kIn ⟨o,h1,h2.1⟩ e (fun z=>nomatch z) fin
 | @opq a ys n hs hn hpl =>
  cases (show u=Value.ref a from ru)
  obtain ⟨_,_,vs,_,p⟩:=(show ObjOk X.prog X.w H s.heap a (.dK ys) from hs.ok I.hok)
  obtain ⟨o,es,ep,h1,h2,_⟩:=p
  exact PySem.W.kia_one PySem.W.kitx_dict I.kIn ⟨o,h1,h2.1⟩ e (fun z=>nomatch z) fin
theorem d0 (K:PySem.W.Frag)(h:X.K=K):BCall X (.builtin "isinstance") (ER K):=by subst h; exact ⟨vD⟩
def C5 (K:PySem.W.Frag):R2:=fun x y H Q=>∃ l b xs zs,x=.ref l∧y=.ref b∧SqL K H l xs∧SqL K H b zs∧xs.length+zs.length≤sizeLine∧∀ p,H p=none→Q (.ref p) (upd H p (.lst (xs++zs)))
theorem zQ:OpR X (binaryOp .Add) (C5 X.K):=by
 intro pins s σ H x y v u Q I rx ry h
 obtain ⟨l,b,xs,zs,rfl,rfl,hH,hB,hz,q⟩:=h
 cases rx
 cases ry
 obtain ⟨its,r,⟨⟨cls,dd,data,sl⟩,n,ho,hc,hdd,hd⟩,_⟩:=I.list hH
 obtain ⟨its2,r2,⟨⟨cls2,dd2,data2,sl2⟩,n2,ho2,hc2,hdd2,hd2⟩,_⟩:=I.list hB
 dsimp only at hc hd hc2 hd2 hdd hdd2
 subst hc hd hc2 hd2 hdd hdd2
 have hl:=r.length
 have hl2:=r2.length
 refine concat_meets ⟨_,ho,rfl⟩ ⟨_,ho2,rfl⟩ noFill_list_add seq_list_add PySem.F.slot_list_add PySem.F.entry_list_add (PySem.F.args_list_add_2 _ _) (list_addW l b its.toArray its2.toArray n n2 none none sl sl2 (by simp; nofun)) ⟨ho,ho2,?_⟩
 have ea:its.toArray++its2.toArray=(its++its2).toArray:=by simp
 rw [ea]
 exact ⟨.ref _,_,I.lnew (t':=s.toks) (r.append r2) (by rw [List.length_append]; nofun),rfl,q _ I.fresh⟩
def zR (K:PySem.W.Frag):R2:=fun x y H Q=>(∃ i j,x=.int i∧y=.int j∧Q (.int (i+j)) H)∨(∃ i j,x=.str i∧y=.str j∧i.length+j.length≤sizeLine∧Q (.str (i++j)) H)∨C5 K x y H Q∨B9 K x y H Q
theorem cS (K:PySem.W.Frag)(h:X.K=K):BOp X (binaryOp .Add) (zR K):=by subst h; exact ⟨BN.or (pJ.or (zQ.or yY))⟩
theorem sI:CallR X (.builtin "ord") (fun xs H Q=>∃ c:Nat,xs=[.str ⟨#[c]⟩]∧Q (.int c) H):=by
 intro pins s σ H xs us Q I r h
 obtain ⟨c,rfl,q⟩:=h
 obtain ⟨u,rfl,ru⟩:=eM r
 obtain ⟨t,rfl⟩:=ru
 exact PySem.P.ord_of_char ⟨.int c,H,I.tok _,⟨_,rfl⟩,q⟩
def Fu:List V→Hp→VK→Prop:=fun xs H Q=>∃ c:Nat,xs=[.str ⟨#[c]⟩]∧Q (.int c) H
theorem C6:BCall X (.builtin "ord") Fu:=⟨sI⟩
def tGU (K:PySem.W.Frag)(xs:List V):TE:=fun _ H Q=>∀ a,(∀ H',SqT K H' a xs)→Q (.ref a) H
theorem nB {K:PySem.W.Frag} {x:Str} {xs:List V} {pos:Pos} (h:D5 K X.mg x xs) (hg:X.env.kindOf x=some .globalImplicit) (hd:autoParam ((x == ("__debug__" : Str))=false) L2.aD._auto_1):BE X (.Name x pos) (tGU K xs):=by
 obtain ⟨a,e,hs⟩:=h
 exact ⟨fun pins s σ H Q I q=>xq (v:=.ref a) ⟨_,e,rfl⟩ hg hd pins s σ H Q I (q a hs)⟩
end
theorem C7:bootBuiltins "ord" = some (.builtin "ord"):=by decide +kernel
section
variable {K:PySem.W.Frag} {μ:List Nat}
theorem bo {F H:Hp}{P:OV→Prop}{Q:VK}{v:V}{d:D}(e:Same F H)(n:xD K F H P Q)(h:Den K F v d)(p:P (.fz d)):Q v H:=n _ v F H [] p (Pure.refl e) (.fz h) New.nil
theorem eG {F H:Hp}{P:OV→Prop}{Q:VK}{xs:List V}{ds:List D}(e:Same F H)(n:xD K F H P Q)(h:Dens K F xs ds)(p:P (.fl ds)):∀ q,H q=none→Q (.ref q) (upd H q (.lst xs)):=fun q hq =>
 n _ (.ref q) F _ [q] p (Pure.new e hq) (.fl bn h) (New.one hq (e.free hq))
theorem iL {F H:Hp}{P:OV→Prop}{Q:VK}{xs:List V}{ds:List D}(e:Same F H)(n:xD K F H P Q)(h:Dens K F xs ds)(p:P (.fz (.tup ds))):∀ q,H q=none→Q (.ref q) (upd H q (.tup xs)):=fun q hq =>
 n _ (.ref q) (upd F q (.tup xs)) _ [] p (Pure.frz e hq) (.fz (.tup (SqT.of bn) (h.mono (ck (e.free hq))))) New.nil
theorem zS {xs:List V}{ds:List D}(hd:∀ F,Dens K F xs ds):EF K μ (tGU K xs) (fC (.tup ds)):=⟨fun {F Z H τ σ ρ A Q P} vw R h q a ha=>q _ _ _ F H A [] h (Same.refl _) R (.fz (.tup (ha F) (hd F))) Fresh.nil⟩
def aI0 (g:Int→Int→D):D→D→(OV→Prop)→Prop
 | .int i,.int j,P=>P (.fz (g i j))
 | _,_,_=>False
def aIC (C:Int→Int→Prop)(g:Int→Int→D):D→D→(OV→Prop)→Prop
 | .int i,.int j,P=>C i j∧P (.fz (g i j))
 | _,_,_=>False
theorem C8 {gV:Int→Int→V}{gD:Int→Int→D}(h:∀ F i j,Den K F (gV i j) (gD i j)):OpF K (rI0 gV) (aI0 gD):=⟨by
 intro F H x y d e Q P s hx hy f n
 cases d with
 | int i =>
  cases e with
  | int j =>
   exact ⟨_,_,hx.int_eq,hy.int_eq,bo s n (h F _ _) f⟩
  | _=>exact False.elim f
 | _=>exact False.elim f⟩
theorem mw {C:Int→Int→Prop}{gV:Int→Int→V}{gD:Int→Int→D}(h:∀ F i j,Den K F (gV i j) (gD i j)):OpF K (rI C gV) (aIC C gD):=⟨by
 intro F H x y d e Q P s hx hy f n
 cases d with
 | int i =>
  cases e with
  | int j =>
   exact ⟨_,_,hx.int_eq,hy.int_eq,f.1,bo s n (h F _ _) f.2⟩
  | _=>exact False.elim f
 | _=>exact False.elim f⟩
theorem kY:OpF K (rI0 fun i j=>.int (i - j)) (aI0 fun i j=>.int (i - j)):=C8 fun _ _ _=>.int _
theorem nE:OpF K (rI CMul fun i j=>.int (i * j)) (aIC CMul fun i j=>.int (i * j)):=mw fun _ _ _=>.int _
theorem kZ:OpF K (rI yL fun i j=>.int (i / j)) (aIC yL fun i j=>.int (i / j)):=mw fun _ _ _=>.int _
theorem je:OpF K (rI (fun _ j=>0 < j) fun i j=>.int (i % j)) (aIC (fun _ j=>0 < j) fun i j=>.int (i % j)):=mw fun _ _ _=>.int _
theorem zT:OpF K (rI BM fun i j=>.int (i ^ j.toNat)) (aIC BM fun i j=>.int (i ^ j.toNat)):=mw fun _ _ _=>.int _
theorem oF:OpF K (rI pP fun i j=>.int (i ^ j.toNat)) (aIC pP fun i j=>.int (i ^ j.toNat)):=mw fun _ _ _=>.int _
def jI (pI:Int→Int→Bool)(pS:Str→Str→Bool):D→D→(OV→Prop)→Prop
 | .int i,.int j,P=>P (.fz (.bl (pI i j)))
 | .str i,.str j,P=>P (.fz (.bl (pS i j)))
 | _,_,_=>False
theorem cv {pI:Int→Int→Bool}{pS:Str→Str→Bool}:OpF K (CW pI pS) (jI pI pS):=⟨by
 intro F H x y d e Q P s hx hy f n
 cases d with
 | int i =>
  cases e with
  | int j =>
   exact .inl ⟨_,_,hx.int_eq,hy.int_eq,bo s n (.bl _) f⟩
  | _=>exact False.elim f
 | str i =>
  cases e with
  | str j =>
   exact .inr ⟨_,_,hx.str_eq,hy.str_eq,bo s n (.bl _) f⟩
  | _=>exact False.elim f
 | _=>exact False.elim f⟩
def j7:D→D→(OV→Prop)→Prop
 | .int i,.int j,P=>P (.fz (.int (i+j)))
 | .str i,.str j,P=>i.length+j.length≤sizeLine∧P (.fz (.str (i++j)))
 | .lst xs,.lst ys,P=>xs.length+ys.length≤sizeLine∧P (.fl (xs++ys))
 | .tup xs,.tup ys,P=>xs≠[]∧xs.length+ys.length≤sizeLine∧P (.fz (.tup (xs++ys)))
 | _,_,_=>False
theorem cW:OpF K (zR K) j7:=⟨by
 intro F H x y d e Q P s hx hy f n
 cases d with
 | int i =>
  cases e with
  | int j =>
   exact .inl ⟨_,_,hx.int_eq,hy.int_eq,bo s n (.int _) f⟩
  | _=>exact False.elim f
 | str i =>
  cases e with
  | str j =>
   exact .inr (.inl ⟨_,_,hx.str_eq,hy.str_eq,f.1,bo s n (.str _) f.2⟩)
  | _=>exact False.elim f
 | lst ds =>
  cases e with
  | lst es =>
   obtain ⟨a,xs,rfl,h1,h2⟩:=hx.asL s
   obtain ⟨b,ys,rfl,h3,h4⟩:=hy.asL s
   exact .inr (.inr (.inl ⟨a,b,xs,ys,rfl,rfl,h1,h3,by rw [h2.length,h4.length]; exact f.1,eG s n (h2.append h4) f.2⟩))
  | _=>exact False.elim f
 | tup ds =>
  cases e with
  | tup es =>
   have hy':=hy
   obtain ⟨a,xs,rfl,h1,h2⟩:=hx.asT s
   obtain ⟨b,ys,rfl,h3,h4⟩:=hy.asT s
   refine .inr (.inr (.inr ⟨a,b,xs,ys,rfl,rfl,h1,h3,fun z=>f.1 ?_,by rw [h2.length,h4.length]; exact f.2.1,fun z=>?_,fun z=>iL s n (h2.append h4) f.2.2⟩))
   ·have:=h2.length; rw [z] at this; exact List.eq_nil_of_length_eq_zero this.symm
   ·subst z
    cases h4
    have f2:=f.2.2
    rw [List.append_nil] at f2
    cases hx with
    | fz hd=>exact bo s n hd f2
  | _=>exact False.elim f
 | _=>exact False.elim f⟩
end
end L2
set_option maxHeartbeats 4000000
namespace L2
open PySem PySem.Spec PyProof.Rows
def d6 (a b:Str):Bool:=!cy b a
theorem eY {a b:Str}:d6 a b=true↔¬ (b.cps.toList < a.cps.toList):=by unfold d6 cy; simp
theorem jf (a b c:Str)(h1:d6 a b=true)(h2:d6 b c=true):d6 a c=true:=by
 rw [eY] at *
 exact List.not_lt.mpr (List.le_trans (List.not_lt.mp h1) (List.not_lt.mp h2))
theorem nF (a b:Str):(d6 a b || d6 b a)=true:=by
 rw [Bool.or_eq_true,eY,eY]
 rcases List.le_total a.cps.toList b.cps.toList with h | h
 ·exact .inl (List.not_lt.mpr h)
 ·exact .inr (List.not_lt.mpr h)
theorem qe {a b:Str}(h1:d6 a b=true)(h2:d6 b a=true):a=b:=by
 rw [eY] at *
 exact gh (List.le_antisymm (List.not_lt.mp h1) (List.not_lt.mp h2))
def mx (zs:List Str):List Str:=zs.mergeSort d6
theorem fI (zs:List Str):(mx zs).Perm zs:=List.mergeSort_perm zs _
theorem ix (zs:List Str):(mx zs).Pairwise fun a b=>d6 a b=true:=List.pairwise_mergeSort jf nF zs
theorem eZ:∀ (p:Str) (l:List Str),risingS p l=true→(p::l).Pairwise fun a b=>d6 a b=true
 | p,[],_=>List.pairwise_singleton _ _
 | p,x::r,h=>by
  simp only [risingS,Bool.and_eq_true] at h
  have ih:=eZ x r h.2
  have hpx:d6 p x=true:=by
   unfold d6 cy
   rw [← ltCps_eq]; exact h.1
  refine List.pairwise_cons.mpr ⟨fun y hy=>?_,ih⟩
  rcases List.mem_cons.mp hy with rfl | hy
  ·exact hpx
  ·exact jf _ _ _ hpx (List.rel_of_pairwise_cons ih hy)
theorem eL:∀ (l:List Str),sortedS l=true→l.Pairwise fun a b=>d6 a b=true
 | [],_=>.nil
 | x::r,h=>eZ x r h
theorem jg {ss zs:List Str}(hp:ss.Perm zs)(hs:ss.Pairwise fun a b=>d6 a b=true):ss=mx zs :=
 List.Perm.eq_of_pairwise (le:=fun a b=>d6 a b=true) (fun a b _ _ h1 h2=>qe h1 h2) hs (ix zs) (hp.trans (fI zs).symm)
section
open PySem.Calls
variable {prog:Program} {w:World} {A:Around} {E:Value→Shared→Prop} {s:Shared} {T:String} {r d:Addr} {n:Nat} {P:Nat→Value→Prop} {OK:Heap→Prop}
theorem C9 {R:List Value→Shared→Prop}(S:PySem.W.KdlSrc prog w T r d n P OK)(calm:A.handled=none)(ok:OK s.heap)(few:n≤sizeLine)
  (go:∀ (g:Heap) (tk:Nat) (acc:Array Value),(∀ b o,s.heap.get? b=some o→g.get? b=some o)→s.heap.objs.size < g.objs.size→ItemsOf P acc n→R acc.toList { s with heap:=g,toks:=tk }) :
  wpAny (model prog w) A (collect (.ref r)) R E s:=by
 obtain ⟨l1,l2⟩:=S.there _ ok
 unfold collect
 refine wpAny_bind (wpAny_runValue (codeAny_builtin entry_proto_collect' ?_)); rw [Around.under_plainId PySem.F.plain_proto_collect _]
 show wpAny _ A.in1 (newList [] >>= fun x=>again (.builtin "list.__iadd__" ⟨[x,.ref r],[]⟩)) _ _ s
 refine wpAny_bind (wpAny_newObj_type (wpAny_pure ⟨plainId_quiet PySem.F.plain_list_iadd _,codeAny_builtin entry_list_iadd' ?_⟩)); rw [Around.under_plainId PySem.F.plain_list_iadd _]
 have top:(s.heap.push { cls:=.type "list", data:=.seq ([]:List Value).toArray }).get? s.heap.objs.size=some { cls:=.type "list", data:=.seq #[] }:=Heap.get?_push_size _ rfl
 show wpAny _ A.in1 (Builtin.List.listExtendWith (.ref s.heap.objs.size) (.ref r) (.ref s.heap.objs.size)) _ _ _
 have main:=PySem.W.kdl_extend (A:=A) (s:={ s with heap:=s.heap.push { cls:=.type "list", data:=.seq ([]:List Value).toArray } })
  (R:=fun (q:Result) (s':Shared)=>∃ (g:Heap) (tk:Nat) (acc:Array Value) (c:Nat),q=.ok (.ret (.ref s.heap.objs.size))∧s'={ s with heap:=g,toks:=tk } ∧
   (∀ b o,s.heap.get? b=some o→g.get? b=some o)∧g.get? s.heap.objs.size=some { cls:=.type "list", dict:=none,data:=.seq acc c,slots:=#[] }∧ItemsOf P acc n)
  S calm (S.keep _ _ ok fun b _ o e=>Heap.get?_push_of_some _ e) s.heap.objs.size (Nat.ne_of_gt l1) (Nat.ne_of_gt l2) (.ref s.heap.objs.size) 0 top
  (fun g tk acc c hk hS hacc=>⟨g,tk,acc,c,rfl,rfl,fun b o e=>hk b o (Nat.ne_of_lt (Heap.lt_size e)) (Heap.get?_push_of_some _ e),hS,hacc⟩) few
 refine wpAny_mono main (fun z s' x=>?_) fun e s' x=>?_
 ·cases z with
  | done f =>
   obtain ⟨g,tk,acc,c,e,rfl,hk,hS,hacc⟩:=x
   cases e
   exact wpAny_bind (wpAny_load hS (wpAny_pure (go g tk acc hk (Heap.lt_size hS) hacc)))
  | again c₁ =>
   refine ⟨x.1,codeAny_mono x.2 fun q s₂ y=>?_⟩
   obtain ⟨g,tk,acc,c,rfl,rfl,hk,hS,hacc⟩:=y
   exact wpAny_bind (wpAny_load hS (wpAny_pure (go g tk acc hk (Heap.lt_size hS) hacc)))
 ·obtain ⟨_,_,_,_,e',_⟩:=x
  cases e'
end
section
variable {X:Cx}
theorem my (hc:X.calm=true):CallR X (.builtin "sorted") (fun xs H Q=>∃ p kvs zs,xs=[.ref p]∧Rd H p (.dK kvs)∧kvs.map (·.1)=zs.map Sum.inr∧kvs.length < 64∧∀ q ss,H q=none→ss.Perm zs→sortedS ss=true→Q (.ref q) (upd H q (.lst (ss.map .str)))):=by
 intro pins s σ H xs us Q I r h
 obtain ⟨p,kvs,zs,rfl,hq,hz,h64,q⟩:=h
 obtain ⟨u,rfl,rx⟩:=eM r
 cases rx
 obtain ⟨hsz,hS,vs,rv,m⟩:kvs.length≤sizeLine∧(p == sysModules)=false∧∃ vs,KV kvs vs∧s.heap.DictOf (cn X.prog X.w) p vs:=hq.ok I.hok
 obtain ⟨ep,hat⟩:=m.dictAt
 have hl:kvs.length=vs.length:=Paired.length rv
 refine Calls.call_function_entry kind_sorted plain_sorted entry_sorted (args_sorted1 _) ?_
 unfold Builtin.«sorted»
 refine wpAny_bind (m:=checkCount "sorted" 1 1 _) (wpAny_pure ?_)
 refine wpAny_bind (C9 (PySem.W.kdl_dict (knd:=cn X.prog X.w) (kvs:=vs) (ep:=ep) hS) (by simpa using I.ok.hd hc) hat (by rw [← hl]; exact hsz) fun h' tk acc hk hgr hacc=>?_)
 have hal:acc.toList.length=kvs.length:=by rw [Array.length_toList,hacc.1,hl]
 have hSA:StrsAre acc.toList zs:=by
  have hget:∀ (j:Nat) v,acc.toList[j]?=some v→∃ k x,vs[j]?=some (k,x)∧lD k v=true:=fun j v e=>hacc.2 j v (by rw [← Array.getElem?_toList]; exact e)
  clear hacc hk q hq m hat
  generalize acc.toList=us at hal hget
  clear hsz hl h64 I r
  induction rv generalizing us zs with
  | nil =>
   cases zs with
   | nil=>cases us with | nil=>exact .nil | cons a b=>simp at hal
   | cons z zs=>simp at hz
  | cons h1 h2 ih =>
   cases zs with
   | nil=>simp at hz
   | cons z zs =>
    cases us with
    | nil=>simp at hal
    | cons a b =>
     simp only [List.map_cons,List.cons.injEq] at hz
     obtain ⟨k,x,e1,e2⟩:=hget 0 a rfl
     simp only [List.getElem?_cons_zero,Option.some.injEq] at e1
     subst e1
     have e3:_=k:=h1.1
     rw [← e3,hz.1] at e2
     rcases cf e2 with ⟨i,t,q,_⟩ | ⟨z',t,q,rfl⟩
     ·cases q
     ·cases q
      exact .cons _ t (ih zs hz.2 b (by first|exact List.mem_singleton.mp hal|simpa using hal) fun j v e=>by simpa using hget (j+1) v (by first|exact List.mem_singleton.mp e|simpa using e))
 refine wpAny_bind (wpAny_newList ?_ (hsz:=by rw [hal]; exact hsz))
 have hoL:(h'.push (seqObj "list" acc.toList.toArray 0)).get? h'.objs.size=some (seqObj "list" acc.toList.toArray 0):=Heap.get?_push_size _ rfl
 have hle:s.heap.objs.size≤h'.objs.size:=Nat.le_of_lt hgr
 refine wpAny_bind (wpAny_holding (wpAny_call_entry slot_list_sort ⟨_,hoL,rfl⟩ entry_list_sort (list_sort_treeK strKind_oneLt hoL hSA.keysOf (fun v₁ v₂ aw e=>keyKind_strs (by rw [← e]; exact hSA)) (by rw [hal]; exact h64) fun st' a1 a2=>⟨_,rfl,?_⟩) (args_list_sort _)))
 obtain ⟨ss',b1,b2,b3⟩:=sorted_out_str hSA a1 a2
 obtain ⟨e',he'⟩:=sortedHeap_at (out:=(arrOf st').map (·.2)) hoL
 have hlz:ss'.length=kvs.length:=by rw [b2.length_eq]; have:=congrArg List.length hz; simpa using this.symm
 refine wpAny_pure ⟨_,rfl,.ref h'.objs.size,_,I.laid (t':=tk) (o:=.lst (ss'.map .str)) (fun b ob hb=>?_) hle ⟨by rw [List.length_map,hlz]; exact hsz,((arrOf st').map (·.2)).toList,e',eT b1,by rw [Array.toArray_toList]; exact he'⟩,rfl,q h'.objs.size ss' (I.hok.fresh hle) b2 b3⟩
 have hbl:b < h'.objs.size:=Nat.lt_of_lt_of_le (Heap.lt_size hb) hle
 rw [sortedHeap_old (Nat.ne_of_lt hbl) (by rw [size_push']; exact Nat.lt_succ_of_lt hbl)]
 exact Heap.get?_push_of_some _ (hk b ob hb)
end
end L2
set_option maxHeartbeats 4000000
namespace L2
open PySem PySem.Spec PyProof.Rows
section
variable {K:PySem.W.Frag} {μ:List Nat}
def Bn (d e:D):Prop:=okD d=true∧okD e=true∧dep (sr d)≤40
def aEq:D→D→(OV→Prop)→Prop:=fun d e P=>Bn d e∧P (.fz (.bl (dEq d e)))
def aNe:D→D→(OV→Prop)→Prop:=fun d e P=>Bn d e∧P (.fz (.bl (!dEq d e)))
theorem bF:OpF K (D2 K) aEq:=⟨fun {F H x y d e Q P} s hx hy f n=>.inr ⟨_,_,(hx.den s).deep f.1.1,(hy.den s).deep f.1.2.1,f.1.2.2,bo s n (.bl _) f.2⟩⟩
theorem xM:OpF K (D3 K) aNe:=⟨fun {F H x y d e Q P} s hx hy f n=>.inr ⟨_,_,(hx.den s).deep f.1.1,(hy.den s).deep f.1.2.1,f.1.2.2,bo s n (.bl _) f.2⟩⟩
def vOf:D→V
 | .non=>.non
 | .bl b=>.bl b
 | .int i=>.int i
 | .str z=>.str z
 | _=>.non
def flD:D→Bool
 | .non=>true
 | .bl _=>true
 | .int _=>true
 | .str _=>true
 | _=>false
theorem Den.flat {F:Hp}{v:V}{d:D}(h:Den K F v d)(f:flD d=true):v=vOf d∧iX v=true:=by
 cases h <;> first | exact ⟨rfl,rfl⟩ | exact (Bool.false_ne_true f).elim
theorem Dens.flat {F:Hp}{v:List V}{d:List D}(h:Dens K F v d)(f:d.all flD=true):v=d.map vOf∧v.all iX=true:=by
 induction d generalizing v with
 | nil=>cases h; exact ⟨rfl,rfl⟩
 | cons d ds ih =>
  cases h with
  | cons h t =>
   rw [List.all_cons,Bool.and_eq_true] at f
   obtain ⟨h1,h2⟩:=h.flat f.1
   obtain ⟨h3,h4⟩:=ih t f.2
   exact ⟨by rw [List.map_cons,← h1,← h3],by rw [List.all_cons,h2,h4]; rfl⟩
theorem Acc.flat {F H:Hp}{v:V}{d:D}(h:Acc K F H v d)(f:flD d=true):v=vOf d∧iX v=true:=by
 cases h with
 | fz h=>exact h.flat f
 | lst _ _=>exact (Bool.false_ne_true f).elim
 | dct _ _ _=>exact (Bool.false_ne_true f).elim
def inD (d:D)(ds:List D):Bool:=inV (vOf d) (ds.map vOf)
def zU (ks:List Key)(k:Key):Bool:=ks.any fun x=>decide (x=k)
def bIn (d:D)(R:Bool→Prop):D→Prop
 | .str y=>(match d with
  | .str x=>(match x.cps.toList with
   | [c]=>R (decide (c ∈ y.cps.toList))
   | _=>False)
  | _=>False)
 | .lst ds=>(flD d=true∧ds.all flD=true)∧R (inD d ds)
 | .tup ds=>(flD d=true∧ds.all flD=true)∧R (inD d ds)
 | .dct ks _=>(match uN d with
  | some k=>R (zU ks k)
  | none=>False)
 | _=>False
def aIn (d e:D)(P:OV→Prop):Prop:=bIn d (fun b=>P (.fz (.bl b))) e
def xN (d e:D)(P:OV→Prop):Prop:=bIn d (fun b=>P (.fz (.bl (!b)))) e
theorem xO {x:Str}{c:Nat}(h:x.cps.toList=[c]):x=⟨#[c]⟩:=gh h
theorem oG {ys:List (Key×V)}{ks:List Key}{k:Key}(h:ys.map (·.1)=ks):(lT ys k).isSome=zU ks k:=by
 rw [← kD,zU,← h,List.any_map]; rfl
theorem xP {F H:Hp}{x y:V}{d e:D}{Q:VK}{R:Bool→Prop}(s:Same F H)(hx:Acc K F H x d)(hy:Acc K F H y e)(f:bIn d R e)(n:∀ b,R b→Q (.bl b) H):EQ K x y H Q:=by
 cases e with
 | str z =>
  cases d with
  | str u =>
   unfold bIn at f; dsimp only at f
   generalize hc:u.cps.toList=l at f
   cases l with
   | nil=>exact False.elim f
   | cons c r =>
    cases r with
    | nil=>exact .inl (.inl ⟨c,_,by rw [hx.str_eq,xO hc],hy.str_eq,n _ f⟩)
    | cons=>exact False.elim f
  | _=>exact False.elim f
 | lst ds =>
  obtain ⟨a,xs,rfl,h1,h2⟩:=hy.asL s
  obtain ⟨e1,e2⟩:=hx.flat f.1.1
  obtain ⟨e3,e4⟩:=h2.flat f.1.2
  subst e1 e3
  exact .inl (.inr ⟨a,_,rfl,.inl h1,e2,e4,n _ f.2⟩)
 | tup ds =>
  obtain ⟨a,xs,rfl,h1,h2⟩:=hy.asT s
  obtain ⟨e1,e2⟩:=hx.flat f.1.1
  obtain ⟨e3,e4⟩:=h2.flat f.1.2
  subst e1 e3
  exact .inl (.inr ⟨a,_,rfl,.inr h1,e2,e4,n _ f.2⟩)
 | dct ks vs =>
  unfold bIn at f; dsimp only at f
  generalize hk:uN d=l at f
  cases l with
  | none=>exact False.elim f
  | some k =>
   obtain ⟨a,ys,rfl,h1,h2,h3⟩:=hy.asD s
   refine .inr ⟨a,lT ys k,rfl,by rw [nz hx hk]; exact DGet.kR h1,?_⟩
   rw [oG h2]
   exact n _ f
 | _=>exact False.elim f
theorem oH:OpF K (EQ K) aIn:=⟨fun s hx hy f n=>xP s hx hy f fun _ q=>bo s n (.bl _) q⟩
theorem sJ:OpF K (sF K) xN:=⟨by
 intro F H x y d e Q P s hx hy f n
 have h:=xP (Q:=fun v H'=>∀ b,v=.bl b→Q (.bl (!b)) H') s hx hy f fun b q c e=>by cases e; exact bo s n (.bl _) q
 obtain (⟨c,z,e1,e2,q⟩ | ⟨a,xs,e1,e2,e3,e4,q⟩) | ⟨a,o,e1,e2,q⟩:=h
 ·exact .inl (.inl ⟨c,z,e1,e2,q _ rfl⟩)
 ·exact .inl (.inr ⟨a,xs,e1,e2,e3,e4,q _ rfl⟩)
 ·exact .inr ⟨a,o,e1,e2,q _ rfl⟩⟩
def vE (ks:List Key)(ds:List D)(k:Key):Option D:=((ks.zip ds).find? fun kd=>decide (kd.1=k)).map (·.2)
def aIx:D→D→(OV→Prop)→Prop
 | .lst ds,.int i,P=>(match atI ds i with
  | some d=>P (.fz d)
  | none=>False)
 | .tup ds,.int i,P=>(match atI ds i with
  | some d=>P (.fz d)
  | none=>False)
 | .str z,.int i,P=>z.length≤sizeLine∧(match atI z.cps.toList i with
  | some c=>P (.fz (.str ⟨#[c]⟩))
  | none=>False)
 | .dct ks ds,k,P=>(match uN k with
  | some k=>(match vE ks ds k with
   | some d=>P (.fz d)
   | none=>False)
  | none=>False)
 | _,_,_=>False
theorem Dens.atI {F:Hp}{xs:List V}{ds:List D}{i:Int}{d:D}(h:Dens K F xs ds)(e:L2.atI ds i=some d):∃ x,L2.atI xs i=some x∧Den K F x d:=by
 unfold L2.atI at e ⊢
 rw [h.length]
 cases q:ixN ds.length i with
 | none=>rw [q] at e; cases e
 | some j=>rw [q] at e; exact h.get e
theorem oI {F:Hp}{ys:List (Key×V)}{ks:List Key}{ds:List D}{k:Key}{d:D}(hk:ys.map (·.1)=ks)(h:Dens K F (ys.map (·.2)) ds)(e:vE ks ds k=some d):∃ v,lT ys k=some v∧Den K F v d:=by
 subst hk
 unfold vE at e
 induction ys generalizing ds with
 | nil=>simp at e
 | cons y ys ih =>
  cases h with
  | @cons _ d1 _ ds h1 h2 =>
   by_cases hy:y.1=k
   ·rw [iG hy]
    simp only [List.map_cons,List.zip_cons_cons,List.find?_cons,hy,decide_true,Option.map_some,Option.some.injEq] at e
    subst e
    exact ⟨y.2,rfl,h1⟩
   ·rw [iH hy]
    simp only [List.map_cons,List.zip_cons_cons,List.find?_cons,hy,decide_false] at e
    exact ih h2 e
theorem bP:OpF K (Fs K) aIx:=⟨by
 intro F H x y d e Q P s hx hy f n
 cases d with
 | lst ds =>
  cases e with
  | int i =>
   unfold aIx at f
   dsimp only at f
   cases hd:L2.atI ds i with
   | none=>rw [hd] at f; exact False.elim f
   | some d =>
    rw [hd] at f
    obtain ⟨a,xs,rfl,h1,h2⟩:=hx.asL s
    obtain ⟨v,h3,h4⟩:=h2.atI hd
    exact .inl (.inl ⟨a,xs,_,v,rfl,hy.int_eq,h1,h3,bo s n h4 f⟩)
  | _=>exact False.elim f
 | tup ds =>
  cases e with
  | int i =>
   unfold aIx at f
   dsimp only at f
   cases hd:L2.atI ds i with
   | none=>rw [hd] at f; exact False.elim f
   | some d =>
    rw [hd] at f
    obtain ⟨a,xs,rfl,h1,h2⟩:=hx.asT s
    obtain ⟨v,h3,h4⟩:=h2.atI hd
    exact .inl (.inr (.inl ⟨a,xs,_,v,rfl,hy.int_eq,h1,h3,bo s n h4 f⟩))
  | _=>exact False.elim f
 | str z =>
  cases e with
  | int i =>
   obtain ⟨f1,f⟩:=f
   cases hc:L2.atI z.cps.toList i with
   | none=>rw [hc] at f; exact False.elim f
   | some c =>
    rw [hc] at f
    exact .inl (.inr (.inr ⟨_,_,c,hx.str_eq,hy.int_eq,f1,hc,bo s n (.str _) f⟩))
  | _=>exact False.elim f
 | dct ks ds =>
  unfold aIx at f
  dsimp only at f
  cases hk:uN e with
  | none=>rw [hk] at f; exact False.elim f
  | some k =>
   rw [hk] at f
   dsimp only at f
   cases hd:vE ks ds k with
   | none=>rw [hd] at f; exact False.elim f
   | some d =>
    rw [hd] at f
    obtain ⟨a,ys,rfl,h1,h2,h3⟩:=hx.asD s
    obtain ⟨v,h4,h5⟩:=oI h2 h3 hd
    exact .inr ⟨a,v,rfl,by rw [nz hy hk,← h4]; exact DGet.kR h1,bo s n h5 f⟩
 | _=>exact False.elim f⟩
def vF (n:Nat)(lo hi:Option Int):Prop:=¬ (HT.sIx n 0 lo=0∧HT.sIx n n hi=n)
def gZ (z:Str)(lo hi:Option Int):Str:=⟨(dR z.cps.toList lo hi).toArray⟩
def aSl:D→Option Int→Option Int→(OV→Prop)→Prop
 | .str z,lo,hi,P=>z.length≤sizeLine∧P (.fz (.str (gZ z lo hi)))
 | .lst ds,lo,hi,P=>P (.fl (dR ds lo hi))
 | .tup ds,lo,hi,P=>vF ds.length lo hi∧P (.fz (.tup (dR ds lo hi)))
 | _,_,_,_=>False
theorem Dens.cut {F:Hp}{xs:List V}{ds:List D}{lo hi:Option Int}(h:Dens K F xs ds):Dens K F (dR xs lo hi) (dR ds lo hi):=by
 unfold dR
 rw [h.length]
 exact (h.drop _).take _
theorem g0:SlF K (Cq K) aSl:=⟨by
 intro F H x d lo hi Q P s hx f n
 cases d with
 | str z =>
  refine .inl ⟨_,hx.str_eq,f.1,fun y hy=>?_⟩
  have e:y=gZ z lo hi:=gh (hy.trans (by simp [gZ]))
  rw [e]
  exact bo s n (.str _) f.2
 | lst ds =>
  obtain ⟨a,xs,rfl,h1,h2⟩:=hx.asL s
  exact .inr (.inl ⟨a,xs,rfl,h1,eG s n h2.cut f⟩)
 | tup ds =>
  obtain ⟨a,xs,rfl,h1,h2⟩:=hx.asT s
  exact .inr (.inr ⟨a,xs,rfl,h1,by rw [h2.length]; exact f.1,iL s n h2.cut f.2⟩)
 | _=>exact False.elim f⟩
def gP:List D→(OV→Prop)→Prop
 | [.str z],P=>z.length≤sizeLine∧P (.fz (.int z.length))
 | [.lst ds],P=>P (.fz (.int ds.length))
 | [.tup ds],P=>P (.fz (.int ds.length))
 | [.dct ks _],P=>P (.fz (.int ks.length))
 | _,_=>False
theorem cK:CallF K (D0 K) gP:=⟨by
 intro F H xs ds Q P s ha f n
 cases ds with
 | nil=>exact False.elim f
 | cons d tl =>
 cases d with
 | str z =>
  cases tl with
  | cons _ _=>exact False.elim f
  | nil =>
  obtain ⟨x,rfl,a⟩:=dZ ha
  exact .inl ⟨_,by rw [a.str_eq],f.1,bo s n (.int _) f.2⟩
 | lst ds =>
  cases tl with
  | cons _ _=>exact False.elim f
  | nil =>
  obtain ⟨x,rfl,a⟩:=dZ ha
  obtain ⟨p,ys,rfl,h1,h2⟩:=a.asL s
  exact .inr (.inl ⟨p,ys,rfl,.inl h1,by rw [h2.length]; exact bo s n (.int _) f⟩)
 | tup ds =>
  cases tl with
  | cons _ _=>exact False.elim f
  | nil =>
  obtain ⟨x,rfl,a⟩:=dZ ha
  obtain ⟨p,ys,rfl,h1,h2⟩:=a.asT s
  exact .inr (.inl ⟨p,ys,rfl,.inr h1,by rw [h2.length]; exact bo s n (.int _) f⟩)
 | dct ks es =>
  cases tl with
  | cons _ _=>exact False.elim f
  | nil =>
  obtain ⟨x,rfl,a⟩:=dZ ha
  obtain ⟨p,ys,rfl,h1,h2,h3⟩:=a.asD s
  subst h2
  have f:P (.fz (.int (ys.map (·.1)).length)):=f
  rw [List.length_map] at f
  exact .inr (.inr ⟨p,ys,rfl,h1,bo s n (.int _) f⟩)
 | _=>exact False.elim f⟩
def ES:List D→(OV→Prop)→Prop
 | [.int i,.int j],P=>P (.fz (.int (if j > i then j else i)))
 | _,_=>False
def Fv:List D→(OV→Prop)→Prop
 | [.int i,.int j],P=>P (.fz (.int (if j < i then j else i)))
 | _,_=>False
theorem xQ:CallF K EJ ES:=⟨by
 intro F H xs ds Q P s ha f n
 cases ds with
 | nil=>exact False.elim f
 | cons d tl =>
 cases d with
 | int i =>
  cases tl with
  | nil=>exact False.elim f
  | cons e tl =>
  cases e with
  | int j =>
   cases tl with
   | cons _ _=>exact False.elim f
   | nil =>
   obtain ⟨x,y,rfl,a,b⟩:=oB ha
   exact ⟨_,_,by rw [a.int_eq,b.int_eq],bo s n (.int _) f⟩
  | _=>exact False.elim f
 | _=>exact False.elim f⟩
theorem Da:CallF K EK Fv:=⟨by
 intro F H xs ds Q P s ha f n
 cases ds with
 | nil=>exact False.elim f
 | cons d tl =>
 cases d with
 | int i =>
  cases tl with
  | nil=>exact False.elim f
  | cons e tl =>
  cases e with
  | int j =>
   cases tl with
   | cons _ _=>exact False.elim f
   | nil =>
   obtain ⟨x,y,rfl,a,b⟩:=oB ha
   exact ⟨_,_,by rw [a.int_eq,b.int_eq],bo s n (.int _) f⟩
  | _=>exact False.elim f
 | _=>exact False.elim f⟩
def cIs:List D→(OV→Prop)→Prop
 | [d,.ty T],P=>(xL (tyD d)=true∧xL T=true)∧P (.fz (.bl (isT (tyD d) T)))
 | _,_=>False
theorem g5:CallF K (ER K) cIs:=⟨by
 intro F H xs ds Q P s ha f n
 cases ds with
 | nil=>exact False.elim f
 | cons d ds =>
 cases ds with
 | nil=>exact False.elim f
 | cons e ds =>
 cases e with
 | ty T =>
  cases ds with
  | cons _ _=>exact False.elim f
  | nil =>
  obtain ⟨x,y,rfl,a,b⟩:=oB ha
  exact ⟨x,_,_,by rw [b.ty_eq],a.den s,f.1.1,f.1.2,bo s n (.bl _) f.2⟩
 | _=>exact False.elim f⟩
def la:List D→Option (List Bool)
 | []=>some []
 | .bl b::ds=>(la ds).map (b::·)
 | _::_=>none
theorem oJ:∀ {ds:List D} {bs:List Bool},la ds=some bs→ds=bs.map .bl
 | [],_,h=>by simp only [la,Option.some.injEq] at h; subst h; rfl
 | d::ds,bs,h=>by
  cases d <;> simp [la] at h
  obtain ⟨cs,h1,rfl⟩:=h
  rw [oJ h1]; rfl
theorem mz:∀ bs:List Bool,la (bs.map .bl)=some bs
 | []=>rfl
 | b::bs=>by rw [List.map_cons,la,mz bs]; rfl
def zV:List D→(OV→Prop)→Prop
 | [.lst ds],P=>(match la ds with
  | some bs=>P (.fz (.bl (bs.all id)))
  | none=>False)
 | _,_=>False
theorem mC:CallF K (D1 K) zV:=⟨by
 intro F H xs ds Q P s ha f n
 cases ds with
 | nil=>exact False.elim f
 | cons d tl =>
 cases d with
 | lst ds =>
  cases tl with
  | cons _ _=>exact False.elim f
  | nil =>
  obtain ⟨x,rfl,a⟩:=dZ ha
  obtain ⟨p,ys,rfl,h1,h2⟩:=a.asL s
  unfold zV at f
  dsimp only at f
  cases hb:la ds with
  | none=>rw [hb] at f; exact False.elim f
  | some bs =>
   rw [hb] at f
   rw [oJ hb] at h2
   exact ⟨p,bs,rfl,by rw [← h2.bls_eq]; exact h1,bo s n (.bl _) f⟩
 | _=>exact False.elim f⟩
def D6:Key→D
 | .inl i=>.int i
 | .inr z=>.str z
theorem jh {F:Hp}:∀ (ks:List Key),Dens K F (ks.map kV) (ks.map D6)
 | []=>.nil
 | .inl i::ks=>.cons (.int i) (jh ks)
 | .inr z::ks=>.cons (.str z) (jh ks)
def zW:List D→(OV→Prop)→Prop
 | [.lst ds],P=>P (.fl ds)
 | [.tup ds],P=>P (.fl ds)
 | [.dct ks _],P=>P (.fl (ks.map D6))
 | _,_=>False
theorem sK:CallF K (si K) zW:=⟨by
 intro F H xs ds Q P s ha f n
 cases ds with
 | nil=>exact False.elim f
 | cons d tl =>
 cases d with
 | lst ds =>
  cases tl with
  | cons _ _=>exact False.elim f
  | nil =>
  obtain ⟨x,rfl,a⟩:=dZ ha
  obtain ⟨p,ys,rfl,h1,h2⟩:=a.asL s
  exact so h1 (eG s n h2 f)
 | tup ds =>
  cases tl with
  | cons _ _=>exact False.elim f
  | nil =>
  obtain ⟨x,rfl,a⟩:=dZ ha
  obtain ⟨p,ys,rfl,h1,h2⟩:=a.asT s
  exact sq h1 (eG s n h2 f)
 | dct ks es =>
  cases tl with
  | cons _ _=>exact False.elim f
  | nil =>
  obtain ⟨x,rfl,a⟩:=dZ ha
  obtain ⟨p,ys,rfl,h1,h2,h3⟩:=a.asD s
  refine p8 h1 (eG s n ?_ f)
  have e:(ys.map fun kv=>kV kv.1)=(ys.map (·.1)).map kV:=by rw [List.map_map]; rfl
  rw [e,h2]
  exact jh _
 | _=>exact False.elim f⟩
def ji:List D→(OV→Prop)→Prop
 | [.lst ds],P=>P (.fz (.tup ds))
 | [.tup ds],P=>P (.fz (.tup ds))
 | _,_=>False
theorem iM:CallF K (sj K) ji:=⟨by
 intro F H xs ds Q P s ha f n
 cases ds with
 | nil=>exact False.elim f
 | cons d tl =>
 cases d with
 | lst ds =>
  cases tl with
  | cons _ _=>exact False.elim f
  | nil =>
  obtain ⟨x,rfl,a⟩:=dZ ha
  obtain ⟨p,ys,rfl,h1,h2⟩:=a.asL s
  exact p9 h1 (iL s n h2 f)
 | tup ds =>
  cases tl with
  | cons _ _=>exact False.elim f
  | nil =>
  obtain ⟨x,rfl,a⟩:=dZ ha
  have a':=a
  obtain ⟨p,ys,rfl,h1,h2⟩:=a.asT s
  refine ⟨p,ys,rfl,.inr ⟨h1,?_⟩⟩
  cases a' with
  | fz h=>exact bo s n h f
 | _=>exact False.elim f⟩
def fj:List D→Option (List Str)
 | []=>some []
 | .str z::ds=>(fj ds).map (z::·)
 | _::_=>none
theorem gF:∀ {ds:List D} {zs:List Str},fj ds=some zs→ds=zs.map .str
 | [],_,h=>by simp only [fj,Option.some.injEq] at h; subst h; rfl
 | d::ds,bs,h=>by
  cases d <;> simp [fj] at h
  obtain ⟨cs,h1,rfl⟩:=h
  rw [gF h1]; rfl
theorem j8:∀ zs:List Str,fj (zs.map .str)=some zs
 | []=>rfl
 | b::bs=>by rw [List.map_cons,fj,j8 bs]; rfl
def nG:List Key→Option (List Str)
 | []=>some []
 | .inr z::ks=>(nG ks).map (z::·)
 | .inl _::_=>none
def cSort:List D→(OV→Prop)→Prop
 | [.lst ds],P=>(match fj ds with
  | some zs=>zs.length < 64∧P (.fl ((mx zs).map .str))
  | none=>False)
 | [.dct ks _],P=>(match nG ks with
  | some zs=>zs.length < 64∧P (.fl ((mx zs).map .str))
  | none=>False)
 | _,_=>False
def xR (P:Program)(w:World)(K:PySem.W.Frag):List V→Hp→VK→Prop:=fun xs H Q=>sh P w K xs H Q∨∃ p kvs zs,xs=[.ref p]∧Rd H p (.dK kvs)∧kvs.map (·.1)=zs.map Sum.inr∧kvs.length < 64∧∀ q ss,H q=none→ss.Perm zs→sortedS ss=true→Q (.ref q) (upd H q (.lst (ss.map .str)))
def ET:List D→(OV→Prop)→Prop
 | [.str z],P=>(match z.cps.toList with
  | [c]=>P (.fz (.int c))
  | _=>False)
 | _,_=>False
theorem Db:CallF K Fu ET:=⟨by
 intro F H xs ds Q P s ha f n
 unfold ET at f
 split at f
 ·split at f
  ·rename_i c hc
   obtain ⟨x,rfl,a⟩:=dZ ha
   exact ⟨c,by rw [a.str_eq,xO hc],bo s n (.int _) f⟩
  ·exact f.elim
 ·exact f.elim⟩
def mD (zs:List Str):List Str:=zs.foldl (fun acc z=>KS.dedup1 acc z) []
theorem g6:∀ (zs acc:List Str),acc.Nodup→(zs.foldl (fun acc z=>KS.dedup1 acc z) acc).Nodup∧∀ k,k ∈ zs.foldl (fun acc z=>KS.dedup1 acc z) acc↔k ∈ acc∨k ∈ zs
 | [],acc,h=>⟨h,fun k=>by simp⟩
 | z::zs,acc,h=>by
  obtain ⟨h1,h2⟩:=g6 zs (KS.dedup1 acc z) (ir h)
  refine ⟨h1,fun k=>?_⟩
  rw [List.foldl_cons,h2 k,j2,List.mem_cons]
  constructor
  ·rintro ((a | a) | a)
   ·exact .inl a
   ·exact .inr (.inl a)
   ·exact .inr (.inr a)
  ·rintro (a | a | a)
   ·exact .inl (.inl a)
   ·exact .inl (.inr a)
   ·exact .inr a
theorem iy (zs:List Str):(mD zs).Nodup:=(g6 zs [] List.nodup_nil).1
theorem j9 {zs:List Str}{k:Str}:k ∈ mD zs↔k ∈ zs:=by
 have:=(g6 zs [] List.nodup_nil).2 k
 simpa [mD] using this
def lb (zs:List Str):List Str:=mx (mD zs)
theorem iO {zs:List Str}{k:Str}:k ∈ lb zs↔k ∈ zs:=by rw [lb,(fI _).mem_iff,j9]
theorem g7 (zs:List Str):(lb zs).Nodup:=(fI _).nodup_iff.mpr (iy zs)
theorem nH (zs:List Str):(lb zs).Pairwise fun a b=>d6 a b=true:=ix _
theorem gl {a b:List Str}(ha:a.Nodup)(hb:b.Nodup)(h:∀ k,k ∈ a↔k ∈ b):a.Perm b:=(List.perm_ext_iff_of_nodup ha hb).mpr h
theorem jj {zs ss:List Str}(hn:ss.Nodup)(hm:∀ k,k ∈ ss↔k ∈ zs)(hs:ss.Pairwise fun a b=>d6 a b=true):ss=lb zs :=
 jg (gl hn (iy zs) fun k=>(hm k).trans j9.symm) hs
def lc (fe:FE):FE:=fun ρ Q=>fe ρ fun r ρ1=>on1 ρ1 r fun d=>match d with
 | .lst ds=>(match fj ds with
  | some zs=>(zs.length+1 < scanBound∧(lb zs).length < 64)∧Q (.ov (.fl ((lb zs).map .str))) ρ1
  | none=>False)
 | _=>False
theorem qf {P:Program}{w:World}{te:TE}{fe:FE}(he:EF K μ te fe):EF K μ (tCB (xR P w K) (fV (tCB (D4 P w K) (fV te m7)) m7)) (lc fe):=⟨by
 intro F Z H τ σ ρ A Q Pq vw R h q
 refine he.h vw R h fun r ρ1 v F1 H1 A1 B1 h1 s1 R1 v1 f1=>?_
 obtain ⟨d,e1,h2⟩:=db h1
 split at h2
 ·split at h2
  ·rename_i zs hz
   obtain ⟨p,ys,rfl,a1,a2⟩:=(R1.acc v1 e1).asL R1.fh
   rw [gF hz] at a2
   rw [a2.strs_eq] at a1
   refine ⟨p,zs,rfl,a1,h2.1.1,fun l τs hl hm hn _=>?_⟩
   refine .inl ⟨l,τs,rfl,.inl bn,?_,fun l2 ss hl2 hp hs=>?_⟩
   ·have hp:τs.Perm (lb zs):=gl hn (g7 zs) fun k=>(hm k).trans iO.symm
    rw [hp.length_eq]; exact h2.1.2
   ·have e:ss=lb zs:=jj (hp.nodup_iff.mpr hn) (fun k=>(hp.mem_iff).trans (hm k)) (eL ss hs)
    subst e
    have pu:=(Pure.new (o:=CD P w l τs) R1.fh hl).trans (Pure.new (p:=l2) (o:=.lst ((lb zs).map .str)) (R1.fh.trans (ck hl)) hl2)
    have hl2':H1 l2=none:=(ck hl).free hl2
    exact R1.after (P:=fun o=>Pq (.ov o) ρ1) (fun o v F3 H3 B p s3 R3 ow fr=>q _ _ _ _ _ _ _ p (s1.trans s3) R3 ow fr) _ _ F1 _ [l2] h2.2 pu (.fl bn (Dens.strs _)) (New.one hl2' (R1.fh.free hl2'))
  ·exact h2.elim
 ·exact h2.elim⟩
end
end L2
set_option maxHeartbeats 4000000
namespace KS
open PySem PySem.Spec PyProof.Rows
theorem vG {x:Int}{v:Value}(h:Value.isInt x v=true):numOf v=x:=by
 obtain ⟨t,rfl⟩:=Value.isInt_shape h; rfl
section
variable {prog:Program} {w:World} {A:Around} {E:Value→Shared→Prop} {s:Shared}
theorem sorted_setI {a:Addr}{σ:List Int}{Q:Value→Shared→Prop}(hh:A.handled=none)(hS:SetZ (PySem.intKind prog w) s.heap a σ (!byText w))(h64:σ.length < 64)
  (hQ:∀ (p:Addr) (out:List Value) (ss:List Int) (e:Nat) (h':Heap) (d':Drawn) (tk:Nat),s.heap.objs.size≤p→h'.get? p=some (seqObj "list" out.toArray e)→IntsAre out ss→ss.Perm σ→ss.Pairwise (·≤·) →
   (∀ b o,s.heap.get? b=some o→h'.get? b=some o)→Q (.ref p) { s with heap:=h',drawn:=d',toks:=tk }) :
  wpAny (model prog w) A (call (.builtin "sorted") [.ref a]) Q E s:=by
 obtain ⟨o,es,ep,t,ho,hex,hd,hE,hmem,hb,hf,hsz,hnd,hled,hpl⟩:=hS
 refine Calls.call_function_entry kind_sorted plain_sorted entry_sorted (args_sorted1 _) ?_
 unfold Builtin.«sorted»
 refine wpAny_bind (m:=checkCount "sorted" 1 1 _) (wpAny_pure ?_)
 refine wpAny_bind (i9 (by first|exact List.mem_singleton.mp hh|simpa using hh) ho hex hd hf hb hled hpl fun vs h' d' tk hperm hlt hk=>?_)
 have hlen:vs.length=σ.length:=by rw [hperm.length_eq,List.length_map,Array.length_toList]; exact hsz
 refine wpAny_bind (wpAny_newList ?_ (hsz:=by rw [sizeLine_eq]; nofun))
 show wpAny _ _ _ _ _ { s with heap:=h'.push (seqObj "list" vs.toArray 0),drawn:=d',toks:=tk }
 have hoL:(h'.push (seqObj "list" vs.toArray 0)).get? h'.objs.size=some (seqObj "list" vs.toArray 0):=Heap.get?_push_size _ rfl
 have hstr:∀ v ∈ vs,∃ x t,v=.int x t:=fun v hv=>by
  have hv':=hperm.mem_iff.mp hv
  obtain ⟨e,he,rfl⟩:=List.mem_map.mp hv'
  obtain ⟨⟨k,hk,_⟩,_⟩:=hE e he
  obtain ⟨t,q⟩:=Value.isInt_shape hk
  exact ⟨k,t,q⟩
 have hSA:=intsAre_map vs hstr
 have hps:(vs.map numOf).Perm σ:=by
  refine gk σ _ hnd (fun k hk=>?_) (by rw [List.length_map,hlen])
  obtain ⟨e,he,hke⟩:=(hmem k).mp hk
  refine List.mem_map.mpr ⟨e.2,hperm.mem_iff.mpr (List.mem_map.mpr ⟨e,he,rfl⟩),vG hke⟩
 have hle:s.heap.objs.size≤h'.objs.size:=Nat.le_of_lt hlt
 refine wpAny_bind (wpAny_holding (wpAny_call_entry slot_list_sort ⟨_,hoL,rfl⟩ entry_list_sort (list_sort_tree hoL hSA (by rw [hlen]; exact h64) fun out ss' b1 b2 b3=>⟨_,rfl,?_⟩) (args_list_sort _)))
 obtain ⟨e',he'⟩:=sortedHeap_at (out:=out) hoL
 refine wpAny_pure ⟨_,rfl,hQ h'.objs.size out.toList ss' e' _ d' tk hle (by rw [Array.toArray_toList]; exact he') b1 (b2.trans hps) b3 fun b ob hb=>?_⟩
 have hbl:b < h'.objs.size:=Nat.lt_of_lt_of_le (Heap.lt_size hb) hle
 rw [sortedHeap_old (Nat.ne_of_lt hbl) (by rw [size_push']; exact Nat.lt_succ_of_lt hbl)]
 exact Heap.get?_push_of_some _ (hk b ob hb)
end
end KS
namespace L2
open PySem PySem.Spec PyProof.Rows
theorem iz:∀ {vs:List Value} {ss:List Int},IntsAre vs ss→Vals (ss.map V.int) vs
 | _,_,.nil=>.nil
 | _,_,.cons y t h=>.cons ⟨t,rfl⟩ (iz h)
theorem iA:∀ {ss:List Int} {vs:List Value},Vals (ss.map V.int) vs→IntsAre vs ss
 | [],_,.nil=>.nil
 | s::ss,_,.cons ⟨t,e⟩ r=>by subst e; exact .cons s t (iA r)
theorem xS:∀ {vs:List Value} {ss:List Int} {i:Nat} {v:Value},IntsAre vs ss→vs[i]?=some v→∃ t,v=.int (ss.getD i 0) t
 | _,_,_,_,.nil,e=>by simp at e
 | _,_,0,_,.cons y t h,e=>by simp at e; exact ⟨t,by rw [← e]; rfl⟩
 | _,_,i+1,v,.cons y t h,e=>by
  obtain ⟨u,q⟩:=xS (i:=i) (v:=v) h (by first|exact List.mem_singleton.mp e|simpa using e)
  exact ⟨u,by first|exact List.mem_singleton.mp q|simpa using q⟩
theorem IntsAre.len:∀ {vs:List Value} {ss:List Int},IntsAre vs ss→vs.length=ss.length
 | _,_,.nil=>rfl
 | _,_,.cons _ _ h=>by simp [IntsAre.len h]
def vH (P:Program)(w:World)(q:Addr)(σ:List Int):HO:=.ext fun h=>KS.SetZ (PySem.intKind P w) h q σ (!KS.byText w)
section
variable {X:Cx}
def zX (P:Program)(w:World)(K:PySem.W.Frag):List V→Hp→VK→Prop:=fun xs H Q=>∃ (p:Addr) (zs:List Int),xs=[.ref p]∧SqL K H p (zs.map .int)∧zs.length+1 < scanBound ∧
 ∀ q σ,H q=none→(∀ k,k ∈ σ↔k ∈ zs)→σ.Nodup→σ.length≤zs.length→Q (.ref q) (upd H q (vH P w q σ))
theorem sL (hc:X.calm=true):CallR X (.type "set") (zX X.prog X.w X.K):=by
 intro pins s σ H xs us Q I r h
 obtain ⟨p,zs,rfl,hq,hz,q⟩:=h
 obtain ⟨u,rfl,rx⟩:=eM r
 cases rx
 obtain ⟨its,r',pl,hz'⟩:=I.list hq
 have hS:=iA r'
 have hlen:=IntsAre.len hS
 refine KS.set_of_list (knd:=PySem.intKind X.prog X.w) (I.ok.hd hc) pl.isList (fun i=>zs.getD i 0) (fun i v e=>?_) (by simp only [List.size_toArray]; nofun) fun h' tk hZ hk=>?_
 ·obtain ⟨t,rfl⟩:=xS (i:=i) hS (by first|exact List.mem_singleton.mp e|simpa using e)
  exact ⟨by simp [PySem.intKind,Value.isInt],rfl⟩
 ·have hmem:∀ k,k ∈ KS.metZ (fun i=>zs.getD i 0) its.toArray.size↔k ∈ zs:=fun k=>by
   rw [KS.metZ_mem]
   simp only [List.size_toArray,hlen]
   constructor
   ·rintro ⟨j,hj,rfl⟩
    rw [List.getD,List.getElem?_eq_getElem hj]; exact List.getElem_mem hj
   ·intro hk
    obtain ⟨j,hj,e⟩:=List.getElem_of_mem hk
    exact ⟨j,hj,by rw [List.getD,List.getElem?_eq_getElem hj]; exact e⟩
  have hZ':=id hZ
  obtain ⟨o,es,ep,t,ho,_,_,_,_,_,_,_,hnd,_,_⟩:=hZ'
  refine ⟨.ref s.heap.objs.size,_,I.laid (t':=tk) (o:=vH X.prog X.w s.heap.objs.size (KS.metZ (fun i=>zs.getD i 0) its.toArray.size)) (fun b o e=>hk b o (Heap.lt_size e) e) (Nat.le_refl _) ?_,rfl,q _ _ (I.hok.fresh (Nat.le_refl _)) hmem hnd ?_⟩
  ·exact ⟨hZ,⟨o,ho⟩,fun h1 h2 z k=>KS.SetZ.at z k⟩
  ·exact Nat.le_trans (KS.metZ_len _ _) (by simp only [List.size_toArray]; nofun)
def sM (P:Program)(w:World):List V→Hp→VK→Prop:=fun xs H Q=>∃ (p:Addr) (σ:List Int),xs=[.ref p]∧H p=some (vH P w p σ)∧σ.length < 64 ∧
 ∀ (q:Addr) (ss:List Int),H q=none→ss.Perm σ→ss.Pairwise (·≤·)→Q (.ref q) (upd H q (.lst (ss.map .int)))
theorem qg (hc:X.calm=true):CallR X (.builtin "sorted") (sM X.prog X.w):=by
 intro pins s σ H xs us Q I r h
 obtain ⟨p,τ,rfl,hq,hz,q⟩:=h
 obtain ⟨u,rfl,rx⟩:=eM r
 cases rx
 obtain ⟨hS,_,_⟩:=I.hok p _ hq
 refine KS.sorted_setI (I.ok.hd hc) hS hz fun q' out ss e h' d' tk hle hg hSA hp hs hk=>?_
 have hl:ss.length < 64:=by rw [hp.length_eq]; exact hz
 refine ⟨.ref q',_,I.laidD (t':=tk) (d':=d') (o:=.lst (ss.map .int)) hk hle ⟨?_,out,e,iz hSA,hg⟩,rfl,q q' ss (I.hok.fresh hle) hp hs⟩
 rw [List.length_map,sizeLine_eq]; nofun
theorem zY (P:Program)(w:World)(K:PySem.W.Frag)(hc:X.calm=true)(hP:X.prog=P)(hw:X.w=w)(h:X.K=K):BCall X (.type "set") (zX P w K):=by subst h hP hw; exact ⟨sL hc⟩
theorem vI (P:Program)(w:World)(hc:X.calm=true)(hP:X.prog=P)(hw:X.w=w):BCall X (.builtin "sorted") (sM P w):=by subst hP hw; exact ⟨qg hc⟩
end
section
variable {K:PySem.W.Frag} {μ:List Nat}
def iB:List D→Option (List Int)
 | []=>some []
 | .int i::r=>(iB r).map (i::·)
 | _=>none
theorem mE:∀ {ds:List D} {zs:List Int},iB ds=some zs→ds=zs.map .int
 | [],zs,h=>by simp only [iB,Option.some.injEq] at h; subst h; rfl
 | d::ds,zs,h=>by
  cases d <;> simp only [iB,Option.map_eq_some_iff,reduceCtorEq] at h
  obtain ⟨ys,h1,rfl⟩:=h
  rw [mE h1]; rfl
theorem ka:∀ zs:List Int,iB (zs.map .int)=some zs
 | []=>rfl
 | z::zs=>by simp only [List.map_cons,iB,ka zs,Option.map_some]
def sN (ss zs:List Int):Prop:=ss.Pairwise (· < ·)∧∀ k,k ∈ ss↔k ∈ zs
def mF (fe:FE):FE:=fun ρ Q=>fe ρ fun r ρ1=>on1 ρ1 r fun d=>match d with
 | .lst ds=>(match iB ds with
  | some zs=>zs.length < 64∧∀ ss,sN ss zs→Q (.ov (.fl (ss.map .int))) ρ1
  | none=>False)
 | _=>False
theorem nI {P:Program}{w:World}{te:TE}{fe:FE}(he:EF K μ te fe):EF K μ (tCB (sM P w) (fV (tCB (zX P w K) (fV te m7)) m7)) (mF fe):=⟨by
 intro F Z H τ σ ρ A Q Pq vw R h q
 refine he.h vw R h fun r ρ1 v F1 H1 A1 B1 h1 s1 R1 v1 f1=>?_
 obtain ⟨d,e1,h2⟩:=db h1
 split at h2
 ·split at h2
  ·rename_i zs hz
   obtain ⟨p,ys,rfl,a1,a2⟩:=(R1.acc v1 e1).asL R1.fh
   rw [mE hz] at a2
   rw [a2.ints_eq] at a1
   have sb:(64:Nat) < scanBound:=by decide
   refine ⟨p,zs,rfl,a1,by nofun,fun l τs hl hm hn hln=>?_⟩
   refine ⟨l,τs,rfl,bn,by nofun,fun l2 ss hl2 hp hs=>?_⟩
   have hss:sN ss zs:=by
    refine ⟨?_,fun k=>hp.mem_iff.trans (hm k)⟩
    have hnd:ss.Nodup:=hp.nodup_iff.mpr hn
    exact (hs.and hnd).imp fun ⟨x,y⟩=>by nofun
   have pu:=(Pure.new (o:=vH P w l τs) R1.fh hl).trans (Pure.new (p:=l2) (o:=.lst (ss.map .int)) (R1.fh.trans (ck hl)) hl2)
   have hl2':H1 l2=none:=(ck hl).free hl2
   exact R1.after (P:=fun o=>Pq (.ov o) ρ1) (fun o v F3 H3 B p s3 R3 ow fr=>q _ _ _ _ _ _ _ p (s1.trans s3) R3 ow fr) _ _ F1 _ [l2] (h2.2 ss hss) pu (.fl bn (Dens.ints _)) (New.one hl2' (R1.fh.free hl2'))
  ·exact h2.elim
 ·exact h2.elim⟩
theorem zZ {zs:List Int}{Q:List Int→Prop}(q:Q zs):match iB (zs.map .int) with
  | some zs=>Q zs
  | none=>False:=by
 rw [ka]; exact q
end
end L2
set_option maxHeartbeats 4000000
namespace L2
open PySem PySem.Spec PyProof.Rows PySem.W
def Good (n:Nat){α:Type}(Post:α→Prop):KasT α→Prop
 | .ret a=>Post a
 | .ask i j k=>i < n∧j < n∧∀ b,Good n Post (k b)
theorem Good.bind {n:Nat}{α β:Type}{Post:α→Prop}{Post':β→Prop}{f:α→KasT β}:∀ {t:KasT α},Good n Post t→(∀ a,Post a→Good n Post' (f a))→Good n Post' (t.bind f)
 | .ret a,h,k=>k a h
 | .ask i j g,h,k=>⟨h.1,h.2.1,fun b=>Good.bind (h.2.2 b) k⟩
theorem Good.run {n:Nat}{α:Type}{Post:α→Prop}{cmp:Nat→Nat→(Bool→Shared→Prop)→Shared→Prop}{G:α→Shared→Prop}{s:Shared}(hc:∀ i j C,i < n→j < n→(∀ b,C b s)→cmp i j C s):∀ {t:KasT α},Good n Post t→(∀ a,Post a→G a s)→t.kasWp cmp G s
 | .ret a,h,k=>k a h
 | .ask i j g,h,k=>hc i j _ h.1 h.2.1 fun b=>Good.run hc (h.2.2 b) k
def IsPerm (n:Nat)(p:Array Nat):Prop:=p.toList.Perm (List.range n)
theorem IsPerm.lt {n:Nat}{p:Array Nat}(h:IsPerm n p)(hn:0 < n)(i:Nat):p.getD i 0 < n:=by
 by_cases hi:i < p.size
 ·have e:p.getD i 0=p[i]:=by simp [Array.getD,hi]
  rw [e]
  have:p[i] ∈ p.toList:=by simp
  exact List.mem_range.mp (h.mem_iff.mp this)
 ·have e:p.getD i 0=0:=by simp [Array.getD,hi]
  rw [e]; exact hn
theorem IsPerm.rev {n:Nat}{p:Array Nat}(h:IsPerm n p)(i j:Nat):IsPerm n (kas_rev p i j):=(Array.perm_iff_toList_perm.mp (mirror_perm p i j ((j - i) / 2))).trans h
theorem IsPerm.bubble {n:Nat}{p:Array Nat}(h:IsPerm n p)(i j:Nat):IsPerm n (PyProof.Rows.bubble p i j):=(Array.perm_iff_toList_perm.mp (bubble_perm p i j)).trans h
theorem lf {n:Nat}(hn:0 < n){p:Array Nat}(h:IsPerm n p):∀ (f k:Nat),Good n (fun _=>True) (kas_asc p f k)
 | 0,k=>trivial
 | f+1,k=>⟨h.lt hn _,h.lt hn _,fun b=>by
  cases b with
  | true=>exact trivial
  | false=>exact lf hn h f (k+1)⟩
theorem gG {n:Nat}(hn:0 < n):∀ (f:Nat) (p:Array Nat) (k q:Nat),IsPerm n p→Good n (fun r=>IsPerm n r.1) (kas_desc f p k q)
 | 0,p,k,q,h=>h
 | f+1,p,k,q,h=>⟨h.lt hn _,h.lt hn _,fun b=>by
  cases b with
  | true =>
   dsimp only; rw [if_pos rfl]
   split
   ·exact gG hn f _ _ _ (h.rev _ _)
   ·exact gG hn f _ _ _ h
  | false =>
   dsimp only; rw [if_neg Bool.false_ne_true]
   exact ⟨h.lt hn _,h.lt hn _,fun d=>by
    cases d with
    | true=>dsimp only; rw [if_pos rfl]; exact h
    | false=>dsimp only; rw [if_neg Bool.false_ne_true]; exact gG hn f _ _ _ h⟩⟩
theorem mG {n:Nat}(hn:0 < n){p:Array Nat}(h:IsPerm n p)(a b:Nat):Good n (fun r=>IsPerm n r.2) (kas_tail3 a b p):=(lf hn (h.rev 0 a) _ _).bind fun m _=>h.rev 0 a
theorem gH {n:Nat}(hn:0 < n){p:Array Nat}(h:IsPerm n p)(a b:Nat):Good n (fun r=>IsPerm n r.2) (kas_descPart a b p):=(gG hn _ _ _ _ h).bind fun r hr=>by
 split
 ·exact mG hn (hr.rev _ _) _ _
 ·exact mG hn hr _ _
theorem qh {n:Nat}(hn:0 < n){p:Array Nat}(h:IsPerm n p)(b:Nat):Good n (fun r=>IsPerm n r.2) (kas_count b p):=(lf hn h _ _).bind fun r _=>by
 split
 ·exact h
 ·split
  ·exact ⟨h.lt hn _,h.lt hn _,fun c=>by
    cases c with
    | true=>dsimp only; rw [if_pos rfl]; exact h
    | false=>dsimp only; rw [if_neg Bool.false_ne_true]; exact gH hn (h.rev _ _) _ _⟩
  ·exact gH hn h _ _
theorem g8 {n:Nat}(hn:0 < n){p:Array Nat}(h:IsPerm n p)(k:Nat):∀ (f l r:Nat),Good n (fun _=>True) (kas_place p k f l r)
 | 0,l,r=>trivial
 | f+1,l,r=>by
  unfold kas_place
  split
  ·exact trivial
  ·exact ⟨h.lt hn _,h.lt hn _,fun c=>by
    cases c with
    | true=>dsimp only; rw [if_pos rfl]; exact g8 hn h k f _ _
    | false=>dsimp only; rw [if_neg Bool.false_ne_true]; exact g8 hn h k f _ _⟩
theorem oK {n:Nat}(hn:0 < n):∀ (f:Nat) (p:Array Nat) (k:Nat),IsPerm n p→Good n (IsPerm n) (kas_bin f p k)
 | 0,p,k,h=>h
 | f+1,p,k,h=>(g8 hn h k _ _ _).bind fun l _=>oK hn f _ _ (h.bubble _ _)
theorem sO {n:Nat}(hn:0 < n):Good n (IsPerm n) (kas_sort n):=(qh hn (show IsPerm n (List.toArray (List.range n)) from List.Perm.refl _) n).bind fun r hr=>by
 split
 ·exact oK hn _ _ _ hr
 ·exact hr
section
variable {prog:Program} {w:World} {A:Around} {E:Value→Shared→Prop} {s:Shared}
theorem qi {l:Addr}{vs:List Value}{Q:Value→Shared→Prop}(hl:s.heap.IsList l vs.toArray)(few:vs.length < 2)(h:Q (.ref (s.heap.objs.size+1)) { s with heap:=sortedAll s.heap vs (pairsOf vs |>.map (·.2)) }) :
  wpAny (model prog w) A (call (.builtin "sorted") [.ref l]) Q E s:=by
 refine Calls.call_function_entry kind_sorted plain_sorted entry_sorted (args_sorted1 _) ?_
 unfold Builtin.«sorted»
 refine wpAny_bind (m:=checkCount "sorted" 1 1 _) (wpAny_pure (wpAny_bind (collect_list hl (wpAny_bind (wpAny_newList ?_)))))
 have z1:((s.heap.push (seqObj "list" #[] 0)).update s.heap.objs.size (Obj.mapSeq (·++vs.toArray))).objs.size=s.heap.objs.size+1:=(Heap.size_update ..).trans (size_push' ..)
 have top:(((s.heap.push (seqObj "list" #[] 0)).update s.heap.objs.size (Obj.mapSeq (·++vs.toArray))).push (seqObj "list" vs.toArray 0)).get? (s.heap.objs.size+1)=some (seqObj "list" vs.toArray 0):=z1 ▸ Heap.get?_push_size _ rfl
 show wpAny _ _ _ _ _ { s with heap:=((s.heap.push (seqObj "list" #[] 0)).update s.heap.objs.size (Obj.mapSeq (·++vs.toArray))).push (seqObj "list" vs.toArray 0) }
 rw [z1]
 refine wpAny_bind (wpAny_holding (wpAny_call_entry slot_list_sort ⟨_,top,rfl⟩ entry_list_sort ?_ (args_list_sort _)))
 generalize hG:((s.heap.push (seqObj "list" #[] 0)).update s.heap.objs.size (Obj.mapSeq (·++vs.toArray))).push (seqObj "list" vs.toArray 0)=G at top
 generalize ha:s.heap.objs.size+1=a at top
 have lt:a < G.objs.size:=Heap.lt_size top
 rw [list_sort_plain]
 refine wpAny_bind (listItems_at (s:={ s with heap:=G }) top rfl (wpAny_bind (listUpdate_at (s:={ s with heap:=G }) top rfl ?_)))
 obtain ⟨e1,o1⟩:∃ e1,(G.update a (Obj.mapSeq fun _=>#[])).get? a=some (seqObj "list" #[] e1):=⟨_,get?_update_seq top (fun _=>#[])⟩
 refine wpAny_bind (seqEpoch_at (s:={ s with heap:=G.update a (Obj.mapSeq fun _=>#[]) }) o1 rfl (wpAny_bind (wpAny_newTuple (wpAny_bind (wpAny_newList (wpAny_holding ?_))))))
 have o6:(((G.update a (Obj.mapSeq fun _=>#[])).push (seqObj "tuple" vs.toArray 0)).push (seqObj "list" #[] 0)).get? a=some (seqObj "list" #[] e1):=Heap.get?_push_of_some _ (Heap.get?_push_of_some _ o1)
 show wpAny (model prog w) _ _ _ E { s with heap:=((G.update a (Obj.mapSeq fun _=>#[])).push (seqObj "tuple" vs.toArray 0)).push (seqObj "list" #[] 0) }
 have h2:vs.toArray.size < 2:=by first|exact List.mem_singleton.mp few|simpa using few
 dsimp only
 rw [if_pos h2,if_pos h2]
 refine wpAny_bind (wpAny_pure ?_)
 rw [StateT.run_pure]
 refine wpAny_bind (wpAny_pure (wpAny_bind (seqEpoch_at o6 rfl (wpAny_bind (listUpdate_at o6 rfl ?_ (hsz2:=?_))))))
 ·simp only [bne_self_eq_false,Bool.false_eq_true,if_false]
  refine wpAny_pure ⟨_,rfl,wpAny_pure ⟨_,rfl,?_⟩⟩
  subst ha
  have e:sortedAll s.heap vs (pairsOf vs |>.map (·.2))=sortedHeap G (s.heap.objs.size+1) vs (pairsOf vs |>.map (·.2)):=by rw [← hG]; rfl
  rw [e] at h
  exact h
 ·rw [Array.size_map]; show (pairsOf vs).size≤_; rw [pairsOf_size,sizeLine_eq]; nofun
end
section
variable {prog:Program} {w:World} {A:Around} {s:Shared} {C:Bool→Shared→Prop} {bb fn:Bool}
theorem oM (hC:∀ b,C b s):∀ (l:List Value) (i:Nat),KatLex prog w A bb fn C (l.zip l) i s
 | [],i=>kat_nil (hC _)
 | v::l,i=>kat_cons (SeqAt.EqAt.same v prog w _ _ (kat_yes (oM hC l (i+1))))
theorem sP (hC:∀ b,C b s){a b:Str}{t u:Tok}{l:List (Value×Value)}(hne:a≠b):KatLex prog w A true fn C ((.str a t,.str b u)::l) 0 s:=by
 refine kat_cons (SeqAt.EqAt.str_str a t b u prog w _ _ ?_)
 rw [show (a == b)=false from beq_eq_false_iff_ne.mpr hne]
 refine kat_no ?_
 exact oneLt_str (hC _)
end
theorem ObjOk.get {P:Program}{w:World}{H:Hp}{h:Heap}{a:Addr}{o:HO}(x:ObjOk P w H h a o):∃ u,h.get? a=some u:=by
 cases o with
 | lst xs=>obtain ⟨_,_,_,_,e⟩:=x; exact ⟨_,e⟩
 | tup xs=>obtain ⟨_,_,_,_,e,_⟩:=x; exact ⟨_,e⟩
 | dK kvs=>obtain ⟨_,_,_,_,o,_,_,e,_⟩:=x; exact ⟨_,e⟩
 | dT kvs=>obtain ⟨_,_,_,_,o,_,_,e,_⟩:=x; exact ⟨_,e⟩
 | set S n=>obtain ⟨o,_,_,_,e,_⟩:=x; exact ⟨_,e⟩
 | ins C dx fs=>obtain ⟨_,_,_,e,_⟩:=x; exact ⟨_,e⟩
 | own y=>obtain ⟨_,e⟩:=x; exact ⟨_,e⟩
 | xd fs=>obtain ⟨_,⟨_,_,_,e,_⟩,_⟩:=x; exact ⟨_,e⟩
 | rng lo hi=>obtain ⟨_,_,_,e⟩:=x; exact ⟨_,e⟩
 | frz ob u=>obtain ⟨e,_⟩:=x; exact ⟨_,e⟩
 | tbl ps=>exact ⟨_,(show h.get? a=some _ from x)⟩
 | met f y=>exact ⟨_,(show h.get? a=some _ from x)⟩
 | ext φ=>obtain ⟨_,⟨_,e⟩,_⟩:=x; exact ⟨_,e⟩
section
variable {X:Cx}
def xT (K:PySem.W.Frag):List V→Hp→VK→Prop:=fun xs H Q=>∃ (p:Addr) (rows:List (Addr×Str×List V)),xs=[.ref p]∧SqL K H p (rows.map fun r=>.ref r.1)∧(∀ r ∈ rows,SqT K H r.1 (.str r.2.1::r.2.2))∧(rows.map (·.2.1)).Nodup∧rows.length < 64 ∧
 ∀ (q:Addr) (rows':List (Addr×Str×List V)),H q=none→rows'.Perm rows→Q (.ref q) (upd H q (.lst (rows'.map fun r=>.ref r.1)))
theorem mH:∀ {rows:List (Addr×Str×List V)} {us:List Value},Vals (rows.map fun r=>V.ref r.1) us→us=rows.map fun r=>.ref r.1
 | [],_,.nil=>rfl
 | r::rows,_,.cons h t=>by rw [List.map_cons,mH t,show _=Value.ref r.1 from h]
theorem jk:∀ (rows:List (Addr×Str×List V)),Vals (rows.map fun r=>V.ref r.1) (rows.map fun r=>.ref r.1)
 | []=>.nil
 | r::rows=>.cons rfl (jk rows)
theorem eR {α:Type}(d:α)(xs:List α){l:List Nat}(h:l.Perm (List.range xs.length)):(l.map fun i=>xs.getD i d).Perm xs:=by
 refine (h.map _).trans ?_
 have e:(List.range xs.length).map (fun i=>xs.getD i d)=xs:=by
  apply List.ext_getElem?
  intro i
  rw [List.getElem?_map]
  by_cases hi:i < xs.length
  ·rw [List.getElem?_range hi]; simp [hi]
  ·rw [List.getElem?_eq_none (by first|exact List.mem_singleton.mp hi|simpa using hi),List.getElem?_eq_none (by first|exact List.mem_singleton.mp hi|simpa using hi)]; rfl
 rw [e]
theorem mI:CallR X (.builtin "sorted") (xT X.K):=by
 intro pins s σ H xs us Q I r h
 obtain ⟨p,rows,rfl,hq,ht,hn,h64,q⟩:=h
 obtain ⟨u,rfl,rx⟩:=eM r
 cases rx
 obtain ⟨its,rv,pl,hz⟩:=I.list hq
 have hits:=mH rv
 subst hits
 have hlen:(rows.map fun r=>Value.ref r.1).length=rows.length:=List.length_map ..
 have hzr:rows.length≤sizeLine:=by rw [sizeLine_eq]; nofun
 by_cases h2:rows.length < 2
 ·refine qi pl.isList (by rw [hlen]; exact h2) ?_
  have e0:(pairsOf (rows.map fun r=>Value.ref r.1) |>.map (·.2))=(rows.map fun r=>Value.ref r.1).toArray:=by
   apply Array.toList_inj.mp
   rw [Array.toList_map,pairsOf_toList,List.map_snd_zip (Nat.le_refl _)]
  rw [e0]
  obtain ⟨e,he⟩:=sortedAll_at s.heap (rows.map fun r=>Value.ref r.1) (rows.map fun r=>Value.ref r.1).toArray
  exact ⟨.ref (s.heap.objs.size+1),_,I.laid (t':=s.toks) (o:=.lst (rows.map fun r=>.ref r.1)) (fun b o e=>sortedAll_old e) (Nat.le_succ _) ⟨by rw [List.length_map]; exact hzr,_,e,jk rows,he⟩,rfl,q _ rows (I.hok.fresh (Nat.le_succ _)) (.refl _)⟩
 ·obtain ⟨m,hns,_⟩:=I.loc
  -- the tuples as they stand
  have tup:∀ r ∈ rows,∃ (o:Obj) (t:Tok) (vs:List Value) (n:Nat),s.heap.get? r.1=some o∧o.cls=.type "tuple" ∧ o.data=.seq (Value.str r.2.1 t::vs).toArray n∧r.1≠X.env.locals:=fun r hr=>by
   obtain ⟨its,rv,⟨o,ho,hc,n,hd⟩,_⟩:=I.tuple (ht r hr)
   cases rv with
   | cons r1 r2 =>
    obtain ⟨t,rfl⟩:=r1
    refine ⟨o,t,_,n,ho,hc,hd,fun z=>?_⟩
    obtain ⟨o',es,ep,ho',hd',_⟩:=hns
    rw [← z,ho] at ho'
    cases ho'
    rw [hd] at hd'; cases hd'
  refine kat_sorted (Att.fr_all hns) uS pl.isList (by rw [hlen]; nofun) (by rw [hlen]; exact h64) fun D e1 h' F' N' hlt=>?_
  have kept:∀ b o,b≠X.env.locals→s.heap.get? b=some o→h'.get? b=some o:=fun b o hb e=>(N' (b,o) (List.mem_cons_of_mem _ (ge hb (Att.noObjs_get _ _) e))).1
  have nD:∀ b o,b≠X.env.locals→s.heap.get? b=some o→b < D:=fun b o hb e=>hlt (b,o) (ge hb (Att.noObjs_get _ _) e)
  have hDL:D≠X.env.locals:=(N' _ (List.mem_cons_self ..)).2.1
  have tup':∀ r ∈ rows,∃ (o:Obj) (t:Tok) (vs:List Value) (n:Nat),h'.get? r.1=some o∧o.cls=.type "tuple" ∧ o.data=.seq (Value.str r.2.1 t::vs).toArray n:=fun r hr=>by
   obtain ⟨o,t,vs,n,h1,h2,h3,h4⟩:=tup r hr
   exact ⟨o,t,vs,n,kept _ _ h4 h1,h2,h3⟩
  obtain ⟨fs,hkt,hfl,hfs⟩:∃ fs,KatTups h' (rows.map fun r=>Value.ref r.1) fs∧fs.length=rows.length∧∀ v ∈ fs,∃ x t,v=Value.str x t:=by
   clear hq hn h64 q rv pl hz hlen hzr h2 N' F' kept nD tup ht
   induction rows with
   | nil=>exact ⟨[],KatTups.nil,rfl,fun _ z=>nomatch z⟩
   | cons r rows ih =>
    obtain ⟨o,t,vs,n,h1,h2,h3⟩:=tup' r (List.mem_cons_self ..)
    obtain ⟨fs,k1,k2,k3⟩:=ih fun r hr=>tup' r (List.mem_cons_of_mem _ hr)
    refine ⟨.str r.2.1 t::fs,KatTups.cons h1 h2 h3 rfl k1,by rw [List.length_cons,List.length_cons,k2],fun v hv=>?_⟩
    rcases List.mem_cons.mp hv with rfl | hv
    ·exact ⟨_,_,rfl⟩
    ·exact k3 v hv
  refine kat_kind (s:={ s with heap:=h' }) (T:=.type "str") hkt (by nofun) (fun v hv=>?_) (by decide) ?_
  ·obtain ⟨x,t,rfl⟩:=hfs v hv
   exact Looks.of_pure rfl
  rw [hlen]
  refine Good.run (n:=rows.length) (fun i j C hi hj hC=>?_) (sO (by nofun)) fun pm hp=>?_
  ·-- two tuples asked
   have gi:(rows.map fun r=>Value.ref r.1).getD i Value.none=.ref rows[i].1:=by simp [hi]
   have gj:(rows.map fun r=>Value.ref r.1).getD j Value.none=.ref rows[j].1:=by simp [hj]
   unfold kas_ask
   rw [gi,gj]
   obtain ⟨o,t,vs,n,a1,a2,a3⟩:=tup' rows[i] (List.getElem_mem hi)
   obtain ⟨o2,t2,vs2,n2,b1,b2,b3⟩:=tup' rows[j] (List.getElem_mem hj)
   refine kat_lt (s:={ s with heap:=h' }) a1 a3 b1 b3 ?_
   by_cases hij:i=j
   ·subst hij
    rw [a1] at b1
    cases b1
    rw [a3] at b3
    injection b3 with b3 _
    rw [b3]
    exact oM hC _ 0
   ·refine sP hC fun z=>hij ?_
    have e1:(rows.map (·.2.1))[i]'(by first|exact List.mem_singleton.mp hi|simpa using hi)=(rows.map (·.2.1))[j]'(by first|exact List.mem_singleton.mp hj|simpa using hj):=by first|exact List.mem_singleton.mp z|simpa using z
    exact (List.getElem_inj hn).mp e1
  ·-- the end
   refine KasFin.intro (s:={ s with heap:=h' }) F' N' (.head fun p hp=>Nat.ne_of_lt (hlt p hp)) fun h3 c F3 N3=>?_
   have kept3:∀ b o,b≠X.env.locals→s.heap.get? b=some o→h3.get? b=some o:=fun b o hb e=>(N3 (b,o) (List.mem_cons_of_mem _ (ge hb (Att.noObjs_get _ _) e))).1
   have hD3:=(N3 (D,_) (List.mem_cons_self ..)).1
   have hfree:s.heap.get? D=none:=by
    cases z:s.heap.get? D with
    | none=>rfl
    | some o=>exact absurd (nD D o hDL z) (Nat.lt_irrefl _)
   have hHD:H D=none:=by
    cases z:H D with
    | none=>rfl
    | some o =>
     exfalso
     have lt:=(I.hok D o z).lt
     obtain ⟨o',ho'⟩:∃ o',s.heap.get? D=some o':=ObjOk.get (I.hok D o z)
     rw [hfree] at ho'; cases ho'
   have hne:∀ b o,s.heap.get? b=some o→b≠D:=fun b o e z=>by rw [z,hfree] at e; cases e
   let rows':=pm.toList.map fun i=>rows.getD i (0, "", [])
   have hpr:rows'.Perm rows:=eR _ rows hp
   have hout:(pm.toList.map fun i=>(rows.map fun r=>Value.ref r.1).getD i Value.none)=rows'.map fun r=>.ref r.1:=by
    rw [List.map_map]
    refine List.map_congr_left fun i hi=>?_
    have hi':i < rows.length:=List.mem_range.mp (hp.mem_iff.mp hi)
    simp [hi']
   rw [hout] at hD3
   have Inv3:Inv X pins σ (upd H D (.lst (rows'.map fun r=>.ref r.1))) { s with heap:=h3 }:=by
    refine I.step (g':=s.gens) (d':=s.drawn) (t':=s.toks) (ch:=[]) (fun _ z=>nomatch z) (fun b o hb _ _ e _=>kept3 b o hb e) (fun b o hb _ _ e _=>⟨o.slots,kept3 b o hb e⟩) (fun b o _ e n=>by rw [bR (hne b o e)]; exact n)
     (fun b o _ e=>?_) (fun b ys e=>by rw [bR (cz e hHD)]; exact e) (fun b o u e=>by rw [bR (cz e hHD)]; exact e) (fun b ps e=>⟨#[],by rw [bR (cz e hHD),e]; simp⟩) (fun m' hm'=>?_) ?_ I.bare
    ·by_cases hb:b=X.env.locals
     ·subst hb
      obtain ⟨o',_,_,ho',_⟩:=F3.ns
      exact ⟨o',ho'⟩
     ·exact ⟨o,kept3 b o hb e⟩
    ·have em:m'=m:=by
      funext x
      obtain ⟨o1,e1,p1,g1,d1,_,n1⟩:=hm'
      obtain ⟨o2,e2,p2,g2,d2,_,n2⟩:=hns
      rw [g1] at g2; cases g2
      rw [d1] at d2
      injection d2 with d2 _
      rw [← n1 x,← n2 x,d2]
     rw [em]; exact F3.ns
    ·intro b o e
     by_cases hb:b=D
     ·subst hb
      rw [bn] at e
      cases e
      exact ⟨by rw [List.length_map,hpr.length_eq]; exact hzr,_,c,jk rows',hD3⟩
     ·rw [bR hb] at e
      refine (I.hok b o e).stay (fun b' u hb' q'=>kept3 b' u (fun z=>?_) q') (fun b' q'=>by rw [bR (cz q' hHD)]; exact q') fun b' ys q'=>by rw [bR (cz q' hHD)]; exact q'
      subst z
      rcases hb' with z | z
      ·rw [← z,I.free] at e; cases e
      ·rw [I.free] at z; cases z
   exact ⟨.ref D,_,Inv3,rfl,q D rows' hHD hpr⟩
end
end L2
set_option maxHeartbeats 4000000
namespace L2
open PySem PySem.Spec PyProof.Rows
section
variable {K:PySem.W.Frag} {μ:List Nat}
def oN:List D→Option (List Str)
 | []=>some []
 | .tup (.str z::_)::ds=>(oN ds).map (z::·)
 | _::_=>none
def xU (P:Program)(w:World)(K:PySem.W.Frag):List V→Hp→VK→Prop:=fun xs H Q=>xR P w K xs H Q∨xT K xs H Q
theorem vJ {X:Cx}(P:Program)(w:World)(K:PySem.W.Frag)(hc:X.calm=true)(hP:X.prog=P)(hw:X.w=w)(h:X.K=K):BCall X (.builtin "sorted") (xU P w K):=by subst h hP hw; exact ⟨((ml hc).or (my hc)).or mI⟩
@[irreducible] def Fw:List D→(OV→Prop)→Prop
 | [.lst ds],P=>(match fj ds with
  | some zs=>zs.length < 64∧P (.fl ((mx zs).map .str))
  | none=>(match oN ds with
   | some zs=>(zs.Nodup∧zs.length < 64)∧∀ ds':List D,ds'.Perm ds→P (.fl ds')
   | none=>False))
 | [.dct ks _],P=>(match nG ks with
  | some zs=>zs.length < 64∧P (.fl ((mx zs).map .str))
  | none=>False)
 | _,_=>False
theorem nJ {P:Program}{w:World}{te:TE}{fe:FE}(he:EF K μ te fe):EF K μ (tCB (xU P w K) (fV (tCB (D4 P w K) (fV te m7)) m7)) (lc fe):=⟨by
 intro F Z H τ σ ρ A Q Pq vw R h q
 have:=(qf (P:=P) (w:=w) he).h vw R h q
 refine he.h vw R h fun r ρ1 v F1 H1 A1 B1 h1 s1 R1 v1 f1=>?_
 obtain ⟨d,e1,h2⟩:=db h1
 split at h2
 ·split at h2
  ·rename_i zs hz
   obtain ⟨p,ys,rfl,a1,a2⟩:=(R1.acc v1 e1).asL R1.fh
   rw [gF hz] at a2
   rw [a2.strs_eq] at a1
   refine ⟨p,zs,rfl,a1,h2.1.1,fun l τs hl hm hn _=>?_⟩
   refine .inl (.inl ⟨l,τs,rfl,.inl bn,?_,fun l2 ss hl2 hp hs=>?_⟩)
   ·have hp:τs.Perm (lb zs):=gl hn (g7 zs) fun k=>(hm k).trans iO.symm
    rw [hp.length_eq]; exact h2.1.2
   ·have e:ss=lb zs:=jj (hp.nodup_iff.mpr hn) (fun k=>(hp.mem_iff).trans (hm k)) (eL ss hs)
    subst e
    have pu:=(Pure.new (o:=CD P w l τs) R1.fh hl).trans (Pure.new (p:=l2) (o:=.lst ((lb zs).map .str)) (R1.fh.trans (ck hl)) hl2)
    have hl2':H1 l2=none:=(ck hl).free hl2
    exact R1.after (P:=fun o=>Pq (.ov o) ρ1) (fun o v F3 H3 B p s3 R3 ow fr=>q _ _ _ _ _ _ _ p (s1.trans s3) R3 ow fr) _ _ F1 _ [l2] h2.2 pu (.fl bn (Dens.strs _)) (New.one hl2' (R1.fh.free hl2'))
  ·exact h2.elim
 ·exact h2.elim⟩
def qj (fo fe:FE):FE:=fun ρ Q=>fo ρ fun r ρ1=>on1 ρ1 r fun d=>match d with
 | .str z=>fe ρ1 fun r2 ρ2=>on1 ρ2 r2 fun d2=>(match d2 with
  | .lst ds=>(match fj ds with
   | some zs=>(zs.map (·.length)).sum+zs.length * z.length≤16777216∧Q (.ov (.fz (.str (Builtin.Str.glued z zs)))) ρ2
   | none=>False)
  | _=>False)
 | _=>False
theorem jl {to te:TE}{fo fe:FE}(ho:EF K μ to fo)(he:EF K μ te fe):EF K μ (tBM K "str" (ve K) to (fV te m7)) (qj fo fe):=⟨by
 intro F Z H τ σ ρ A Q P vw R h q
 refine ho.h vw R h fun r1 ρ1 x F1 H1 A1 B1 h1 s1 R1 v1 f1=>?_
 obtain ⟨d,e1,h2⟩:=db h1
 split at h2
 ·rename_i z
  have ex:=(R1.acc v1 e1).str_eq
  subst ex
  refine ⟨rfl,he.h vw R1 h2 fun r2 ρ2 y F2 H2 A2 B2 h3 s2 R2 v2 f2=>?_⟩
  obtain ⟨d2,e2,h4⟩:=db h3
  split at h4
  ·split at h4
   ·rename_i zs hz
    obtain ⟨p,ys,rfl,a1,a2⟩:=(R2.acc v2 e2).asL R2.fh
    rw [gF hz] at a2
    rw [a2.strs_eq] at a1
    exact ⟨z,p,zs,rfl,rfl,a1,h4.1,q _ _ _ _ _ _ [] h4.2 (s1.trans s2) R2 (.fz (.str _)) Fresh.nil⟩
   ·exact h4.elim
  ·exact h4.elim
 ·exact h2.elim⟩
end
end L2
namespace L2
open PySem PySem.Spec PyProof.Rows
section
variable {K:PySem.W.Frag}
theorem ef_v {n j:Nat}(h:j < n):EF K (List.range n) (uM j) (av j):=cU (by simp [h])
theorem ax {n j:Nat}(h:autoParam (j<n) L2.aD._auto_1):EF K (List.range n) (uM j) (av j):=ef_v h
theorem cO {n j:Nat}(h:j < n):GF K (List.range n) [j] (kz j) (az j):=dF (by simp [h]) List.nodup_range
theorem Aa {n j:Nat}{te:TE}{fe:FE}(h:j < n)(he:EF K (List.range n) te fe):EF K (List.range n) (tBM K "list" kC (uM j) (fV te m7)) (EO j fe):=CT (by simp [h]) he
theorem du {ixs:List Nat}{n:Nat}(h:ixs.all (fun j=>decide (j < n))=true):∀ j ∈ ixs,j < (List.range n).length:=fun j hj=>by
 rw [List.length_range]; exact of_decide_eq_true (List.all_eq_true.mp h j hj)
theorem ao {m T:List Nat}(h:(m.all fun i=>!T.contains i)=true):∀ i ∈ m,i ∉ T:=fun i hi hT=>by
 have:=List.all_eq_true.mp h i hi
 simp [hT] at this
theorem jm {T:List Nat}{no:Nat}(h:(T.all fun i=>decide (i < no))=true):∀ i ∈ T,i < no:=fun i hi=>of_decide_eq_true (List.all_eq_true.mp h i hi)
theorem Fun.okG {P:Program}{w:World}{mg:Str→Option Value}{base:Heap}{x qual:Str}{st:Stmt}{f:Addr}{fd:FuncData}{N ps:List Str}{k:Nat}{c:Ct}{fs:FS}(n:Nat)(m:List Nat)(F:Fun K x qual st f fd)(S:FnScope N ps (ak st))(hn:N.length=n)
  (hN:ps.length≤n) (hlen:∀ os P,c os P→os.length=ps.length∧∀ j o,os[j]?=some o→j ∉ m→df o=true) (hm:∀ i ∈ m,i < ps.length)
  (hbody:∀ (cdv:Value) (A:Around) (outer:List Env) (s:Shared) (H:Hp) (E:XK),Room k (A.deeper (envOfC qual (ak st) s.heap.objs.size f cdv)) →
   ∃ t,BSs (n5 CX0 P w K mg base N qual (ak st) f cdv A outer s H E).nox (bf st) t∧SF K n m t fs)
  (hc:∀ os P,c os P→fs { nx:=fin m os P (.fz .non),rt:=fin m os P } (aU n os)):FnOk P w K mg base CX0 (k+1) f fd ps (spM K c):=by
 subst hn
 exact Fun.okF F S hN hlen hm hbody hc
end
end L2
set_option maxHeartbeats 4000000
namespace L2
open PySem PySem.Spec PyProof.Rows
theorem dw {fg:FG}{ft:FT}{fe:FE}{P:List D→FSt→Prop}{ds as0:List D}{ρ:FSt}(I:Nat→List D→FSt→Prop)(h0:I 0 as0 ρ)
  (hs:∀ (i:Nat) (d:D) (as:List D) (ρ:FSt) (R:List D→FSt→Prop),ds[i]?=some d→I i as ρ→(∀ as' ρ',I (i+1) as' ρ'→R as' ρ') →
   fg d ρ fun ρ1=>ft ρ1 fun b ρ2=>br b (fe ρ2 fun r ρ3=>match fzR r ρ3 with
    | some (y,ρ4)=>as.length < sizeLine∧R (as++[y]) ρ4
    | none=>False) (R as ρ2))
  (hd:∀ as ρ,I ds.length as ρ→P as ρ):gC fg ft fe P ds as0 ρ:=by
 have main:∀ (k i:Nat) (as:List D) (ρ:FSt),i+k=ds.length→I i as ρ→gC fg ft fe P (ds.drop i) as ρ:=by
  intro k
  induction k with
  | zero =>
   intro i as ρ e h
   have:i=ds.length:=by nofun
   subst this
   rw [List.drop_length]
   exact sB (hd as ρ h)
  | succ k ih =>
   intro i as ρ e h
   have hi:i < ds.length:=by nofun
   rw [List.drop_eq_getElem_cons hi]
   exact qc (hs i ds[i] as ρ _ (List.getElem?_eq_getElem hi) h fun as' ρ' h'=>ih (i+1) as' ρ' (by nofun) h')
 have:=main ds.length 0 as0 ρ (by nofun) h0
 rwa [List.drop_zero] at this
theorem iP {fg:FG}{fb:FS}{E:FEnds}{ds:List D}{ρ:FSt}(I:Nat→FSt→Prop)(h0:I 0 ρ)
  (hs:∀ (i:Nat) (d:D) (ρ:FSt) (R:FSt→Prop),ds[i]?=some d→I i ρ→(∀ ρ',I (i+1) ρ'→R ρ')→fg d ρ fun ρ1=>fb { nx:=R,ct:=R,bk:=E.nx,rt:=E.rt } ρ1)
  (hd:∀ ρ,I ds.length ρ→E.nx ρ):eF fg fb E ds ρ:=by
 have main:∀ (k i:Nat) (ρ:FSt),i+k=ds.length→I i ρ→eF fg fb E (ds.drop i) ρ:=by
  intro k
  induction k with
  | zero =>
   intro i ρ e h
   have:i=ds.length:=by nofun
   subst this
   rw [List.drop_length]
   exact sA (hd ρ h)
  | succ k ih =>
   intro i ρ e h
   have hi:i < ds.length:=by nofun
   rw [List.drop_eq_getElem_cons hi]
   exact qb (hs i ds[i] ρ _ (List.getElem?_eq_getElem hi) h fun ρ' h'=>ih (i+1) ρ' (by nofun) h')
 have:=main ds.length 0 ρ (by nofun) h0
 rwa [List.drop_zero] at this
theorem d7 {lo:Int}{n i:Nat}{d:D}(h:(dU lo n)[i]?=some d):i < n∧d=.int (lo+i):=by
 unfold dU at h
 rw [List.getElem?_map,Option.map_eq_some_iff] at h
 obtain ⟨k,h1,rfl⟩:=h
 obtain ⟨h2,h3⟩:=List.getElem?_eq_some_iff.mp h1
 rw [List.getElem_range] at h3
 rw [List.length_range] at h2
 subst h3
 exact ⟨h2,rfl⟩
theorem fJ {lo:Int}{n:Nat}:(dU lo n).length=n:=by simp [dU]
theorem jo {xs:List D}{i:Int}{Q:D→Prop}(h0:0≤i)(h:i < xs.length)(q:∀ d ∈ xs,Q d):match atI xs i with
  | some d=>Q d
  | none=>False:=by
 obtain ⟨c,h1,h2⟩:=xw h0 h
 rw [h1]
 exact q c h2
theorem jp {xs:List Nat}{i:Int}{Q:Nat→Prop}(h0:0≤i)(h:i < xs.length)(q:∀ d ∈ xs,Q d):match atI xs i with
  | some d=>Q d
  | none=>False:=by
 obtain ⟨c,h1,h2⟩:=xw h0 h
 rw [h1]
 exact q c h2
theorem cP {a b:Str}:dEq (.str a) (.str b)=true↔a=b:=by
 show (a == b)=true↔_
 rw [beq_iff_eq]
theorem bS {a b:Int}:dEq (.int a) (.int b)=true↔a=b:=by
 show (a == b)=true↔_
 rw [beq_iff_eq]
theorem vK {a b:Str}:(!dEq (.str a) (.str b))=true↔a≠b:=by
 rw [Bool.not_eq_true',Bool.eq_false_iff,Ne,cP]
theorem cm {a b:Str}:Bn (.str a) (.str b):=⟨rfl,rfl,Nat.zero_le _⟩
theorem bz {a b:Int}:Bn (.int a) (.int b):=⟨rfl,rfl,Nat.zero_le _⟩
theorem oO {z:Str}:∀ {zs:List Str},inV (.str z) (zs.map V.str)=true↔z ∈ zs
 | []=>by simp [inV]
 | y::zs=>by
  have ih:=oO (z:=z) (zs:=zs)
  unfold inV at ih ⊢
  rw [List.map_cons,List.any_cons,Bool.or_eq_true,ih,List.mem_cons]
  have:eqV (.str y) (.str z)=true↔z=y:=by
   show (y == z)=true↔_
   rw [beq_iff_eq]; exact eq_comm
  rw [this]
theorem lg {z:Str}{zs:List Str}:inD (.str z) (zs.map D.str)=true↔z ∈ zs:=by
 unfold inD
 have:(zs.map D.str).map vOf=zs.map V.str:=by rw [List.map_map]; rfl
 rw [this]
 exact oO
theorem mJ {z:Str}{zs:List Str}:zU (zs.map Sum.inr) (.inr z)=true↔z ∈ zs:=by
 unfold zU
 rw [List.any_map,List.any_eq_true]
 constructor
 ·rintro ⟨y,h1,h2⟩
  have:=of_decide_eq_true h2
  cases this
  exact h1
 ·intro h
  exact ⟨z,h,by simp⟩
theorem hU {zs:List Str}{Q:List Str→Prop}(q:Q zs):match fj (zs.map .str) with
  | some zs=>Q zs
  | none=>False:=by
 rw [j8]; exact q
theorem oP {bs:List Bool}{Q:List Bool→Prop}(q:Q bs):match la (bs.map .bl) with
  | some zs=>Q zs
  | none=>False:=by
 rw [mz]; exact q
theorem sQ {zs:List Str}{ds:List D}{z:Str}{d:D}:(xK (zs.map Sum.inr) ds (.inr z) d).1=(KS.dedup1 zs z).map Sum.inr:=by
 unfold xK KS.dedup1
 by_cases h:z ∈ zs
 ·have e:((zs.map Sum.inr).any fun x=>decide (x=(Sum.inr z:Key)))=true:=mJ.mpr h
  rw [if_pos e,if_pos h]
 ·have e:¬ ((zs.map Sum.inr).any fun x=>decide (x=(Sum.inr z:Key)))=true:=fun q=>h (mJ.mp q)
  rw [if_neg e,if_neg h,List.map_append]; rfl
theorem sR (zs:List Str):(zs.map Sum.inr).map D6=zs.map D.str:=by rw [List.map_map]; rfl
theorem mK:∀ (zs acc:List Str),(zs.foldl (fun acc z=>KS.dedup1 acc z) acc).length≤acc.length+zs.length
 | [],acc=>by simp
 | z::zs,acc=>by
  rw [List.foldl_cons,List.length_cons]
  have:=mK zs (KS.dedup1 acc z)
  have:=(j3 acc z).2.1
  nofun
theorem vL (zs:List Str):(lb zs).length≤zs.length:=by
 rw [lb,(fI _).length_eq]
 have:=mK zs []
 simpa [mD] using this
def EU (fa:FE):FE:=fun ρ Q=>fa ρ fun r ρ1=>on1 ρ1 r fun d=>match d with
 | .int i=>Q (.ov (.fz (.int (-i)))) ρ1
 | _=>False
theorem xV {K:PySem.W.Frag}{μ:List Nat}{ta:TE}{fa:FE}(ha:EF K μ ta fa):EF K μ (tUn (rU fun i=>.int (-i)) ta) (EU fa):=⟨by
 intro F Z H τ σ ρ A Q P vw R h q
 refine ha.h vw R h fun r1 ρ1 x F1 H1 A1 B1 h1 s1 R1 v1 f1=>?_
 obtain ⟨d,e1,h2⟩:=db h1
 split at h2
 ·rename_i i
  exact ⟨i,(R1.acc v1 e1).int_eq,q _ _ _ _ _ _ _ h2 s1 R1 (.fz (.int _)) Fresh.nil⟩
 ·exact h2.elim⟩
theorem vM {α:Type}(xs:List α)(a b:Nat):dR xs (some (a:Int)) (some (b:Int))=(xs.drop (min a xs.length)).take (min b xs.length - min a xs.length):=by
 unfold dR
 rw [HT.sIx_nat,HT.sIx_nat]
theorem gm {x:D}{r:List D}{Q:D→Prop}(q:Q x):match atI (x::r) 0 with
  | some d=>Q d
  | none=>False:=by
 rw [EM]; exact q
end L2
set_option maxHeartbeats 4000000
namespace KS
open PySem PySem.Spec PyProof.Rows
open PySem.W
section
variable {prog:Program} {w:World} {K:Type} [DecidableEq K] {knd:KeyKind prog w K} {A:Around} {E:Value→Shared→Prop} {s:Shared}
end
end KS
namespace L2
open PySem PySem.Spec PyProof.Rows
section
variable {X:Cx}
end
section
variable {K:PySem.W.Frag} {μ:List Nat}
end
end L2
set_option maxHeartbeats 4000000
namespace L2
open PySem PySem.Spec PyProof.Rows
section
variable {X:Cx}
end
section
variable {K:PySem.W.Frag} {μ:List Nat}
def xW:D→Bool
 | .non=>true
 | _=>false
theorem Acc.isNon {F H:Hp}{v:V}{d:D}(h:Acc K F H v d):decide (v=.non)=xW d:=by
 cases h with
 | fz h=>cases h <;> first | rfl | exact decide_eq_false (fun z=>nomatch z)
 | lst=>exact decide_eq_false (fun z=>nomatch z)
 | dct=>exact decide_eq_false (fun z=>nomatch z)
def D7:D→D→(OV→Prop)→Prop
 | d,.non,P=>P (.fz (.bl (xW d)))
 | _,_,_=>False
theorem sS:OpF K Fo D7:=⟨by
 intro F H x y d e Q P s hx hy f n
 unfold D7 at f
 split at f
 ·exact ⟨hy.non_eq,by rw [hx.isNon]; exact bo s n (.bl _) f⟩
 ·exact f.elim⟩
end
end L2
set_option maxHeartbeats 4000000
namespace L2
open PySem PySem.Spec PyProof.Rows
section
variable {X:Cx}
end
section
variable {K:PySem.W.Frag} {μ:List Nat}
end
section
variable {X:Cx}
end
section
variable {K:PySem.W.Frag} {μ:List Nat}
end
end L2
set_option maxHeartbeats 4000000
namespace L2
open PySem PySem.Spec PyProof.Rows
section
variable {K:PySem.W.Frag} {μ:List Nat}
end
end L2
set_option maxHeartbeats 4000000
namespace L2
open PySem PySem.Spec PyProof.Rows
section
variable {X:Cx}
end
section
variable {K:PySem.W.Frag}
end
end L2
namespace L2
open PySem PySem.Spec PyProof.Rows
section
variable {X:Cx}
end
section
variable {K:PySem.W.Frag}
end
end L2
set_option maxHeartbeats 4000000
namespace L2
open PySem PySem.Spec PyProof.Rows
section
variable {X:Cx} {pins:List (Addr×Obj)} {σ:St} {H:Hp} {s:Shared} {tg:Expr}
end
def fzo:Option OV→Option OV
 | some (.fz d)=>some (.fz d)
 | _=>none
section
variable {K:PySem.W.Frag} {μ:List Nat}
end
theorem iQ {X:Cx}{st:Stmt}:BS X st qL:=⟨uV⟩
def oQ:FS:=fun _ _=>False
theorem lh {K:PySem.W.Frag}{n:Nat}{m:List Nat}:SF K n m qL oQ:=⟨fun _ _ _ h=>h.elim⟩
theorem jq {c:FT}{f g:FS}{E:FEnds}{ρ:FSt}(I:FSt→Prop)(aw:∀ ρ,I ρ→E.nx ρ)(h:(∀ ρ,I ρ→E.nx ρ)→c ρ fun b ρ1=>br b (f E ρ1) (g E ρ1)):fIf c f g E ρ:=cN (h aw)
section
variable {K:PySem.W.Frag} {μ:List Nat}
end
end L2
set_option maxHeartbeats 4000000
namespace L2
open PySem PySem.Spec PyProof.Rows PyProof.Rows
abbrev bmV:List Value:=[.type "ValueError", .type "Exception", .type "BaseException", .type "object"]
def gp (K:PySem.W.Frag)(C:Addr):Prop:=PySem.W.excIn K C bmV "ValueError.__new__" = true
def exP (f:Addr→List Value→Option Value→Option Value→Option Value→Option Value→String→Option Value→Bool)(m:List Value)(sl:List (Option Value)):Prop:=∃ C bm a0 a1 a2 a3 n a5,m=.ref C::bm∧sl=[a0,a1,a2,a3,some (.builtin n),a5]∧f C bm a0 a1 a2 a3 n a5=true
def exQ (f:Option Addr→ClassData→Array (Option Value)→Bool)(o:Option Obj):Prop:=∃ dd cd sl,o=some ⟨.type "type", dd,.cls cd,sl⟩∧f dd cd sl=true
theorem Dc {m:List Value}{sl:List (Option Value)}{f:Addr→List Value→Option Value→Option Value→Option Value→Option Value→String→Option Value→Bool}(q:PySem.W.excIn.match_1 (fun _ _=>Bool) m sl f (fun _ _=>false)=true):exP f m sl:=by
 obtain _ | ⟨v,bm⟩:=m
 ·exact (Bool.false_ne_true q).elim
 cases v
 case ref C =>
  obtain _ | ⟨a0,sl⟩:=sl
  ·exact (Bool.false_ne_true q).elim
  obtain _ | ⟨a1,sl⟩:=sl
  ·exact (Bool.false_ne_true q).elim
  obtain _ | ⟨a2,sl⟩:=sl
  ·exact (Bool.false_ne_true q).elim
  obtain _ | ⟨a3,sl⟩:=sl
  ·exact (Bool.false_ne_true q).elim
  obtain _ | ⟨a4,sl⟩:=sl
  ·exact (Bool.false_ne_true q).elim
  obtain _ | a4:=a4
  ·exact (Bool.false_ne_true q).elim
  cases a4
  case builtin n =>
   obtain _ | ⟨a5,sl⟩:=sl
   ·exact (Bool.false_ne_true q).elim
   obtain _ | _:=sl
   ·exact ⟨_,_,_,_,_,_,_,_,rfl,rfl,q⟩
   ·exact (Bool.false_ne_true q).elim
  all_goals exact (Bool.false_ne_true q).elim
 all_goals exact (Bool.false_ne_true q).elim
theorem oR {o:Option Obj}{f:Option Addr→ClassData→Array (Option Value)→Bool}(q:PySem.W.excIn.match_6 (fun _=>Bool) o f (fun _=>false)=true):exQ f o:=by
 obtain _ | ⟨c,dd,data,sl⟩:=o
 ·exact (Bool.false_ne_true q).elim
 cases c
 case type t =>
  by_cases ht:t = "type"
  ·subst ht
   cases data
   case cls cd=>exact ⟨_,_,_,rfl,q⟩
   all_goals exact (Bool.false_ne_true q).elim
  ·unfold PySem.W.excIn.match_6 at q
   change dite (t = "type") _ _=true at q
   rw [dif_neg ht] at q
   exact (Bool.false_ne_true q).elim
 all_goals exact (Bool.false_ne_true q).elim
theorem Dd {dd:Option Addr}{cd:ClassData}{sl:Array (Option Value)}{C:Addr}{bm:List Value}{a0 a1 a2 a3 a5:Option Value}{n:String}(e1:cd.mro=.ref C::bm)(e2:sl.toList=[a0,a1,a2,a3,some (.builtin n),a5])(e3:cd.hasDel=false) :
  (⟨.type "type", dd,.cls cd,sl⟩:Obj)=excClassObj cd.name cd.qualname C cd.ns cd.bases bm cd.hasDict cd.slotNames cd.subclasses cd.abstract cd.collection dd a0 a1 a2 a3 a5 n:=by
 cases cd; cases sl; cases e1; cases e2; cases e3; rfl
theorem Ab {K:PySem.W.Frag}{h:Heap}{C:Addr}(X:K.In h)(q:gp K C):∃ (bm:List Value) (N:Addr) (nm qn:Str) (bs:List Value) (hd:Bool) (sn:List Str) (sub:List Value) (ab:Bool) (col:Option Bool) (dd:Option Addr) (k0 k1 k2 k3 k5:Option Value) (mN:Str→Option Value),
  h.get? C=some (excClassObj nm qn C N bs bm hd sn sub ab col dd k0 k1 k2 k3 k5 "ValueError.__new__")∧h.Ns N mN∧mN "__init__" = none∧OwnTail h bmV bm:=by
 obtain ⟨dd,cd,sl,lk,q⟩:=oR q
 obtain ⟨C2,bm,a0,a1,a2,a3,n,a5,e1,e2,q⟩:=Dc q
 have w1:=Bool.and_eq_true_iff.mp q
 have w2:=Bool.and_eq_true_iff.mp w1.1
 have w3:=Bool.and_eq_true_iff.mp w2.1
 have w4:=Bool.and_eq_true_iff.mp w3.1
 have w5:=Bool.and_eq_true_iff.mp w4.1
 have f1:C2=C:=eq_of_beq w5.1
 have f2:n = "ValueError.__new__" := eq_of_beq w5.2
 exact ⟨_,_,_,_,_,_,_,_,_,_,_,_,_,_,_,_,_,X _ _ (lk.trans (congrArg some (Dd (f1 ▸ e1) (f2 ▸ e2) ((Bool.not_eq_true' _).mp w4.2)))),.of_isNs (PySem.W.isNs_of_in X w2.2),PySem.W.nsMap_none_of_in X w2.2 (eq_of_beq w1.2),PySem.W.tail_of_in X w3.2⟩
def CXr (P:Program)(w:World):CXT:=fun outer H s E e s'=>∃ (ea C:Addr) (a0:Value) (B:Heap) (H':Hp),e=.ref ea∧Heap.FlyingW B outer ea (.ref C) a0 s'.heap∧HOk P w H' B∧Same H H' ∧
 (∀ b o,s.heap.get? b=some o→H b=none→b ∉ frs outer→B.get? b=some o)∧(∀ b o,s.heap.get? b=some o→H b=none→H' b=none)∧(∀ b ∈ frs outer,∀ o,s.heap.get? b=some o→∃ sl,s'.heap.get? b=some { o with slots:=sl }) ∧
 s'.os=s.os∧AllBare s'.gens∧H' ea=none∧s.heap.get? ea=none∧E (.ref C) none H'
theorem jr {P:Program}{w:World}{H:Hp}{h:Heap}{a:Addr}{o:HO}(x:ObjOk P w H h a o):∃ u,h.get? a=some u:=by
 cases o with
 | lst xs=>obtain ⟨_,_,_,_,e⟩:=x; exact ⟨_,e⟩
 | tup xs=>obtain ⟨_,_,_,⟨_,e,_⟩⟩:=x; exact ⟨_,e⟩
 | dK kvs=>obtain ⟨_,_,_,_,o,_,_,e,_⟩:=x; exact ⟨_,e⟩
 | dT kvs=>obtain ⟨_,_,_,_,o,_,_,e,_⟩:=x; exact ⟨_,e⟩
 | set S n=>obtain ⟨o,_,_,_,e,_⟩:=x; exact ⟨_,e⟩
 | ins C dx fs=>obtain ⟨_,_,_,e,_⟩:=x; exact ⟨_,e⟩
 | own y=>exact x
 | xd fs=>obtain ⟨_,⟨_,_,_,e,_⟩,_⟩:=x; exact ⟨_,e⟩
 | rng lo hi=>obtain ⟨_,_,_,e⟩:=x; exact ⟨_,e⟩
 | frz ob u=>obtain ⟨e,_⟩:=x; exact ⟨_,e⟩
 | tbl ps=>exact ⟨_,(show h.get? a=some _ from x)⟩
 | met f y=>exact ⟨_,(show h.get? a=some _ from x)⟩
 | ext φ=>obtain ⟨_,e,_⟩:=x; exact e
section
variable {X:Cx} {pins:List (Addr×Obj)} {σ:St} {H:Hp} {s:Shared}
theorem vN {x:Str}{C:Addr}{e:Expr}{np cpos pos:Pos}{te:TE}(G:Hp→Prop)(hc:X.calm=true)(hm:X.mg x=some (.ref C))(hx:gp X.K C)(he:PE X e te)
  (hE:∀ pins σ H s h' ea args,Inv X pins σ H s→G H→Heap.MadeExcOf s.heap h' ea (.ref C) args→X.xe (.ref ea) { s with heap:=h' })
  (hg:autoParam (Gl X x) L2.aR._auto_1) (hdb:autoParam ((x == ("__debug__" : Str))=false) L2.aD._auto_1) (hs:autoParam (starEach [e] X.env=[(false,eval e X.env)]) L2.aR._auto_1) :
  PS X (.Raise (some (.Call (.Name x np) [e] [] cpos)) none pos) (fun _ σ H=>te σ H fun x H'=>[x].length=1∧G H'):=by
 intro pins s σ H D I h
 obtain ⟨bm,N,nm,qn,bs,hd,sn,sub,ab,col,dd,k0,k1,k2,k3,k5,mN,hC,hN,hni,T⟩:=Ab I.mod.kin hx
 refine wpAny_Raise_call_subT (C:=C) (nm:=nm) (q:=qn) (N:=N) (bs:=bs) (bm:=bm) (hdct:=hd) (sn:=sn) (sub:=sub) (ab:=ab) (col:=col) (dd:=dd) (k0:=k0) (k1:=k1) (k2:=k2) (k3:=k3) (k5:=k5)
  PySem.F.excBase_ValueError (mN:=mN) (T.hasType PySem.F.excBase_ValueError.hasBase) (I.ok.hd hc) (by rw [hs]; rfl) hni (iV I hg hm ⟨rfl,?_⟩ hdb)
 have ha:PA X [e] (fV te m7):=q0 he xl hs
 have hp:=ha cpos pins s σ H (fun vs H'=>vs.length=1∧G H') I h
 rw [hs] at hp ⊢
 refine Calls.evalArgs_plain (thn hp fun us s2 ⟨vs,H2,I2,r2,hl,g2⟩=>?_)
 exact ⟨rfl,by rw [← r2.length,hl]; decide,I2.bk _ _ hC,hN.keeps I2.bk,T.keeps I2.bk,fun h' ea hm'=>hE pins σ H2 s2 h' ea us I2 g2 hm'⟩
theorem js {base h:Heap}{as:List Addr}:∀ {l:List Env},h.FunFrames base l→(∀ b ∈ frs l,b ∈ as)→h.FunFrames (PySem.W.hideAll h as) l
 | [],_,_=>trivial
 | env::r,⟨q1,⟨L,o,q2,_,q3,q4⟩,q5⟩,hin=>⟨q1,⟨L,o,q2,PySem.W.hideAll_none _ (hin L (by unfold frs; rw [List.filterMap_cons,q2]; exact List.mem_cons_self ..)),q3,q4⟩,js q5 fun b hb=>hin b (by
  unfold frs
  rw [List.filterMap_cons,q2]
  exact List.mem_cons_of_mem _ hb)⟩
theorem vO {P:Program}{w:World}{H:Hp}{h:Heap}{as:List Addr}(x:HOk P w H h)(n:∀ b ∈ as,H b=none):HOk P w H (PySem.W.hideAll h as):=fun a o e =>
 (x a o e).stay (fun b u hb q=>PySem.W.hideAll_get _ q fun z=>by
  have hn:=n b z
  rcases hb with hb | hb
  ·rw [hb,e] at hn; cases hn
  ·rw [hb] at hn; cases hn) (fun _ q=>q) fun _ _ q=>q
theorem mL {P:Program}{w:World}{K:PySem.W.Frag}{mg:Str→Option Value}{base:Heap}{N:List Str}{qual:Str}{scope:Scope}{f:Addr}{cd:Value}{A:Around}{outer:List Env}{s0 s:Shared}{H0 H:Hp}{E:XK}{C ea:Addr}{h':Heap}{args:List Value}{pins:List (Addr×Obj)}{σ:St}
  (hE:∀ H',Same H0 H'→E (.ref C) none H') (I:Inv (n5 (CXr P w) P w K mg base N qual scope f cd A outer s0 H0 E) pins σ H s) (g:Same H0 H) (m:Heap.MadeExcOf s.heap h' ea (.ref C) args) :
  (n5 (CXr P w) P w K mg base N qual scope f cd A outer s0 H0 E).xe (.ref ea) { s with heap:=h' }:=by
 have hfr:(A.deeper (envOfC qual scope s0.heap.objs.size f cd)).frames=some (envOfC qual scope s0.heap.objs.size f cd::outer):=I.ok.frames
 have hst:=I.stack
 have hsf:=I.stkFree
 have hbase:Un (frs outer) [] H0 H s0.heap s.heap:=I.base
 have hfunO:s0.heap.FunFrames base outer:=I.ok.funs
 have hfrf:∀ b ∈ frs outer,H0 b=none:=I.ok.frf
 show wpAny (model P w) (A.deeper (envOfC qual scope s0.heap.objs.size f cd)) (leaving (envOfC qual scope s0.heap.objs.size f cd) (.ref ea)) (fun _ s''=>CXr P w outer H0 s0 E (.ref ea) s'') (fun e' s''=>CXr P w outer H0 s0 E e' s'') { s with heap:=h' }
 have hEa:s.heap.get? ea=none:=m.new
 have hLs:s0.heap.objs.size≤(envOfC qual scope s0.heap.objs.size f cd).locals:=I.ok.above
 refine wpAny_leaves_madeW (base:=PySem.W.hideAll s.heap (frs (envOfC qual scope s0.heap.objs.size f cd::outer))) hfr rfl (fun b o q=>PySem.W.of_hideAll _ q) (js hst fun _ q=>q) m fun h2 t fl tup tn up=>?_
 refine ⟨ea,C,.ref t,_,H,rfl,fl,vO I.hok hsf,g,fun b o q n hb=>?_,fun b o q n=>hbase.free b o q n (by simp),fun b hb o q=>?_,I.os,I.bare,?_,?_,hE H g⟩
 ·refine PySem.W.hideAll_get _ (hbase.keep b o q n hb (by simp)) fun z=>?_
  unfold frs at z
  rw [List.filterMap_cons] at z
  rcases List.mem_cons.mp z with e | e
  ·have hlt:=Heap.lt_size q
   rw [show b=s0.heap.objs.size from e] at hlt
   exact absurd hlt (Nat.lt_irrefl _)
  ·exact hb e
 ·obtain ⟨sl,q1⟩:=hbase.slot b o q (hfrf b hb) hb (by simp)
  obtain ⟨_,o',q2,q3⟩:=hfunO.mem hb
  rw [q] at q2
  cases q2
  obtain ⟨sl2,q4⟩:=up b _ (m.keeps b _ q1) q3
  exact ⟨sl2,q4⟩
 ·cases q:H ea with
  | none=>rfl
  | some u =>
   have:=I.hok.lt q
   obtain ⟨o,ho⟩:=(show ∃ o,s.heap.get? ea=some o from jr (I.hok ea u q))
   rw [hEa] at ho; cases ho
 ·cases q:s0.heap.get? ea with
  | none=>rfl
  | some o =>
   obtain ⟨o',ho'⟩:=hbase.there ea o q (by simp)
   rw [hEa] at ho'; cases ho'
end
structure SFX (K:PySem.W.Frag)(n:Nat)(m:List Nat)(G:Hp→Prop)(t:TS)(f:FS):Prop where
 h:∀ {F Z H:Hp} {σ0 σ:St} {ρ:FSt} {A:List Addr} {D:Ends} {fD:FEnds},(∀ H',Same F H'→Same Z H'→G H')→Rel K F Z H σ ρ A→Pin n m σ0 σ→EndsOk K n m F Z σ0 D fD→f fD ρ→t D σ H
def sT:FS:=fun _ _=>True
section
variable {K:PySem.W.Frag} {n:Nat} {m:List Nat} {G:Hp→Prop}
theorem SF.x {t:TS}{f:FS}(h:SF K n m t f):SFX K n m G t f:=⟨fun _=>h.h⟩
theorem mM {v:V}:SFX K n m G (fun _ σ H=>tC v σ H fun x H'=>[x].length=1∧G H') sT:=⟨fun g R _ _ _=>⟨rfl,g _ R.fh R.zh⟩⟩
theorem li {t u:TS}{f g:FS}(h1:SFX K n m G t f)(h2:SFX K n m G u g):SFX K n m G (Bj t u) (bI f g):=⟨fun {F Z H σ0 σ ρ A D fD} gg R p E h =>
 h1.h (fD:={ fD with nx:=fun ρ'=>kQ ρ' (g fD) }) gg R p ⟨fun F' H' σ' ρ' A' s R' p' q=>h2.h (fun H2 a b=>gg H2 (s.trans a) b) R' p' (E.mono s) ((eE ρ' (g fD)).mp q),E.rt,E.bk,E.ct⟩ h⟩
theorem xX {c:TT}{t u:TS}{fc:FT}{f g:FS}(hc:TF K (List.range n) c fc)(h1:SFX K n m G t f)(h2:SFX K n m G u g):SFX K n m G (Bk c t u) (fIf fc f g):=⟨fun {F Z H σ0 σ ρ A D fD} gg R p E h =>
 hc.h (P:=fun b ρ1=>br b (f fD ρ1) (g fD ρ1)) (View.id p.1) R (by unfold fIf at h; exact h) fun b ρ1 F1 H1 A1 q s R1=>by
  cases b with
  | true=>exact h1.h (fun H2 a b=>gg H2 (s.trans a) b) R1 p (E.mono s) (xE q)
  | false=>exact h2.h (fun H2 a b=>gg H2 (s.trans a) b) R1 p (E.mono s) (xF q)⟩
end
def spR (K:PySem.W.Frag)(cr:List D→Prop)(C:Addr):Sp:=fun vs H Q E=>∃ (F:Hp) (ds:List D),Same F H∧Dens K F vs ds∧cr ds∧∀ H',Same H H'→E (.ref C) none H'
theorem sU {K:PySem.W.Frag}{F H:Hp}{vs:List V}{ds:List D}(h:Dens K F vs ds):Ows K F H vs (ds.map .fz) [] :=
 Dens.rec (motive_1:=fun _ _ _=>True) (motive_2:=fun vs ds _=>Ows K F H vs (ds.map .fz) []) trivial (fun _=>trivial) (fun _=>trivial) (fun _=>trivial) (fun _=>trivial) (fun _ _ _=>trivial) (fun _ _ _=>trivial) (fun _ _ _ _=>trivial) (fun _ _ _=>trivial) .nil (fun h _ _ t=>.cons (A:=[]) (B:=[]) (.fz h) t) h
end L2
set_option maxHeartbeats 4000000
namespace L2
open PySem PySem.Spec PyProof.Rows
section
variable {X:Cx} {pins:List (Addr×Obj)} {σ:St} {H:Hp} {s:Shared}
theorem oS {x:Str}{C:Addr}{e:Expr}{np cpos pos:Pos}{te:TE}(G:Hp→Prop)(hc:X.calm=true)(hm:X.mg x=some (.ref C))(hx:gp X.K C)(he:BE X e te)
  (hE:∀ pins σ H s h' ea args,Inv X pins σ H s→G H→Heap.MadeExcOf s.heap h' ea (.ref C) args→X.xe (.ref ea) { s with heap:=h' })
  (hg:Gl X x) (hdb:(x == ("__debug__" : Str))=false) (hs:starEach [e] X.env=[(false,eval e X.env)]) :
  BS X (.Raise (some (.Call (.Name x np) [e] [] cpos)) none pos) (fun _ σ H=>te σ H fun x H'=>[x].length=1∧G H'):=⟨vN G hc hm hx he.h hE hg hdb hs⟩
theorem sV {k:Nat}{f C:Addr}{fd:FuncData}{ps:List Str}{cr:List D→Prop}{us:List Value}{vs:List V}{E:XK}{Q:Value→Shared→Prop}{W:Value→Shared→Prop}(F:FnOk X.prog X.w X.K X.mg X.base (CXr X.prog X.w) k f fd ps (spR X.K cr C))(hr:Room k X.A)(hb:Binds X.K fd ps [])
  (I:Inv X pins σ H s) (r:Vals vs us) (h:spR X.K cr C vs H (fun _ _=>False) E) (hW:∀ e s',CXr X.prog X.w X.stack H s E e s'→W e s'):wpAny (model X.prog X.w) X.A (call (.ref f) us) Q W s:=by
 have hl:(us++[]).length=ps.length:=by rw [List.append_nil,← r.length]; exact F.len _ _ _ _ h
 have hbt:=hb s us I.kIn hl
 rw [List.append_nil] at hbt
 refine wpAny_call (codeAny_mono (F.run X.A X.stack s H ⟨us,[]⟩ us vs _ E hr I.env0 hbt r h) fun r s' hq=>?_)
 cases r with
 | error e=>exact hW e s' hq
 | ok fl =>
  cases fl with
  | ret u =>
   obtain ⟨v,H',_,_,_,_,_,q⟩:=(show CE _ _ _ _ _ _ _ _ from hq)
   exact q.elim
  | next=>exact False.elim hq
  | brk=>exact False.elim hq
  | cont=>exact False.elim hq
theorem qk {k:Nat}{f C:Addr}{fd:FuncData}{ps:List Str}{cr:List D→Prop}{x:Str}{p pos:Pos}{e:Expr}{es:List Expr}{t:TA}{E:XK}{Q:Value→Shared→Prop}{W:Value→Shared→Prop}(F:FnOk X.prog X.w X.K X.mg X.base (CXr X.prog X.w) k f fd ps (spR X.K cr C))(hr:Room k X.A)(hg:Gl X x)(hm:X.mg x=some (.ref f))(hk:PySem.W.keepIn X.K (.ref f)=true)(hb:Binds X.K fd ps [])
  (ha:PA X.nox (e::es) t) (I:Inv X pins σ H s) (Z:Hp→Prop) (h:t σ H fun vs H1=>spR X.K cr C vs H1 (fun _ _=>False) E∧Same H H1∧Z H1) (hW:∀ H1 s1 e s',Inv X pins σ H1 s1→Same H H1→Z H1→CXr X.prog X.w X.stack H1 s1 E e s'→W e s')
  (hdb:autoParam ((x == ("__debug__" : Str))=false) L2.aD._auto_1) (he:autoParam (starEach (e::es) X.env=(false,eval e X.env)::starEach es X.env) L2.aR._auto_1) (hpl:autoParam ((backTo pos (starEach es X.env)).any (·.1)=false) L2.aR._auto_1) :
  wpAny (model X.prog X.w) X.A (eval (.Call (.Name x p) (e::es) [] pos) X.env) Q W s:=by
 refine wpAny_Call_Name_kw (iV I hg hm ?_ hdb)
 refine PySem.W.callWith_K (h₀:=X.base) I.ok.mod.kin hk (wpAny_mono (ha pos pins s σ H _ (I.wish _) h) (fun us s1 ⟨vs,H1,I1,r,q,sm,z⟩=>⟨I1.unwish.kIn,?_⟩) fun _ _ z=>False.elim z) he hpl
 exact sV F hr hb I1.unwish r q fun e s' c=>hW H1 s1 e s' I1.unwish sm z c
end
section
variable {X:Cx} {pins:List (Addr×Obj)} {σ:St} {H:Hp} {s:Shared}
theorem Inv.unbind {n:Str}{i:Nat}{v:Option Value}{m:Str→Option Value}{h':Heap}{tk:Nat}(I:Inv X pins σ H s)(hn:s.heap.Ns X.env.locals m)(hi:X.N[i]?=some n)(hloc:X.env.scope.names.lookup n=some .local)(hN:X.N.Nodup)(hm:∀ (j:Nat) (y:Str) (v':V),X.N[j]?=some y→σ[j]?=some (some v')→Vis X.env.scope y→∃ u,RelV v' u∧E7 X.env s.heap m y u)
  (hn':h'.Ns X.env.locals (fun x=>if x=n then v else m x)) (sb:Heap.SameBut X.env.locals s.heap h'):Inv X pins (σ.set i none) H { s with heap:=h',toks:=tk }:=by
 have neL:∀ b o,X.s₀.heap.get? b=some o→b≠X.env.locals:=fun b o e=>Nat.ne_of_lt (Nat.lt_of_lt_of_le (Heap.lt_size e) I.ok.above)
 obtain ⟨oL,_,_,hoL,_⟩:=id hn
 refine ⟨I.ok,I.os,I.bare,⟨fun b o e q hb hx=>(sb.2 b (neL b o e)).trans (I.base.keep b o e q hb hx),fun b o e q hb hx=>?_,I.base.free,fun b o e hx=>?_,I.base.tups,I.base.frzs,I.base.tbls⟩,⟨_,hn',fun j y v' e1 e2 e3=>?_⟩,fun y c e=>?_,I.free,I.freeC,fun p hp=>?_,fun b u e=>?_,by rw [List.length_set]; exact I.len⟩
 ·obtain ⟨sl,z⟩:=I.base.slot b o e q hb hx
  exact ⟨sl,(sb.2 b (neL b o e)).trans z⟩
 ·obtain ⟨o',z⟩:=I.base.there b o e hx
  exact ⟨o',(sb.2 b (neL b o e)).trans z⟩
 ·by_cases hj:i=j
  ·subst hj
   rw [List.getElem?_set_self (by rw [I.len]; exact (List.getElem?_eq_some_iff.mp hi).1)] at e2
   cases e2
  ·rw [List.getElem?_set_ne hj] at e2
   obtain ⟨u,r,l⟩:=hm j y v' e1 e2 e3
   refine ⟨u,r,?_⟩
   rcases l with ⟨k,l⟩ | ⟨k,c,l1,l2⟩
   ·by_cases hy:y=n
    ·subst hy
     obtain ⟨h1,h2⟩:=List.getElem?_eq_some_iff.mp hi
     obtain ⟨h3,h4⟩:=List.getElem?_eq_some_iff.mp e1
     exact absurd ((List.getElem_inj hN).mp (h2.trans h4.symm)) hj
    ·exact .inl ⟨k,by show (if y=n then v else m y)=some u; rw [if_neg hy]; exact l⟩
   ·obtain ⟨o,ho,hd⟩:=l2
    exact .inr ⟨k,c,l1,o,(sb.2 c (I.cne y c l1)).trans ho,hd⟩
 ·obtain ⟨v0,o,ho,hd⟩:=I.cell y c e
  exact ⟨v0,o,(sb.2 c (I.cne y c e)).trans ho,hd⟩
 ·obtain ⟨q1,q2,q3,q4⟩:=I.pin p hp
  exact ⟨(sb.2 p.1 q3).trans q1,q2,q3,q4⟩
 ·refine (I.hok b u e).stay (fun c w' hc q=>(sb.2 c ?_).trans q) (fun _ q=>q) fun _ _ q=>q
  rintro rfl
  rcases hc with z | z
  ·rw [← z,I.free] at e; cases e
  ·rw [I.free] at z; cases z
def mO (a C:Addr):HO:=.ext fun h=>∃ o,h.get? a=some o∧o.cls=.ref C∧∃ vs,o.data=.fields vs
theorem CXr.caught {P:Program}{w:World}{outer:List Env}{E:XK}{e:Value}{s':Shared}{ea C:Addr}{a0:Value}{B h5:Heap}{H':Hp}{base:Heap}(hst:s.heap.FunFrames base outer)(fl:Heap.FlyingW B outer ea (.ref C) a0 h5)(hok:HOk P w H' B)(same:Same H H')
  (bk:∀ b o,s.heap.get? b=some o→H b=none→b ∉ frs outer→B.get? b=some o) (fre:∀ b o,s.heap.get? b=some o→H b=none→H' b=none) (slt:∀ b ∈ frs outer,∀ o,s.heap.get? b=some o→∃ sl,s'.heap.get? b=some { o with slots:=sl })
  (n1:H' ea=none) (n2:s.heap.get? ea=none) (up:s'.heap.UpToSlots h5) (hfree:∀ b ∈ frs outer,H b=none):Un (frs outer) [] H H' s.heap h5∧HOk P w H' h5:=by
 have hok5:HOk P w H' h5:=hok.kept fl.1
 have slot:∀ b ∈ frs outer,∀ o,s.heap.get? b=some o→∃ sl,h5.get? b=some { o with slots:=sl }:=fun b hb o q=>by
  obtain ⟨_,o',q2,q3⟩:=hst.mem hb
  rw [q] at q2
  cases q2
  obtain ⟨sl1,q4⟩:=slt b hb o q
  obtain ⟨sl2,q5⟩:=up b _ q4 q3
  exact ⟨sl2,q5⟩
 refine ⟨⟨fun b o q n hb _=>fl.1 b o (bk b o q n hb),fun b o q n hb _=>slot b hb o q,fun b o q n _=>fre b o q n,fun b o q _=>?_,fun b xs q=>same b _ q,fun b o u q=>same b _ q,fun b ps q=>⟨#[],by rw [same b _ q]; simp⟩⟩,hok5⟩
 by_cases hb:b ∈ frs outer
 ·obtain ⟨sl,z⟩:=slot b hb o q
  exact ⟨_,z⟩
 ·cases hH:H b with
  | none=>exact ⟨o,fl.1 b o (bk b o q hH hb)⟩
  | some u=>exact jr (hok5 b u (same b u hH))
end
end L2
set_option maxHeartbeats 4000000
namespace L2
open PySem PySem.W PySem.Spec PyProof.Rows PySem.Calls PySem.Builtin PySem.Builtin.ObjectAttr PySem.Builtin.Getset_descriptor
section
variable {prog:Program} {w:World} {A:Around} {E:Value→Shared→Prop} {s:Shared} {K:PySem.W.Frag} {a C:Addr} {o:Obj}
theorem Ac {R:Result→Shared→Prop} {tp:Value} (X:K.In s.heap) (hx:s.heap.get? a=some o) (hc:o.cls=.ref C) (hm:mroIn K C (.type "object")=some true)
  (h:R (.ok (.ret (.ref C))) s):codeAny (model prog w) A (.call (.builtin "getset_descriptor.__get__") ⟨[.builtin "object.__class__", .ref a,tp],[]⟩) R s:=by
 obtain ⟨hh,g,dr,t,os⟩:=s
 have L0:Looks (model prog w) hh (typeOf (.ref a)) (.ref C):=hc ▸ (Looks.ld hx).andThen .now
 have L1:=looks_mroIn (M:=model prog w) X hm
 refine codeAny_call_builtin KF.slot_gs.plain KF.entry_gs (KF.slot_gs.check _ _ _ _ _ _ _ _ KF.type_class (KF.args_gs _ _ _) (?_:wpAny _ _ (Builtin.«getset_descriptor.__get__» _) _ _ _))
 unfold Builtin.«getset_descriptor.__get__» descrGet; rw [dga_obj]
 refine wpAny_bind (wpAny_pure (?_:wpAny _ _ _ _ _ _))
 unfold descrGetter descrCheckInstance descrNameAndClass isInstance; simp only [KF.owner_class]
 repeat lk
 refine ⟨Code.quiet_builtin _ (by decide +kernel),codeAny_builtin KF.entry_class (?_:wpAny _ _ _ _ _ _)⟩
 unfold Builtin.«object.__class__» shownTypeOf; repeat lk
 exact h
theorem vP (X:K.In s.heap) (ha:findIn K (.ref C) "__class__" = some (some (.builtin "object.__class__"))) (hn:specialIn K (.builtin "object.__class__") "__get__" = some (some (.builtin "getset_descriptor.__get__"))) (htk:takesIn K (.builtin "object.__class__")=some true) :
  Looks (model prog w) s.heap (find (.ref a) (.ref C) "__class__") (.bind (.builtin "getset_descriptor.__get__") (.builtin "object.__class__")):=by
 have L1:=looks_findIn (M:=model prog w) X ha
 have L2:Looks (model prog w) s.heap (getOf (some (.builtin "object.__class__"))) (some (.builtin "getset_descriptor.__get__")):=looks_specialIn X hn
 have L3:=looks_takesIn (M:=model prog w) X htk
 unfold find
 refine L1.andThen (L2.andThen ?_)
 have L4:Looks (model prog w) s.heap (dataDescriptor? (some (Value.builtin "object.__class__")) (some (Value.builtin "getset_descriptor.__get__"))) (some (Value.builtin "getset_descriptor.__get__", Value.builtin "object.__class__")):=by
  unfold dataDescriptor?
  exact L3.andThen .now
 exact L4.andThen (Looks.tag .now)
theorem sW {M:Model} {nameV:Value} {Q:Unit→Shared→Prop} (X:K.In s.heap) (hx:s.heap.get? a=some o) (hc:o.cls=.ref C) (hb:mroIn K C (.type "BaseException")=some true) (hq:Q () s) :
  wpAny M A (checkBuiltinCall "BaseException.__getattribute__" ⟨[.ref a,nameV],[]⟩) Q E s:=by
 have hk:builtinKind "BaseException.__getattribute__" = some .slot:=by decide +kernel
 have hsp:splitId "BaseException.__getattribute__" = some ("BaseException", "__getattribute__"):=by decide +kernel
 obtain ⟨hh,g,d,t,os⟩:=s
 have L0:Looks M hh (typeOf (.ref a)) (.ref C):=hc ▸ (Looks.ld hx).andThen .now
 have LI:Looks M hh (isInstance (.ref a) (.type "BaseException")) true:=L0.andThen (looks_mroIn X hb)
 have har:=PySem.F.args_bexc_ga (.ref a) nameV
 simp only [checkBuiltinCall,hk,hsp]
 refine wpAny_bind (LI.at ?_)
 repeat (first | assumption | wp_step)
theorem Ad {Q:Option Value→Shared→Prop} (X:K.In s.heap) (hx:s.heap.get? a=some o) (hc:o.cls=.ref C) (hga:PySem.W.findIn K (.ref C) "__getattribute__" = some (some (.builtin "BaseException.__getattribute__"))) (hgn:PySem.W.findIn K (.ref C) "__getattr__" = some none)
  (ha:PySem.W.findIn K (.ref C) "__class__" = some (some (.builtin "object.__class__"))) (hn:PySem.W.specialIn K (.builtin "object.__class__") "__get__" = some (some (.builtin "getset_descriptor.__get__"))) (htk:PySem.W.takesIn K (.builtin "object.__class__")=some true) (hm:PySem.W.mroIn K C (.type "object")=some true) (hb:mroIn K C (.type "BaseException")=some true)
  (h:Q (some (.ref C)) { s with toks:=s.toks+1 }):wpAny (model prog w) A (getAttr? (.ref a) "__class__") Q E s:=by
 obtain ⟨hh,g,d,t,os⟩:=s
 have L0:Looks (model prog w) hh (typeOf (.ref a)) (.ref C):=hc ▸ (Looks.ld hx).andThen .now
 have L1:=PySem.W.looks_findIn (M:=model prog w) X hga
 unfold getAttr? getAttrBy? getAttrBy
 refine wpAny_bind (wpAny_mkText (wpAny_bind (wpAny_attempt (wpAny_holding (wpAny_bind (L0.at (wpAny_bind (L1.at ?_))))))))
 dsimp only
 have hne:(Value.builtin "BaseException.__getattribute__" == Value.builtin "object.__getattribute__")=false:=by decide +kernel
 rw [hne,Bool.and_false,if_neg Bool.false_ne_true]
 have L2:=looks_findIn (M:=model prog w) X hgn
 have LF:=vP (prog:=prog) (w:=w) (a:=a) (s:=⟨hh,g,d,t,os⟩) X ha hn htk
 have FB:=PySem.F.attrBase_ValueError
 unfold getAttrByItsOwn hookBefore callGetattribute boundAndCalled
 rw [show onTheHeap (Value.ref C)=true from rfl,if_pos (show true=true from rfl),Bool.false_and,if_neg Bool.false_ne_true,FB.ga.bind (.ref a)]
 refine wpAny_bind (L2.at (wpAny_bind (wpAny_attempt (wpAny_holding ?_))))
 refine wpAny_bind (wpAny_pure (wpAny_call (codeAny_call_builtin FB.ga.plain F.entry_bexc_ga ?_)))
 refine sW (s:=⟨hh,g,d,t+1,os⟩) X hx hc hb ?_
 unfold Builtin.«object.__getattribute__»
 repeat (first | (with_reducible refine wpAny_call (Ac (s:=⟨hh,g,d,t+1,os⟩) X hx hc hm ?_)) | assumption | lk)
end
structure ExcCl (K:Frag)(C:Addr):Prop where
 ex:gp K C
 is:(clsIn K C).isSome=true
 ga:findIn K (.ref C) "__getattribute__" = some (some (.builtin "BaseException.__getattribute__"))
 gn:findIn K (.ref C) "__getattr__" = some none
 cl:findIn K (.ref C) "__class__" = some (some (.builtin "object.__class__"))
 sp:specialIn K (.builtin "object.__class__") "__get__" = some (some (.builtin "getset_descriptor.__get__"))
 tk:takesIn K (.builtin "object.__class__")=some true
 mo:mroIn K C (.type "object")=some true
 mb:mroIn K C (.type "BaseException")=some true
def De (a C:Addr)(h:Heap):Prop:=∃ o,h.get? a=some o∧o.cls=.ref C
theorem oU {K:Frag}{a C:Addr}(c:ExcCl K C):KitX K (.ref a) (.ref C) (De a C) where
 ty:=fun M h _ p=>by
  obtain ⟨o,h1,h2⟩:=p
  exact h2 ▸ (Looks.ld h1).andThen .now
 it:=fun M h X _=>by
  obtain ⟨_,_,_,lk,_⟩:=oR c.ex
  intro A' Q' E' s' k q
  unfold isType loadHead; exact wpAny_bind (wpAny_loadPart (k _ _ (X _ _ lk)) (wpAny_pure q))
 ne:=fun h tp dd its n sl X htp=>by
  obtain ⟨_,_,_,lk,_⟩:=oR c.ex
  refine Bool.eq_false_iff.mpr fun q=>?_
  have e:C=tp:=Value.ref.inj (beq_iff_eq.mp q)
  subst e
  cases congrArg (Option.map Obj.data) ((X _ _ lk).symm.trans htp)
 ca:=fun X p k=>by
  obtain ⟨o,h1,h2⟩:=p
  exact Ad X h1 h2 c.ga c.gn c.cl c.sp c.tk c.mo c.mb k
section
variable {X:Cx}
def rIsX (K:Frag)(C:Addr)(c:V)(b:Bool):List V→Hp→VK→Prop:=fun xs H Q=>∃ ea,xs=[.ref ea,c]∧H ea=some (mO ea C)∧Q (.bl b) H
theorem xY {pins:List (Addr×Obj)}{σ:St}{H:Hp}{s:Shared}{ea C:Addr}(I:Inv X pins σ H s)(h:H ea=some (mO ea C)):De ea C s.heap:=by
 obtain ⟨⟨o,h1,h2,_⟩,_⟩:=(show ObjOk X.prog X.w H s.heap ea (mO ea C) from I.hok ea _ h)
 exact ⟨o,h1,h2⟩
theorem oV {C:Addr}{c:V}{u:Value}{b:Bool}(hc:ExcCl X.K C)(hu:∀ u',RelV c u'→u'=u)(e:kitOne X.K (.ref C) u=some b):CallR X (.builtin "isinstance") (rIsX X.K C c b):=by
 intro pins s σ H xs us Q I r h
 obtain ⟨ea,rfl,ha,q⟩:=h
 obtain ⟨u1,u2,rfl,r1,r2⟩:=qW r
 cases (show u1=Value.ref ea from r1)
 rw [hu u2 r2]
 exact kia_one (oU hc) I.kIn (xY I ha) e (fun z=>nomatch z) fun tk=>⟨.bl b,H,I.tok tk,rfl,q⟩
def EV (K:Frag)(C:Addr)(cs:List Addr)(b:Bool):List V→Hp→VK→Prop:=fun xs H Q=>∃ ea p,xs=[.ref ea,.ref p]∧H ea=some (mO ea C)∧H p=some (.tup (cs.map V.ref))∧Q (.bl b) H
theorem sX:∀ {cs:List Addr} {us:List Value},Vals (cs.map V.ref) us→us=cs.map Value.ref
 | [],_,.nil=>rfl
 | c::cs,_,.cons h t=>by rw [sX t]; exact congrArg (·::_) (show _=Value.ref c from h)
theorem mP {C:Addr}{cs:List Addr}{b:Bool}(hc:ExcCl X.K C)(e:kitAny X.K (.ref C) (cs.map Value.ref)=some b):CallR X (.builtin "isinstance") (EV X.K C cs b):=by
 intro pins s σ H xs us Q I r h
 obtain ⟨ea,p,rfl,ha,hp,q⟩:=h
 obtain ⟨u1,u2,rfl,r1,r2⟩:=qW r
 cases (show u1=Value.ref ea from r1)
 cases (show u2=Value.ref p from r2)
 obtain ⟨_,its,rv,ob,h1,h2,n,h3⟩:=(show ObjOk X.prog X.w H s.heap p (.tup (cs.map V.ref)) from I.hok p _ hp)
 rw [sX rv] at h3
 obtain ⟨o1,o2,o3,o4⟩:=ob
 have h2':o1=.type "tuple" := h2
 have h3':o3=.seq (cs.map Value.ref).toArray n:=h3
 subst h2' h3'
 exact kia_tup (oU hc) I.kIn (xY I ha) h1 e (fun z=>nomatch z) fun tk=>⟨.bl b,H,I.tok tk,rfl,q⟩
abbrev Cx.suite (X:Cx)(e:Value):Cx:={ X with A:=X.A.mark (some e),calm:=false,xe:=fun _ _=>False }
theorem Inv.suite {pins:List (Addr×Obj)}{σ:St}{H:Hp}{s:Shared}(I:Inv X pins σ H s)(e:Value):Inv (X.suite e) pins σ H s :=
 ⟨⟨I.ok.mod,I.ok.kind,I.ok.glob,I.ok.blt,I.ok.above,I.ok.inj,I.ok.has,I.ok.cab,(fun z=>nomatch z),I.ok.frames,I.ok.stk,I.ok.exf,I.ok.bs,I.ok.bsz,I.ok.noex,I.ok.exfs,I.ok.funs,I.ok.frf⟩,I.os,I.bare,I.base,I.loc,I.cell,I.free,I.freeC,I.pin,I.hok,I.len⟩
theorem Inv.unsuite {pins:List (Addr×Obj)}{σ:St}{H:Hp}{s:Shared}{e:Value}(ok:X.Ok)(I:Inv (X.suite e) pins σ H s):Inv X pins σ H s :=
 ⟨ok,I.os,I.bare,I.base,I.loc,I.cell,I.free,I.freeC,I.pin,I.hok,I.len⟩
end
theorem vQ {K:Frag} {C:Addr} (ex:gp K C) (ga:findIn K (.ref C) "__getattribute__" = some (some (.builtin "BaseException.__getattribute__"))) (gn:findIn K (.ref C) "__getattr__" = some none) (cl:findIn K (.ref C) "__class__" = some (some (.builtin "object.__class__")))
  (sp:specialIn K (.builtin "object.__class__") "__get__" = some (some (.builtin "getset_descriptor.__get__"))) (tk:takesIn K (.builtin "object.__class__")=some true) (mo:mroIn K C (.type "object")=some true) (mb:mroIn K C (.type "BaseException")=some true):ExcCl K C:=by
 refine ⟨ex,?_,ga,gn,cl,sp,tk,mo,mb⟩
 obtain ⟨_,_,_,lk,_⟩:=oR ex
 unfold clsIn
 rw [lk]
 rfl
theorem Df {K:Frag} {C D:Addr} (h1:subIn K (.ref D) (.type "BaseException")=some true) (h2:kitOne K (.ref C) (.ref D)=some true) (h3:(Value.ref C == Value.ref D)=false):exmOne K (.ref C) (.ref D)=some true:=by
 unfold exmOne
 rw [h1,if_pos (by decide)]
 unfold kitOne at h2
 rw [h3,if_neg Bool.false_ne_true] at h2
 exact h2
end L2
set_option maxHeartbeats 4000000
namespace HT
open PySem PySem.Spec PyProof.Rows
section
variable {prog:Program} {w:World} {A:Around} {E:Value→Shared→Prop} {s:Shared}
theorem getItem_tuple_all {t sl:Addr}{items:Array Value}{vl vu:Value}{lo hi:Option Int}{Q:Value→Shared→Prop}(ht:IsTup s.heap t items)(hs:s.heap.IsSliceOf sl vl vu .none)(pl:IsPart vl lo)(pu:IsPart vu hi)
  (hw:sIx items.size 0 lo=0∧sIx items.size items.size hi=items.size) (h:Q (.ref t) s):wpAny (model prog w) A (getItem (.ref t) (.ref sl)) Q E s:=by
 obtain ⟨os,hos,hcs,hds⟩:=id hs
 have hTs:s.TypeIs (.ref sl) "slice" := ⟨os,hos,hcs⟩
 unfold getItem
 try with_reducible refine wpAny_holding ?_
 first | refine wpAny_bind (wpAny_pure ?_) | skip
 refine wpAny_bind (wpAny_sequenceKey ht.typeIs (by decide) ?_)
 refine wpAny_bind (wpAny_callSpecial?_slot (name:=Str.ofString "__getitem__") ht.typeIs PyProof.Rows.slot_tuple_getitem
  (wpAny_call_entry PyProof.Rows.slot_tuple_getitem ht.typeIs entry_tuple_getitem ?_ (args_tuple_getitem _ _)))
 show wpAny _ _ (Builtin.Tuple.tupleItemsOf (.ref t) >>= _) _ _ s
 refine wpAny_bind (tupleItemsOf_ ht ?_)
 refine wpAny_bind (wpAny_typeOf hTs ?_)
 rw [if_pos (by decide)]
 refine wpAny_bind (eK hs pl pu ?_)
 show wpAny _ _ (if (((sIx items.size 0 lo:Nat):Int) == 0 && (1:Int) == 1 && (sIx items.size items.size hi - sIx items.size 0 lo) == items.size)=true then _ else _) _ _ s
 rw [if_pos (by rw [hw.1,hw.2]; simp)]
 refine wpAny_bind (m:=Builtin.Tuple.tupleIsExact _) (wpAny_bind (wpAny_typeOf ht.typeIs (wpAny_pure ?_)))
 rw [if_pos (by decide)]
 first
  | exact wpAny_bind (wpAny_rule (wpAny_pure ⟨_,rfl,wpAny_pure h⟩))
  | exact wpAny_bind (wpAny_rule (wpAny_bind (wpAny_pure (wpAny_pure ⟨_,rfl,wpAny_pure h⟩))))
  | exact wpAny_bind (wpAny_bind (wpAny_rule (wpAny_pure (wpAny_pure ⟨_,rfl,wpAny_pure h⟩))))
  | exact wpAny_bind (wpAny_bind (wpAny_rule (wpAny_pure ⟨_,rfl,wpAny_pure h⟩)))
end
end HT
namespace L2
open PySem PySem.Spec PyProof.Rows
section
variable {X:Cx}
def Dg (K:PySem.W.Frag):V→Option Int→Option Int→Hp→VK→Prop:=fun x lo hi H Q=>∃ a xs,x=.ref a∧SqT K H a xs∧HT.sIx xs.length 0 lo=0∧HT.sIx xs.length xs.length hi=xs.length∧Q (.ref a) H
theorem Ae:SlR X (Dg X.K):=by
 intro pins s σ H x v vl vu lo hi sl Q I rx hs pl pu h
 obtain ⟨a,xs,rfl,hx,w1,w2,q⟩:=h
 cases rx
 obtain ⟨its,r,ht,hz⟩:=I.tuple hx
 have hlen:its.toArray.size=xs.length:=by rw [List.size_toArray]; exact r.length.symm
 refine ⟨"tuple", _,PyProof.Rows.slot_tuple_getitem.lookup,ht.typeIs,?_⟩
 exact HT.getItem_tuple_all ht hs pl pu (by rw [hlen]; exact ⟨w1,w2⟩) ⟨.ref a,H,I,rfl,q⟩
def Fx (K:PySem.W.Frag):V→Option Int→Option Int→Hp→VK→Prop:=fun x lo hi H Q=>Cq K x lo hi H Q∨Dg K x lo hi H Q
theorem bi {a:Expr}{lo hi:Option Expr}{ta:TE}{tl th:TO}{pos spos:Pos}(K:PySem.W.Frag)(ha:BE X a ta)(hl:BO X lo tl)(hh:BO X hi th)(hK:X.K=K):BE X (.Subscript a (.Slice lo hi none spos) pos) (tSl (Fx K) ta tl th):=by
 subst hK; exact ⟨n8 (xr.or Ae) ha.h hl.h hh.h⟩
def Dh (K:PySem.W.Frag):R2:=fun x y H Q=>∃ a b ys,x=.ref a∧y=.ref b∧SqT K H a []∧SqT K H b ys∧Q (.ref b) H
theorem Af:OpR X (binaryOp .Add) (Dh X.K):=by
 intro pins s σ H x y v u Q I rx ry h
 obtain ⟨a,b,ys,rfl,rfl,ha,hb,q⟩:=h
 cases rx
 cases ry
 obtain ⟨its,r1,p1,_⟩:=I.tuple ha
 obtain ⟨its2,r2,p2,_⟩:=I.tuple hb
 cases r1
 obtain ⟨⟨cls,dd,data,sl⟩,ho,hc,n,hd⟩:=id p1
 obtain ⟨⟨cls2,dd2,data2,sl2⟩,ho2,hc2,n2,hd2⟩:=id p2
 simp only at hc hd hc2 hd2
 subst hc hd hc2 hd2
 exact concat_meets ⟨_,ho,rfl⟩ ⟨_,ho2,rfl⟩ noFill_tuple_add seq_tuple_add PySem.F.slot_tuple_add PySem.F.entry_tuple_add (PySem.F.args_tuple_add_2 _ _)
  (tuple_addW0 a b _ its2.toArray n n2 dd dd2 sl sl2 (by simp)) ⟨ho,ho2,⟨.ref b,H,I,rfl,q⟩⟩
def Di (K:PySem.W.Frag):R2:=fun x y H Q=>zR K x y H Q∨Dh K x y H Q
theorem aW (K:PySem.W.Frag)(h:X.K=K):BOp X (binaryOp .Add) (Di K):=by subst h; exact ⟨(cS X.K rfl).h.or Af⟩
def EW (K:PySem.W.Frag):R2:=fun x y H Q=>∃ a b xs,x=.ref a∧y=.ref b∧((SqT K H a xs∧SqT K H b [])∨(SqL K H a xs∧SqL K H b []))∧Q (.bl xs.isEmpty) H
theorem Dj (hu:X.A.units+64 < cLine):OpR X (compareOp .Eq) (EW X.K):=by
 intro pins s σ H x y v u Q I rx ry h
 obtain ⟨a,b,xs,rfl,rfl,hh,q⟩:=h
 cases rx
 cases ry
 rcases hh with ⟨ha,hb⟩ | ⟨ha,hb⟩
 ·obtain ⟨its,r1,p1,_⟩:=I.tuple ha
  obtain ⟨its2,r2,p2,_⟩:=I.tuple hb
  cases r2
  have z:=SeqAt.RcAt.tuples (A:=X.A) (s:=s) (e:=fun _=>true) p1 p2 (by nofun) (fun j _ h2=>absurd h2 (by simp))
  have e:((List.range (min its.toArray.size ([]:List Value).toArray.size)).all (fun _=>true) && its.toArray.size == ([]:List Value).toArray.size)=xs.isEmpty:=by
   have:=r1.length
   cases xs <;> cases its <;> simp at this ⊢
  rw [e] at z
  exact z _ _ _ _ ⟨.bl _,H,I,rfl,q⟩
 ·obtain ⟨its,r1,p1,_⟩:=I.list ha
  obtain ⟨its2,r2,p2,_⟩:=I.list hb
  cases r2
  cases r1 with
  | nil =>
   have z:=SeqAt.RcAt.lists (A:=X.A) (s:=s) (e:=fun _=>true) p1.isList p2.isList rfl (by nofun) (fun j _ h2=>absurd h2 (by simp))
   exact z _ _ _ _ ⟨.bl _,H,I,rfl,q⟩
  | cons h1 t1 =>
   have z:=SeqAt.RcAt.lists_lengths (A:=X.A) (s:=s) p1.isList p2.isList (by simp) (by nofun)
   exact z _ _ _ _ ⟨.bl _,H,I,rfl,q⟩
theorem nK (K:PySem.W.Frag)(hu:X.A.units+64 < cLine)(h:X.K=K):BOp X (compareOp .Eq) (EW K):=by subst h; exact ⟨Dj hu⟩
def Ag:V→List V→Hp→VK→Prop:=fun x xs H Q=>∃ z y,x=.str z∧xs=[.str y]∧Q (.int (Txt.find z y)) H
theorem Ah:MtR X "str.find" Ag:=by
 intro pins s σ H x vs v us Q I rx rv h
 obtain ⟨z,y,rfl,rfl,q⟩:=h
 obtain ⟨t,rfl⟩:=rx
 obtain ⟨u,rfl,ru⟩:=eM rv
 obtain ⟨t',rfl⟩:=ru
 exact PySem.W.KXw.find rfl fun t' k=>⟨.int _,H,I.tok k,⟨t',rfl⟩,q⟩
theorem Ai:BMt X "str.find" Ag:=⟨Ah⟩
end
end L2
set_option maxHeartbeats 4000000
namespace L2
open PySem PySem.Spec PyProof.Rows
section
variable {K:PySem.W.Frag} {μ:List Nat}
theorem sY {α:Type}{xs:List α}{lo hi:Option Int}(h1:HT.sIx xs.length 0 lo=0)(h2:HT.sIx xs.length xs.length hi=xs.length):dR xs lo hi=xs:=by
 unfold dR
 rw [h1,h2]
 simp
def iC:D→Option Int→Option Int→(OV→Prop)→Prop
 | .str z,lo,hi,P=>z.length≤sizeLine∧P (.fz (.str (gZ z lo hi)))
 | .lst ds,lo,hi,P=>P (.fl (dR ds lo hi))
 | .tup ds,lo,hi,P=>P (.fz (.tup (dR ds lo hi)))
 | _,_,_,_=>False
theorem dH:SlF K (Fx K) iC:=⟨by
 intro F H x d lo hi Q P s hx f n
 unfold iC at f
 split at f
 ·exact .inl (g0.h s hx (by unfold aSl; exact f) n)
 ·exact .inl (g0.h s hx (by unfold aSl; exact f) n)
 ·rename_i ds
  by_cases hw:HT.sIx ds.length 0 lo=0∧HT.sIx ds.length ds.length hi=ds.length
  ·have e:=sY hw.1 hw.2
   rw [e] at f
   have hx':=hx
   obtain ⟨a,xs,rfl,h1,h2⟩:=hx.asT s
   refine .inr ⟨a,xs,rfl,h1,by rw [h2.length]; exact hw.1,by rw [h2.length]; exact hw.2,?_⟩
   cases hx' with
   | fz hd=>exact bo s n hd f
  ·exact .inl (g0.h s hx (by unfold aSl; exact ⟨hw,f⟩) n)
 ·exact f.elim⟩
def cL:D→D→(OV→Prop)→Prop
 | .int i,.int j,P=>P (.fz (.int (i+j)))
 | .str i,.str j,P=>i.length+j.length≤sizeLine∧P (.fz (.str (i++j)))
 | .lst xs,.lst ys,P=>xs.length+ys.length≤sizeLine∧P (.fl (xs++ys))
 | .tup xs,.tup ys,P=>xs.length+ys.length≤sizeLine∧P (.fz (.tup (xs++ys)))
 | _,_,_=>False
theorem aX:OpF K (Di K) cL:=⟨by
 intro F H x y d e Q P s hx hy f n
 unfold cL at f
 split at f
 ·exact .inl (cW.h s hx hy (by unfold j7; exact f) n)
 ·exact .inl (cW.h s hx hy (by unfold j7; exact f) n)
 ·exact .inl (cW.h s hx hy (by unfold j7; exact f) n)
 ·rename_i ds es
  by_cases hd:ds=[]
  ·subst hd
   have hy':=hy
   obtain ⟨a,xs,rfl,h1,h2⟩:=hx.asT s
   obtain ⟨b,ys,rfl,h3,h4⟩:=hy.asT s
   cases h2
   refine .inr ⟨a,b,ys,rfl,rfl,h1,h3,?_⟩
   cases hy' with
   | fz hd=>exact bo s n hd f.2
  ·exact .inl (cW.h s hx hy (by unfold j7; exact ⟨hd,f⟩) n)
 ·exact f.elim⟩
def Dk:D→D→(OV→Prop)→Prop
 | .tup xs,.tup [],P=>P (.fz (.bl xs.isEmpty))
 | .lst xs,.lst [],P=>P (.fz (.bl xs.isEmpty))
 | _,_,_=>False
theorem Dens.empty_eq {F:Hp}{xs:List V}{ds:List D}(h:Dens K F xs ds):xs.isEmpty=ds.isEmpty:=by cases h <;> rfl
theorem nL:OpF K (EW K) Dk:=⟨by
 intro F H x y d e Q P s hx hy f n
 unfold Dk at f
 split at f
 ·obtain ⟨a,xs,rfl,h1,h2⟩:=hx.asT s
  obtain ⟨b,ys,rfl,h3,h4⟩:=hy.asT s
  cases h4
  exact ⟨a,b,xs,rfl,rfl,.inl ⟨h1,h3⟩,by rw [h2.empty_eq]; exact bo s n (.bl _) f⟩
 ·obtain ⟨a,xs,rfl,h1,h2⟩:=hx.asL s
  obtain ⟨b,ys,rfl,h3,h4⟩:=hy.asL s
  cases h4
  exact ⟨a,b,xs,rfl,rfl,.inr ⟨h1,h3⟩,by rw [h2.empty_eq]; exact bo s n (.bl _) f⟩
 ·exact f.elim⟩
def Dl (fo fe:FE):FE:=fun ρ Q=>fo ρ fun r ρ1=>on1 ρ1 r fun d=>match d with
 | .str z=>fe ρ1 fun r2 ρ2=>on1 ρ2 r2 fun d2=>(match d2 with
  | .str y=>Q (.ov (.fz (.int (Txt.find z y)))) ρ2
  | _=>False)
 | _=>False
theorem Aj {to te:TE}{fo fe:FE}(ho:EF K μ to fo)(he:EF K μ te fe):EF K μ (tBM K "str" Ag to (fV te m7)) (Dl fo fe):=⟨by
 intro F Z H τ σ ρ A Q P vw R h q
 refine ho.h vw R h fun r1 ρ1 x F1 H1 A1 B1 h1 s1 R1 v1 f1=>?_
 obtain ⟨d,e1,h2⟩:=db h1
 split at h2
 ·rename_i z
  have ex:=(R1.acc v1 e1).str_eq
  subst ex
  refine ⟨rfl,he.h vw R1 h2 fun r2 ρ2 y F2 H2 A2 B2 h3 s2 R2 v2 f2=>?_⟩
  obtain ⟨d2,e2,h4⟩:=db h3
  split at h4
  ·have ey:=(R2.acc v2 e2).str_eq
   subst ey
   exact ⟨z,_,rfl,rfl,q _ _ _ _ _ _ [] h4 (s1.trans s2) R2 (.fz (.int _)) Fresh.nil⟩
  ·exact h4.elim
 ·exact h2.elim⟩
def Fy (n:Nat):FE:=fun ρ Q=>∀ a:Addr,Q (.ov (.fz (.opq a n))) ρ
theorem Ak:EF K μ oa (Fy 0):=⟨by
 intro F Z H τ σ ρ A Q P vw R h q p hp
 have hf:F p=none:=R.fh.free hp
 exact R.after (P:=fun o=>P (.ov o) ρ) (fun o v F3 H3 B p s3 R3 ow fr=>q _ _ _ _ _ _ _ p s3 R3 ow fr) _ _ (upd F p (.dK [])) _ [] (h p) (Pure.frz R.fh hp) (.fz (.opq (.inl bn) rfl rfl)) New.nil⟩
def xZ (ks:List Key)(ds:List D)(fe fx:FE):FE:=fun ρ Q=>fe ρ fun r ρ1=>on1 ρ1 r fun d=>match d with
 | .str z=>fx ρ1 fun r2 ρ2=>on1 ρ2 r2 fun d2=>flD d2=true∧Q (.ov (.fz ((vE ks ds (.inr z)).getD d2))) ρ2
 | _=>False
theorem vR {trs:List (TE×TE)}{ty tx:TE}{fe fx:FE}(kvs:List (Key×V)){ks:List Key}{ds:List D}(hp:∀ σ H (Q:List (V×V)→Hp→Prop),Q (kvs.map fun kv=>(kV kv.1,kv.2)) H→og trs σ H Q)(hl:kvs.length≤15)(hm:jU [] kvs=kvs)(hk:kvs.map (·.1)=ks)
  (hd:∀ F,Dens K F (kvs.map (·.2)) ds) (he:EF K μ ty fe) (hx:EF K μ tx fx):EF K μ (rl (zb trs) ty tx) (xZ ks ds fe fx):=⟨by
 intro F Z H τ σ ρ A Q P vw R h q p hpn
 have hf:F p=none:=R.fh.free hpn
 refine hp _ _ _ ⟨bn,kvs,rfl,hl,?_⟩
 rw [hm,yq]
 have pu:Pure F H (upd F p (.dK kvs)) (upd H p (.dK kvs)):=Pure.frz R.fh hpn
 refine ⟨p,rfl,.inl ⟨kvs,.inl bn⟩,?_⟩
 refine he.h vw (R.step pu) h fun r1 ρ1 y F1 H1 A1 B1 h1 s1 R1 v1 f1=>?_
 obtain ⟨d,e1,h2⟩:=db h1
 split at h2
 ·rename_i z
  have ey:=(R1.acc v1 e1).str_eq
  subst ey
  refine hx.h vw R1 h2 fun r2 ρ2 w F2 H2 A2 B2 h3 s2 R2 v2 f2=>?_
  obtain ⟨d2,e2,h4,h5⟩:=db h3
  have hF:H2 p=some (.dK kvs):=R2.fh _ _ (s2 _ _ (s1 _ _ bn))
  refine ⟨lT kvs (.inr z),.inl ⟨kvs,.inr z,.inl hF,rfl,rfl⟩,?_⟩
  refine q _ _ _ F2 _ _ [] h5 ((pu.ff.trans s1).trans s2) R2 (.fz ?_) Fresh.nil
  cases hg:vE ks ds (.inr z) with
  | some dd =>
   obtain ⟨v,g1,g2⟩:=oI hk (hd F2) hg
   rw [g1]
   exact g2
  | none =>
   have g1:lT kvs (.inr z)=none:=by
    have e:=oG (k:=.inr z) hk
    have z2:zU ks (.inr z)=false:=by
     rw [← Bool.not_eq_true]
     intro hh
     unfold zU at hh
     rw [List.any_eq_true] at hh
     obtain ⟨k,hk1,hk2⟩:=hh
     have hk2:k=.inr z:=of_decide_eq_true hk2
     subst hk2
     unfold vE at hg
     rw [Option.map_eq_none_iff,List.find?_eq_none] at hg
     have hlen:ks.length=ds.length:=by rw [← hk,List.length_map,← (hd F2).length,List.length_map]
     obtain ⟨j,hj,ej⟩:=List.getElem_of_mem hk1
     have:=hg (ks[j],ds[j]'(by nofun)) (by
      rw [List.mem_iff_getElem]
      exact ⟨j,by rw [List.length_zip]; nofun,by simp⟩)
     simp [ej] at this
    rw [z2] at e
    cases hv:lT kvs (.inr z) with
    | none=>rfl
    | some _=>rw [hv] at e; cases e
   rw [g1]
   obtain ⟨ev,_⟩:=(R2.acc v2 e2).flat h4
   show Den K F2 w d2
   rw [ev]
   cases d2 <;> simp [flD] at h4 <;> constructor
 ·exact h2.elim⟩
theorem vS {X:Cx} {o e f:Expr} {apos cpos:Pos} {td ty tx:TE} (hu:X.A.units+64 < cLine) (ho:BE X o td) (he:BE X e ty) (hf:BE X f tx) (m:M2 X o "get" apos e f cpos):BE X (.Call (.Attribute o "get" apos) [e,f] [] cpos) (rl td ty tx):=⟨u9 (by nofun) ho.h he.h hf.h m⟩
end
end L2
set_option maxHeartbeats 4000000
namespace L2
open PySem PySem.Spec PyProof.Rows
mutual
def depD:D→Nat
 | .lst xs=>depDs xs+1
 | .tup xs=>depDs xs+1
 | _=>0
def depDs:List D→Nat
 | []=>0
 | d::ds=>max (depD d) (depDs ds)
end
mutual
def okS:D→Bool
 | .lst xs=>okSs xs
 | .tup xs=>okSs xs
 | .dct _ _=>false
 | .ty _=>false
 | _=>true
def okSs:List D→Bool
 | []=>true
 | d::ds=>okS d && okSs ds
end
section
variable {X:Cx} {pins:List (Addr×Obj)} {σ:St} {H:Hp} {s:Shared}
end
section
variable {X:Cx}
end
section
variable {K:PySem.W.Frag}
end
end L2
set_option maxHeartbeats 4000000
namespace L2
open PySem PySem.Spec PyProof.Rows
open PySem.Builtin PySem.Builtin.Str
theorem mQ:∀ (l:List (Str×Tok)),Vals ((l.map (·.1)).map V.str) (strValues l)
 | []=>.nil
 | (z,t)::l=>.cons ⟨t,rfl⟩ (mQ l)
def sZ:V→List V→Hp→VK→Prop:=fun x vs H Q=>∃ z y:Str,x=.str z∧vs=[.str y]∧(y.length == 0)=false∧z.length+2≤sizeLine∧∀ p,H p=none→Q (.ref p) (upd H p (.lst ((Txt.split z y).map V.str)))
def tf:V→List V→Hp→VK→Prop:=fun x vs H Q=>∃ z y:Str,x=.str z∧vs=[.str y]∧(y.length == 0)=false∧z.length≤sizeLine ∧
 ∀ p,H p=none→Q (.ref p) (upd H p (.tup [.str (Txt.partition z y).1,.str (Txt.partition z y).2.1,.str (Txt.partition z y).2.2]))
section
variable {X:Cx}
theorem vT:MtR X "str.split" sZ:=by
 intro pins s σ H x vs v us Q I rx rv h
 obtain ⟨z,y,rfl,rfl,hy,hz,q⟩:=h
 obtain ⟨t,rfl⟩:=rx
 obtain ⟨u,rfl,tu,rfl⟩:=eM rv
 have hn:(partsBetween z (occurrences z y 0 z.length (z.length+1)) y.length).length≤sizeLine:=by
  have e1:=StrLaws.occ_length_le z y 0 z.length (z.length+1)
  rw [length_partsBetween]; nofun
 have hsl:(Txt.split z y).length≤sizeLine:=by
  unfold Txt.split
  have h1:1≤sizeLine:=by have:sizeLine=16777216:=sizeLine_eq; nofun
  split
  ·exact h1
  ·split
   ·exact h1
   ·exact hn
 have fin:∀ (l:List (Str×Tok)) (k:Nat),l.map (·.1)=Txt.split z y→EP X pins σ Q (.ref s.heap.objs.size) { s with heap:=s.heap.push { cls:=.type "list", data:=.seq (strValues l).toArray },toks:=k }:=fun l k e =>
  ⟨.ref _,_,I.lnew (ys:=(Txt.split z y).map V.str) (by rw [← e]; exact mQ l) (by rw [List.length_map]; exact hsl),rfl,q _ I.fresh⟩
 cases h1:(decide (z.length < y.length) || decide (strKind z < strKind y))
 ·cases hf:(occurrences z y 0 z.length (z.length+1)).isEmpty
  ·refine call_meets PySem.F.slot_str_split (typeIs_str _ _ _) PySem.F.entry_str_split (PySem.F.args_str_split_2 _ _) (meets_str_split_sep z y t tu h1 hy hf (by nofun) hn) ?_
   show wants _ _ _ { s with toks:=_,heap:=s.heap.push { cls:=.type "list", data:=.seq (strsFrom s.toks (partsBetween z (occurrences z y 0 z.length (z.length+1)) y.length)).toArray } }
   rw [strsFrom_eq]
   exact fin (numbered s.toks _) _ ((numbered_texts _ _).trans ((if_neg (ne_true_of_eq_false h1)).trans (if_neg (ne_true_of_eq_false hf))).symm)
  ·exact call_meets PySem.F.slot_str_split (typeIs_str _ _ _) PySem.F.entry_str_split (PySem.F.args_str_split_2 _ _) (meets_str_split_not_found z y t tu h1 hy hf)
    (fin [(z,t)] s.toks ((if_neg (ne_true_of_eq_false h1)).trans (if_pos hf)).symm)
 ·exact call_meets PySem.F.slot_str_split (typeIs_str _ _ _) PySem.F.entry_str_split (PySem.F.args_str_split_2 _ _) (meets_str_split_cannot_occur z y t tu h1)
   (fin [(z,t)] s.toks (if_pos h1).symm)
theorem vU:MtR X "str.partition" tf:=by
 intro pins s σ H x vs v us Q I rx rv h
 obtain ⟨z,y,rfl,rfl,hy,hz,q⟩:=h
 obtain ⟨t,rfl⟩:=rx
 obtain ⟨u,rfl,tu,rfl⟩:=eM rv
 have h3:3≤sizeLine:=by have:sizeLine=16777216:=sizeLine_eq; nofun
 have fin:∀ (a b c:Tok) (k:Nat),EP X pins σ Q (.ref s.heap.objs.size) { s with heap:=s.heap.push { cls:=.type "tuple", data:=.seq [.str (Txt.partition z y).1 a,.str (Txt.partition z y).2.1 b,.str (Txt.partition z y).2.2 c].toArray },toks:=k }:=fun a b c k =>
  ⟨.ref _,upd H s.heap.objs.size (.tup [.str (Txt.partition z y).1,.str (Txt.partition z y).2.1,.str (Txt.partition z y).2.2]),I.laid (t':=k) (fun _ _ e=>Heap.get?_push_of_some _ e) (Nat.le_refl _) ⟨h3,[.str (Txt.partition z y).1 a,.str (Txt.partition z y).2.1 b,.str (Txt.partition z y).2.2 c],.cons ⟨a,rfl⟩ (.cons ⟨b,rfl⟩ (.cons ⟨c,rfl⟩ .nil)),⟨_,Heap.get?_push_size _ rfl,rfl,_,rfl⟩⟩,rfl,q _ I.fresh⟩
 refine call_meets PySem.F.slot_str_partition (typeIs_str _ _ _) PySem.F.entry_str_partition (PySem.F.args_str_partition_2 _ _) (meets_str_partition z y t tu hy hz) ?_
 have fin':=fin
 unfold Txt.partition at fin'
 revert fin'
 cases occurrences z y 0 z.length 1 with
 | nil=>intro f; exact f _ _ _ _
 | cons i r=>intro f; exact f _ _ _ _
theorem gI:BMt X "str.split" sZ:=⟨vT⟩
theorem oW:BMt X "str.partition" tf:=⟨vU⟩
end
section
variable {K:PySem.W.Frag} {μ:List Nat}
def fT1 (f:Str→D→(OV→Prop)→Prop)(fo fe:FE):FE:=fun ρ Q=>fo ρ fun r ρ1=>on1 ρ1 r fun d=>match d with
 | .str z=>fe ρ1 fun r2 ρ2=>on1 ρ2 r2 fun d2=>f z d2 fun o=>Q (.ov o) ρ2
 | _=>False
structure T1F (K:PySem.W.Frag)(r:V→List V→Hp→VK→Prop)(f:Str→D→(OV→Prop)→Prop):Prop where
 h:∀ {F H:Hp} {z:Str} {y:V} {d:D} {Q:VK} {P:OV→Prop},Same F H→Acc K F H y d→f z d P→xD K F H P Q→r (.str z) [y] H Q
theorem nM {r:V→List V→Hp→VK→Prop}{f:Str→D→(OV→Prop)→Prop}{to te:TE}{fo fe:FE}(m:T1F K r f)(ho:EF K μ to fo)(he:EF K μ te fe):EF K μ (tBM K "str" r to (fV te m7)) (fT1 f fo fe):=⟨by
 intro F Z H τ σ ρ A Q P vw R h q
 refine ho.h vw R h fun r1 ρ1 x F1 H1 A1 B1 h1 s1 R1 v1 f1=>?_
 obtain ⟨d,e1,h2⟩:=db h1
 split at h2
 ·rename_i z
  have ex:=(R1.acc v1 e1).str_eq
  subst ex
  refine ⟨rfl,he.h vw R1 h2 fun r2 ρ2 y F2 H2 A2 B2 h3 s2 R2 v2 f2=>?_⟩
  obtain ⟨d2,e2,h4⟩:=db h3
  exact m.h R2.fh (R2.acc v2 e2) h4 (R2.after fun o v F3 H3 B p s3 R3 ow fr=>q _ _ _ _ _ _ _ p ((s1.trans s2).trans s3) R3 ow fr)
 ·exact h2.elim⟩
def jt:Str→D→(OV→Prop)→Prop
 | z,.str y,P=>((y.length == 0)=false∧z.length+2≤sizeLine)∧P (.fl ((Txt.split z y).map .str))
 | _,_,_=>False
theorem gJ:T1F K sZ jt:=⟨by
 intro F H z y d Q P s hy f n
 unfold jt at f
 split at f
 ·rw [hy.str_eq]
  exact ⟨z,_,rfl,rfl,f.1.1,f.1.2,eG s n (Dens.strs _) f.2⟩
 ·exact f.elim⟩
def oX:Str→D→(OV→Prop)→Prop
 | z,.str y,P=>((y.length == 0)=false∧z.length≤sizeLine)∧P (.fz (.tup [.str (Txt.partition z y).1,.str (Txt.partition z y).2.1,.str (Txt.partition z y).2.2]))
 | _,_,_=>False
theorem oY:T1F K tf oX:=⟨by
 intro F H z y d Q P s hy f n
 unfold oX at f
 split at f
 ·rw [hy.str_eq]
  exact ⟨z,_,rfl,rfl,f.1.1,f.1.2,iL s n (.cons (.str _) (.cons (.str _) (.cons (.str _) .nil))) f.2⟩
 ·exact f.elim⟩
end
end L2
set_option maxHeartbeats 4000000
namespace L2
open PySem PySem.Builtin PySem.Builtin.Str PySem.StrLaws
def tj (y p:List Nat):Prop:=∀ r k,k < p.length→((p++y++r).drop k).take y.length≠y
theorem fK {c:Nat}{y p:List Nat}(h:c ∉ p):tj (c::y) p:=by
 intro r k hk e
 have e1:(((p++(c::y)++r).drop k).take (c::y).length)[0]?=some c:=by rw [e]; rfl
 rw [List.getElem?_take_of_lt (by simp),List.getElem?_drop,Nat.add_zero,List.append_assoc,List.getElem?_append_left hk] at e1
 exact h (List.mem_of_getElem? e1)
theorem kb {x y:Str}{i:Nat}:At x y x.length i↔i+y.length≤x.length∧(x.cps.toList.drop i).take y.length=y.cps.toList:=by
 unfold At
 rw [subAt_eq,beq_iff_eq]
theorem aM (z:Str):z.length=z.cps.toList.length:=by simp [Str.length]
theorem cT (a b:Str):(a++b).cps.toList=a.cps.toList++b.cps.toList:=by
 show ((a.cps++b.cps).toList)=_
 rw [Array.toList_append]
theorem bC {a b:Str}(h:a.cps.toList=b.cps.toList):a=b:=Str.ext' (Array.toList_inj.mp h)
theorem Dm {x y:Str}{a k:Nat}{p r:List Nat}(hx:x.cps.toList.drop a=p++y.cps.toList++r)(hp:tj y.cps.toList p)(hk:k < p.length):¬ At x y x.length (a+k):=by
 intro h
 have h2:=(kb.mp h).2
 rw [← List.drop_drop,hx,aM y] at h2
 exact hp r k hk h2
theorem ya {x y:Str}{a:Nat}{p r:List Nat}(ha:a≤x.length)(hx:x.cps.toList.drop a=p++y.cps.toList++r):At x y x.length (a+p.length):=by
 refine kb.mpr ⟨?_,?_⟩
 ·have:=congrArg List.length hx
  simp only [List.length_drop,List.length_append] at this
  rw [aM y,aM x]
  rw [aM x] at ha
  nofun
 ·rw [← List.drop_drop,hx,List.append_assoc,List.drop_left,aM y,List.take_left]
theorem dz (y p q:Str)(r:List Str):(Str.join y (p::q::r)).cps.toList=p.cps.toList++y.cps.toList++(Str.join y (q::r)).cps.toList:=by
 show (p++y++Str.join y (q::r)).cps.toList=_
 rw [cT,cT]
theorem oZ (x y:Str)(hy:1≤y.length):∀ (ps:List Str) (a:Nat) (cuts:List Nat) (f:Nat),ps≠[]→(∀ p ∈ ps,tj y.cps.toList p.cps.toList)→a≤x.length→x.cps.toList.drop a=(Str.join y ps).cps.toList →
  ChainG x y x.length a cuts f→(∀ k,f≤k→¬ At x y x.length k)→partsFrom x y.length a cuts=ps
 | [],_,_,_,h,_,_,_,_,_=>absurd rfl h
 | [p],a,cuts,f,_,hp,ha,hx,hc,hf=>by
  have hx:x.cps.toList.drop a=p.cps.toList:=hx
  cases cuts with
  | nil =>
   show [strSub x a x.length]=[p]
   congr 1
   apply bC
   rw [strSub_toList,hx]
   apply List.take_of_length_le
   have:=congrArg List.length hx
   simp only [List.length_drop] at this
   rw [aM x]
   nofun
  | cons c r =>
   exfalso
   obtain ⟨h1,h2,_,_⟩:=hc
   obtain ⟨h3,h4⟩:=kb.mp h2
   have hl:=congrArg List.length hx
   simp only [List.length_drop] at hl
   rw [aM x,aM y] at h3
   rw [aM y] at hy
   have e:c=a+(c - a):=by nofun
   rw [e,← List.drop_drop,hx,aM y] at h4
   have hk:c - a < p.cps.toList.length:=by nofun
   refine hp p (List.mem_cons_self ..) [] (c - a) hk ?_
   rw [List.append_assoc,List.drop_append_of_le_length (by nofun),List.take_append_of_le_length (by rw [List.length_drop]; nofun)]
   exact h4
 | p::q::r,a,cuts,f,_,hp,ha,hx,hc,hf=>by
  rw [dz] at hx
  have yes:=ya ha hx
  have no:∀ k,k < p.cps.toList.length→¬ At x y x.length (a+k):=fun k hk=>Dm hx (hp p (List.mem_cons_self ..)) hk
  cases cuts with
  | nil =>
   have e:f=a:=hc
   exact absurd yes (hf _ (by nofun))
  | cons c cs =>
   obtain ⟨h1,h2,h3,h4⟩:=hc
   have ec:c=a+p.cps.toList.length:=by
    rcases Nat.lt_trichotomy c (a+p.cps.toList.length) with h | h | h
    ·exact absurd (by rw [show a+(c - a)=c by nofun]; exact h2) (no (c - a) (by nofun))
    ·exact h
    ·exact absurd yes (h3 _ (by nofun) h)
   have yl:=(kb.mp yes).1
   subst ec
   show strSub x a (a+p.cps.toList.length)::partsFrom x y.length (a+p.cps.toList.length+y.length) cs=_
   congr 1
   ·apply bC
    rw [strSub_toList,hx,Nat.add_sub_cancel_left,List.append_assoc,List.take_left]
   ·refine oZ x y hy (q::r) _ cs f (by simp) (fun z hz=>hp z (List.mem_cons_of_mem _ hz)) yl ?_ h4 hf
    rw [Nat.add_assoc,← List.drop_drop,hx,aM y,← List.length_append,List.drop_left]
theorem vV (x:Str):1≤PySem.Builtin.Str.strKind x:=by
 unfold PySem.Builtin.Str.strKind
 split
 ·decide
 ·split <;> decide
theorem kc (y:Str)(hy:1≤y.length)(hk:PySem.Builtin.Str.strKind y=1)(ps:List Str)(hne:ps≠[])(hp:∀ p ∈ ps,tj y.cps.toList p.cps.toList):Txt.split (Str.join y ps) y=ps:=by
 obtain ⟨f,hc,hf⟩:=occ_tight (Str.join y ps) y hy
 have key:=oZ (Str.join y ps) y hy ps 0 _ f hne hp (Nat.zero_le _) rfl hc hf
 unfold Txt.split
 split
 ·rename_i h
  have:=vV (Str.join y ps)
  rw [hk,Bool.or_eq_true,decide_eq_true_iff,decide_eq_true_iff] at h
  have hlt:(Str.join y ps).length < y.length:=by nofun
  match ps,hne with
  | [p],_=>rfl
  | p::q::r,_ =>
   exfalso
   rw [aM,dz,List.length_append,List.length_append,aM y] at hlt
   nofun
 ·split
  ·rename_i h
   rw [List.isEmpty_iff.mp h] at key
   refine Eq.trans ?_ key
   show [Str.join y ps]=[strSub (Str.join y ps) 0 (Str.join y ps).length]
   rw [sub_whole]
  ·rw [partsBetween_eq]
   exact key
theorem tm {x y:Str}{p r:List Nat}(hx:x.cps.toList=p++y.cps.toList++r)(hp:tj y.cps.toList p):Txt.partition x y=(⟨p.toArray⟩,y,⟨r.toArray⟩):=by
 have yes:=ya (a:=0) (Nat.zero_le _) (by rw [List.drop_zero]; exact hx)
 have no:∀ k,k < p.length→¬ At x y x.length (0+k):=fun k hk=>Dm (a:=0) (by rw [List.drop_zero]; exact hx) hp hk
 rw [Nat.zero_add] at yes
 unfold Txt.partition
 rcases occ_head x y 1 (Nat.le_refl _) with ⟨_,h⟩ | ⟨i,s,e,h1,h2⟩
 ·exact absurd yes (h _)
 ·rw [e]
  have ei:i=p.length:=by
   rcases Nat.lt_trichotomy i p.length with h | h | h
   ·exact absurd (by rw [Nat.zero_add]; exact h1) (no i h)
   ·exact h
   ·exact absurd yes (h2 _ h)
  subst ei
  have hl:=congrArg List.length hx
  simp only [List.length_append] at hl
  show (strSub x 0 p.length,y,strSub x (p.length+y.length) x.length)=_
  have e1:strSub x 0 p.length=⟨p.toArray⟩:=by
   apply bC
   rw [strSub_toList,List.drop_zero,Nat.sub_zero,hx,List.append_assoc,List.take_left]
  have e2:strSub x (p.length+y.length) x.length=⟨r.toArray⟩:=by
   apply bC
   rw [strSub_toList,hx,aM y,← List.length_append,List.drop_left]
   apply List.take_of_length_le
   rw [aM x,List.length_append]
   nofun
  rw [e1,e2]
theorem tq {x y:Str}(h:∀ i,¬ At x y x.length i):(Txt.partition x y).1=x:=by
 unfold Txt.partition
 rcases occ_head x y 1 (Nat.le_refl _) with ⟨e,_⟩ | ⟨i,s,e,h1,h2⟩
 ·rw [e]
 ·exact absurd h1 (h i)
theorem ql {x:Str}{c:Nat}{y':List Nat}{y:Str}(ey:y.cps.toList=c::y')(h:c ∉ x.cps.toList)(i:Nat):¬ At x y x.length i:=by
 intro ha
 obtain ⟨h1,h2⟩:=kb.mp ha
 rw [ey] at h2
 have e1:((x.cps.toList.drop i).take y.length)[0]?=some c:=by rw [h2]; rfl
 have hl:0 < y.length:=by rw [aM,ey]; simp
 rw [List.getElem?_take_of_lt hl,List.getElem?_drop] at e1
 exact h (List.mem_of_getElem? e1)
end L2
set_option maxHeartbeats 4000000
namespace L2
open PySem PySem.Spec PyProof.Rows
open PySem.Builtin PySem.Builtin.Str
def o5:V→List V→Hp→VK→Prop:=fun x vs H Q=>∃ z:Str,x=.str z∧vs=[]∧tooLong (Txt.upper z).length=false∧Q (.str (Txt.upper z)) H
def ju (z:Str)(n:Int):Str:=⟨(List.replicate n.toNat z.cps).foldl (·++·) #[]⟩
theorem qm (a:Array Nat)(n:Nat)(acc:Array Nat):((List.replicate n a).foldl (·++·) acc).toList=acc.toList++(List.replicate n a.toList).flatten:=by
 induction n generalizing acc with
 | zero=>simp
 | succ n ih=>rw [List.replicate_succ,List.foldl_cons,ih,Array.toList_append,List.replicate_succ,List.flatten_cons,List.append_assoc]
theorem jv (z:Str)(n:Int):(ju z n).cps.toList=(List.replicate n.toNat z.cps.toList).flatten:=(qm _ _ _).trans (List.nil_append _)
theorem hV (z:Str)(n:Int):(ju z n).length=z.length * n.toNat:=by
 have h:=congrArg List.length (jv z n)
 rw [List.length_flatten,List.map_replicate,List.sum_replicate_nat] at h
 exact h.trans (Nat.mul_comm _ _)
def Do:R2:=fun x y H Q=>∃ (z:Str) (n:Int),x=.str z∧y=.int n∧1 < n∧0 < z.length∧z.length * n.toNat≤16777216∧Q (.str (ju z n)) H
section
variable {X:Cx}
theorem vW:MtR X "str.upper" o5:=by
 intro pins s σ H x vs v us Q I rx rv h
 obtain ⟨z,rfl,rfl,hz,q⟩:=h
 obtain ⟨t,rfl⟩:=rx
 cases rv
 exact PySem.W.KXw.upper rfl hz fun t' k=>⟨.str _,H,I.tok k,⟨t',rfl⟩,q⟩
theorem vX:BMt X "str.upper" o5:=⟨vW⟩
theorem vY:OpR X (binaryOp .Mult) Do:=by
 intro pins s σ H x y v u Q I rx ry h
 obtain ⟨z,n,rfl,rfl,h1,h0,hl,q⟩:=h
 obtain ⟨t,rfl⟩:=rx
 obtain ⟨t',rfl⟩:=ry
 have hn:n.toNat≤16777216:=Nat.le_trans (Nat.le_mul_of_pos_left _ h0) hl
 have hz:z.length≤16777216:=Nat.le_trans (Nat.le_mul_of_pos_right _ (by nofun)) hl
 have e1:(n == 1 || z.length == 0)=false:=by
  rw [Bool.or_eq_false_iff,beq_eq_false_iff_ne,beq_eq_false_iff_ne]
  exact ⟨by nofun,by nofun⟩
 refine PySem.P.mul_str (by rw [Bool.or_eq_false_iff,decide_eq_false_iff_not,decide_eq_false_iff_not]; exact ⟨by nofun,by nofun⟩) (fun _ _ hgt=>?_) (fun _ _=>?_) ?_
 ·have:((z.length * n.toNat:Nat):Int)=z.length * n:=by rw [Int.natCast_mul,Int.toNat_of_nonneg (by nofun)]
  have h2:(z.length:Int) * n≤2 ^ 63 - 1:=by nofun
  have:=Int.lt_iff_add_one_le.mp hgt
  have h3:=(Int.le_ediv_iff_mul_le (c:=n) (a:=(z.length:Int)) (b:=2 ^ 63 - 1) (by nofun)).mpr h2
  nofun
 ·have:=sizeLine_eq; unfold tooLong; simp; nofun
 ·rw [if_neg (by nofun),if_neg (by rw [e1]; decide)]
  refine ⟨?_,.str _,H,I.tok _,⟨_,rfl⟩,q⟩
  exact (hV z n).symm ▸ (by have:=sizeLine_eq; nofun)
end
section
variable {K:PySem.W.Frag} {μ:List Nat}
def Fz (d e:D)(P:OV→Prop):Prop:=match d with
 | .str z=>(match e with
  | .int n=>(1 < n∧0 < z.length∧z.length * n.toNat≤16777216)∧P (.fz (.str (ju z n)))
  | _=>False)
 | _=>False
def fT0 (f:Str→(OV→Prop)→Prop)(fo:FE):FE:=fun ρ Q=>fo ρ fun r ρ1=>on1 ρ1 r fun d=>match d with
 | .str z=>f z fun o=>Q (.ov o) ρ1
 | _=>False
def tt (z:Str)(P:OV→Prop):Prop:=tooLong (Txt.upper z).length=false∧P (.fz (.str (Txt.upper z)))
theorem vZ {to:TE}{fo:FE}(ho:EF K μ to fo):EF K μ (tBM K "str" o5 to m7) (fT0 tt fo):=⟨by
 intro F Z H τ σ ρ A Q P vw R h q
 refine ho.h vw R h fun r1 ρ1 x F1 H1 A1 B1 h1 s1 R1 v1 f1=>?_
 obtain ⟨d,e1,h2⟩:=db h1
 cases d
 case str z =>
  have ex:=(R1.acc v1 e1).str_eq
  subst ex
  exact ⟨rfl,z,rfl,rfl,h2.1,bo (P:=fun o=>P (.ov o) ρ1) R1.fh (R1.after fun o v F3 H3 B p s3 R3 ow fr=>q _ _ _ _ _ _ _ p (s1.trans s3) R3 ow fr) (.str _) h2.2⟩
 all_goals exact False.elim h2⟩
end
end L2
set_option maxHeartbeats 4000000
namespace L2
open PySem PySem.Spec PyProof.Rows
section
variable {X:Cx}
def RvR (X:Cx)(r:V→Hp→VK→Prop):Prop :=
 ∀ (pins:List (Addr×Obj)) (s:Shared) (σ:St) (H:Hp) (x:V) (v:Value) (t:Tok) (sl:Addr) (Q:VK),Inv X pins σ H s→RelV x v→s.heap.IsSliceOf sl .none .none (.int (-1) t)→r x H Q →
  ∃ T id,typeLookup (.type T) "__getitem__" = pure (some (.builtin id))∧s.TypeIs v T∧wpAny (model X.prog X.w) X.A (getItem v (.ref sl)) (EP X pins σ Q) X.xe s
def tRv (r:V→Hp→VK→Prop)(te:TE):TE:=fun σ H Q=>te σ H fun x H1=>r x H1 Q
theorem Dp {r:V→Hp→VK→Prop}{e st:Expr}{te:TE}{p2 pos:Pos}(hr:RvR X r)(he:PE X e te)(hst:PE X st (tC (.int (-1)))):PE X (.Subscript e (.Slice none none (some st) p2) pos) (tRv r te):=by
 intro pins s σ H Q I h
 refine Subscript_ (thn (he pins s σ H _ I h) fun v s1 ⟨x,H1,I1,r1,q1⟩=>?_)
 refine wpAny_Slice ?_
 rw [evalPart_none]
 refine wpAny_pure (wpAny_pure ?_)
 refine thn (hst pins s1 σ H1 (fun w H2=>w=.int (-1)∧H2=H1) I1 ⟨rfl,rfl⟩) fun vs s2 ⟨y,H2,I2,r2,q2⟩=>?_
 obtain ⟨rfl,rfl⟩:=q2
 obtain ⟨t,rfl⟩:=r2
 have I4:Inv X pins σ H2 { s2 with heap:=s2.heap.push { cls:=.type "slice", data:=.fields #[.none,.none,.int (-1) t] } }:=I2.kept (t':=s2.toks) fun b ob q=>Heap.get?_push_of_some _ q
 obtain ⟨T,id,hT,ht,hg⟩:=hr pins { s2 with heap:=s2.heap.push { cls:=.type "slice", data:=.fields #[.none,.none,.int (-1) t] } } σ H2 x v t s2.heap.objs.size Q I4 r1 (Heap.IsSliceOf.new ..) q1
 show wpAny (model X.prog X.w) X.A (subscriptTail e (.Slice none none (some st) p2) v (.ref s2.heap.objs.size)) (EP X pins σ Q) X.xe { s2 with heap:=s2.heap.push { cls:=.type "slice", data:=.fields #[.none,.none,.int (-1) t] } }
 exact tail_any (ops:=[v,.ref s2.heap.objs.size]) ht hT hg (by with_unfolding_all rfl)
def FC (K:PySem.W.Frag):V→Hp→VK→Prop:=fun x H Q=>∃ a xs,x=.ref a∧SqL K H a xs∧∀ p,H p=none→Q (.ref p) (upd H p (.lst xs.reverse))
theorem Al:RvR X (FC X.K):=by
 intro pins s σ H x v t sl Q I rx hs h
 obtain ⟨a,xs,rfl,hx,q⟩:=h
 cases rx
 obtain ⟨its,r,ht,hz⟩:=I.list hx
 have hlen:=r.length
 refine ⟨"list", _,slot_list_getitem.lookup,ht.isList.typeIs,?_⟩
 refine wpAny_getItem_list_slice ht.isList hs .none .none (.int (-1) t) (by simp) ?_ (by rw [List.size_toArray] <;> nofun)
 rw [PySem.W.krv_pick]
 exact ⟨.ref s.heap.objs.size,_,I.laid (t':=s.toks) (o:=.lst xs.reverse) (fun b ob q=>Heap.get?_push_of_some _ q) (Nat.le_refl _) ⟨by rw [List.length_reverse]; exact hz,_,0,r.reverse,Heap.get?_push_size _ rfl⟩,rfl,q _ (I.hok.fresh (Nat.le_refl _))⟩
def D8 (z:Str):Str:=⟨z.cps.toList.reverse.toArray⟩
def FD:V→Hp→VK→Prop:=fun x H Q=>∃ z:Str,x=.str z∧z.length≤sizeLine∧Q (.str (D8 z)) H
theorem qo (z:Str)(t:Tok):(⟨((slicePicked z none none (some (-1,t))).filterMap (z.cps[·]?)).toArray⟩:Str)=D8 z:=by
 refine gh ?_
 show ((Builtin.Str.strSliceIndices none none (-1) z.length).filterMap (z.cps[·]?)).toArray.toList=z.cps.toList.reverse.toArray.toList
 rw [picked_rev,List.toList_toArray,List.toList_toArray]
 rw [PyProof.Rows.filterMap_get,List.map_map]
 ·refine List.ext_getElem (by simp [Str.length]) fun i h1 h2=>?_
  have hi:i < z.cps.size:=by simpa [Str.length] using h1
  have hj:z.cps.size - 1 - i < z.cps.size:=by nofun
  rw [List.getElem_map,List.getElem_range,List.getElem_reverse]
  show z.cps.getD (z.cps.size - 1 - i) 0=_
  rw [Array.getD_eq_getD_getElem?,Array.getElem?_eq_getElem hj]
  rfl
 ·intro i hi
  obtain ⟨k,hk,rfl⟩:=List.mem_map.mp hi
  have hk':k < z.length:=List.mem_range.mp hk
  show z.length - 1 - k < z.length
  nofun
theorem Dq:RvR X FD:=by
 intro pins s σ H x v t sl Q I rx hs h
 obtain ⟨z,rfl,hz,q⟩:=h
 obtain ⟨u,rfl⟩:=rx
 refine ⟨"str", _,PySem.F.slot_str_getitem.lookup,typeIs_str _ _ _,?_⟩
 obtain ⟨o,ho,hc,hd⟩:=hs
 refine wpAny_getItem_str_slice (l:=none) (u:=none) (st:=some (-1,t)) ⟨o,ho,hc,hd⟩ rfl ?_
 show (Made.str _).post _ _
 rw [qo]
 exact ⟨by show (z.cps.toList.reverse.toArray).size≤sizeLine; rw [List.size_toArray,List.length_reverse]; exact hz,.str _,H,I.tok _,⟨_,rfl⟩,q⟩
def EX (K:PySem.W.Frag):V→Hp→VK→Prop:=fun x H Q=>FD x H Q∨FC K x H Q
theorem Dr:RvR X (EX X.K):=by
 intro pins s σ H x v t sl Q I rx hs h
 rcases h with h | h
 ·exact Dq pins s σ H x v t sl Q I rx hs h
 ·exact Al pins s σ H x v t sl Q I rx hs h
theorem yb {e st:Expr}{te:TE}{p2 pos:Pos}(K:PySem.W.Frag)(he:BE X e te)(hst:BE X st (tC (.int (-1))))(h:X.K=K):BE X (.Subscript e (.Slice none none (some st) p2) pos) (tRv (EX K) te):=by
 subst h; exact ⟨Dp Dr he.h hst.h⟩
end
section
variable {K:PySem.W.Frag} {μ:List Nat}
def fRv (fe:FE):FE:=fun ρ Q=>fe ρ fun r ρ1=>on1 ρ1 r fun d=>match d with
 | .str z=>z.length≤sizeLine∧Q (.ov (.fz (.str (D8 z)))) ρ1
 | .lst ds=>Q (.ov (.fl ds.reverse)) ρ1
 | _=>False
theorem Ds {te:TE}{fe:FE}(he:EF K μ te fe):EF K μ (tRv (EX K) te) (fRv fe):=⟨by
 intro F Z H τ σ ρ A Q P vw R h q
 refine he.h vw R h fun r1 ρ1 x F1 H1 A1 B1 h1 s1 R1 v1 f1=>?_
 obtain ⟨d,e1,h2⟩:=db h1
 have n:=R1.after (P:=fun o=>P (.ov o) ρ1) fun o v F3 H3 B p s3 R3 ow fr=>q _ _ _ _ _ _ _ p (s1.trans s3) R3 ow fr
 cases d
 case str z=>exact .inl ⟨z,(R1.acc v1 e1).str_eq,h2.1,bo (P:=fun o=>P (.ov o) ρ1) R1.fh n (.str _) h2.2⟩
 case lst ds =>
  obtain ⟨a,xs,rfl,a1,a2⟩:=(R1.acc v1 e1).asL R1.fh
  exact .inr ⟨a,xs,rfl,a1,eG (P:=fun o=>P (.ov o) ρ1) R1.fh n a2.reverse h2⟩
 all_goals exact False.elim h2⟩
end
end L2
set_option maxHeartbeats 4000000
namespace L2
open PySem PySem.Spec PyProof.Rows
section
variable {M:Model} {A:Around} {E:Value→Shared→Prop} {s:Shared}
end
section
variable {prog:Program} {w:World} {A:Around} {E:Value→Shared→Prop} {R:Result→Shared→Prop} {s:Shared}
end
section
variable {X:Cx} {pins:List (Addr×Obj)} {σ:St} {H:Hp} {s:Shared} {T F:List Str} {ixs:List Nat} {scope:Scope} {fp:List Addr}
end
end L2
set_option maxHeartbeats 4000000
namespace L2
open PySem PySem.Spec PyProof.Rows
section
variable {X:Cx}
structure OwnR (P:Program)(w:World)(K:PySem.W.Frag)(mg:Str→Option Value)(base:Heap)(x:Str)(k:Nat)(ps:List Str)(sp:Sp):Prop where
 ex:∃ (f:Addr) (fd:FuncData),FnOk P w K mg base (CXr P w) k f fd ps sp∧mg x=some (.ref f)∧PySem.W.keepIn K (.ref f)=true∧Binds K fd ps []
end
section
variable {K:PySem.W.Frag} {μ:List Nat} {G:Hp→Prop}
end
theorem Fun.okY {P:Program}{w:World}{K:PySem.W.Frag}{mg:Str→Option Value}{base:Heap}{x qual:Str}{st:Stmt}{f:Addr}{fd:FuncData}{N ps:List Str}{k:Nat}{cr:List D→Prop}{C:Addr}{fs:FS}(F:Fun K x qual st f fd)(S:FnScope N ps (ak st))
  (hlen:∀ ds,cr ds→ds.length=ps.length) (hpl:ps.length≤N.length)
  (n:Nat) (hn:N.length=n)
  (hbody:∀ (cdv:Value) (A:Around) (outer:List Env) (s:Shared) (H:Hp) (E:XK),(∀ H',Same H H'→E (.ref C) none H')→Room k (A.deeper (envOfC qual (ak st) s.heap.objs.size f cdv)) →
   (∀ pins σ H1 s1 h' ea args,Inv (n5 (CXr P w) P w K mg base N qual (ak st) f cdv A outer s H E) pins σ H1 s1→Same H H1→Heap.MadeExcOf s1.heap h' ea (.ref C) args→(n5 (CXr P w) P w K mg base N qual (ak st) f cdv A outer s H E).xe (.ref ea) { s1 with heap:=h' }) →
   ∃ t,BSs (n5 (CXr P w) P w K mg base N qual (ak st) f cdv A outer s H E) (bf st) t∧SFX K n [] (Same H) t fs)
  (hc:∀ ds,cr ds→fs { nx:=fun _=>False,rt:=fun _ _=>False } (aU n (ds.map .fz))):FnOk P w K mg base (CXr P w) (k+1) f fd ps (spR K cr C):=by
 subst hn
 obtain ⟨oc,od,kV,doc,pm,an,cdv,ct,osl,rfl,lk,hcd⟩:=F.ex
 refine B7 lk hcd S (fun vs H Q E h=>?_) fun A outer s H vs Q E hr hsp=>?_
 ·obtain ⟨F1,ds,_,hd,hcc,_⟩:=h
  rw [hd.length]; exact hlen ds hcc
 ·obtain ⟨F1,ds,sf,hd,hcc,hE⟩:=hsp
  obtain ⟨t,ht,hs⟩:=hbody cdv A outer s H E hE hr fun pins σ H1 s1 h' ea args I g m=>mL hE I g m
  refine ⟨t,ht.h,?_⟩
  have hl:=hlen ds hcc
  have hvl:=hd.length
  obtain ⟨Z,z1,z2⟩:∃ Z:Hp,(∀ b,F1 b=none→Z b=H b)∧∀ b o,F1 b=some o→Z b=none:=by
   classical
   exact ⟨fun b=>if F1 b=none then H b else none,fun b hb=>if_pos hb,fun b o hb=>if_neg (by rw [hb]; exact fun z=>nomatch z)⟩
  have sz:Same Z H:=fun b o z=>by
   cases q:F1 b with
   | none=>rw [z1 b q] at z; exact z
   | some u=>rw [z2 b u q] at z; cases z
  have hn:(eh N vs).length=N.length:=by unfold eh; simp; nofun
  have R:Rel K F1 Z H (eh N vs) (aU N.length (ds.map .fz)) []:=by
   refine ⟨?_,List.nodup_nil,(fun _ z=>nomatch z),sf,sz,z2⟩
   unfold eh aU
   rw [hvl,List.length_map]
   exact Slots.of_ows _ (sU hd)
  refine hs.h (fD:={ nx:=fun _=>False,rt:=fun _ _=>False }) (fun H' a b=>fun c o hc=>?_) R (Pin.refl hn) ⟨fun _ _ _ _ _ _ _ _ z=>z.elim,fun _ _ _ _ _ _ _ _ _ _ _ _ _ z=>z.elim,fun _ _ _ _ _ _ _ _ z=>z.elim,fun _ _ _ _ _ _ _ _ z=>z.elim⟩ (hc ds hcc)
  cases q:F1 c with
  | none=>exact b c o (by rw [z1 c q]; exact hc)
  | some u =>
   have e:=sf c u q
   rw [hc] at e
   cases e
   exact a c _ q
end L2
set_option maxHeartbeats 4000000
namespace L2
open PySem PySem.W PySem.Spec PyProof.Rows
section
variable {X:Cx}
end
end L2
set_option maxHeartbeats 4000000
namespace L2
open PySem PySem.W PySem.Spec PyProof.Rows
def Am (K:Frag)(cr:List L2.D→Prop)(C:Addr)(iY iN:Nat)(tA:TS)(t:TA):TS:=fun Dn σ H=>tA Dn σ H∨t σ H fun vs H1=>spR K cr C vs H1 (fun _ _=>False) (fun c _ _=>c=.ref C)∧Same H H1∧∀ ea H2,Same H1 H2→H2 ea=some (mO ea C)→Dn.nx ((σ.set iY (some (.ref ea))).set iN none) H2
section
variable {X:Cx}
theorem An {k:Nat}{f C D:Addr}{fd:FuncData}{ps:List Str}{cr:List L2.D→Prop}{x cx n y yy:Str}{iN iY:Nat}{p cpos spos yyp cp yp np asp hpos tpos:Pos}{e:Expr}{es:List Expr}{t:TA}{tA:TS}(hA:PS X.nox (.Assign [.Name yy yyp] (.Call (.Name x p) (e::es) [] cpos) spos) tA)
  (F:FnOk X.prog X.w X.K X.mg X.base (CXr X.prog X.w) k f fd ps (spR X.K cr C)) (hr:Room k X.A) (hg:Gl X x) (hm:X.mg x=some (.ref f)) (hk:PySem.W.keepIn X.K (.ref f)=true) (hb:Binds X.K fd ps [])
  (ha:PA X.nox (e::es) t) (hstk:X.stack=X.env::X.outer∧X.env.frame=some X.env.locals) (hgD:Gl X cx) (hmD:X.mg cx=some (.ref D)) (hx:exmOne X.K (.ref C) (.ref D)=some true)
  (hN:X.N.Nodup) (hiN:X.N[iN]?=some n) (hlN:X.env.scope.names.lookup n=some .local) (hiY:X.N[iY]?=some y) (hlY:X.env.scope.names.lookup y=some .local) (hNY:iN≠iY)
  (hdb:(x == ("__debug__" : Str))=false) (hdD:(cx == ("__debug__" : Str))=false) (hdn:(n == ("__debug__" : Str))=false) (hcn:(n == ("__classdict__" : Str))=false) (he:starEach (e::es) X.env=(false,eval e X.env)::starEach es X.env) (hpl:(backTo cpos (starEach es X.env)).any (·.1)=false)
  (hsw:swapsWith (.Call (.Name x p) (e::es) [] cpos) (some (.Name yy yyp)) spos.line X.env=pure false) (hsw2:swapsWith (.Name n np) (some (.Name y yp)) asp.line X.env=pure false) :
  PS X (.Try [.Assign [.Name yy yyp] (.Call (.Name x p) (e::es) [] cpos) spos] [.ExceptHandler (some (.Name cx cp)) (some n) [.Assign [.Name y yp] (.Name n np) asp] hpos] [] [] tpos)
   (Am X.K cr C iY iN tA t):=by
 intro pins s σ H Dn I h
 rcases h with h | h
 ·refine wpAny_Try_except (wpAny_mono (na hA pins s σ H Dn (I.wish _) h) (fun fl s1 q=>?_) fun _ _ w=>w.elim)
  have q:=SP.unwish q
  cases fl with
  | next=>exact wpAny_execs_nil q
  | brk=>exact q
  | cont=>exact q
  | ret u=>exact q
 refine wpAny_Try_except (wpAny_execs_cons (wpAny_Assign_Name ?_ hsw))
 refine qk F hr hg hm hk hb ha I _ h (fun H1 s1 e s' I1 sm z c=>?_) hdb he hpl
 obtain ⟨ea,C',a0,B,H',rfl,fl,hok,same,bk,fre,slt,os,bare,n1,n2,hE⟩:=c
 have eC:C'=C:=Value.ref.inj hE
 subst eC
 have hfr:X.A.frames=some (X.env::X.outer):=by rw [← hstk.1]; exact I1.ok.frames
 have hst:=I1.stack
 have hsf:=I1.stkFree
 rw [hstk.1] at fl
 refine wpAny_looks_onW hfr hstk.2 fl fun h4 held up4=>?_
 refine wpAny_landsW held fun h5 fl5 up5=>?_
 have upT:∀ {a b c:Heap},a.UpToSlots b→b.UpToSlots c→a.UpToSlots c:=fun x y=>x.trans y
 have inv:∀ {h6:Heap},Heap.FlyingW B (X.env::X.outer) ea (.ref C') a0 h6→s'.heap.UpToSlots h6→Inv X pins σ (upd H' ea (mO ea C')) { s' with heap:=h6 }:=fun {h6} fl6 up6=>by
  rw [← hstk.1] at fl6
  obtain ⟨un6,hok6⟩:=CXr.caught (E:=fun _ _ _=>True) (e:=.ref ea) hst fl6 hok same bk fre slt n1 n2 up6 hsf
  have nea:∀ b u,H' b=some u→b≠ea:=fun b u q z=>by rw [z,n1] at q; cases q
  refine I1.call' (s':={ s' with heap:=h6 }) (ch:=[]) os ⟨un6.keep,un6.slot,fun b o q n hx=>?_,un6.there,fun b xs q=>?_,fun b o u q=>?_,fun b ps q=>?_⟩ (fun b u q=>?_) bare (fun _ z=>nomatch z)
  ·rw [bR fun y=>by rw [y,n2] at q; cases q]; exact un6.free b o q n hx
  ·have q':=un6.tups b xs q
   rw [bR (nea _ _ q')]; exact q'
  ·have q':=un6.frzs b o u q
   rw [bR (nea _ _ q')]; exact q'
  ·obtain ⟨mo,q'⟩:=un6.tbls b ps q
   exact ⟨mo,by rw [bR (nea _ _ q')]; exact q'⟩
  ·by_cases hb:b=ea
   ·subst hb
    rw [bn] at q
    cases q
    obtain ⟨oe,vs,T,oT,ts,q1,q2,q3,_⟩:=fl6.2.2.2
    exact ⟨⟨oe,q1,q2.1,vs,q3⟩,⟨oe,q1⟩,fun h1 h2 ⟨o1,w1,w2⟩ k=>⟨o1,k o1 w1,w2⟩⟩
   ·rw [bR hb] at q
    exact (hok6 b u q).stay (fun _ _ _ z=>z) (fun c z=>by rw [bR (nea _ _ z)]; exact z) fun c xs z=>by rw [bR (nea _ _ z)]; exact z
 have I5:=inv fl5 (upT up4 up5)
 obtain ⟨ob,hob,hobc⟩:=fl5.there
 have LT:Looks (model X.prog X.w) h5 (typeOf (.ref ea)) (.ref C'):=hobc ▸ (Looks.ld hob).andThen .now
 have LM:=exm_one (M:=model X.prog X.w) (h:=h5) I5.kIn LT hx
 refine wpAny_handleBy_cons (codeAny_handlers_test (iV (I5.suite (.ref ea)) hgD hmD (LM.at ?_) hdD)) (by intro q; cases q)
 refine codeAny_handlers_suite_as (lands_againW fl5 fun h6 fl6 up6=>?_)
 have I6:=inv fl6 (upT (upT up4 up5) up6)
 refine ky I6 hN hiN (Or.inl hlN) (v:=.ref ea) rfl (fun s7 I7=>?_) (.inr hlN)
 have hiσ:iN < σ.length:=by rw [I6.len]; exact (List.getElem?_eq_some_iff.mp hiN).1
 refine wpAny_mono (na (X:=X.suite (.ref ea)) (xi hN hiY (Or.inl hlY) (xh hiN (Or.inl hlN) hdn hcn) hsw2 (.inr hlY)) pins s7 _ _ { nx:=fun σ' H'=>σ'=(σ.set iN (some (.ref ea))).set iY (some (.ref ea))∧H'=upd _ ea (mO ea C'),rt:=fun _ _=>False } (I7.suite (.ref ea)) ⟨.ref ea,by simp [hiσ],rfl,rfl⟩) (fun fw s8 q=>?_) fun _ _ w=>w.elim
 cases fw with
 | next =>
  obtain ⟨σ',H2,I8,rfl,rfl⟩:=q
  have I9:=I8.unsuite I6.ok
  obtain ⟨m,hn,hl⟩:=id I9.loc
  refine wpAny_nameGoes_keeps (show X.env.kindOf n=some .local from hlN) hn (by rw [I9.ok.kind]; rfl) fun h9 v hn9 sb9=>?_
  refine ⟨_,_,I9.unbind hn hiN hlN hN hl hn9 sb9,?_⟩
  have w:=z ea _ (same.trans (ck n1)) bn
  rw [List.set_comm _ _ (Ne.symm hNY)] at w
  rw [List.set_comm _ _ (Ne.symm hNY),List.set_set]
  exact w
 | brk=>obtain ⟨_,_,_,w⟩:=q; exact w.elim
 | cont=>obtain ⟨_,_,_,w⟩:=q; exact w.elim
 | ret u=>obtain ⟨_,_,_,_,_,w⟩:=q; exact w.elim
theorem tw {k:Nat}{C D:Addr}{ps:List Str}{cr:List L2.D→Prop}{x cx n y yy:Str}{iN iY:Nat}{p cpos spos yyp cp yp np asp hpos tpos:Pos}{e:Expr}{es:List Expr}{t:TA}{tA:TS}(K:Frag)(hK:X.K=K)(hA:BS X.nox (.Assign [.Name yy yyp] (.Call (.Name x p) (e::es) [] cpos) spos) tA)
  (O:OwnR X.prog X.w X.K X.mg X.base x k ps (spR X.K cr C)) (hr:Room k X.A) (hg:Gl X x) (ha:BA X.nox (e::es) t) (hstk:X.stack=X.env::X.outer∧X.env.frame=some X.env.locals) (hgD:Gl X cx) (hmD:X.mg cx=some (.ref D)) (hx:exmOne X.K (.ref C) (.ref D)=some true)
  (hN:X.N.Nodup) (hiN:X.N[iN]?=some n) (hlN:X.env.scope.names.lookup n=some .local) (hiY:X.N[iY]?=some y) (hlY:X.env.scope.names.lookup y=some .local) (hNY:iN≠iY)
  (hdb:(x == ("__debug__" : Str))=false) (hdD:(cx == ("__debug__" : Str))=false) (hdn:(n == ("__debug__" : Str))=false) (hcn:(n == ("__classdict__" : Str))=false) (hn:(e::es).all cV=true)
  (hsw:swapsWith (.Call (.Name x p) (e::es) [] cpos) (some (.Name yy yyp)) spos.line X.env=pure false) (hsw2:swapsWith (.Name n np) (some (.Name y yp)) asp.line X.env=pure false) :
  BS X (.Try [.Assign [.Name yy yyp] (.Call (.Name x p) (e::es) [] cpos) spos] [.ExceptHandler (some (.Name cx cp)) (some n) [.Assign [.Name y yp] (.Name n np) asp] hpos] [] [] tpos) (Am K cr C iY iN tA t):=⟨by
 subst hK
 obtain ⟨f,fd,F,hm,hk,hb⟩:=O.ex
 have h:=hn
 rw [List.all_cons,Bool.and_eq_true] at h
 exact An hA.h F hr hg hm hk hb ha.h hstk hgD hmD hx hN hiN hlN hiY hlY hNY hdb hdD hdn hcn (cH h.1) (eN h.2) hsw hsw2⟩
end
theorem Ao {K:Frag}{n:Nat}{m:List Nat}{cr:List D→Prop}{C:Addr}{iY iN:Nat}{tA:TS}{fA:FS}{t:TA}(hA:SF K n m tA fA):SF K n m (Am K cr C iY iN tA t) fA:=⟨by
 intro F Z H σ0 σ ρ A D fD R p E h
 exact .inl (hA.h R p E h)⟩
theorem FnOk.or {P:Program}{w:World}{K:Frag}{mg:Str→Option Value}{base:Heap}{CX:CXT}{k:Nat}{f:Addr}{fd:FuncData}{ps:List Str}{sp sp':Sp}(F:FnOk P w K mg base CX k f fd ps sp)(G:FnOk P w K mg base CX k f fd ps sp'):FnOk P w K mg base CX k f fd ps (fun vs H Q E=>sp vs H Q E∨sp' vs H Q E) :=
 ⟨fun vs H Q E h=>h.elim (F.len vs H Q E) (G.len vs H Q E),fun A outer s H args us vs Q E hr e b v h=>h.elim (F.run A outer s H args us vs Q E hr e b v) (G.run A outer s H args us vs Q E hr e b v)⟩
theorem Ap {K:Frag}{c:Ct}{vs:List V}{H F1:Hp}{Q:VK}{E:XK}{ds:List D}{d:D}(sf:Same F1 H)(hd:Dens K F1 vs ds)(h:c (ds.map .fz) fun o _=>o=.fz d)(q:∀ v F' H',Same H H'→Same F' H'→Den K F' v d→Q v H'):spM K c vs H Q E:=by
 obtain ⟨Z,z1,z2⟩:∃ Z:Hp,(∀ b,F1 b=none→Z b=H b)∧∀ b o,F1 b=some o→Z b=none:=by
  classical
  exact ⟨fun b=>if F1 b=none then H b else none,fun b hb=>if_pos hb,fun b o hb=>if_neg (by rw [hb]; exact fun z=>nomatch z)⟩
 have sz:Same Z H:=fun b o z=>by
  cases q:F1 b with
  | none=>rw [z1 b q] at z; exact z
  | some u=>rw [z2 b u q] at z; cases z
 refine ⟨F1,Z,ds.map .fz,[],_,sf,sz,z2,sU hd,List.nodup_nil,(fun _ z=>nomatch z),h,fun o os' v F' H' C' B e s1 s2 s3 dj ow1 ow nd fr=>?_⟩
 subst e
 cases ow with
 | fz dn =>
  refine q v F' H' (fun b o hb=>?_) s2 dn
  cases qF:F1 b with
  | none=>exact s3 b o (by rw [z1 b qF]; exact hb)
  | some u =>
   have e:=sf b u qF
   rw [hb] at e
   cases e
   exact s2 b _ (s1 b _ qF)
end L2
set_option maxHeartbeats 4000000
namespace L2
open PySem PySem.Spec PyProof.Rows
def PTk (X:Cx)(e:Expr)(t:TT):Prop :=
 ∀ (pins:List (Addr×Obj)) (s:Shared) (σ:St) (H:Hp) (Q:Bool→Hp→Prop),Inv X pins σ H s→t σ H Q→wpAny (model X.prog X.w) X.A (isTrue e X.env (eval e X.env)) (fun b s'=>1≤s'.toks∧TP X pins σ Q b s') X.xe s
def PSk (X:Cx)(st:Stmt)(t:TS):Prop :=
 ∀ (pins:List (Addr×Obj)) (s:Shared) (σ:St) (H:Hp) (D:Ends),Inv X pins σ H s→1≤s.toks→t D σ H→wpAny (model X.prog X.w) X.A (exec st X.env) (SP X pins D) X.xe s
section
variable {X:Cx}
theorem jw {α:Type}{M:Model}{A:Around}{t:Sem α}{Q:α→Shared→Prop}{E:Value→Shared→Prop}{s:Shared}{n:Nat}(hn:n≤s.toks)(h:wpAny M A t Q E s):wpAny M A t (fun a s'=>n≤s'.toks∧Q a s') E s :=
 wpAny_mono (wpAny_toks_of hn h) (fun _ _ q=>q) fun _ _ q=>q.2
theorem Aq {a:Expr}{ta:TE}{pos:Pos}{op:CmpOp}{r:R2}{i:Int}{j:Nat}{p:Pos}(ho:OpR X (compareOp op) r)(ha:PE X a ta)(hm:behindInMarks op (.Constant (.int i) j p)=false):PTk X (.Compare a [op] [.Constant (.int i) j p] pos) (nb (tOp r ta (tC (.int i)))):=by
 intro pins s σ H Q I h
 refine wpAny_isTrue_Compare1 (thn (ha pins s σ H _ I h) fun v s1 ⟨x,H1,I1,r1,q1⟩=>wpAny_Constant_int ?_) hm
 refine thn (jw (n:=1) (Nat.le_add_left 1 s1.toks) (ho pins { s1 with toks:=s1.toks+1 } σ H1 x (.int i) v (.int i s1.toks) _ (I1.tok _) r1 ⟨_,rfl⟩ q1)) fun c s3 ⟨k1,z,H3,I3,r3,k,e,q3⟩=>?_
 subst e
 cases r3
 exact wpAny_truthy_bool ⟨k1,H3,I3,q3⟩
theorem Ar {c:Expr}{a:List Stmt}{st:Stmt}{tc:TT}{t u:TS}{pos:Pos}(hc:PTk X c tc)(ha:PSs X a t)(h2:PSk X st u):PSs X [.If c a [] pos,st] (Bj (Bk tc t qK) u):=by
 intro pins s σ H D I h
 have cont:∀ (f:Flow) (s1:Shared),1≤s1.toks→SP X pins { D with nx:=u D } f s1→(match f with | .next=>wpAny (model X.prog X.w) X.A (execs [st] X.env) (SP X pins D) X.xe s1 | f=>SP X pins D f s1):=fun f s1 k q=>by
  cases f with
  | next =>
   obtain ⟨σ',H',I',q⟩:=q
   refine wpAny_execs_cons (thn (h2 pins s1 σ' H' D I' k q) fun g s2 q2=>?_)
   cases g with
   | next=>exact wpAny_execs_nil q2
   | ret v=>exact q2
   | brk=>exact q2
   | cont=>exact q2
  | ret v=>exact q
  | brk=>exact q
  | cont=>exact q
 refine wpAny_execs_cons (wpAny_If (thn (hc pins s σ H _ I h) fun d s1 ⟨k1,H1,I1,q1⟩=>?_))
 cases d with
 | true=>exact thn (jw k1 (ha pins s1 σ H1 { D with nx:=u D } I1 q1)) fun f s2 ⟨k2,q2⟩=>cont f s2 k2 q2
 | false=>exact wpAny_execs_nil (cont .next s1 k1 ⟨σ,H1,I1,q1⟩)
def As (a b:Str)(to:TE):TE:=fun σ H Q=>to σ H fun x H1=>∃ z:Str,x=.str z∧z.length+(z.length+1) * b.length≤16777216∧Q (.str (Txt.replace z a b)) H1
theorem nN {o:Expr} {to:TE} {a b:Str} {i j:Nat} {pa pb apos cpos pos:Pos} (hab:(a == b)=false) (ho:PE X o to) (hbase:attributeBase o "replace" X.env (eval o X.env)=eval o X.env) (hline:(apos.endLine == cpos.line)=true) :
  PSk X (.Return (some (.Call (.Attribute o "replace" apos) [.Constant (.str a) i pa,.Constant (.str b) j pb] [] cpos)) pos) (BC (As a b to)):=by
 intro pins s σ H D I k h
 refine wpAny_Return_some ?_
 refine wpAny_Call_method_late hbase rfl hline rfl (thn (jw k (ho pins s σ H _ I h)) fun v s1 ⟨k1,x,H1,I1,r1,z,ex,hl,q1⟩=>?_)
 subst ex
 obtain ⟨t,rfl⟩:=r1
 refine ⟨"str", "str.replace", PySem.F.plainAttrs_str,PySem.F.slot_str_replace,by first | exact PySem.F.type_str_replace | rfl | decide +kernel,typeIs_str _ _ _,(fun _ e=>nomatch e),?_⟩
 refine Calls.callWith_builtin rfl (Calls.evalArgs_plain ?_)
 show wpAny _ _ (spliced [(false,eval (.Constant (.str a) i pa) X.env),(false,eval (.Constant (.str b) j pb) X.env)]) _ _ s1
 refine Calls.spliced_cons (Calls.Constant_str (Calls.spliced_cons (Calls.Constant_str (Calls.spliced_nil ?_))))
 exact SC.replace (by show s1.toks≠0; nofun) (by show s1.toks+1≠0; nofun) (by show s1.toks≠s1.toks+1; nofun) hab hl fun t' k'=>⟨.str _,σ,H1,I1.tok k',⟨t',rfl⟩,q1⟩
end
section
variable {K:PySem.W.Frag} {μ:List Nat}
def Dt (a b:Str)(fo:FE):FE:=fun ρ Q=>fo ρ fun r ρ1=>on1 ρ1 r fun d=>match d with
 | .str z=>z.length+(z.length+1) * b.length≤16777216∧Q (.ov (.fz (.str (Txt.replace z a b)))) ρ1
 | _=>False
theorem Au {a b:Str}{to:TE}{fo:FE}(ho:EF K μ to fo):EF K μ (As a b to) (Dt a b fo):=⟨by
 intro F Z H τ σ ρ A Q P vw R h q
 refine ho.h vw R h fun r1 ρ1 x F1 H1 A1 B1 h1 s1 R1 v1 f1=>?_
 obtain ⟨d,e1,h2⟩:=db h1
 cases d
 case str z=>exact ⟨z,(R1.acc v1 e1).str_eq,h2.1,q _ _ _ _ _ _ _ h2.2 s1 R1 (.fz (.str _)) Fresh.nil⟩
 all_goals exact False.elim h2⟩
theorem Av {X:Cx}{a:List Stmt}{t:TS}{pos:Pos}{o:Expr}{to:TE}{x y:Str}{i j:Nat}{pa pb apos cpos rpos:Pos}{op:CmpOp}{r:R2}{n:Int}{jn:Nat}{pn cp:Pos}{e:Expr}{te:TE}(hop:BOp X (compareOp op) r)(hee:BE X e te)(hm:behindInMarks op (.Constant (.int n) jn pn)=false)
  (ha:BSs X a t) (hxy:(x == y)=false) (ho:BE X o to) (hbase:attributeBase o "replace" X.env (eval o X.env)=eval o X.env) (hline:(apos.endLine == cpos.line)=true) :
  BSs X [.If (.Compare e [op] [.Constant (.int n) jn pn] cp) a [] pos,.Return (some (.Call (.Attribute o "replace" apos) [.Constant (.str x) i pa,.Constant (.str y) j pb] [] cpos)) rpos] (Bj (Bk (nb (tOp r te (tC (.int n)))) t qK) (BC (As x y to))) :=
 ⟨Ar (Aq hop.h hee.h hm) ha.h (nN hxy ho.h hbase hline)⟩
end
end L2
set_option maxHeartbeats 4000000
namespace L2
open PySem PySem.Spec PyProof.Rows
open PySem.Builtin PySem.Builtin.Str PySem.StrLaws
def tz:R2:=fun x y H Q=>∃ (z:Str) (n:Int),x=.str z∧y=.int n∧1≤n∧0 < z.length∧z.length * n.toNat≤16777216∧Q (.str (ju z n)) H
theorem qp (z:Str):ju z 1=z:=by
 apply bC
 rw [jv]
 simp
section
variable {X:Cx}
theorem ke:BOp X (binaryOp .Mult) tz:=⟨by
 intro pins s σ H x y v u Q I rx ry h
 obtain ⟨z,n,rfl,rfl,h1,h0,hl,q⟩:=h
 by_cases hn:n=1
 ·subst hn
  rw [qp] at q
  obtain ⟨t,rfl⟩:=rx
  obtain ⟨t',rfl⟩:=ry
  refine PySem.P.mul_str (by decide) (fun _ h=>absurd h (by simp)) (fun _ h=>absurd h (by simp)) ?_
  rw [if_neg (by decide),if_pos (by simp)]
  exact ⟨.str z,H,I,⟨_,rfl⟩,q⟩
 ·exact vY pins s σ H _ _ v u Q I rx ry ⟨z,n,rfl,rfl,by nofun,h0,hl,q⟩⟩
theorem Du {j:Nat}{p pos:Pos}:BE X (.UnaryOp .USub (.Constant (.int 1) j p) pos) (tC (.int (-1))):=⟨fun pins s σ H Q I h=>rP (X:=X) ai |>.h pins s σ H Q I ⟨1,rfl,h⟩⟩
end
section
variable {K:PySem.W.Frag} {μ:List Nat}
def nO (d e:D)(P:OV→Prop):Prop:=match d with
 | .str z=>(match e with
  | .int n=>(1≤n∧0 < z.length∧z.length * n.toNat≤16777216)∧P (.fz (.str (ju z n)))
  | _=>False)
 | _=>False
theorem kf:OpF K tz nO:=⟨by
 intro F H x y d e Q P s hx hy f n
 cases d with
 | str z =>
  cases e with
  | int i=>exact ⟨z,i,hx.str_eq,hy.int_eq,f.1.1,f.1.2.1,f.1.2.2,bo s n (.str _) f.2⟩
  | _=>exact False.elim f
 | _=>exact False.elim f⟩
theorem tD {to:TE}{fo:FE}(ho:EF K μ to fo):EF K μ (DZ K "str" o5 to) (fT0 tt fo):=⟨(vZ ho).h⟩
end
theorem o7 (x y:Str):((Txt.partition x y).1=x∧(Txt.partition x y).2.2=Str.empty)∨x=(Txt.partition x y).1++y++(Txt.partition x y).2.2:=by
 unfold Txt.partition
 rcases occ_head x y 1 (Nat.le_refl _) with ⟨e,_⟩ | ⟨i,s,e,h1,_⟩
 ·rw [e]; exact .inl ⟨rfl,rfl⟩
 ·rw [e]
  refine .inr ?_
  obtain ⟨h2,h3⟩:=kb.mp h1
  apply bC
  show x.cps.toList=(strSub x 0 i++y++strSub x (i+y.length) x.length).cps.toList
  rw [cT,cT,strSub_toList,strSub_toList,List.drop_zero,Nat.sub_zero,← h3]
  have e1:((x.cps.toList.drop (i+y.length)).take (x.length - (i+y.length)))=x.cps.toList.drop (i+y.length):=by
   apply List.take_of_length_le
   rw [List.length_drop,← aM]
   nofun
  rw [e1,← List.drop_drop,List.append_assoc,List.take_append_drop,List.take_append_drop]
end L2
set_option maxHeartbeats 4000000
namespace KR
open PySem L2
def top (i:Nat):Stmt:=PySem.Challenge.pw_keptreading_k47_texts_of_no_form.main.body.getD i (.Pass ⟨0,0,0,0⟩)
structure Txt (K:PySem.W.Frag)(mg:Str→Option Value):Prop where
 n_len:mg "len" = none
 n_max:mg "max" = none
 n_min:mg "min" = none
 n_isinstance:mg "isinstance" = none
 n_all:mg "all" = none
 n_sorted:mg "sorted" = none
 n_range:mg "range" = none
 n_str:mg "str" = none
 n_list:mg "list" = none
 n_tuple:mg "tuple" = none
 n_set:mg "set" = none
 n_ord:mg "ord" = none
 n_ValueError:mg "ValueError" = none
 g_LETTERS:Glo mg "LETTERS" (.str "abcdefghijklmnopqrstuvwxyz")
 g_MOST_LETTERS:Glo mg "MOST_LETTERS" (.int 8)
 g_MOST_SIGNS:Glo mg "MOST_SIGNS" (.int 40)
 g_MOST_PARTS:Glo mg "MOST_PARTS" (.int 8)
 g_BARRED_SIGN:Glo mg "BARRED_SIGN" (.int 37)
 g_WORDS_ALONE:D5 K mg "WORDS_ALONE" [.str "none", .str "any"]
 g_WORDS_WITH_ONE:D5 K mg "WORDS_WITH_ONE" [.str "again", .str "ahead", .str "not"]
 g_WORDS_WITH_SOME:D5 K mg "WORDS_WITH_SOME" [.str "row", .str "first"]
abbrev cY (b0 b1 b2:Int):OV:=.fl [.int b0,.int b1,.int b2]
def BagB (b1 b2 n:Int):Prop:=0≤b1∧b1 < 2 ^ 200∧0≤b2∧b2≤n
theorem BagB.mono {b1 b2 m n:Int}(h:BagB b1 b2 m)(e:m≤n):BagB b1 b2 n:=⟨h.1,h.2.1,h.2.2.1,Int.le_trans h.2.2.2 e⟩
theorem lez (n:Nat)(h:autoParam (n≤16777216) L2.aD._auto_1):n≤sizeLine:=by rw [sizeLine_eq]; exact h
theorem D9 {o:OV}:([o]:List OV).length=1∧∀ j o',([o]:List OV)[j]?=some o'→j ∉ ([0]:List Nat)→df o'=true:=⟨rfl,fun j o' e hj=>by
 cases j with
 | zero=>exact absurd (List.mem_cons_self ..) hj
 | succ j=>cases e⟩
theorem Aw {o:OV}{d:D}:([o,.fz d]:List OV).length=2∧∀ j o',([o,.fz d]:List OV)[j]?=some o'→j ∉ ([0]:List Nat)→df o'=true:=⟨rfl,fun j o' e hj=>by
 cases j with
 | zero=>exact absurd (List.mem_cons_self ..) hj
 | succ j =>
  cases j with
  | zero=>cases e; rfl
  | succ j=>cases e⟩
theorem lo2 {d e:D}:([.fz d,.fz e]:List OV).length=2∧∀ j o',([.fz d,.fz e]:List OV)[j]?=some o'→j ∉ ([]:List Nat)→df o'=true:=⟨rfl,fun j o' e hj=>by
 cases j with
 | zero=>cases e; rfl
 | succ j =>
  cases j with
  | zero=>cases e; rfl
  | succ j=>cases e⟩
@[irreducible] def bp:Ct:=fun os P=>∃ (ns:List Int) (k:Nat),os=[.fz (.lst (ns.map .int)),.fz (.int k)]∧∀ z:Int,P (.fz (.int z)) os
@[irreducible] def cA:Ct:=fun os P=>∃ (z:Int) (k:Nat),os=[.fz (.int z),.fz (.int k)]∧k≤100∧∀ b0 b1 b2,BagB b1 b2 0→P (cY b0 b1 b2) os
@[irreducible] def af:Ct:=fun os P=>∃ (b0 b1 b2 m n:Int),os=[cY b0 b1 b2,.fz (.int m)]∧BagB b1 b2 n∧n < 2 ^ 40∧0 < m∧m < 1000000∧∀ r b0' b1' b2',0≤r→r < m→BagB b1' b2' (n+1)→P (.fz (.int r)) [cY b0' b1' b2',.fz (.int m)]
section
variable {P:Program} {w:World} {K:PySem.W.Frag} {mg:Str→Option Value} {base:Heap}
abbrev kg:Stmt:=top 30
theorem Ax:FnScope ["script", "k"] ["script", "k"] (ak kg):=⟨rfl,rfl,rfl,by decide +kernel,rfl,by decide +kernel,by decide +kernel⟩
def yc:FS :=
  (bI (fIf (bj (fOp (jI (fun i j=>decide (i < j)) cy) (av 1) (fCB gP (ac (av 0) bc))))
   (cX (fOp aIx (av 0) (av 1)))
   bX)
  (cX (fC (.int 0))))
theorem Ay {f:Addr} {fd:FuncData} (F:Fun K "_law_cell_at" "_law_cell_at" kg f fd) (T:Txt K mg)
  (hlen:∀ os P,bp os P→os.length=2∧∀ j o,os[j]?=some o→j ∉ ([]:List Nat)→df o=true)
  (hc:∀ os P,bp os P→yc { nx:=fin [] os P (.fz .non),rt:=fin [] os P } (aU 2 os)) :
  FnOk P w K mg base CX0 1 f fd ["script", "k"] (spM K bp) :=
 Fun.okG 2 [] F Ax rfl (by decide) hlen (by decide) (fun cdv A outer s H E hr=>⟨_,(ad (bQ (bh gX (ae 1) (ay (cJ K rfl) T.n_len cG (au (ae 0) ag rfl) rfl rfl) aA)
   (al (aN (bO K hr.units (ae 0) (ae 1) (fun _ _=>rfl) rfl)))
   aO)
  (al (aN ai))),
  (ar (bY (aG (aq cv ax (bN cK (aa ax ah))))
   (aQ (aq bP ax ax))
   aV)
  (aQ aj))⟩) hc
abbrev qq:Stmt:=top 31
theorem Dv:FnScope ["cell", "place"] ["cell", "place"] (ak qq):=⟨rfl,rfl,rfl,by decide +kernel,rfl,by decide +kernel,by decide +kernel⟩
def Dw:FS :=
  (cX (iF (ac (fCB ES (ac (fC (.int 0)) (ac (fOp (aI0 fun i j=>.int (i - j)) (av 0) (fOp (aIC BM fun i j=>.int (i ^ j.toNat)) (fC (.int 10)) (fC (.int 18)))) bc))) (ac (fOp j7 (fOp (aIC (fun _ j=>0 < j) fun i j=>.int (i % j)) (av 0) (fC (.int 170141183460469231731687303715884105727))) (fOp (aIC CMul fun i j=>.int (i * j)) (fC (.int 982451653)) (av 1))) (ac (fC (.int 0)) bc)))))
theorem Dx {f:Addr} {fd:FuncData} (F:Fun K "_law_bag" "_law_bag" qq f fd) (T:Txt K mg)
  (hlen:∀ os P,cA os P→os.length=2∧∀ j o,os[j]?=some o→j ∉ ([]:List Nat)→df o=true)
  (hc:∀ os P,cA os P→Dw { nx:=fin [] os P (.fz .non),rt:=fin [] os P } (aU 2 os)) :
  FnOk P w K mg base CX0 1 f fd ["cell", "place"] (spM K cA) :=
 Fun.okG 2 [] F Dv rfl (by decide) hlen (by decide) (fun cdv A outer s H E hr=>⟨_,(al (aN (cZ (au (ay (xz rfl) T.n_max xt (au ai (au (bu kK (ae 0) (bu zy ai ai)) ag rfl) rfl) rfl rfl) (au (bu (cS K rfl) (bu i3 (ae 0) ai) (bu nt ai (ae 1))) (au ai ag rfl) rfl) rfl)))),
  (aQ (dc (aa (bN xQ (aa aj (aa (aq kY ax (aq zT aj aj)) ah))) (aa (aq cW (aq je ax aj) (aq nE aj ax)) (aa aj ah)))))⟩) hc
abbrev kh:Stmt:=top 32
theorem Az:FnScope ["bag", "many", "found", "mixed"] ["bag", "many"] (ak kh):=⟨rfl,rfl,rfl,by decide +kernel,rfl,by decide +kernel,by decide +kernel⟩
def yd:FS :=
  (bI (fIf (bj (fOp (jI (fun i j=>decide (j < i)) fun i j=>cy j i) (fOp aIx (av 0) (fC (.int 0))) (fC (.int 1))))
   (bI (de (fOp (aIC (fun _ j=>0 < j) fun i j=>.int (i % j)) (fOp aIx (av 0) (fC (.int 0))) (av 1)) (az 2))
  (bI (mv 0 (fOp (aIC yL fun i j=>.int (i / j)) (fOp aIx (av 0) (fC (.int 0))) (av 1)) (fC (.int 0)))
  (cX (av 2))))
   bX)
  (bI (mv 0 (fOp j7 (fOp aIx (av 0) (fC (.int 2))) (fC (.int 1))) (fC (.int 2)))
  (bI (de (fOp (aIC (fun _ j=>0 < j) fun i j=>.int (i % j)) (fOp (aIC pP fun i j=>.int (i ^ j.toNat)) (fOp j7 (fOp aIx (av 0) (fC (.int 1))) (fOp (aIC CMul fun i j=>.int (i * j)) (fC (.int 7368787)) (fOp aIx (av 0) (fC (.int 2))))) (fC (.int 3))) (fC (.int 170141183460469231731687303715884105727))) (az 3))
  (bI (de (fOp (aIC (fun _ j=>0 < j) fun i j=>.int (i % j)) (fOp (aIC pP fun i j=>.int (i ^ j.toNat)) (fOp j7 (av 3) (fOp (aIC CMul fun i j=>.int (i * j)) (fC (.int 15485863)) (fOp aIx (av 0) (fC (.int 2))))) (fC (.int 3))) (fC (.int 162259276829213363391578010288127))) (az 3))
  (cX (fOp (aIC (fun _ j=>0 < j) fun i j=>.int (i % j)) (fOp (aIC yL fun i j=>.int (i / j)) (av 3) (fC (.int 1024))) (av 1)))))))
theorem nu0:List.Nodup [("bag" : Str),("many" : Str),("found" : Str),("mixed" : Str)]:=by decide +kernel
theorem AA {f:Addr} {fd:FuncData} (F:Fun K "_law_draw" "_law_draw" kh f fd) (T:Txt K mg)
  (hlen:∀ os P,af os P→os.length=2∧∀ j o,os[j]?=some o→j ∉ ([0]:List Nat)→df o=true)
  (hc:∀ os P,af os P→yd { nx:=fin [0] os P (.fz .non),rt:=fin [0] os P } (aU 4 os)) :
  FnOk P w K mg base CX0 1 f fd ["bag", "many"] (spM K af) :=
 Fun.okG 4 [0] F Az rfl (by decide) hlen (by decide) (fun cdv A outer s H E hr=>⟨_,(ad (bQ (bh gY (bO K hr.units (ae 0) ai (fun _ _=>rfl) rfl) ai aA)
   (ad (aL (i:=2) nu0 rfl (Or.inl rfl) (bu i3 (bO K hr.units (ae 0) ai (fun _ _=>rfl) rfl) (ae 1)) rfl (Or.inl rfl))
  (ad (jZ (bu kL (bO K hr.units (ae 0) ai (fun _ _=>rfl) rfl) (ae 1)) (oq (ae 0) ai (fun _=>rfl)) rfl rfl rfl)
  (al (aN (ae 2)))))
   aO)
  (ad (jZ (bu (cS K rfl) (bO K hr.units (ae 0) ai (fun _ _=>rfl) rfl) ai) (oq (ae 0) ai (fun _=>rfl)) rfl rfl rfl)
  (ad (aL (i:=3) nu0 rfl (Or.inl rfl) (bu i3 (bu ou (bu (cS K rfl) (bO K hr.units (ae 0) ai (fun _ _=>rfl) rfl) (bu nt ai (bO K hr.units (ae 0) ai (fun _ _=>rfl) rfl))) ai) ai) rfl (Or.inl rfl))
  (ad (aL (i:=3) nu0 rfl (Or.inl rfl) (bu i3 (bu ou (bu (cS K rfl) (ae 3) (bu nt ai (bO K hr.units (ae 0) ai (fun _ _=>rfl) rfl))) ai) ai) rfl (Or.inl rfl))
  (al (aN (bu i3 (bu kL (ae 3) ai) (ae 1)))))))),
  (ar (bY (aG (aq cv (aq bP ax aj) aj))
   (ar (aS (aq je (aq bP ax aj) ax) (cO (by decide)) (ao (by decide)))
  (ar (iK (by decide) (aq kZ (aq bP ax aj) ax) aj)
  (aQ ax)))
   aV)
  (ar (iK (by decide) (aq cW (aq bP ax aj) aj) aj)
  (ar (aS (aq je (aq oF (aq cW (aq bP ax aj) (aq nE aj (aq bP ax aj))) aj) aj) (cO (by decide)) (ao (by decide)))
  (ar (aS (aq je (aq oF (aq cW ax (aq nE aj (aq bP ax aj))) aj) aj) (cO (by decide)) (ao (by decide)))
  (aQ (aq je (aq kZ ax aj) ax))))))⟩) hc
theorem Dy (os:List OV)(P:OV→List OV→Prop)(h:bp os P):os.length=2∧∀ j o,os[j]?=some o→j ∉ ([]:List Nat)→df o=true:=by
 unfold bp at h
 obtain ⟨ns,k,rfl,_⟩:=h
 exact lo2
theorem Dz (os:List OV)(P:OV→List OV→Prop)(h:bp os P):yc { nx:=fin [] os P (.fz .non),rt:=fin [] os P } (aU 2 os):=by
 unfold bp at h
 obtain ⟨ns,k,rfl,q⟩:=h
 ac_rfl
 refine cN ?_
 ac_rfl
 refine bd ((k:Int) < (ns.map D.int).length) (by simp) (fun hk=>?_) (fun _=>?_)
 ·ac_rfl
  have hk':k < ns.length:=by rw [List.length_map] at hk; nofun
  have e:atI (ns.map D.int) (k:Int)=some (.int ns[k]):=gQ (by simp [hk'])
  show match atI (ns.map D.int) (k:Int) with
   | some d=>_
   | none=>False
  rw [e]
  exact q _
 ·ac_rfl
  exact q _
theorem EY (os:List OV)(P:OV→List OV→Prop)(h:cA os P):os.length=2∧∀ j o,os[j]?=some o→j ∉ ([]:List Nat)→df o=true:=by
 unfold cA at h
 obtain ⟨ns,k,rfl,_⟩:=h
 exact lo2
theorem EZ (os:List OV)(P:OV→List OV→Prop)(h:cA os P):Dw { nx:=fin [] os P (.fz .non),rt:=fin [] os P } (aU 2 os):=by
 unfold cA at h
 obtain ⟨z,k,rfl,hk,q⟩:=h
 ac_rfl
 refine ⟨⟨by decide,by decide,by decide⟩,?_⟩
 ac_rfl
 refine ⟨(by decide:(0:Int) < 170141183460469231731687303715884105727),?_⟩
 ac_rfl
 refine ⟨.inl ⟨by decide,by decide⟩,?_⟩
 ac_rfl
 refine ⟨by show 3≤sizeLine; decide,?_⟩
 ac_rfl
 refine q _ _ _ ⟨?_,?_,by nofun,by nofun⟩
 ·have:=Int.emod_nonneg z (show (170141183460469231731687303715884105727:Int)≠0 by decide)
  show 0≤z % 170141183460469231731687303715884105727+982451653 * (k:Int)
  nofun
 ·have:=Int.emod_lt_of_pos z (show (0:Int) < 170141183460469231731687303715884105727 by decide)
  show z % 170141183460469231731687303715884105727+982451653 * (k:Int) < 2 ^ 200
  nofun
theorem o8 {x:Int}(h0:0≤x)(h:x < 2 ^ 300):x.natAbs < 2 ^ 1000:=by
 have:(2:Nat) ^ 300 < 2 ^ 1000:=by decide +kernel
 nofun
theorem DA (os:List OV)(P:OV→List OV→Prop)(h:af os P):os.length=2∧∀ j o,os[j]?=some o→j ∉ ([0]:List Nat)→df o=true:=by
 unfold af at h
 obtain ⟨b0,b1,b2,m,n,rfl,_⟩:=h
 exact Aw
theorem DB (os:List OV)(P:OV→List OV→Prop)(h:af os P):yd { nx:=fin [0] os P (.fz .non),rt:=fin [0] os P } (aU 4 os):=by
 unfold af at h
 obtain ⟨b0,b1,b2,m,n,rfl,⟨h1,h1',h2,h2'⟩,hn,hm,hm',q⟩:=h
 ac_rfl
 refine cN ?_
 ac_rfl
 refine bd (b0 > 1) (by simp) (fun hk=>?_) (fun hk=>?_)
 ·ac_rfl
  refine ⟨hm,?_⟩
  ac_rfl
  refine ⟨⟨hm,by nofun⟩,?_⟩
  ac_rfl
  refine ⟨rfl,?_⟩
  ac_rfl
  exact q _ _ _ _ (Int.emod_nonneg _ (by nofun)) (Int.emod_lt_of_pos _ hm) ⟨h1,h1',h2,by nofun⟩
 ·ac_rfl
  refine ⟨rfl,?_⟩
  ac_rfl
  refine ⟨.inl ⟨by decide,by decide⟩,?_⟩
  ac_rfl
  refine ⟨⟨by decide,by decide,o8 (x:=b1+7368787 * (b2+1)) (by nofun) (by nofun)⟩,?_⟩
  ac_rfl
  refine ⟨(by decide:(0:Int) < 170141183460469231731687303715884105727),?_⟩
  have hx0:0≤(b1+7368787 * (b2+1)) ^ (3:Int).toNat % 170141183460469231731687303715884105727:=Int.emod_nonneg _ (by decide)
  have hx1:(b1+7368787 * (b2+1)) ^ (3:Int).toNat % 170141183460469231731687303715884105727 < 170141183460469231731687303715884105727:=Int.emod_lt_of_pos _ (by decide)
  ac_rfl
  refine ⟨.inl ⟨by decide,by decide⟩,?_⟩
  ac_rfl
  refine ⟨⟨by decide,by decide,o8 (x:=(b1+7368787 * (b2+1)) ^ (3:Int).toNat % 170141183460469231731687303715884105727+15485863 * (b2+1)) (by nofun) (by nofun)⟩,?_⟩
  ac_rfl
  refine ⟨(by decide:(0:Int) < 162259276829213363391578010288127),?_⟩
  ac_rfl
  refine ⟨⟨by decide,by decide⟩,?_⟩
  ac_rfl
  refine ⟨hm,?_⟩
  ac_rfl
  exact q _ _ _ _ (Int.emod_nonneg _ (by nofun)) (Int.emod_lt_of_pos _ hm) ⟨h1,h1',by nofun,by nofun⟩
theorem bH {b0 b1 b2 m:Int}(n:Int){P:OV→List OV→Prop}(hb:BagB b1 b2 n)(hn:n < 2 ^ 40)(hm:0 < m)(hm':m < 1000000)(h:∀ r b0' b1' b2',0≤r→r < m→BagB b1' b2' (n+1)→P (.fz (.int r)) [cY b0' b1' b2',.fz (.int m)]) :
  af [cY b0 b1 b2,.fz (.int m)] P:=by
 unfold af
 exact ⟨b0,b1,b2,m,n,rfl,hb,hn,hm,hm',h⟩
end
end KR
set_option maxHeartbeats 4000000
namespace KR
open PySem L2
def uO (l:List Nat):Prop:=∀ c ∈ l,97≤c∧c≤122
def fq (z:Str):Prop:=1≤z.cps.toList.length∧z.cps.toList.length≤8∧uO z.cps.toList
theorem iR {a b:List Nat}(ha:uO a)(hb:uO b):uO (a++b):=fun c h=>(List.mem_append.mp h).elim (ha c) (hb c)
abbrev abc:Str := "abcdefghijklmnopqrstuvwxyz"
theorem tE:uO abc.cps.toList:=by
 have h:(abc.cps.toList.all fun c=>decide (97≤c∧c≤122))=true:=by decide +kernel
 intro c hc
 exact of_decide_eq_true (List.all_eq_true.mp h c hc)
theorem tF:abc.cps.toList.length=26:=by decide +kernel
theorem eI (z:Str)(lo hi:Option Int):(gZ z lo hi).cps.toList=dR z.cps.toList lo hi:=by simp [gZ]
theorem dD:sizeLine=16777216:=sizeLine_eq
@[irreducible] def bZ:Ct:=fun os P=>∃ (b0 b1 b2 n:Int) (last:Str),os=[cY b0 b1 b2,.fz (.str last)]∧BagB b1 b2 n∧n < 2 ^ 39∧uO last.cps.toList∧last.cps.toList.length≤8∧∀ z b0' b1' b2',fq z→BagB b1' b2' (n+12)→P (.fz (.str z)) [cY b0' b1' b2',.fz (.str last)]
section
variable {P:Program} {w:World} {K:PySem.W.Frag} {mg:Str→Option Value} {base:Heap}
abbrev ki:Stmt:=top 33
theorem AB:FnScope ["bag", "last", "letters", "way", "letter", "at"] ["bag", "last"] (ak ki):=⟨rfl,rfl,rfl,by decide +kernel,rfl,by decide +kernel,by decide +kernel⟩
def ye:FS :=
  (bI (de (fC (.str "abcdefghijklmnopqrstuvwxyz")) (az 2))
  (bI (de (bx af (ac (av 0) (ac (fC (.int 6)) bc))) (az 3))
  (bI (de (fOp aIx (av 2) (bx af (ac (av 0) (ac (fC (.int 26)) bc)))) (az 4))
  (bI (fIf (zI (bj (fOp aEq (av 3) (fC (.int 0)))) (bj (j5 (jI (fun i j=>decide (i < j)) cy) (jI (fun i j=>decide (i < j)) cy) (fC (.int 0)) (fCB gP (ac (av 1) bc)) (fC (.int 8)))))
   (cX (fOp j7 (av 1) (av 4)))
   bX)
  (bI (fIf (zI (bj (fOp aEq (av 3) (fC (.int 1)))) (bj (fOp (jI (fun i j=>decide (j < i)) fun i j=>cy j i) (fCB gP (ac (av 1) bc)) (fC (.int 1)))))
   (cX (fSl aSl (av 1) (da (fC (.int 1))) bW))
   bX)
  (bI (fIf (zI (bj (fOp aEq (av 3) (fC (.int 2)))) (bj (fOp aNe (av 1) (fC (.str "")))))
   (bI (de (bx af (ac (av 0) (ac (fFz (fCB gP (ac (av 1) bc))) bc))) (az 5))
  (cX (fOp j7 (fOp j7 (fSl aSl (av 1) bW (da (av 5))) (av 4)) (fSl aSl (av 1) (da (fOp j7 (av 5) (fC (.int 1)))) bW))))
   bX)
  (cX (fOp j7 (av 4) (qj (fC (.str "")) (gE 1 (iw (ac (bx af (ac (av 0) (ac (fC (.int 8)) bc))) bc)) (az 0) qG (fOp aIx (av 3) (bx af (ac (av 1) (ac (fC (.int 26)) bc))))))))))))))
theorem nu1:List.Nodup [("bag" : Str),("last" : Str),("letters" : Str),("way" : Str),("letter" : Str),("at" : Str)]:=by decide +kernel
theorem AC {f:Addr} {fd:FuncData} (F:Fun K "_law_name" "_law_name" ki f fd) (T:Txt K mg) (O_law_draw:Own P w K mg base "_law_draw" 1 ["bag", "many"] (spM K af))
  (hlen:∀ os P,bZ os P→os.length=2∧∀ j o,os[j]?=some o→j ∉ ([0]:List Nat)→df o=true)
  (hc:∀ os P,bZ os P→ye { nx:=fin [0] os P (.fz .non),rt:=fin [0] os P } (aU 6 os)) :
  FnOk P w K mg base CX0 2 f fd ["bag", "last"] (spM K bZ) :=
 Fun.okG 6 [0] F AB rfl (by decide) hlen (by decide) (fun cdv A outer s H E hr=>⟨_,(ad (aL (i:=2) nu1 rfl (Or.inr rfl) am rfl (Or.inl rfl))
  (ad (aL (i:=3) nu1 rfl (Or.inl rfl) (aP O_law_draw (hr.mono (by decide)) (au (cI 0 rfl (Or.inr (Or.inl rfl))) (au ai ag rfl) rfl) rfl rfl) rfl (Or.inl rfl))
  (ad (aL (i:=4) nu1 rfl (Or.inl rfl) (bO K hr.units (cI 2 rfl (Or.inr (Or.inl rfl))) (aP O_law_draw (hr.mono (by decide)) (au (cI 0 rfl (Or.inr (Or.inl rfl))) (au ai ag rfl) rfl) rfl rfl) (fun _ _=>rfl) rfl) rfl (Or.inl rfl))
  (ad (bQ (pU (jY (bh (bE K hr.units rfl) (ae 3) ai aA) (i1 (kJ gX gX ai (ay (cJ K rfl) T.n_len cG (au (ae 1) ag rfl) rfl rfl) ai (by with_unfolding_all rfl)))))
   (al (aN (bu (cS K rfl) (ae 1) (ae 4))))
   aO)
  (ad (bQ (pU (jY (bh (bE K hr.units rfl) (ae 3) ai aA) (i1 (bh gY (ay (cJ K rfl) T.n_len cG (au (ae 1) ag rfl) rfl rfl) ai aA))))
   (al (aN (kI K (ae 1) (bA ai) cg rfl)))
   aO)
  (ad (bQ (pU (jY (bh (bE K hr.units rfl) (ae 3) ai aA) (i1 (bh (xy K hr.units rfl) (ae 1) am aA))))
   (ad (aL (i:=5) nu1 rfl (Or.inl rfl) (aP O_law_draw (hr.mono (by decide)) (au (cI 0 rfl (Or.inr (Or.inl rfl))) (au (ay (cJ K rfl) T.n_len cG (au (ae 1) ag rfl) rfl rfl) ag rfl) rfl) rfl rfl) rfl (Or.inl rfl))
  (al (aN (bu (cS K rfl) (bu (cS K rfl) (kI K (ae 1) cg (bA (ae 5)) rfl) (ae 4)) (kI K (ae 1) (bA (bu (cS K rfl) (ae 5) ai)) cg rfl)))))
   aO)
  (al (aN (bu (cS K rfl) (ae 4) (dm K PySem.F.plainAttrs_str PySem.F.slot_str_join PySem.F.type_str_join (i4 K rfl) am (au (dX (T:=["k"]) (F:=["letters", "bag"]) (ixs:=[2,0]) rfl (CompScope.of rfl rfl rfl) (eQ rfl T.n_range (au (aP O_law_draw (hr.mono (by decide)) (au (cI 0 rfl (Or.inr (Or.inl rfl))) (au ai ag rfl) rfl) rfl rfl) ag rfl) rfl) (fun _ _ _ _=>(cu (i:=0) (show List.Nodup [("k" : Str),("letters" : Str),("bag" : Str)] from by decide +kernel) rfl (Or.inl rfl) (Or.inr rfl))) (fun _ _ _ _=>eA) (fun _ _ _ _=>(bO K hr.units (cI 1 rfl (Or.inr (Or.inl rfl))) (aP O_law_draw (hr.mono (by decide)) (au (cI 2 rfl (Or.inr (Or.inl rfl))) (au ai ag rfl) rfl) rfl rfl) (fun _ _=>rfl) rfl)) (fun _=>rfl)) ag rfl) rfl rfl rfl (by decide) rfl)))))))))),
  (ar (aS ap (cO (by decide)) (ao (by decide)))
  (ar (aS (aB (c:=af) (aa ax (aa aj ah))) (cO (by decide)) (ao (by decide)))
  (ar (aS (aq bP ax (aB (c:=af) (aa ax (aa aj ah)))) (cO (by decide)) (ao (by decide)))
  (ar (bY (j6 (aG (aq bF ax aj)) (aG (gz cv cv aj (bN cK (aa ax ah)) aj)))
   (aQ (aq cW ax ax))
   aV)
  (ar (bY (j6 (aG (aq bF ax aj)) (aG (aq cv (bN cK (aa ax ah)) aj)))
   (aQ (dB g0 ax (bB aj) ci))
   aV)
  (ar (bY (j6 (aG (aq bF ax aj)) (aG (aq xM ax ap)))
   (ar (aS (aB (c:=af) (aa ax (aa (cM (bN cK (aa ax ah))) ah))) (cO (by decide)) (ao (by decide)))
  (aQ (aq cW (aq cW (dB g0 ax ci (bB ax)) ax) (dB g0 ax (bB (aq cW ax aj)) ci))))
   aV)
  (aQ (aq cW ax (jl ap (dN (no:=1) (ixs:=[2,0]) (gB (aa (aB (c:=af) (aa ax (aa aj ah))) ah)) (du (by decide)) (dF (i:=0) (by decide) (by decide)) (jm (by decide)) gA (aq bP (cU (i:=3) (by decide)) (aB (c:=af) (aa (cU (i:=1) (by decide)) (aa aj ah))))))))))))))⟩) hc
theorem DC (os:List OV)(P:OV→List OV→Prop)(h:bZ os P):os.length=2∧∀ j o,os[j]?=some o→j ∉ ([0]:List Nat)→df o=true:=by
 unfold bZ at h
 obtain ⟨b0,b1,b2,n,last,rfl,_⟩:=h
 exact Aw
theorem DD (os:List OV)(P:OV→List OV→Prop)(h:bZ os P):ye { nx:=fin [0] os P (.fz .non),rt:=fin [0] os P } (aU 6 os):=by
 unfold bZ at h
 obtain ⟨b0,b1,b2,n,last,rfl,hb,hn,hlow,hlen,q⟩:=h
 have sz:=dD
 have hll:last.length=last.cps.toList.length:=et last
 have hn0:0≤n:=Int.le_trans hb.2.2.1 hb.2.2.2
 ac_rfl
 refine bH n hb (by nofun) (by decide) (by decide) fun way b0 b1 b2 w0 w1 hb1=>?_
 ac_rfl
 refine bH (n+1) hb1 (by nofun) (by decide) (by decide) fun r b0 b1 b2 r0 r1 hb2=>?_
 ac_rfl
 refine ⟨by decide +kernel,?_⟩
 refine jp r0 (by rw [show (Str.ofString "abcdefghijklmnopqrstuvwxyz").cps.toList.length=26 from tF]; exact r1) fun c hcm=>?_
 have hcl:=tE c hcm
 have cl1:uO [c]:=fun d hd=>by
  have:d=c:=by first|exact List.mem_singleton.mp hd|simpa using hd
  rw [this]; exact hcl
 have cs:(⟨#[c]⟩:Str).cps.toList=[c]:=rfl
 have cl:(⟨#[c]⟩:Str).length=1:=rfl
 ac_rfl
 refine cF True (fun _=>?_) (fun aw=>?_)
 rotate_left
 ·-- way == 0 and 0 < len(last) < 8
  ac_rfl
  refine ⟨bz,?_⟩
  ac_rfl
  refine bd (way=0) bS (fun hw=>?_) (fun _=>?_)
  ·ac_rfl
   refine ⟨by nofun,?_⟩
   ac_rfl
   refine bd ((0:Int) < last.length) (by simp) (fun h1=>?_) (fun _=>?_)
   ·ac_rfl
    refine bd ((last.length:Int) < 8) (by simp) (fun h2=>?_) (fun _=>?_)
    ·ac_rfl
     refine ⟨by nofun,?_⟩
     ac_rfl
     refine q _ _ _ _ ⟨?_,?_,?_⟩ (hb2.mono (by nofun))
     ·rw [dL,List.length_append,cs,List.length_singleton]; nofun
     ·rw [dL,List.length_append,cs,List.length_singleton]; nofun
     ·rw [dL,cs]; exact iR hlow cl1
    ·exact aw trivial
   ·ac_rfl
    exact mm (aw trivial)
  ·ac_rfl
   exact mm (aw trivial)
 ac_rfl
 refine cF True (fun _=>?_) (fun aw=>?_)
 rotate_left
 ·-- way == 1 and len(last) > 1
  ac_rfl
  refine ⟨bz,?_⟩
  ac_rfl
  refine bd (way=1) bS (fun hw=>?_) (fun _=>?_)
  ·ac_rfl
   refine ⟨by nofun,?_⟩
   ac_rfl
   refine bd ((1:Int) < last.length) (by simp) (fun h1=>?_) (fun _=>?_)
   ·ac_rfl
    refine ⟨by nofun,?_⟩
    ac_rfl
    refine q _ _ _ _ ⟨?_,?_,?_⟩ (hb2.mono (by nofun))
    ·rw [eI,show (1:Int)=((1:Nat):Int) from rfl,gw,List.length_drop]; nofun
    ·rw [eI]; exact Nat.le_trans (nq _ _ _) hlen
    ·rw [eI]; exact fun d hd=>hlow d (vg hd)
   ·exact aw trivial
  ·ac_rfl
   exact mm (aw trivial)
 ac_rfl
 refine cF True (fun _=>?_) (fun aw=>?_)
 rotate_left
 ·-- way == 2 and last != ''
  ac_rfl
  refine ⟨bz,?_⟩
  ac_rfl
  refine bd (way=2) bS (fun hw=>?_) (fun _=>?_)
  ·ac_rfl
   refine ⟨cm,?_⟩
   ac_rfl
   refine bd (last ≠ "") vK (fun h1=>?_) (fun _=>?_)
   ·have h1':0 < last.cps.toList.length:=by
     refine Nat.pos_of_ne_zero fun z=>h1 (gh ?_)
     rw [List.eq_nil_of_length_eq_zero z]
     rfl
    ac_rfl
    refine ⟨by nofun,?_⟩
    ac_rfl
    refine bH (n+1+1) hb2 (by nofun) (by nofun) (by nofun) fun at' b0 b1 b2 a0 a1 hb3=>?_
    obtain ⟨k,rfl⟩:=Int.eq_ofNat_of_zero_le a0
    ac_rfl
    refine ⟨by nofun,?_⟩
    have hy1:=(eI last none (some (k:Int))).trans (kH last.cps.toList k)
    have l1:(gZ last none (some (k:Int))).length=k:=by rw [nr hy1,List.length_take]; nofun
    ac_rfl
    refine ⟨by rw [l1,cl]; nofun,?_⟩
    ac_rfl
    refine ⟨by nofun,?_⟩
    have hy2:=(eI last (some ((k:Int)+1)) none).trans (gw last.cps.toList (k+1))
    have l2:(gZ last (some ((k:Int)+1)) none).length=last.cps.toList.length - (k+1):=by rw [nr hy2,List.length_drop]
    have l12:(gZ last none (some (k:Int))++(⟨#[c]⟩:Str)).length=k+1:=by rw [et,dL,List.length_append,← et,l1]; rfl
    ac_rfl
    refine ⟨by rw [l12,l2]; nofun,?_⟩
    ac_rfl
    refine q _ _ _ _ ⟨?_,?_,?_⟩ (hb3.mono (by nofun))
    ·rw [dL,List.length_append,← et,← et,l12,l2]; nofun
    ·rw [dL,List.length_append,← et,← et,l12,l2]; nofun
    ·rw [dL,dL,hy1,hy2]
     exact iR (iR (fun d hd=>hlow d (List.mem_of_mem_take hd)) cl1) fun d hd=>hlow d (List.mem_of_mem_drop hd)
   ·exact aw trivial
  ·ac_rfl
   exact mm (aw trivial)
 -- the last row
 ac_rfl
 refine bH (n+1+1) hb2 (by nofun) (by decide) (by decide) fun many b0 b1 b2 m0 m1 hb3=>?_
 ac_rfl
 refine ⟨⟨by nofun,by nofun⟩,?_⟩
 ac_rfl
 refine dw (fun i as ρ=>∃ (zs:List Str) (x:Option OV) (b0 b1 b2:Int),as=zs.map .str∧zs.length=i∧(∀ z ∈ zs,z.cps.toList.length=1∧uO z.cps.toList)∧BagB b1 b2 (n+3+i) ∧
   ρ=[x,some (cY b0 b1 b2),some (.fz (.str last)),some (.fz (.str abc)),some (.fz (.int way)),some (.fz (.str ⟨#[c]⟩)),none])
  ⟨[],none,b0,b1,b2,rfl,rfl,(fun _ h=>by cases h),hb3.mono (by nofun),rfl⟩ ?_ ?_
 ·rintro i d as ρ R hd ⟨zs,x,b0,b1,b2,rfl,hl,hz,hb4,rfl⟩ k
  obtain ⟨hi,rfl⟩:=d7 hd
  ac_rfl
  refine iE ?_
  ac_rfl
  refine bH _ hb4 (by nofun) (by decide) (by decide) fun r5 b0 b1 b2 r50 r51 hb5=>?_
  ac_rfl
  refine ⟨by decide +kernel,?_⟩
  refine jp r50 (by rw [show (Str.ofString "abcdefghijklmnopqrstuvwxyz").cps.toList.length=26 from tF]; exact r51) fun d hdm=>?_
  ac_rfl
  refine ⟨by rw [List.length_map]; nofun,k _ _ ⟨zs++[⟨#[d]⟩],some (.fz (.int (0+i))),b0,b1,b2,by rw [List.map_append]; rfl,by simp [hl],fun z hz'=>?_,hb5.mono (by nofun),rfl⟩⟩
  rcases List.mem_append.mp hz' with h | h
  ·exact hz z h
  ·have:z=⟨#[d]⟩:=by first|exact List.mem_singleton.mp h|simpa using h
   rw [this]
   exact ⟨rfl,fun y hy=>by
    have:y=d:=by first|exact List.mem_singleton.mp hy|simpa using hy
    rw [this]; exact tE d hdm⟩
 ·rintro as ρ ⟨zs,x,b0,b1,b2,rfl,hl,hz,hb4,rfl⟩
  rw [fJ] at hl hb4
  have hlz:(zs.map fun z=>z.cps.toList).flatten.length=zs.length:=by
   rw [List.length_flatten,List.map_map]
   have:zs.map ((fun l:List Nat=>l.length) ∘ fun z:Str=>z.cps.toList)=zs.map fun _=>1:=List.map_congr_left fun z hz'=>(hz z hz').1
   rw [show (List.map (List.length ∘ fun z:Str=>z.cps.toList) zs)=zs.map fun _=>1 from this]
   exact iI zs
  have hls:(zs.map (·.length)).sum=zs.length:=by
   have:zs.map (·.length)=zs.map fun _=>1:=List.map_congr_left fun z hz'=>by rw [et]; exact (hz z hz').1
   rw [this]
   exact iI zs
  have hg:(Builtin.Str.glued (Str.ofString "") zs).cps.toList=(zs.map fun z=>z.cps.toList).flatten:=lZ zs
  have hgl:(Builtin.Str.glued (Str.ofString "") zs).length=zs.length:=by rw [nr hg,hlz]
  ac_rfl
  refine hU ⟨by rw [hls]; show zs.length+zs.length * 0≤_; nofun,?_⟩
  ac_rfl
  refine ⟨by rw [cl,hgl]; nofun,?_⟩
  ac_rfl
  refine q _ _ _ _ ⟨?_,?_,?_⟩ (hb4.mono (by nofun))
  ·rw [dL,List.length_append,cs,List.length_singleton]; nofun
  ·rw [dL,List.length_append,cs,List.length_singleton,← et,hgl]; nofun
  ·rw [dL,cs,hg]
   refine iR cl1 fun y hy=>?_
   obtain ⟨l,hl',hy'⟩:=List.mem_flatten.mp hy
   obtain ⟨z,hz',rfl⟩:=List.mem_map.mp hl'
   exact (hz z hz').2 y hy'
theorem AD {b0 b1 b2 n:Int}{last:Str}{P:OV→List OV→Prop}(hb:BagB b1 b2 n)(hn:n < 2 ^ 39)(hl:uO last.cps.toList)(h8:last.cps.toList.length≤8)(h:∀ z b0' b1' b2',fq z→BagB b1' b2' (n+12)→P (.fz (.str z)) [cY b0' b1' b2',.fz (.str last)]) :
  bZ [cY b0 b1 b2,.fz (.str last)] P:=by
 unfold bZ
 exact ⟨b0,b1,b2,n,last,rfl,hb,hn,hl,h8,h⟩
@[irreducible] def bJ:Ct:=fun os P=>∃ (b0 b1 b2 n:Int) (k:Nat),os=[cY b0 b1 b2,.fz (.int k)]∧BagB b1 b2 n∧n < 2 ^ 38∧k≤100∧∀ (zs:List Str) (b0' b1' b2':Int),zs.Nodup→(1≤k→1≤zs.length)→zs.length≤k→(∀ z ∈ zs,fq z)→BagB b1' b2' (n+12 * k)→P (.fl (zs.map .str)) [cY b0' b1' b2',.fz (.int k)]
abbrev ia:Stmt:=top 34
theorem v5:FnScope ["bag", "many", "found", "name", "k"] ["bag", "many"] (ak ia):=⟨rfl,rfl,rfl,by decide +kernel,rfl,by decide +kernel,by decide +kernel⟩
def tG:FS :=
  (bI (sy 2 CJ)
  (bI (de (fC (.str "")) (az 3))
  (bI (CO (iw (ac (av 1) bc)) (az 4)
   (bI (de (bx bZ (ac (av 0) (ac (fFz (av 3)) bc))) (az 3))
  (CU 2 (fC (.bl true)) (av 3))))
  (cX (fCB zW (ac (av 2) bc))))))
theorem nu2:List.Nodup [("bag" : Str),("many" : Str),("found" : Str),("name" : Str),("k" : Str)]:=by decide +kernel
theorem v6 {f:Addr} {fd:FuncData} (F:Fun K "_law_names" "_law_names" ia f fd) (T:Txt K mg) (O_law_name:Own P w K mg base "_law_name" 2 ["bag", "last"] (spM K bZ))
  (hlen:∀ os P,bJ os P→os.length=2∧∀ j o,os[j]?=some o→j ∉ ([0]:List Nat)→df o=true)
  (hc:∀ os P,bJ os P→tG { nx:=fin [0] os P (.fz .non),rt:=fin [0] os P } (aU 5 os)) :
  FnOk P w K mg base CX0 3 f fd ["bag", "many"] (spM K bJ) :=
 Fun.okG 5 [0] F v5 rfl (by decide) hlen (by decide) (fun cdv A outer s H E hr=>⟨_,(ad (aL (i:=2) nu2 rfl (Or.inl rfl) rQ rfl (Or.inl rfl))
  (ad (aL (i:=3) nu2 rfl (Or.inl rfl) am rfl (Or.inl rfl))
  (ad (ot PassesOwn.never rfl (eQ rfl T.n_range (au (ae 1) ag rfl) rfl) (cu (i:=4) nu2 rfl (Or.inl rfl) (Or.inl rfl))
   (ad (aL (i:=3) nu2 rfl (Or.inl rfl) (aP O_law_name (hr.mono (by decide)) (au (ae 0) (au (ae 3) ag rfl) rfl) rfl rfl) rfl (Or.inl rfl))
  (al (zG (ED hr) (ae 2) (ae 3) ez rfl))) (fun _=>rfl))
  (al (aN (dS (sk K rfl rfl) T.n_list rK (au (ae 2) ag rfl) rfl rfl)))))),
  (ar (kU zJ (by decide))
  (ar (aS ap (cO (by decide)) (ao (by decide)))
  (ar (oD (gB (aa ax ah)) (cO (by decide)) (ao (by decide))
   (ar (aS (aB (c:=bZ) (aa ax (aa (cM ax) ah))) (cO (by decide)) (ao (by decide)))
  (zN eV ax)))
  (aQ (bN sK (aa ax ah))))))⟩) hc
theorem AE (os:List OV)(P:OV→List OV→Prop)(h:bJ os P):os.length=2∧∀ j o,os[j]?=some o→j ∉ ([0]:List Nat)→df o=true:=by
 unfold bJ at h
 obtain ⟨b0,b1,b2,n,k,rfl,_⟩:=h
 exact Aw
theorem AG (os:List OV)(P:OV→List OV→Prop)(h:bJ os P):tG { nx:=fin [0] os P (.fz .non),rt:=fin [0] os P } (aU 5 os):=by
 unfold bJ at h
 obtain ⟨b0,b1,b2,n,k,rfl,hb,hn,hk,q⟩:=h
 have sz:=dD
 have hn0:0≤n:=Int.le_trans hb.2.2.1 hb.2.2.2
 ac_rfl
 refine ⟨⟨by nofun,by nofun⟩,?_⟩
 refine iP (fun i ρ=>∃ (zs:List Str) (ds:List D) (name:Str) (x:Option OV) (b0 b1 b2:Int),zs.Nodup∧(∀ z ∈ zs,fq z)∧zs.length≤i∧(1≤i→1≤zs.length)∧uO name.cps.toList∧name.cps.toList.length≤8∧BagB b1 b2 (n+12 * i) ∧
   ρ=[some (cY b0 b1 b2),some (.fz (.int k)),some (.fd (zs.map Sum.inr) ds),some (.fz (.str name)),x])
  ⟨[],[], "", none,b0,b1,b2,List.nodup_nil,by simp,by simp,by nofun,(by intro c hc; cases hc),Nat.zero_le _,hb.mono (by nofun),rfl⟩ ?_ ?_
 ·rintro i d ρ R hd ⟨zs,ds,name,x,b0,b1,b2,hnd,hnm,hzl,hz1,hlow,hl8,hb1,rfl⟩ kk
  obtain ⟨hi,rfl⟩:=d7 hd
  ac_rfl
  refine AD hb1 (by nofun) hlow hl8 fun z b0 b1 b2 hz hb2=>?_
  ac_rfl
  refine ⟨rfl,?_⟩
  ac_rfl
  refine ⟨by rw [List.length_map]; nofun,?_⟩
  obtain ⟨l1,l2,l3⟩:=j3 zs z
  refine kk _ ⟨KS.dedup1 zs z,(xK (zs.map Sum.inr) ds (.inr z) (.bl true)).2,z,some (.fz (.int (0+i))),b0,b1,b2,ir hnd,fun y hy=>?_,by nofun,fun _=>l3,hz.2.2,hz.2.1,hb2.mono (by nofun),?_⟩
  ·rcases j2.mp hy with h | h
   ·exact hnm y h
   ·rw [h]; exact hz
  ·rw [← sQ (ds:=ds) (d:=.bl true)]; rfl
 ·rintro ρ ⟨zs,ds,name,x,b0,b1,b2,hnd,hnm,hzl,hz1,hlow,hl8,hb1,rfl⟩
  rw [fJ] at hzl hz1 hb1
  ac_rfl
  have e:(zs.map Sum.inr).map D6=zs.map D.str:=sR zs
  have hq:=q zs b0 b1 b2 hnd (fun h=>hz1 (by nofun)) (by nofun) hnm (hb1.mono (by nofun))
  rw [← e] at hq
  exact hq
theorem v7 {b0 b1 b2 n:Int}{k:Nat}{P:OV→List OV→Prop}(hb:BagB b1 b2 n)(hn:n < 2 ^ 38)(hk:k≤100)(h:∀ (zs:List Str) (b0' b1' b2':Int),zs.Nodup→(1≤k→1≤zs.length)→zs.length≤k→(∀ z ∈ zs,fq z)→BagB b1' b2' (n+12 * k)→P (.fl (zs.map .str)) [cY b0' b1' b2',.fz (.int k)]) :
  bJ [cY b0 b1 b2,.fz (.int k)] P:=by
 unfold bJ
 exact ⟨b0,b1,b2,n,k,rfl,hb,hn,hk,h⟩
end
end KR
set_option maxHeartbeats 4000000
namespace KR
open PySem L2
def dO (z:Str):Prop:=1≤z.cps.toList.length∧z.cps.toList.length≤40∧z.cps.toList.Pairwise (· < ·)∧∀ c ∈ z.cps.toList,32≤c∧c≤126∧c≠37
abbrev fW:Str := " !\"#$&'()*+,-./0123456789:;<=>?\x40ABCDEFGHIJKLMNOPQRSTUVWXYZ[\\]^_`abcdefghijklmnopqrstuvwxyz{|}~"
theorem tH:fW.cps.toList.length=94:=by decide +kernel
theorem v8:∀ c ∈ fW.cps.toList,32≤c∧c≤126∧c≠37:=by
 have h:(fW.cps.toList.all fun c=>decide (32≤c∧c≤126∧c≠37))=true:=by decide +kernel
 intro c hc
 exact of_decide_eq_true (List.all_eq_true.mp h c hc)
theorem v9 {z:Str}(h:z.cps.toList.length=1):∃ c,z=⟨#[c]⟩:=by
 obtain ⟨c,hc⟩:=List.length_eq_one_iff.mp h
 exact ⟨c,gh (by rw [hc])⟩
theorem o9:∀ {ss:List Str},(∀ z ∈ ss,z.cps.toList.length=1)→∃ cs:List Nat,ss=cs.map fun c=>(⟨#[c]⟩:Str)
 | [],_=>⟨[],rfl⟩
 | s::ss,h=>by
  obtain ⟨c,rfl⟩:=v9 (h s (List.mem_cons_self ..))
  obtain ⟨cs,rfl⟩:=o9 (ss:=ss) fun z hz=>h z (List.mem_cons_of_mem _ hz)
  exact ⟨c::cs,rfl⟩
theorem kj:∀ cs:List Nat,((cs.map fun c=>(⟨#[c]⟩:Str)).map fun z=>z.cps.toList).flatten=cs
 | []=>rfl
 | c::cs=>by simp only [List.map_cons,List.flatten_cons,kj cs]; rfl
theorem qr {cs:List Nat}(h:(cs.map fun c=>(⟨#[c]⟩:Str)).Pairwise fun a b=>d6 a b=true)(hn:(cs.map fun c=>(⟨#[c]⟩:Str)).Nodup):cs.Pairwise (· < ·):=by
 rw [List.Nodup] at hn
 have h2:=h.and hn
 rw [List.pairwise_map] at h2
 refine h2.imp fun {a b} hab=>?_
 have h3:¬ ([b] < [a]):=eY.mp hab.1
 have h4:¬ (b < a):=fun z=>h3 (List.Lex.rel z)
 have h5:a≠b:=fun z=>hab.2 (by rw [z])
 nofun
@[irreducible] def bK:Ct:=fun os P=>∃ (b0 b1 b2 n:Int),os=[cY b0 b1 b2]∧BagB b1 b2 n∧n < 2 ^ 38∧∀ (z:Str) (b0' b1' b2':Int),dO z→BagB b1' b2' (n+42)→P (.fz (.str z)) [cY b0' b1' b2']
section
variable {P:Program} {w:World} {K:PySem.W.Frag} {mg:Str→Option Value} {base:Heap}
abbrev ib:Stmt:=top 35
theorem wa:FnScope ["bag", "some", "many"] ["bag"] (ak ib):=⟨rfl,rfl,rfl,by decide +kernel,rfl,by decide +kernel,by decide +kernel⟩
def tI:FS :=
  (bI (de (fC (.str " !\"#$&'()*+,-./0123456789:;<=>?\x40ABCDEFGHIJKLMNOPQRSTUVWXYZ[\\]^_`abcdefghijklmnopqrstuvwxyz{|}~")) (az 1))
  (bI (de (fOp j7 (fC (.int 1)) (bx af (ac (av 0) (ac (fFz (fOp aIx (iF (ac (fC (.int 6)) (ac (fC (.int 40)) bc))) (fOp (aIC yL fun i j=>.int (i / j)) (bx af (ac (av 0) (ac (fC (.int 8)) bc))) (fC (.int 7))))) bc)))) (az 2))
  (cX (qj (fC (.str "")) (lc (gE 1 (iw (ac (av 2) bc)) (az 0) qG (fOp aIx (av 2) (bx af (ac (av 1) (ac (fC (.int 94)) bc))))))))))
theorem nu3:List.Nodup [("bag" : Str),("some" : Str),("many" : Str)]:=by decide +kernel
theorem wb {f:Addr} {fd:FuncData} (F:Fun K "_law_signs" "_law_signs" ib f fd) (T:Txt K mg) (O_law_draw:Own P w K mg base "_law_draw" 1 ["bag", "many"] (spM K af))
  (hlen:∀ os P,bK os P→os.length=1∧∀ j o,os[j]?=some o→j ∉ ([0]:List Nat)→df o=true)
  (hc:∀ os P,bK os P→tI { nx:=fin [0] os P (.fz .non),rt:=fin [0] os P } (aU 3 os)) :
  FnOk P w K mg base CX0 2 f fd ["bag"] (spM K bK) :=
 Fun.okG 3 [0] F wa rfl (by decide) hlen (by decide) (fun cdv A outer s H E hr=>⟨_,(ad (aL (i:=1) nu3 rfl (Or.inr rfl) am rfl (Or.inl rfl))
  (ad (aL (i:=2) nu3 rfl (Or.inl rfl) (bu (cS K rfl) ai (aP O_law_draw (hr.mono (by decide)) (au (cI 0 rfl (Or.inr (Or.inl rfl))) (au (bO K hr.units (cZ (au ai (au ai ag rfl) rfl)) (bu kL (aP O_law_draw (hr.mono (by decide)) (au (cI 0 rfl (Or.inr (Or.inl rfl))) (au ai ag rfl) rfl) rfl rfl) ai) (fun _ _=>rfl) rfl) ag rfl) rfl) rfl rfl)) rfl (Or.inl rfl))
  (al (aN (dm K PySem.F.plainAttrs_str PySem.F.slot_str_join PySem.F.type_str_join (i4 K rfl) am (au (ay (vJ P w K rfl rfl rfl rfl) T.n_sorted me (au (dS (CF P w K rfl rfl rfl rfl) T.n_set xu (au (dX (T:=["k"]) (F:=["some", "bag"]) (ixs:=[1,0]) rfl (CompScope.of rfl rfl rfl) (eQ rfl T.n_range (au (ae 2) ag rfl) rfl) (fun _ _ _ _=>(cu (i:=0) (show List.Nodup [("k" : Str),("some" : Str),("bag" : Str)] from by decide +kernel) rfl (Or.inl rfl) (Or.inr rfl))) (fun _ _ _ _=>eA) (fun _ _ _ _=>(bO K hr.units (cI 1 rfl (Or.inr (Or.inl rfl))) (aP O_law_draw (hr.mono (by decide)) (au (cI 2 rfl (Or.inr (Or.inl rfl))) (au ai ag rfl) rfl) rfl rfl) (fun _ _=>rfl) rfl)) (fun _=>rfl)) ag rfl) rfl rfl) ag rfl) rfl rfl) ag rfl) rfl rfl rfl (by decide) rfl))))),
  (ar (aS ap (cO (by decide)) (ao (by decide)))
  (ar (aS (aq cW aj (aB (c:=af) (aa ax (aa (cM (aq bP (dc (aa aj (aa aj ah))) (aq kZ (aB (c:=af) (aa ax (aa aj ah))) aj))) ah)))) (cO (by decide)) (ao (by decide)))
  (aQ (jl ap (nJ (dN (no:=1) (ixs:=[1,0]) (gB (aa ax ah)) (du (by decide)) (dF (i:=0) (by decide) (by decide)) (jm (by decide)) gA (aq bP (cU (i:=2) (by decide)) (aB (c:=af) (aa (cU (i:=1) (by decide)) (aa aj ah))))))))))⟩) hc
theorem AH (os:List OV)(P:OV→List OV→Prop)(h:bK os P):os.length=1∧∀ j o,os[j]?=some o→j ∉ ([0]:List Nat)→df o=true:=by
 unfold bK at h
 obtain ⟨b0,b1,b2,n,rfl,_⟩:=h
 exact D9
theorem DE {a b:Int}{i:Int}{Q:D→Prop}(h0:0≤i)(h:i < 2)(q:∀ m,(m=a∨m=b)→Q (.int m)):match atI [D.int a,D.int b] i with
  | some d=>Q d
  | none=>False:=jo h0 h fun d hd=>by
 simp only [List.mem_cons,List.not_mem_nil,or_false] at hd
 rcases hd with rfl | rfl
 ·exact q a (.inl rfl)
 ·exact q b (.inr rfl)
theorem AI (os:List OV)(P:OV→List OV→Prop)(h:bK os P):tI { nx:=fin [0] os P (.fz .non),rt:=fin [0] os P } (aU 3 os):=by
 unfold bK at h
 obtain ⟨b0,b1,b2,n,rfl,hb,hn,q⟩:=h
 have sz:=dD
 have hn0:0≤n:=Int.le_trans hb.2.2.1 hb.2.2.2
 ac_rfl
 refine ⟨lez 2,?_⟩
 ac_rfl
 refine bH n hb (by nofun) (by decide) (by decide) fun r b0 b1 b2 r0 r1 hb1=>?_
 ac_rfl
 refine ⟨⟨by decide,by decide⟩,?_⟩
 ac_rfl
 refine DE (by nofun) (by nofun) fun m hm=>?_
 ac_rfl
 refine bH (n+1) hb1 (by nofun) (by nofun) (by nofun) fun r3 b0 b1 b2 r30 r31 hb3=>?_
 ac_rfl
 refine ⟨⟨by nofun,by nofun⟩,?_⟩
 ac_rfl
 refine dw (fun i as ρ=>∃ (zs:List Str) (x:Option OV) (b0 b1 b2:Int),as=zs.map .str∧zs.length=i∧(∀ z ∈ zs,z.cps.toList.length=1∧∀ c ∈ z.cps.toList,32≤c∧c≤126∧c≠37)∧BagB b1 b2 (n+2+i) ∧
   ρ=[x,some (cY b0 b1 b2),some (.fz (.str fW)),some (.fz (.int (1+r3)))])
  ⟨[],none,b0,b1,b2,rfl,rfl,(fun _ h=>by cases h),hb3.mono (by nofun),rfl⟩ ?_ ?_
 ·rintro i d as ρ R hd ⟨zs,x,b0,b1,b2,rfl,hl,hz,hb4,rfl⟩ k
  obtain ⟨hi,rfl⟩:=d7 hd
  ac_rfl
  refine iE ?_
  ac_rfl
  refine bH _ hb4 (by nofun) (by decide) (by decide) fun r5 b0 b1 b2 r50 r51 hb5=>?_
  ac_rfl
  refine ⟨by decide +kernel,?_⟩
  refine jp r50 (by rw [show fW.cps.toList.length=94 from tH]; exact r51) fun d hdm=>?_
  ac_rfl
  refine ⟨by rw [List.length_map]; nofun,k _ _ ⟨zs++[⟨#[d]⟩],some (.fz (.int (0+i))),b0,b1,b2,by rw [List.map_append]; rfl,by simp [hl],fun z hz'=>?_,hb5.mono (by nofun),rfl⟩⟩
  rcases List.mem_append.mp hz' with h | h
  ·exact hz z h
  ·have:z=⟨#[d]⟩:=by first|exact List.mem_singleton.mp h|simpa using h
   rw [this]
   exact ⟨rfl,fun y hy=>by
    have:y=d:=by first|exact List.mem_singleton.mp hy|simpa using hy
    rw [this]; exact v8 d hdm⟩
 ·rintro as ρ ⟨zs,x,b0,b1,b2,rfl,hl,hz,hb4,rfl⟩
  rw [fJ] at hl hb4
  have hsub:(lb zs).length≤zs.length:=vL zs
  ac_rfl
  refine hU ⟨⟨by show _ < 4096; nofun,by nofun⟩,?_⟩
  have hmz:∀ z ∈ lb zs,z.cps.toList.length=1∧∀ c ∈ z.cps.toList,32≤c∧c≤126∧c≠37:=fun z hz'=>hz z (iO.mp hz')
  have hpos:1≤(lb zs).length:=by
   have h0:1≤zs.length:=by nofun
   cases zs with
   | nil=>simp at h0
   | cons z zs=>exact List.length_pos_of_mem (iO.mpr (List.mem_cons_self ..))
  have hs1:=nH zs
  have hs2:=g7 zs
  generalize lb zs=ss at hsub hmz hpos hs1 hs2 ⊢
  obtain ⟨cs,rfl⟩:=o9 fun z hz'=>(hmz z hz').1
  have hpw:=qr hs1 hs2
  rw [List.length_map] at hsub hpos
  ac_rfl
  have hls:((cs.map fun c=>(⟨#[c]⟩:Str)).map (·.length)).sum=cs.length:=by
   rw [List.map_map]
   exact iI cs
  refine hU ⟨by rw [hls,List.length_map]; show cs.length+cs.length * 0≤_; nofun,?_⟩
  have hg:(Builtin.Str.glued (Str.ofString "") (cs.map fun c=>(⟨#[c]⟩:Str))).cps.toList=cs:=(lZ _).trans (kj cs)
  ac_rfl
  refine q _ _ _ _ ⟨by rw [hg]; nofun,by rw [hg]; nofun,by rw [hg]; exact hpw,fun c hc=>?_⟩ (hb4.mono (by nofun))
  rw [hg] at hc
  exact (hmz ⟨#[c]⟩ (List.mem_map.mpr ⟨c,hc,rfl⟩)).2 c (by simp)
theorem wc {b0 b1 b2 n:Int}{P:OV→List OV→Prop}(hb:BagB b1 b2 n)(hn:n < 2 ^ 38)(h:∀ (z:Str) (b0' b1' b2':Int),dO z→BagB b1' b2' (n+42)→P (.fz (.str z)) [cY b0' b1' b2']) :
  bK [cY b0 b1 b2] P:=by
 unfold bK
 exact ⟨b0,b1,b2,n,rfl,hb,hn,h⟩
def AJ (zs:List Str)(word:Str)(aw:List Str):Prop :=
 ((word = "none" ∨ word = "any")∧aw=[])∨(word = "signs" ∧ ∃ z,aw=[z]∧dO z) ∨
 ((word = "again" ∨ word = "ahead" ∨ word = "not")∧aw.length=1∧∀ z ∈ aw,z ∈ zs)∨((word = "row" ∨ word = "first")∧1≤aw.length∧aw.length≤8∧∀ z ∈ aw,z ∈ zs)
abbrev dE (word:Str)(aw:List Str):D:=.tup (.str word::aw.map .str)
@[irreducible] def cc:Ct:=fun os P=>∃ (b0 b1 b2 n:Int) (zs:List Str),os=[cY b0 b1 b2,.fz (.lst (zs.map .str))]∧BagB b1 b2 n∧n < 2 ^ 37∧1≤zs.length∧zs.length≤1000 ∧
 ∀ (word:Str) (aw:List Str) (b0' b1' b2':Int),AJ zs word aw→BagB b1' b2' (n+50)→P (.fz (dE word aw)) [cY b0' b1' b2',.fz (.lst (zs.map .str))]
abbrev km:Stmt:=top 36
theorem AK:FnScope ["bag", "names", "words", "word", "many"] ["bag", "names"] (ak km):=⟨rfl,rfl,rfl,by decide +kernel,rfl,by decide +kernel,by decide +kernel⟩
def yf:FS :=
  (bI (de (iF (ac (fC (.str "none")) (ac (fC (.str "any")) (ac (fC (.str "signs")) (ac (fC (.str "row")) (ac (fC (.str "row")) (ac (fC (.str "first")) (ac (fC (.str "first")) (ac (fC (.str "again")) (ac (fC (.str "ahead")) (ac (fC (.str "not")) bc))))))))))) (az 2))
  (bI (de (fOp aIx (av 2) (bx af (ac (av 0) (ac (fC (.int 10)) bc)))) (az 3))
  (bI (fIf (fOr (bj (fOp aEq (av 3) (fC (.str "none")))) (bj (fOp aEq (av 3) (fC (.str "any")))))
   (cX (vv (ac (av 3) bc)))
   bX)
  (bI (fIf (bj (fOp aEq (av 3) (fC (.str "signs"))))
   (cX (vv (ac (av 3) (ac (bx bK (ac (av 0) bc)) bc))))
   bX)
  (bI (de (fC (.int 1)) (az 4))
  (bI (fIf (fOr (bj (fOp aEq (av 3) (fC (.str "row")))) (bj (fOp aEq (av 3) (fC (.str "first")))))
   (de (fOp j7 (fC (.int 1)) (bx af (ac (av 0) (ac (fFz (fOp aIx (iF (ac (fC (.int 3)) (ac (fC (.int 8)) bc))) (bx af (ac (av 0) (ac (fC (.int 2)) bc))))) bc)))) (az 4))
   bX)
  (cX (fCB ji (ac (fOp j7 (iF (ac (av 3) bc)) (gE 1 (iw (ac (av 4) bc)) (az 0) qG (fOp aIx (av 2) (bx af (ac (av 1) (ac (fFz (fCB gP (ac (av 2) bc))) bc)))))) bc)))))))))
theorem nu4:List.Nodup [("bag" : Str),("names" : Str),("words" : Str),("word" : Str),("many" : Str)]:=by decide +kernel
theorem AL {f:Addr} {fd:FuncData} (F:Fun K "_law_form" "_law_form" km f fd) (T:Txt K mg) (O_law_draw:Own P w K mg base "_law_draw" 1 ["bag", "many"] (spM K af)) (O_law_signs:Own P w K mg base "_law_signs" 2 ["bag"] (spM K bK))
  (hlen:∀ os P,cc os P→os.length=2∧∀ j o,os[j]?=some o→j ∉ ([0]:List Nat)→df o=true)
  (hc:∀ os P,cc os P→yf { nx:=fin [0] os P (.fz .non),rt:=fin [0] os P } (aU 5 os)) :
  FnOk P w K mg base CX0 3 f fd ["bag", "names"] (spM K cc) :=
 Fun.okG 5 [0] F AK rfl (by decide) hlen (by decide) (fun cdv A outer s H E hr=>⟨_,(ad (aL (i:=2) nu4 rfl (Or.inl rfl) (cZ (au am (au am (au am (au am (au am (au am (au am (au am (au am (au am ag rfl) rfl) rfl) rfl) rfl) rfl) rfl) rfl) rfl) rfl)) rfl (Or.inl rfl))
  (ad (aL (i:=3) nu4 rfl (Or.inl rfl) (bO K hr.units (ae 2) (aP O_law_draw (hr.mono (by decide)) (au (cI 0 rfl (Or.inr (Or.inl rfl))) (au ai ag rfl) rfl) rfl rfl) (fun _ _=>rfl) rfl) rfl (Or.inl rfl))
  (ad (bQ (pU (i2 (bh (bE K hr.units rfl) (ae 3) am aA) (ip (bh (bE K hr.units rfl) (ae 3) am aA))))
   (al (aN (gb (au (ae 3) ag rfl))))
   aO)
  (ad (bQ (bh (bE K hr.units rfl) (ae 3) am aA)
   (al (aN (gb (au (ae 3) (au (aP O_law_signs (hr.mono (by decide)) (au (cI 0 rfl (Or.inr (Or.inl rfl))) ag rfl) rfl rfl) ag rfl) rfl))))
   aO)
  (ad (aL (i:=4) nu4 rfl (Or.inl rfl) ai rfl (Or.inl rfl))
  (ad (bQ (pU (i2 (bh (bE K hr.units rfl) (ae 3) am aA) (ip (bh (bE K hr.units rfl) (ae 3) am aA))))
   (al (aL (i:=4) nu4 rfl (Or.inl rfl) (bu (cS K rfl) ai (aP O_law_draw (hr.mono (by decide)) (au (cI 0 rfl (Or.inr (Or.inl rfl))) (au (bO K hr.units (cZ (au ai (au ai ag rfl) rfl)) (aP O_law_draw (hr.mono (by decide)) (au (cI 0 rfl (Or.inr (Or.inl rfl))) (au ai ag rfl) rfl) rfl rfl) (fun _ _=>rfl) rfl) ag rfl) rfl) rfl rfl)) rfl (Or.inl rfl)))
   aO)
  (al (aN (dS (iJ K rfl) T.n_tuple eu (au (bu (cS K rfl) (cZ (au (ae 3) ag rfl)) (dX (T:=["k"]) (F:=["names", "bag"]) (ixs:=[1,0]) rfl (CompScope.of rfl rfl rfl) (eQ rfl T.n_range (au (ae 4) ag rfl) rfl) (fun _ _ _ _=>(cu (i:=0) (show List.Nodup [("k" : Str),("names" : Str),("bag" : Str)] from by decide +kernel) rfl (Or.inl rfl) (Or.inr rfl))) (fun _ _ _ _=>eA) (fun _ _ _ _=>(bO K hr.units (cI 1 rfl (Or.inr (Or.inl rfl))) (aP O_law_draw (hr.mono (by decide)) (au (cI 2 rfl (Or.inr (Or.inl rfl))) (au (ay (cJ K rfl) T.n_len cG (au (cI 1 rfl (Or.inr (Or.inl rfl))) ag rfl) rfl rfl) ag rfl) rfl) rfl rfl) (fun _ _=>rfl) rfl)) (fun _=>rfl))) ag rfl) rfl rfl))))))))),
  (ar (aS (dc (aa ap (aa ap (aa ap (aa ap (aa ap (aa ap (aa ap (aa ap (aa ap (aa ap ah))))))))))) (cO (by decide)) (ao (by decide)))
  (ar (aS (aq bP ax (aB (c:=af) (aa ax (aa aj ah)))) (cO (by decide)) (ao (by decide)))
  (ar (bY (jb (aG (aq bF ax ap)) (aG (aq bF ax ap)))
   (aQ (iu (aa ax ah)))
   aV)
  (ar (bY (aG (aq bF ax ap))
   (aQ (iu (aa ax (aa (aB (c:=bK) (aa ax ah)) ah))))
   aV)
  (ar (aS aj (cO (by decide)) (ao (by decide)))
  (ar (bY (jb (aG (aq bF ax ap)) (aG (aq bF ax ap)))
   (aS (aq cW aj (aB (c:=af) (aa ax (aa (cM (aq bP (dc (aa aj (aa aj ah))) (aB (c:=af) (aa ax (aa aj ah))))) ah)))) (cO (by decide)) (ao (by decide)))
   aV)
  (aQ (bN iM (aa (aq cW (dc (aa ax ah)) (dN (no:=1) (ixs:=[1,0]) (gB (aa ax ah)) (du (by decide)) (dF (i:=0) (by decide) (by decide)) (jm (by decide)) gA (aq bP (cU (i:=2) (by decide)) (aB (c:=af) (aa (cU (i:=1) (by decide)) (aa (cM (bN cK (aa (cU (i:=2) (by decide)) ah))) ah)))))) ah)))))))))⟩) hc
theorem DF (os:List OV)(P:OV→List OV→Prop)(h:cc os P):os.length=2∧∀ j o,os[j]?=some o→j ∉ ([0]:List Nat)→df o=true:=by
 unfold cc at h
 obtain ⟨b0,b1,b2,n,zs,rfl,_⟩:=h
 exact Aw
abbrev mR:List Str:=["none", "any", "signs", "row", "row", "first", "first", "again", "ahead", "not"]
theorem DG (os:List OV)(P:OV→List OV→Prop)(h:cc os P):yf { nx:=fin [0] os P (.fz .non),rt:=fin [0] os P } (aU 5 os):=by
  unfold cc at h
  obtain ⟨B0,B1,B2,n,zs,rfl,hb,hn,hz1,hz,ret⟩:=h
  have sz:=dD
  have hn0:0≤n:=Int.le_trans hb.2.2.1 hb.2.2.2
  ac_rfl
  refine ⟨lez 10,?_⟩
  ac_rfl
  refine bH n hb (by nofun) (by decide) (by decide) fun r b0 b1 b2 r0 r1 hb1=>?_
  ac_rfl
  refine jo (xs:=mR.map D.str) r0 (by show r < 10; exact r1) fun c hcm=>?_
  obtain ⟨word,hw,rfl⟩:=List.mem_map.mp hcm
  ac_rfl
  refine cF (word ≠ "none" ∧ word ≠ "any") (fun hw1=>?_) (fun aw=>?_)
  rotate_left
  · ac_rfl
    refine ⟨cm,?_⟩
    ac_rfl
    refine bd (word = "none") cP (fun hw'=>?_) (fun ha=>?_)
    · ac_rfl
      refine iE ?_
      ac_rfl
      refine ⟨lez 1,?_⟩
      ac_rfl
      exact ret word [] _ _ _ (.inl ⟨.inl hw',rfl⟩) (hb1.mono (by nofun))
    · ac_rfl
      refine ⟨cm,?_⟩
      ac_rfl
      refine bd (word = "any") cP (fun hw'=>?_) (fun hb'=>?_)
      · ac_rfl
        refine ⟨lez 1,?_⟩
        ac_rfl
        exact ret word [] _ _ _ (.inl ⟨.inr hw',rfl⟩) (hb1.mono (by nofun))
      · exact aw ⟨ha,hb'⟩
  ac_rfl
  refine cF (word ≠ "signs") (fun hw2=>?_) (fun aw=>?_)
  rotate_left
  · ac_rfl
    refine ⟨cm,?_⟩
    ac_rfl
    refine bd (word = "signs") cP (fun hw'=>?_) (fun ha=>?_)
    · ac_rfl
      refine wc hb1 (by nofun) fun z b0 b1 b2 hz3 hb3=>?_
      ac_rfl
      refine ⟨lez 2,?_⟩
      ac_rfl
      exact ret word [z] _ _ _ (.inr (.inl ⟨hw',z,rfl,hz3⟩)) (hb3.mono (by nofun))
    · exact aw ha
  -- the last row,by how many
  have last:∀ (m:Nat) (b0 b1 b2:Int),1≤m→m≤8→(m=1∨word = "row" ∨ word = "first")→BagB b1 b2 (n+3) →
      (cX (fCB ji (ac (fOp j7 (iF (ac (av 3) bc)) (gE 1 (iw (ac (av 4) bc)) (az 0) qG (fOp aIx (av 2) (bx af (ac (av 1) (ac (fFz (fCB gP (ac (av 2) bc))) bc)))))) bc)))
        { nx:=fin [0] [cY B0 B1 B2,.fz (.lst (zs.map .str))] P (.fz .non),rt:=fin [0] [cY B0 B1 B2,.fz (.lst (zs.map .str))] P }
        [some (cY b0 b1 b2),some (.fz (.lst (zs.map .str))),some (.fz (.lst (mR.map .str))),some (.fz (.str word)),some (.fz (.int m))]:=by
    intro m b0 b1 b2 hm1 hm8 hmw hb3
    ac_rfl
    refine ⟨lez 1,?_⟩
    ac_rfl
    refine ⟨⟨by nofun,by nofun⟩,?_⟩
    ac_rfl
    refine dw (fun i as ρ=>∃ (ys:List Str) (x:Option OV) (b0 b1 b2:Int),as=ys.map .str∧ys.length=i∧(∀ y ∈ ys,y ∈ zs)∧BagB b1 b2 (n+3+i) ∧
        ρ=[x,some (cY b0 b1 b2),some (.fz (.lst (zs.map .str))),some (.fz (.lst (mR.map .str))),some (.fz (.str word)),some (.fz (.int m))])
      ⟨[],none,b0,b1,b2,rfl,rfl,(fun _ h=>by cases h),hb3.mono (by nofun),rfl⟩ ?_ ?_
    · rintro i d as ρ R hd ⟨ys,x,b0,b1,b2,rfl,hl,hy,hb5,rfl⟩ k
      obtain ⟨hi,rfl⟩:=d7 hd
      ac_rfl
      refine iE ?_
      ac_rfl
      have el:((zs.map D.str).length:Int)=zs.length:=by rw [List.length_map]
      refine bH (m:=((zs.map D.str).length:Int)) _ hb5 (by nofun) (by nofun) (by nofun) fun r6 b0 b1 b2 r60 r61 hb6=>?_
      ac_rfl
      refine jo r60 r61 fun c hcm=>?_
      obtain ⟨y,hyz,rfl⟩:=List.mem_map.mp hcm
      ac_rfl
      refine ⟨by rw [List.length_map]; nofun,k _ _ ⟨ys++[y],some (.fz (.int (0+i))),b0,b1,b2,by rw [List.map_append]; rfl,by simp [hl],fun y' hy'=>?_,hb6.mono (by nofun),rfl⟩⟩
      rcases List.mem_append.mp hy' with h | h
      · exact hy y' h
      · have:y'=y:=by first|exact List.mem_singleton.mp h|simpa using h
        rw [this]; exact hyz
    · rintro as ρ ⟨ys,x,b0,b1,b2,rfl,hl,hy,hb5,rfl⟩
      rw [fJ] at hl hb5
      have hl':ys.length=m:=by nofun
      ac_rfl
      refine ⟨by rw [sz,List.length_map]; show 1+_≤_; nofun,?_⟩
      ac_rfl
      refine ret word ys _ _ _ ?_ (hb5.mono (by nofun))
      have hw9:word = "none" ∨ word = "any" ∨ word = "signs" ∨ word = "row" ∨ word = "first" ∨ word = "again" ∨ word = "ahead" ∨ word = "not" := by
        simp only [mR,List.mem_cons,List.not_mem_nil,or_false] at hw
        rcases hw with h | h | h | h | h | h | h | h | h | h <;> simp [h]
      rcases hw9 with h | h | h | h | h | h | h | h
      · exact absurd h hw1.1
      · exact absurd h hw1.2
      · exact absurd h hw2
      · exact .inr (.inr (.inr ⟨.inl h,by nofun,by nofun,hy⟩))
      · exact .inr (.inr (.inr ⟨.inr h,by nofun,by nofun,hy⟩))
      all_goals
        have hm':m=1:=by
          rcases hmw with z | z | z
          · exact z
          · rw [h] at z; exact absurd z (by decide)
          · rw [h] at z; exact absurd z (by decide)
        refine .inr (.inr (.inl ⟨?_,by nofun,hy⟩))
        simp [h]
  ac_rfl
  refine cF True (fun _=>(eE _ _).mpr (last 1 _ _ _ (by nofun) (by nofun) (.inl rfl) (hb1.mono (by nofun)))) (fun aw=>?_)
  have more:(word = "row" ∨ word = "first")→(de (fOp j7 (fC (.int 1)) (bx af (ac (av 0) (ac (fFz (fOp aIx (iF (ac (fC (.int 3)) (ac (fC (.int 8)) bc))) (bx af (ac (av 0) (ac (fC (.int 2)) bc))))) bc)))) (az 4))
        { nx:=fun ρ'=>kQ ρ' ((cX (fCB ji (ac (fOp j7 (iF (ac (av 3) bc)) (gE 1 (iw (ac (av 4) bc)) (az 0) qG (fOp aIx (av 2) (bx af (ac (av 1) (ac (fFz (fCB gP (ac (av 2) bc))) bc)))))) bc)))
            { nx:=fin [0] [cY B0 B1 B2,.fz (.lst (zs.map .str))] P (.fz .non),rt:=fin [0] [cY B0 B1 B2,.fz (.lst (zs.map .str))] P }),rt:=fin [0] [cY B0 B1 B2,.fz (.lst (zs.map .str))] P }
        [some (cY b0 b1 b2),some (.fz (.lst (zs.map .str))),some (.fz (.lst (mR.map .str))),some (.fz (.str word)),some (.fz (.int 1))]:=by
    intro hw'
    ac_rfl
    refine ⟨lez 2,?_⟩
    ac_rfl
    refine bH _ hb1 (by nofun) (by decide) (by decide) fun r4 b0 b1 b2 r40 r41 hb4=>?_
    ac_rfl
    refine DE r40 r41 fun m hm=>?_
    ac_rfl
    refine bH _ hb4 (by nofun) (by nofun) (by nofun) fun r5 b0 b1 b2 r50 r51 hb5=>?_
    obtain ⟨k,rfl⟩:=Int.eq_ofNat_of_zero_le r50
    have:=last (k+1) b0 b1 b2 (by nofun) (by nofun) (.inr hw') (hb5.mono (by nofun))
    rw [show ((k+1:Nat):Int)=1+(k:Int) by nofun] at this
    exact (eE _ _).mpr this
  ac_rfl
  refine ⟨cm,?_⟩
  ac_rfl
  refine bd (word = "row") cP (fun hw'=>?_) (fun ha=>?_)
  · ac_rfl
    exact iE (more (.inl hw'))
  · ac_rfl
    refine ⟨cm,?_⟩
    ac_rfl
    refine bd (word = "first") cP (fun hw'=>?_) (fun hb'=>?_)
    · exact more (.inr hw')
    · exact aw trivial
theorem AM {b0 b1 b2 n:Int}{zs:List Str}{P:OV→List OV→Prop}(hb:BagB b1 b2 n)(hn:n < 2 ^ 37)(h1:1≤zs.length)(h2:zs.length≤1000)(h:∀ (word:Str) (aw:List Str) (b0' b1' b2':Int),AJ zs word aw→BagB b1' b2' (n+50)→P (.fz (dE word aw)) [cY b0' b1' b2',.fz (.lst (zs.map .str))]) :
  cc [cY b0 b1 b2,.fz (.lst (zs.map .str))] P:=by
 unfold cc
 exact ⟨b0,b1,b2,n,zs,rfl,hb,hn,h1,h2,h⟩
end
end KR
set_option maxHeartbeats 4000000
namespace KR
open PySem L2
def ic:D→Prop
 | .str z=>fq z
 | _=>False
def kn:D→Prop
 | .str z=>dO z
 | _=>False
def jP (word:Str)(aw:List D):Prop :=
 ((word = "none" ∨ word = "any")∧aw=[])∨(word = "signs" ∧ ∃ x,aw=[x]∧kn x)∨((word = "again" ∨ word = "ahead" ∨ word = "not")∧∃ x,aw=[x]∧ic x) ∨
  ((word = "row" ∨ word = "first")∧1≤aw.length∧aw.length≤8∧∀ x ∈ aw,ic x)
def jx (d:D):Prop:=∃ (word:Str) (aw:List D),d=.tup (.str word::aw)∧jP word aw
theorem lj {word:Str}{aw:List D}:jx (.tup (.str word::aw))↔jP word aw:=by
 constructor
 ·rintro ⟨w,r,e,h⟩
  cases e
  exact h
 ·exact fun h=>⟨word,aw,rfl,h⟩
theorem nP {word:Str} {aw:List D} (hw:word = "none" ∨ word = "any"):jP word aw↔aw=[]:=by
 constructor
 ·intro h
  rcases h with ⟨_,h⟩ | ⟨h,_⟩ | ⟨h,_⟩ | ⟨h,_⟩
  ·exact h
  all_goals (rcases hw with rfl | rfl <;> exact absurd h (by decide))
 ·exact fun h=>.inl ⟨hw,h⟩
theorem iS {word:Str} {aw:List D} (hw:word = "signs"):jP word aw↔∃ x,aw=[x]∧kn x:=by
 constructor
 ·intro h
  rcases h with ⟨h,_⟩ | ⟨_,h⟩ | ⟨h,_⟩ | ⟨h,_⟩
  ·rw [hw] at h; exact absurd h (by decide)
  ·exact h
  all_goals (rw [hw] at h; exact absurd h (by decide))
 ·exact fun h=>.inr (.inl ⟨hw,h⟩)
theorem tJ {word:Str} {aw:List D} (hw:word = "again" ∨ word = "ahead" ∨ word = "not"):jP word aw↔∃ x,aw=[x]∧ic x:=by
 constructor
 ·intro h
  rcases h with ⟨h,_⟩ | ⟨h,_⟩ | ⟨_,h⟩ | ⟨h,_⟩
  ·rcases hw with rfl | rfl | rfl <;> exact absurd h (by decide)
  ·rcases hw with rfl | rfl | rfl <;> exact absurd h (by decide)
  ·exact h
  ·rcases hw with rfl | rfl | rfl <;> exact absurd h (by decide)
 ·exact fun h=>.inr (.inr (.inl ⟨hw,h⟩))
theorem ll {word:Str} {aw:List D} (hw:word = "row" ∨ word = "first"):jP word aw↔1≤aw.length∧aw.length≤8∧∀ x ∈ aw,ic x:=by
 constructor
 ·intro h
  rcases h with ⟨h,_⟩ | ⟨h,_⟩ | ⟨h,_⟩ | ⟨_,h⟩
  ·rcases hw with rfl | rfl <;> exact absurd h (by decide)
  ·rcases hw with rfl | rfl <;> exact absurd h (by decide)
  ·rcases hw with rfl | rfl <;> exact absurd h (by decide)
  ·exact h
 ·exact fun h=>.inr (.inr (.inr ⟨hw,h⟩))
theorem tK {word:Str} {aw:List D} (h1:¬ (word = "none" ∨ word = "any")) (h2:word ≠ "signs") (h3:¬ (word = "again" ∨ word = "ahead" ∨ word = "not")) (h4:¬ (word = "row" ∨ word = "first")):¬ jP word aw:=by
 rintro (⟨h,_⟩ | ⟨h,_⟩ | ⟨h,_⟩ | ⟨h,_⟩)
 ·exact h1 h
 ·exact h2 h
 ·exact h3 h
 ·exact h4 h
theorem nQ {α:Type}{xs:List α}:((xs.length+1:Nat):Int)=2↔∃ x,xs=[x]:=by
 constructor
 ·intro h
  exact List.length_eq_one_iff.mp (by nofun)
 ·rintro ⟨x,rfl⟩
  rfl
mutual
def smD:D→Bool
 | .str z=>decide (z.length≤1000000)
 | .lst xs=>decide (xs.length≤1000000) && smDs xs
 | .tup xs=>decide (xs.length≤1000000) && smDs xs
 | .dct _ _=>false
 | .ty _=>false
 | _=>true
def smDs:List D→Bool
 | []=>true
 | d::ds=>smD d && smDs ds
end
theorem pc:∀ {ds:List D} {d:D},smDs ds=true→d ∈ ds→smD d=true
 | [],_,_,h=>nomatch h
 | c::ds,d,h,hd=>by
  simp only [smDs,Bool.and_eq_true] at h
  rcases List.mem_cons.mp hd with rfl | hd
  ·exact h.1
  ·exact pc h.2 hd
theorem nR:∀ {ds:List D},(∀ d ∈ ds,smD d=true)→smDs ds=true
 | [],_=>rfl
 | c::ds,h=>by
  simp only [smDs,Bool.and_eq_true]
  exact ⟨h c (List.mem_cons_self ..),nR fun d hd=>h d (List.mem_cons_of_mem _ hd)⟩
theorem jy {d:D}(h:smD d=true):xL (tyD d)=true:=by cases d <;> first | rfl | (simp [smD] at h)
theorem gK {d:D}:isT (tyD d) "str" = true↔∃ z,d=.str z:=by
 cases d <;> first | exact ⟨fun _=>⟨_,rfl⟩,fun _=>rfl⟩ | exact ⟨fun h=>absurd h (by simp [tyD]; decide),fun ⟨_,h⟩=>nomatch h⟩
theorem yg {d:D}:isT (tyD d) "tuple" = true↔∃ xs,d=.tup xs:=by
 cases d <;> first | exact ⟨fun _=>⟨_,rfl⟩,fun _=>rfl⟩ | exact ⟨fun h=>absurd h (by simp [tyD]; decide),fun ⟨_,h⟩=>nomatch h⟩
theorem fzo {d:D}:([OV.fz d]:List OV).length=1∧∀ j o,([OV.fz d]:List OV)[j]?=some o→j ∉ ([]:List Nat)→df o=true:=⟨rfl,fun j o h _=>by
 match j,h with
 | 0,h=>cases h; rfl⟩
theorem gr {p:Prop}(h:¬ p):(false=true↔p):=⟨fun z=>(Bool.false_ne_true z).elim,fun z=>(h z).elim⟩
theorem eJ {α:Type}{ds:List α}{i:Nat}{d:α}(e:ds[i]?=some d){p:α→Prop}:(∀ x ∈ ds.take (i+1),p x)↔(∀ x ∈ ds.take i,p x)∧p d:=by
 rw [List.take_succ,e]
 constructor
 ·exact fun h=>⟨fun x hx=>h x (List.mem_append_left _ hx),h d (by simp)⟩
 ·rintro ⟨h1,h2⟩ x hx
  rcases List.mem_append.mp hx with h | h
  ·exact h1 x h
  ·have e:x=d:=by first|exact List.mem_singleton.mp h|simpa using h
   rw [e]; exact h2
theorem iT {bs:List Bool}{b:Bool}:(bs++[b]).all id=true↔bs.all id=true∧b=true:=by
 rw [List.all_append,Bool.and_eq_true]
 simp
theorem jz {z:Str}{i:Nat}{d:D}(h:(eW z)[i]?=some d):∃ c,z.cps.toList[i]?=some c∧d=.str ⟨#[c]⟩:=by
 unfold eW at h
 rw [List.getElem?_map,Option.map_eq_some_iff] at h
 obtain ⟨r,h1,h2⟩:=h
 exact ⟨r,h1,h2.symm⟩
theorem fu (z:Str):(eW z).length=z.cps.toList.length:=by unfold eW; rw [List.length_map]
theorem ko (z:Str):z.length=z.cps.toList.length:=by rw [Array.length_toList]; rfl
abbrev lm:Str := "abcdefghijklmnopqrstuvwxyz"
theorem jA {c:Nat}:c ∈ lm.cps.toList↔97≤c∧c≤122:=by
 have e:lm.cps.toList=List.range' 97 26:=by decide +kernel
 rw [e,List.mem_range'_1]
 nofun
@[irreducible] def cj:Ct:=fun os P=>∃ d:D,os=[.fz d]∧smD d=true∧∀ b:Bool,(b=true↔ic d)→P (.fz (.bl b)) os
@[irreducible] def bq:Ct:=fun os P=>∃ d:D,os=[.fz d]∧smD d=true∧∀ b:Bool,(b=true↔ic d)→P (.fz (.bl b)) os
@[irreducible] def cB:Ct:=fun os P=>∃ d:D,os=[.fz d]∧smD d=true∧∀ b:Bool,(b=true↔∃ z,d=.str z∧∀ c ∈ z.cps.toList,32≤c∧c≤126∧c≠37)→P (.fz (.bl b)) os
@[irreducible] def aH:Ct:=fun os P=>∃ d:D,os=[.fz d]∧smD d=true∧∀ b:Bool,(b=true↔kn d)→P (.fz (.bl b)) os
@[irreducible] def cD:Ct:=fun os P=>∃ c:Nat,os=[.fz (.str ⟨#[c]⟩)]∧∀ b:Bool,(b=true↔32≤c∧c≤126∧c≠37)→P (.fz (.bl b)) os
section
variable {P:Program} {w:World} {K:PySem.W.Frag} {mg:Str→Option Value} {base:Heap}
abbrev fL:Stmt:=top 22
theorem tL:FnScope ["thing"] ["thing"] (ak fL):=⟨rfl,rfl,rfl,by decide +kernel,rfl,by decide +kernel,by decide +kernel⟩
def pd:FS :=
  (bI (fIf (jO (bj (fCB cIs (ac (av 0) (ac (fC (.ty "str")) bc)))))
   (cX (fC (.bl false)))
   bX)
  (bI (fIf (jO (bj (j5 (jI (fun i j=>decide (i≤j)) fun i j=>!cy j i) (jI (fun i j=>decide (i≤j)) fun i j=>!cy j i) (fC (.int 1)) (fCB gP (ac (av 0) bc)) (fC (.int 8)))))
   (cX (fC (.bl false)))
   bX)
  (cX (fCB zV (ac (gE 1 (qa (av 0)) (az 0) qG (fOp aIn (av 0) (fC (.str "abcdefghijklmnopqrstuvwxyz")))) bc)))))
theorem tM {f:Addr} {fd:FuncData} (F:Fun K "is_name" "is_name" fL f fd) (T:Txt K mg)
  (hlen:∀ os P,cj os P→os.length=1∧∀ j o,os[j]?=some o→j ∉ ([]:List Nat)→df o=true)
  (hc:∀ os P,cj os P→pd { nx:=fin [] os P (.fz .non),rt:=fin [] os P } (aU 1 os)) :
  FnOk P w K mg base CX0 1 f fd ["thing"] (spM K cj) :=
 Fun.okG 1 [] F tL rfl (by decide) hlen (by decide) (fun cdv A outer s H E hr=>⟨_,(ad (bQ (dh (cq (ay (d0 K rfl) T.n_isinstance aZ (au (ae 0) (au (gx T.n_str fX rfl) ag rfl) rfl) rfl rfl)))
   (al (aN ez))
   aO)
  (ad (bQ (dh (kJ eX eX ai (ay (cJ K rfl) T.n_len cG (au (ae 0) ag rfl) rfl rfl) (dG T.g_MOST_LETTERS rfl) (by with_unfolding_all rfl)))
   (al (aN ez))
   aO)
  (al (aN (ay (mh K rfl rfl) T.n_all md (au (dX (T:=["letter"]) (F:=[]) (ixs:=[]) rfl (CompScope.of rfl rfl rfl) (mf K (ae 0) rfl) (fun _ _ _ _=>(cu (i:=0) (show List.Nodup [("letter" : Str)] from by decide +kernel) rfl (Or.inl rfl) (Or.inr rfl))) (fun _ _ _ _=>eA) (fun _ _ _ _=>(dM (kX K hr.units rfl) (ae 0) (dG T.g_LETTERS rfl) rfl)) (fun _=>rfl)) ag rfl) rfl rfl))))),
  (ar (bY (di (kP (bN g5 (aa ax (aa gW ah)))))
   (aQ eV)
   aV)
  (ar (bY (di (aG (gz cv cv aj (bN cK (aa ax ah)) aj)))
   (aQ eV)
   aV)
  (aQ (bN mC (aa (dN (no:=1) (ixs:=[]) (jd ax) (du (by decide)) (dF (i:=0) (by decide) (by decide)) (jm (by decide)) gA (aq oH (cU (i:=0) (by decide)) ap)) ah)))))⟩) hc
theorem we (os:List OV)(P:OV→List OV→Prop)(h:cj os P):os.length=1∧∀ j o,os[j]?=some o→j ∉ ([]:List Nat)→df o=true:=by
 unfold cj at h
 obtain ⟨d,rfl,_⟩:=h
 exact fzo
theorem wf (os:List OV)(P:OV→List OV→Prop)(h:cj os P):pd { nx:=fin [] os P (.fz .non),rt:=fin [] os P } (aU 1 os):=by
 unfold cj at h
 obtain ⟨d,rfl,sm,q⟩:=h
 have sz:=dD
 ac_rfl
 refine cN ?_
 ac_rfl
 refine ⟨⟨jy sm,rfl⟩,?_⟩
 ac_rfl
 refine bd (¬ ∃ z,d=.str z) (by rw [Bool.not_eq_true',Bool.eq_false_iff,Ne,gK]) (fun hn=>?_) (fun hn=>?_)
 ·ac_rfl
  refine q false (gr fun h=>?_)
  cases d <;> first | exact absurd ⟨_,rfl⟩ hn | exact (h:False).elim
 ·obtain ⟨z,rfl⟩:∃ z,d=.str z:=Classical.not_not.mp hn
  have hz:z.length≤1000000:=by simpa [smD] using sm
  have hle:=ko z
  ac_rfl
  refine cN ?_
  ac_rfl
  refine ⟨by nofun,?_⟩
  ac_rfl
  refine bd ((1:Int)≤z.length) decide_eq_true_iff (fun h1=>?_) (fun h1=>?_)
  ·ac_rfl
   refine bd (¬ (z.length:Int)≤8) (by rw [Bool.not_eq_true',decide_eq_false_iff_not]) (fun h2=>?_) (fun h2=>?_)
   ·ac_rfl
    refine q false (gr fun h=>?_)
    have h:fq z:=h
    have:=h.2.1
    nofun
   ·ac_rfl
    refine dw (fun i as ρ=>∃ (bs:List Bool) (x:Option OV),as=bs.map .bl∧bs.length=i∧(bs.all id=true↔∀ c ∈ z.cps.toList.take i,97≤c∧c≤122)∧ρ=[x,some (.fz (.str z))]) ⟨[],none,rfl,rfl,by simp,rfl⟩ ?_ ?_
    ·rintro i d as ρ R hd ⟨bs,x,rfl,hl,hb,rfl⟩ k
     obtain ⟨c,hc,rfl⟩:=jz hd
     have hi:=(List.getElem?_eq_some_iff.mp hc).1
     ac_rfl
     refine iE ?_
     ac_rfl
     refine ⟨by rw [List.length_map]; nofun,k _ _ ⟨bs++[decide (c ∈ lm.cps.toList)],_,by rw [List.map_append]; rfl,by rw [List.length_append,hl]; rfl,?_,rfl⟩⟩
     rw [iT,eJ hc,hb,decide_eq_true_iff,jA]
    ·rintro as ρ ⟨bs,x,rfl,hl,hb,rfl⟩
     rw [fu] at hl
     rw [fu,List.take_of_length_le (Nat.le_refl _)] at hb
     ac_rfl
     refine oP ?_
     ac_rfl
     refine q _ (hb.trans ⟨fun h=>?_,fun h=>?_⟩)
     ·exact (show fq z from ⟨by nofun,by nofun,h⟩)
     ·have h:fq z:=h
      exact h.2.2
  ·ac_rfl
   refine iE ?_
   ac_rfl
   refine q false (gr fun h=>?_)
   have h:fq z:=h
   have:=h.1
   nofun
theorem mS {d:D}{P:OV→List OV→Prop}(sm:smD d=true)(h:∀ b:Bool,(b=true↔ic d)→P (.fz (.bl b)) [.fz d]):cj [.fz d] P:=by
 unfold cj
 exact ⟨d,rfl,sm,h⟩
theorem tN {a b:Nat}:cy ⟨#[a]⟩ ⟨#[b]⟩=decide (a < b):=by
 unfold cy
 rw [decide_eq_decide]
 simp [List.cons_lt_cons_iff]
theorem e_32:Str.ofString " " = ⟨#[32]⟩:=by decide +kernel
theorem E1:Str.ofString "~" = ⟨#[126]⟩:=by decide +kernel
theorem E2 {c:Nat}:(!cy ⟨#[c]⟩ (Str.ofString " "))=true↔32≤c:=by
 rw [e_32,tN,Bool.not_eq_true',decide_eq_false_iff_not]; nofun
theorem DH {c:Nat}:(!cy (Str.ofString "~") ⟨#[c]⟩)=true↔c≤126:=by
 rw [E1,tN,Bool.not_eq_true',decide_eq_false_iff_not]; nofun
abbrev fM:Stmt:=top 23
theorem tO:FnScope ["sign"] ["sign"] (ak fM):=⟨rfl,rfl,rfl,by decide +kernel,rfl,by decide +kernel,by decide +kernel⟩
def pe:FS :=
  (cX (jN (j5 (jI (fun i j=>decide (i≤j)) fun i j=>!cy j i) (jI (fun i j=>decide (i≤j)) fun i j=>!cy j i) (fC (.str " ")) (av 0) (fC (.str "~"))) (fOp aNe (fCB ET (ac (av 0) bc)) (fC (.int 37)))))
theorem tP {f:Addr} {fd:FuncData} (F:Fun K "is_sign" "is_sign" fM f fd) (T:Txt K mg)
  (hlen:∀ os P,cD os P→os.length=1∧∀ j o,os[j]?=some o→j ∉ ([]:List Nat)→df o=true)
  (hc:∀ os P,cD os P→pe { nx:=fin [] os P (.fz .non),rt:=fin [] os P } (aU 1 os)) :
  FnOk P w K mg base CX0 1 f fd ["sign"] (spM K cD) :=
 Fun.okG 1 [] F tO rfl (by decide) hlen (by decide) (fun cdv A outer s H E hr=>⟨_,(al (aN (eP (oo eX eX am (ae 0) am (by with_unfolding_all rfl)) (fZ (dM (xy K hr.units rfl) (ay C6 T.n_ord C7 (au (ae 0) ag rfl) rfl rfl) (dG T.g_BARRED_SIGN rfl) aA))))),
  (aQ (eD (gz cv cv ap ax ap) (aq xM (bN Db (aa ax ah)) aj)))⟩) hc
theorem wg (os:List OV)(P:OV→List OV→Prop)(h:cD os P):os.length=1∧∀ j o,os[j]?=some o→j ∉ ([]:List Nat)→df o=true:=by
 unfold cD at h
 obtain ⟨d,rfl,_⟩:=h
 exact fzo
theorem wj (os:List OV)(P:OV→List OV→Prop)(h:cD os P):pe { nx:=fin [] os P (.fz .non),rt:=fin [] os P } (aU 1 os):=by
 unfold cD at h
 obtain ⟨c,rfl,q⟩:=h
 ac_rfl
 refine bd (32≤c) E2 (fun h1=>?_) (fun h1=>?_)
 ·ac_rfl
  refine bd (c≤126) DH (fun h2=>?_) (fun h2=>?_)
  ·ac_rfl
   refine ⟨bz,?_⟩
   ac_rfl
   refine q _ ?_
   rw [Bool.not_eq_true',Bool.eq_false_iff,Ne,bS]
   exact ⟨fun h=>⟨h1,h2,fun e=>h (by rw [e]; rfl)⟩,fun h e=>h.2.2 (Int.ofNat.inj e)⟩
  ·ac_rfl
   exact q false (gr fun h=>h2 h.2.1)
 ·ac_rfl
  refine mm ?_
  ac_rfl
  exact q false (gr fun h=>h1 h.1)
theorem tQ {c:Nat}{P:OV→List OV→Prop}(h:∀ b:Bool,(b=true↔32≤c∧c≤126∧c≠37)→P (.fz (.bl b)) [.fz (.str ⟨#[c]⟩)]):cD [.fz (.str ⟨#[c]⟩)] P:=by
 unfold cD
 exact ⟨c,rfl,h⟩
abbrev fN:Stmt:=top 24
theorem tR:FnScope ["thing"] ["thing"] (ak fN):=⟨rfl,rfl,rfl,by decide +kernel,rfl,by decide +kernel,by decide +kernel⟩
def pf:FS :=
  (cX (jN (fCB cIs (ac (av 0) (ac (fC (.ty "str")) bc))) (fCB zV (ac (gE 1 (qa (av 0)) (az 0) qG (bx cD (ac (fFz (av 0)) bc))) bc))))
theorem nu5:List.Nodup [("sign" : Str)]:=by decide +kernel
theorem tS {f:Addr} {fd:FuncData} (F:Fun K "is_text" "is_text" fN f fd) (T:Txt K mg) (O_is_sign:Own P w K mg base "is_sign" 1 ["sign"] (spM K cD))
  (hlen:∀ os P,cB os P→os.length=1∧∀ j o,os[j]?=some o→j ∉ ([]:List Nat)→df o=true)
  (hc:∀ os P,cB os P→pf { nx:=fin [] os P (.fz .non),rt:=fin [] os P } (aU 1 os)) :
  FnOk P w K mg base CX0 2 f fd ["thing"] (spM K cB) :=
 Fun.okG 1 [] F tR rfl (by decide) hlen (by decide) (fun cdv A outer s H E hr=>⟨_,(al (aN (eP (ay (d0 K rfl) T.n_isinstance aZ (au (ae 0) (au (gx T.n_str fX rfl) ag rfl) rfl) rfl rfl) (fZ (ay (mh K rfl rfl) T.n_all md (au (dX (T:=["sign"]) (F:=[]) (ixs:=[]) rfl (CompScope.of rfl rfl rfl) (mf K (ae 0) rfl) (fun _ _ _ _=>(cu (i:=0) nu5 rfl (Or.inl rfl) (Or.inr rfl))) (fun _ _ _ _=>eA) (fun _ _ _ _=>(aP O_is_sign (hr.mono (by decide)) (au (ae 0) ag rfl) rfl rfl)) (fun _=>rfl)) ag rfl) rfl rfl))))),
  (aQ (eD (bN g5 (aa ax (aa gW ah))) (bN mC (aa (dN (no:=1) (ixs:=[]) (jd ax) (du (by decide)) (dF (i:=0) (by decide) (by decide)) (jm (by decide)) gA (aB (c:=cD) (aa (cM (cU (i:=0) (by decide))) ah))) ah))))⟩) hc
theorem wl (os:List OV)(P:OV→List OV→Prop)(h:cB os P):os.length=1∧∀ j o,os[j]?=some o→j ∉ ([]:List Nat)→df o=true:=by
 unfold cB at h
 obtain ⟨d,rfl,_⟩:=h
 exact fzo
theorem wm (os:List OV)(P:OV→List OV→Prop)(h:cB os P):pf { nx:=fin [] os P (.fz .non),rt:=fin [] os P } (aU 1 os):=by
 unfold cB at h
 obtain ⟨d,rfl,sm,q⟩:=h
 have sz:=dD
 ac_rfl
 refine ⟨⟨jy sm,rfl⟩,?_⟩
 ac_rfl
 refine bd (∃ z,d=.str z) gK (fun hn=>?_) (fun hn=>?_)
 ·obtain ⟨z,rfl⟩:=hn
  have hz:z.length≤1000000:=by simpa [smD] using sm
  have hle:=ko z
  ac_rfl
  refine dw (fun i as ρ=>∃ (bs:List Bool) (x:Option OV),as=bs.map .bl∧bs.length=i∧(bs.all id=true↔∀ c ∈ z.cps.toList.take i,32≤c∧c≤126∧c≠37)∧ρ=[x,some (.fz (.str z))]) ⟨[],none,rfl,rfl,by simp,rfl⟩ ?_ ?_
  ·rintro i d as ρ R hd ⟨bs,x,rfl,hl,hb,rfl⟩ k
   obtain ⟨c,hc,rfl⟩:=jz hd
   have hi:=(List.getElem?_eq_some_iff.mp hc).1
   ac_rfl
   refine iE ?_
   ac_rfl
   refine tQ fun b hbc=>?_
   ac_rfl
   refine ⟨by rw [List.length_map]; nofun,k _ _ ⟨bs++[b],_,by rw [List.map_append]; rfl,by rw [List.length_append,hl]; rfl,?_,rfl⟩⟩
   rw [iT,eJ hc,hb,hbc]
  ·rintro as ρ ⟨bs,x,rfl,hl,hb,rfl⟩
   rw [fu,List.take_of_length_le (Nat.le_refl _)] at hb
   ac_rfl
   refine oP ?_
   ac_rfl
   refine q _ (hb.trans ⟨fun h=>⟨z,rfl,h⟩,fun ⟨z',e,h⟩=>?_⟩)
   cases e
   exact h
 ·ac_rfl
  exact q false (gr fun ⟨z,e,_⟩=>hn ⟨z,e⟩)
theorem tT {d:D}{P:OV→List OV→Prop}(sm:smD d=true)(h:∀ b:Bool,(b=true↔∃ z,d=.str z∧∀ c ∈ z.cps.toList,32≤c∧c≤126∧c≠37)→P (.fz (.bl b)) [.fz d]):cB [.fz d] P:=by
 unfold cB
 exact ⟨d,rfl,sm,h⟩
theorem tU {l:List Nat}:l.Pairwise (· < ·)↔∀ k a b,l[k]?=some a→l[k+1]?=some b→a < b:=by
 constructor
 ·intro h k a b ha hb
  obtain ⟨h1,e1⟩:=List.getElem?_eq_some_iff.mp ha
  obtain ⟨h2,e2⟩:=List.getElem?_eq_some_iff.mp hb
  rw [← e1,← e2]
  exact List.pairwise_iff_getElem.mp h k (k+1) h1 h2 (Nat.lt_succ_self k)
 ·intro h
  have step:∀ (n i:Nat) (a b:Nat),l[i]?=some a→l[i+n+1]?=some b→a < b:=by
   intro n
   induction n with
   | zero=>intro i a b ha hb; exact h i a b ha hb
   | succ n ih =>
    intro i a b ha hb
    have hlt:i+n+1 < l.length:=by have:=(List.getElem?_eq_some_iff.mp hb).1; nofun
    have hm:l[i+n+1]?=some (l[i+n+1]'hlt):=List.getElem?_eq_getElem hlt
    exact Nat.lt_trans (ih i a _ ha hm) (h (i+n+1) _ b hm hb)
  refine List.pairwise_iff_getElem.mpr fun i j hi hj hij=>?_
  exact step (j - i - 1) i _ _ (List.getElem?_eq_getElem hi) (by rw [show i+(j - i - 1)+1=j by nofun]; exact List.getElem?_eq_getElem hj)
abbrev fO:Stmt:=top 25
theorem tV:FnScope ["thing"] ["thing"] (ak fO):=⟨rfl,rfl,rfl,by decide +kernel,rfl,by decide +kernel,by decide +kernel⟩
def ph:FS :=
  (bI (fIf (jO (bj (bx cB (ac (fFz (av 0)) bc))))
   (cX (fC (.bl false)))
   bX)
  (bI (fIf (jO (bj (j5 (jI (fun i j=>decide (i≤j)) fun i j=>!cy j i) (jI (fun i j=>decide (i≤j)) fun i j=>!cy j i) (fC (.int 1)) (fCB gP (ac (av 0) bc)) (fC (.int 40)))))
   (cX (fC (.bl false)))
   bX)
  (cX (fCB zV (ac (gE 1 (xJ (ac (fC (.int 1)) (ac (fCB gP (ac (av 0) bc)) bc))) (az 0) qG (fOp (jI (fun i j=>decide (i < j)) cy) (fOp aIx (av 1) (fOp (aI0 fun i j=>.int (i - j)) (av 0) (fC (.int 1)))) (fOp aIx (av 1) (av 0)))) bc)))))
theorem tW {f:Addr} {fd:FuncData} (F:Fun K "are_rising_signs" "are_rising_signs" fO f fd) (T:Txt K mg) (O_is_text:Own P w K mg base "is_text" 2 ["thing"] (spM K cB))
  (hlen:∀ os P,aH os P→os.length=1∧∀ j o,os[j]?=some o→j ∉ ([]:List Nat)→df o=true)
  (hc:∀ os P,aH os P→ph { nx:=fin [] os P (.fz .non),rt:=fin [] os P } (aU 1 os)) :
  FnOk P w K mg base CX0 3 f fd ["thing"] (spM K aH) :=
 Fun.okG 1 [] F tV rfl (by decide) hlen (by decide) (fun cdv A outer s H E hr=>⟨_,(ad (bQ (dh (cq (aP O_is_text (hr.mono (by decide)) (au (cI 0 rfl (Or.inr (Or.inl rfl))) ag rfl) rfl rfl)))
   (al (aN ez))
   aO)
  (ad (bQ (dh (kJ eX eX ai (ay (cJ K rfl) T.n_len cG (au (cI 0 rfl (Or.inr (Or.inl rfl))) ag rfl) rfl rfl) (dG T.g_MOST_SIGNS rfl) (by with_unfolding_all rfl)))
   (al (aN ez))
   aO)
  (al (aN (ay (mh K rfl rfl) T.n_all md (au (dX (T:=["k"]) (F:=["thing"]) (ixs:=[0]) rfl (CompScope.of rfl rfl rfl) (rV rfl T.n_range (au ai (au (ay (cJ K rfl) T.n_len cG (au (cI 0 rfl (Or.inr (Or.inl rfl))) ag rfl) rfl rfl) ag rfl) rfl) rfl rfl) (fun _ _ _ _=>(cu (i:=0) (show List.Nodup [("k" : Str),("thing" : Str)] from by decide +kernel) rfl (Or.inl rfl) (Or.inr rfl))) (fun _ _ _ _=>eA) (fun _ _ _ _=>(dM gX (bO K hr.units (cI 1 rfl (Or.inr (Or.inl rfl))) (bu kK (ae 0) ai) (fun _ _=>rfl) rfl) (bO K hr.units (cI 1 rfl (Or.inr (Or.inl rfl))) (ae 0) (fun _ _=>rfl) rfl) aA)) (fun _=>rfl)) ag rfl) rfl rfl))))),
  (ar (bY (di (kP (aB (c:=cB) (aa (cM ax) ah))))
   (aQ eV)
   aV)
  (ar (bY (di (aG (gz cv cv aj (bN cK (aa ax ah)) aj)))
   (aQ eV)
   aV)
  (aQ (bN mC (aa (dN (no:=1) (ixs:=[0]) (vB (aa aj (aa (bN cK (aa ax ah)) ah))) (du (by decide)) (dF (i:=0) (by decide) (by decide)) (jm (by decide)) gA (aq cv (aq bP (cU (i:=1) (by decide)) (aq kY (cU (i:=0) (by decide)) aj)) (aq bP (cU (i:=1) (by decide)) (cU (i:=0) (by decide))))) ah)))))⟩) hc
theorem wn (os:List OV)(P:OV→List OV→Prop)(h:aH os P):os.length=1∧∀ j o,os[j]?=some o→j ∉ ([]:List Nat)→df o=true:=by
 unfold aH at h
 obtain ⟨d,rfl,_⟩:=h
 exact fzo
theorem wo (os:List OV)(P:OV→List OV→Prop)(h:aH os P):ph { nx:=fin [] os P (.fz .non),rt:=fin [] os P } (aU 1 os):=by
 unfold aH at h
 obtain ⟨d,rfl,sm,q⟩:=h
 have sz:=dD
 ac_rfl
 refine cN ?_
 ac_rfl
 refine tT sm fun b hb=>?_
 ac_rfl
 refine bd (b=false) (by cases b <;> simp) (fun e=>?_) (fun e=>?_)
 ·ac_rfl
  refine q false (gr fun h=>?_)
  have:b=true:=hb.mpr (by
   cases d <;> first | exact (h:False).elim | exact ⟨_,rfl,(show dO _ from h).2.2.2⟩)
  rw [e] at this
  cases this
 ·obtain ⟨z,rfl,hok⟩:=hb.mp (by cases b <;> simp_all)
  have hz:z.length≤1000000:=by simpa [smD] using sm
  have hle:=ko z
  ac_rfl
  refine cN ?_
  ac_rfl
  refine ⟨by nofun,?_⟩
  ac_rfl
  refine bd ((1:Int)≤z.length) decide_eq_true_iff (fun h1=>?_) (fun h1=>?_)
  ·ac_rfl
   refine bd (¬ (z.length:Int)≤40) (by rw [Bool.not_eq_true',decide_eq_false_iff_not]) (fun h2=>?_) (fun h2=>?_)
   ·ac_rfl
    refine q false (gr fun h=>?_)
    have h:dO z:=h
    have:=h.2.1
    nofun
   ·ac_rfl
    refine ⟨by nofun,?_⟩
    ac_rfl
    refine ⟨⟨by nofun,by nofun,by nofun,by nofun⟩,?_⟩
    ac_rfl
    refine dw (fun i as ρ=>∃ (bs:List Bool) (x:Option OV),as=bs.map .bl∧bs.length=i∧(bs.all id=true↔∀ k a b,k < i→z.cps.toList[k]?=some a→z.cps.toList[k+1]?=some b→a < b)∧ρ=[x,some (.fz (.str z))]) ⟨[],none,rfl,rfl,⟨fun _ k _ _ hk=>absurd hk (Nat.not_lt_zero k),fun _=>rfl⟩,rfl⟩ ?_ ?_
    ·rintro i d as ρ R hd ⟨bs,x,rfl,hl,hb2,rfl⟩ k
     obtain ⟨hi,rfl⟩:=d7 hd
     have hi':i+1 < z.cps.toList.length:=by nofun
     have g1:z.cps.toList[i]?=some (z.cps.toList[i]'(by nofun)):=List.getElem?_eq_getElem _
     have g2:z.cps.toList[i+1]?=some (z.cps.toList[i+1]'hi'):=List.getElem?_eq_getElem _
     have e1:atI z.cps.toList ((1:Int)+i - 1)=some (z.cps.toList[i]'(by nofun)):=by
      rw [show (1:Int)+i - 1=((i:Nat):Int) by nofun]; exact gQ g1
     have e2:atI z.cps.toList ((1:Int)+i)=some (z.cps.toList[i+1]'hi'):=by
      rw [show (1:Int)+i=((i+1:Nat):Int) by nofun]; exact gQ g2
     ac_rfl
     refine iE ?_
     ac_rfl
     refine ⟨by nofun,?_⟩
     rw [e1]
     ac_rfl
     refine ⟨by nofun,?_⟩
     rw [e2]
     ac_rfl
     refine ⟨by rw [List.length_map]; nofun,k _ _ ⟨bs++[_],_,by rw [List.map_append]; rfl,by rw [List.length_append,hl]; rfl,?_,rfl⟩⟩
     rw [iT,hb2,tN,decide_eq_true_iff]
     constructor
     ·rintro ⟨h3,h4⟩ k a b hk ha hb3
      by_cases hki:k=i
      ·subst hki
       rw [g1] at ha
       rw [g2] at hb3
       cases ha
       cases hb3
       exact h4
      ·exact h3 k a b (by nofun) ha hb3
     ·intro h3
      exact ⟨fun k a b hk=>h3 k a b (by nofun),h3 i _ _ (Nat.lt_succ_self i) g1 g2⟩
    ·rintro as ρ ⟨bs,x,rfl,hl,hb2,rfl⟩
     ac_rfl
     refine oP ?_
     ac_rfl
     refine q _ (hb2.trans ?_)
     have el:(dU 1 ((z.length:Int) - 1).toNat).length=z.cps.toList.length - 1:=by
      unfold dU; rw [List.length_map,List.length_range]; nofun
     rw [el]
     constructor
     ·intro h
      exact (show dO z from ⟨by nofun,by nofun,tU.mpr fun k a b ha hb3=>h k a b (by have:=(List.getElem?_eq_some_iff.mp hb3).1; nofun) ha hb3,hok⟩)
     ·intro h k a b _ ha hb3
      have h:dO z:=h
      exact tU.mp h.2.2.1 k a b ha hb3
  ·ac_rfl
   refine iE ?_
   ac_rfl
   refine q false (gr fun h=>?_)
   have h:dO z:=h
   have:=h.1
   nofun
theorem tX {d:D}{P:OV→List OV→Prop}(sm:smD d=true)(h:∀ b:Bool,(b=true↔kn d)→P (.fz (.bl b)) [.fz d]):aH [.fz d] P:=by
 unfold aH
 exact ⟨d,rfl,sm,h⟩
end
end KR
set_option maxHeartbeats 4000000
namespace KR
open PySem L2
@[irreducible] def bV:Ct:=fun os P=>∃ d:D,os=[.fz d]∧smD d=true∧∀ b:Bool,(b=true↔jx d)→P (.fz (.bl b)) os
theorem tY {xs:List D}(h:smD (.tup xs)=true):xs.length≤1000000∧∀ d ∈ xs,smD d=true:=by
 simp only [smD,Bool.and_eq_true,decide_eq_true_iff] at h
 exact ⟨h.1,fun d hd=>pc h.2 hd⟩
theorem jB {α:Type}{x:α}{r:List α}:dR (x::r) (some 1) none=r:=by
 unfold dR
 rw [show HT.sIx (x::r).length 0 (some 1)=1 from by show min 1 (r.length+1)=1; nofun,HT.sIx_none]
 simp
section
variable {P:Program} {w:World} {K:PySem.W.Frag} {mg:Str→Option Value} {base:Heap}
abbrev fP:Stmt:=top 26
theorem tZ:FnScope ["thing", "word"] ["thing"] (ak fP):=⟨rfl,rfl,rfl,by decide +kernel,rfl,by decide +kernel,by decide +kernel⟩
def pi:FS :=
  (bI (fIf (fOr (jO (bj (fCB cIs (ac (av 0) (ac (fC (.ty "tuple")) bc))))) (bj (fOp aEq (fCB gP (ac (av 0) bc)) (fC (.int 0)))))
   (cX (fC (.bl false)))
   bX)
  (bI (de (fOp aIx (av 0) (fC (.int 0))) (az 1))
  (bI (fIf (jO (bj (fCB cIs (ac (av 1) (ac (fC (.ty "str")) bc)))))
   (cX (fC (.bl false)))
   bX)
  (bI (fIf (bj (fOp aIn (av 1) (fC (.tup [.str "none", .str "any"]))))
   (cX (fOp aEq (fCB gP (ac (av 0) bc)) (fC (.int 1))))
   bX)
  (bI (fIf (bj (fOp aEq (av 1) (fC (.str "signs"))))
   (cX (jN (fOp aEq (fCB gP (ac (av 0) bc)) (fC (.int 2))) (bx aH (ac (fFz (fOp aIx (av 0) (fC (.int 1)))) bc))))
   bX)
  (bI (fIf (bj (fOp aIn (av 1) (fC (.tup [.str "again", .str "ahead", .str "not"]))))
   (cX (jN (fOp aEq (fCB gP (ac (av 0) bc)) (fC (.int 2))) (bx cj (ac (fFz (fOp aIx (av 0) (fC (.int 1)))) bc))))
   bX)
  (bI (fIf (bj (fOp aIn (av 1) (fC (.tup [.str "row", .str "first"]))))
   (cX (jN (j5 (jI (fun i j=>decide (i≤j)) fun i j=>!cy j i) (jI (fun i j=>decide (i≤j)) fun i j=>!cy j i) (fC (.int 1)) (fOp (aI0 fun i j=>.int (i - j)) (fCB gP (ac (av 0) bc)) (fC (.int 1))) (fC (.int 8))) (fCB zV (ac (gE 1 (vx (fSl iC (av 0) (da (fC (.int 1))) bW)) (az 0) qG (bx cj (ac (fFz (av 0)) bc))) bc))))
   bX)
  (cX (fC (.bl false))))))))))
theorem nu6:List.Nodup [("part" : Str)]:=by decide +kernel
theorem t4 {f:Addr} {fd:FuncData} (F:Fun K "is_form" "is_form" fP f fd) (T:Txt K mg) (O_are_rising_signs:Own P w K mg base "are_rising_signs" 3 ["thing"] (spM K aH)) (O_is_name:Own P w K mg base "is_name" 1 ["thing"] (spM K cj))
  (hlen:∀ os P,bV os P→os.length=1∧∀ j o,os[j]?=some o→j ∉ ([]:List Nat)→df o=true)
  (hc:∀ os P,bV os P→pi { nx:=fin [] os P (.fz .non),rt:=fin [] os P } (aU 2 os)) :
  FnOk P w K mg base CX0 4 f fd ["thing"] (spM K bV) :=
 Fun.okG 2 [] F tZ rfl (by decide) hlen (by decide) (fun cdv A outer s H E hr=>⟨_,(ad (bQ (pU (i2 (dh (cq (ay (d0 K rfl) T.n_isinstance aZ (au (ae 0) (au (gx T.n_tuple eu rfl) ag rfl) rfl) rfl rfl))) (ip (bh (bE K hr.units rfl) (ay (cJ K rfl) T.n_len cG (au (ae 0) ag rfl) rfl rfl) ai aA))))
   (al (aN ez))
   aO)
  (ad (aL (i:=1) (show List.Nodup [("thing" : Str),("word" : Str)] from by decide +kernel) rfl (Or.inl rfl) (bO K hr.units (ae 0) ai (fun _ _=>rfl) rfl) rfl (Or.inl rfl))
  (ad (bQ (dh (cq (ay (d0 K rfl) T.n_isinstance aZ (au (ae 1) (au (gx T.n_str fX rfl) ag rfl) rfl) rfl rfl)))
   (al (aN ez))
   aO)
  (ad (bQ (bh (kX K hr.units rfl) (ae 1) (nB T.g_WORDS_ALONE rfl) rfl)
   (al (aN (dM (bE K hr.units rfl) (ay (cJ K rfl) T.n_len cG (au (ae 0) ag rfl) rfl rfl) ai aA)))
   aO)
  (ad (bQ (bh (bE K hr.units rfl) (ae 1) am aA)
   (al (aN (eP (dM (bE K hr.units rfl) (ay (cJ K rfl) T.n_len cG (au (ae 0) ag rfl) rfl rfl) ai aA) (fZ (aP O_are_rising_signs (hr.mono (by decide)) (au (bO K hr.units (ae 0) ai (fun _ _=>rfl) rfl) ag rfl) rfl rfl)))))
   aO)
  (ad (bQ (bh (kX K hr.units rfl) (ae 1) (nB T.g_WORDS_WITH_ONE rfl) rfl)
   (al (aN (eP (dM (bE K hr.units rfl) (ay (cJ K rfl) T.n_len cG (au (ae 0) ag rfl) rfl rfl) ai aA) (fZ (aP O_is_name (hr.mono (by decide)) (au (bO K hr.units (ae 0) ai (fun _ _=>rfl) rfl) ag rfl) rfl rfl)))))
   aO)
  (ad (bQ (bh (kX K hr.units rfl) (ae 1) (nB T.g_WORDS_WITH_SOME rfl) rfl)
   (al (aN (eP (oo eX eX ai (bu kK (ay (cJ K rfl) T.n_len cG (au (ae 0) ag rfl) rfl rfl) ai) (dG T.g_MOST_PARTS rfl) (by with_unfolding_all rfl)) (fZ (ay (mh K rfl rfl) T.n_all md (au (dX (T:=["part"]) (F:=[]) (ixs:=[]) rfl (CompScope.of rfl rfl rfl) (rT K (bi K (ae 0) (bA ai) cg rfl) rfl) (fun _ _ _ _=>(cu (i:=0) nu6 rfl (Or.inl rfl) (Or.inr rfl))) (fun _ _ _ _=>eA) (fun _ _ _ _=>(aP O_is_name (hr.mono (by decide)) (au (ae 0) ag rfl) rfl rfl)) (fun _=>rfl)) ag rfl) rfl rfl)))))
   aO)
  (al (aN ez))))))))),
  (ar (bY (jb (di (kP (bN g5 (aa ax (aa gW ah))))) (aG (aq bF (bN cK (aa ax ah)) aj)))
   (aQ eV)
   aV)
  (ar (aS (aq bP ax aj) (cO (by decide)) (ao (by decide)))
  (ar (bY (di (kP (bN g5 (aa ax (aa gW ah)))))
   (aQ eV)
   aV)
  (ar (bY (aG (aq oH ax (zS fun _=>Dens.strs ["none", "any"])))
   (aQ (aq bF (bN cK (aa ax ah)) aj))
   aV)
  (ar (bY (aG (aq bF ax ap))
   (aQ (eD (aq bF (bN cK (aa ax ah)) aj) (aB (c:=aH) (aa (cM (aq bP ax aj)) ah))))
   aV)
  (ar (bY (aG (aq oH ax (zS fun _=>Dens.strs ["again", "ahead", "not"])))
   (aQ (eD (aq bF (bN cK (aa ax ah)) aj) (aB (c:=cj) (aa (cM (aq bP ax aj)) ah))))
   aV)
  (ar (bY (aG (aq oH ax (zS fun _=>Dens.strs ["row", "first"])))
   (aQ (eD (gz cv cv aj (aq kY (bN cK (aa ax ah)) aj) aj) (bN mC (aa (dN (no:=1) (ixs:=[]) (ny (dB dH ax (bB aj) ci)) (du (by decide)) (dF (i:=0) (by decide) (by decide)) (jm (by decide)) gA (aB (c:=cj) (aa (cM (cU (i:=0) (by decide))) ah))) ah))))
   aV)
  (aQ eV))))))))⟩) hc
theorem wp (os:List OV)(P:OV→List OV→Prop)(h:bV os P):os.length=1∧∀ j o,os[j]?=some o→j ∉ ([]:List Nat)→df o=true:=by
 unfold bV at h
 obtain ⟨d,rfl,_⟩:=h
 exact fzo
theorem wq (os:List OV)(P:OV→List OV→Prop)(h:bV os P):pi { nx:=fin [] os P (.fz .non),rt:=fin [] os P } (aU 2 os):=by
 unfold bV at h
 obtain ⟨d,rfl,sm,q⟩:=h
 have sz:=dD
 ac_rfl
 refine cF (∃ x xs,d=.tup (x::xs)) ?_ ?_
 ·rintro ⟨x,xs,rfl⟩
  obtain ⟨hl,hm⟩:=tY sm
  rw [List.length_cons] at hl
  ac_rfl
  refine gm ?_
  ac_rfl
  refine cF (∃ word,x=.str word) ?_ ?_
  ·rintro ⟨word,rfl⟩
   have q':∀ b:Bool,(b=true↔jP word xs)→P (.fz (.bl b)) [.fz (.tup (.str word::xs))]:=fun b hb=>q b (hb.trans lj.symm)
   ac_rfl
   refine cN ?_
   ac_rfl
   refine ⟨⟨rfl,rfl⟩,?_⟩
   ac_rfl
   refine bd (word = "none" ∨ word = "any") ((lg (zs:=["none", "any"])).trans (by simp)) (fun hw=>?_) (fun h1=>?_)
   ·ac_rfl
    refine ⟨bz,?_⟩
    ac_rfl
    refine q' _ (bS.trans (Iff.trans ?_ (nP hw).symm))
    exact ⟨fun h=>List.eq_nil_of_length_eq_zero (by rw [List.length_cons] at h; nofun),fun h=>by rw [h]; rfl⟩
   ·ac_rfl
    refine cN ?_
    ac_rfl
    refine ⟨cm,?_⟩
    ac_rfl
    refine bd (word = "signs") cP (fun hw=>?_) (fun h2=>?_)
    ·ac_rfl
     refine ⟨bz,?_⟩
     ac_rfl
     refine bd (∃ x,xs=[x]) (bS.trans (by rw [List.length_cons]; exact nQ)) (fun h=>?_) (fun h=>?_)
     ·obtain ⟨x,rfl⟩:=h
      ac_rfl
      refine tX (hm x (by simp)) fun b hb=>?_
      ac_rfl
      refine q' _ (hb.trans (Iff.trans ?_ (iS hw).symm))
      exact ⟨fun h=>⟨x,rfl,h⟩,fun ⟨y,e,h⟩=>by cases e; exact h⟩
     ·ac_rfl
      exact q' _ (gr fun hh=>by obtain ⟨y,e,_⟩:=(iS hw).mp hh; exact h ⟨y,e⟩)
    ·ac_rfl
     refine cN ?_
     ac_rfl
     refine ⟨⟨rfl,rfl⟩,?_⟩
     ac_rfl
     refine bd (word = "again" ∨ word = "ahead" ∨ word = "not") ((lg (zs:=["again", "ahead", "not"])).trans (by simp)) (fun hw=>?_) (fun h3=>?_)
     ·ac_rfl
      refine ⟨bz,?_⟩
      ac_rfl
      refine bd (∃ x,xs=[x]) (bS.trans (by rw [List.length_cons]; exact nQ)) (fun h=>?_) (fun h=>?_)
      ·obtain ⟨x,rfl⟩:=h
       ac_rfl
       refine mS (hm x (by simp)) fun b hb=>?_
       ac_rfl
       refine q' _ (hb.trans (Iff.trans ?_ (tJ hw).symm))
       exact ⟨fun h=>⟨x,rfl,h⟩,fun ⟨y,e,h⟩=>by cases e; exact h⟩
      ·ac_rfl
       exact q' _ (gr fun hh=>by obtain ⟨y,e,_⟩:=(tJ hw).mp hh; exact h ⟨y,e⟩)
     ·ac_rfl
      refine cN ?_
      ac_rfl
      refine ⟨⟨rfl,rfl⟩,?_⟩
      ac_rfl
      refine bd (word = "row" ∨ word = "first") ((lg (zs:=["row", "first"])).trans (by simp)) (fun hw=>?_) (fun h4=>?_)
      ·ac_rfl
       rw [List.length_cons]
       refine bd ((1:Int)≤((xs.length+1:Nat):Int) - 1) decide_eq_true_iff (fun g1=>?_) (fun g1=>?_)
       ·ac_rfl
        refine bd (((xs.length+1:Nat):Int) - 1≤8) decide_eq_true_iff (fun g2=>?_) (fun g2=>?_)
        ·ac_rfl
         rw [jB]
         ac_rfl
         refine dw (fun i as ρ=>∃ (bs:List Bool) (x y:Option OV),as=bs.map .bl∧bs.length=i∧(bs.all id=true↔∀ c ∈ xs.take i,ic c)∧ρ=[x,some (.fz (.tup (.str word::xs))),y]) ⟨[],none,_,rfl,rfl,by simp,rfl⟩ ?_ ?_
         ·rintro i d as ρ R hd ⟨bs,x,y,rfl,hbl,hb,rfl⟩ k
          have hi:=(List.getElem?_eq_some_iff.mp hd).1
          ac_rfl
          refine iE ?_
          ac_rfl
          refine mS (hm d (List.mem_cons_of_mem _ (List.mem_of_getElem? hd))) fun b hb2=>?_
          ac_rfl
          refine ⟨by rw [List.length_map]; nofun,k _ _ ⟨bs++[b],_,_,by rw [List.map_append]; rfl,by rw [List.length_append,hbl]; rfl,?_,rfl⟩⟩
          rw [iT,eJ hd,hb,hb2]
         ·rintro as ρ ⟨bs,x,y,rfl,hbl,hb,rfl⟩
          rw [List.take_of_length_le (Nat.le_refl _)] at hb
          ac_rfl
          refine oP ?_
          ac_rfl
          refine q' _ (hb.trans (Iff.trans ?_ (ll hw).symm))
          exact ⟨fun h=>⟨by nofun,by nofun,h⟩,fun h=>h.2.2⟩
        ·ac_rfl
         exact q' _ (gr fun hh=>by have:=(ll hw).mp hh; nofun)
       ·ac_rfl
        refine mm ?_
        ac_rfl
        exact q' _ (gr fun hh=>by have:=(ll hw).mp hh; nofun)
      ·ac_rfl
       exact q' _ (gr (tK h1 h2 h3 h4))
  ·intro aw
   ac_rfl
   refine ⟨⟨jy (hm x (by simp)),rfl⟩,?_⟩
   ac_rfl
   refine bd (¬ ∃ z,x=.str z) (by rw [Bool.not_eq_true',Bool.eq_false_iff,Ne,gK]) (fun hn=>?_) (fun hn=>aw (Classical.not_not.mp hn))
   ac_rfl
   refine q _ (gr fun ⟨word,r,e,_⟩=>?_)
   cases e
   exact hn ⟨_,rfl⟩
 ·intro aw
  ac_rfl
  refine ⟨⟨jy sm,rfl⟩,?_⟩
  ac_rfl
  refine bd (¬ ∃ z,d=.tup z) (by rw [Bool.not_eq_true',Bool.eq_false_iff,Ne,yg]) (fun hn=>?_) (fun hn=>?_)
  ·ac_rfl
   refine iE ?_
   ac_rfl
   exact q _ (gr fun ⟨word,r,e,_⟩=>hn ⟨_,e⟩)
  ·obtain ⟨xs,rfl⟩:∃ z,d=.tup z:=Classical.not_not.mp hn
   ac_rfl
   refine ⟨bz,?_⟩
   ac_rfl
   refine bd (xs=[]) (bS.trans ⟨fun h=>List.eq_nil_of_length_eq_zero (by nofun),fun h=>by rw [h]; rfl⟩) (fun h=>?_) (fun h=>?_)
   ·subst h
    ac_rfl
    exact q _ (gr fun ⟨word,r,e,_⟩=>nomatch e)
   ·match xs,h with
    | x::xs,_=>exact aw ⟨x,xs,rfl⟩
theorem gL {d:D}{P:OV→List OV→Prop}(sm:smD d=true)(h:∀ b:Bool,(b=true↔jx d)→P (.fz (.bl b)) [.fz d]):bV [.fz d] P:=by
 unfold bV
 exact ⟨d,rfl,sm,h⟩
end
end KR
set_option maxHeartbeats 4000000
namespace KR
open PySem L2
def okc (c:Nat):Prop:=32≤c∧c≤126∧c≠37
theorem mT:fW.cps.toList=(List.range' 32 95).filter fun c=>c != 37:=by decide +kernel
theorem pj {c:Nat}:c ∈ fW.cps.toList↔okc c:=by
 rw [mT,List.mem_filter,List.mem_range'_1]
 unfold okc
 simp
 nofun
theorem qt:fW.cps.toList.Pairwise (· < ·):=by
 rw [mT]
 exact List.Pairwise.filter _ (List.pairwise_lt_range' ..)
theorem yh {x:Str}{c i:Nat}:StrLaws.At x ⟨#[c]⟩ x.length i↔x.cps.toList[i]?=some c:=by
 unfold StrLaws.At Builtin.Str.subAt
 have hl:=ko x
 have h1:(⟨#[c]⟩:Str).length=1:=rfl
 rw [h1,beq_iff_eq]
 constructor
 ·rintro ⟨h2,e⟩
  have e':=congrArg Array.toList e
  rw [Array.toList_extract,List.extract_eq_drop_take] at e'
  have hi:i < x.cps.toList.length:=by nofun
  rw [List.drop_eq_getElem_cons hi,show i+1 - i=0+1 by nofun] at e'
  rw [List.getElem?_eq_getElem hi]
  simp at e'
  exact congrArg some e'
 ·intro e
  obtain ⟨hi,e2⟩:=List.getElem?_eq_some_iff.mp e
  refine ⟨by nofun,?_⟩
  apply Array.toList_inj.mp
  rw [Array.toList_extract,List.extract_eq_drop_take,List.drop_eq_getElem_cons hi,show i+1 - i=0+1 by nofun,e2]
  simp
def pk (c:Nat):Int:=Txt.find fW ⟨#[c]⟩
theorem t5 (c:Nat):(pk c=-1∧¬ okc c)∨∃ i:Nat,pk c=i∧fW.cps.toList[i]?=some c:=by
 rcases PyProof.Rows.find_whole fW ⟨#[c]⟩ with ⟨h1,h2⟩ | ⟨i,h1,h2,_⟩
 ·refine .inl ⟨h1,fun ho=>?_⟩
  obtain ⟨i,hi⟩:=List.mem_iff_getElem?.mp (pj.mpr ho)
  exact h2 i (yh.mpr hi)
 ·exact .inr ⟨i,h1,yh.mp h2⟩
theorem ie {c:Nat}:0≤pk c↔okc c:=by
 rcases t5 c with ⟨h1,h2⟩ | ⟨i,h1,h2⟩
 ·rw [h1]; exact ⟨fun h=>absurd h (by decide),fun h=>absurd h h2⟩
 ·rw [h1]; exact ⟨fun _=>pj.mp (List.mem_of_getElem? h2),fun _=>Int.natCast_nonneg i⟩
theorem t6 {c c':Nat}(h:okc c)(h':okc c'):pk c < pk c'↔c < c':=by
 rcases t5 c with ⟨_,h2⟩ | ⟨i,h1,h2⟩
 ·exact absurd h h2
 rcases t5 c' with ⟨_,h2'⟩ | ⟨j,h1',h2'⟩
 ·exact absurd h' h2'
 rw [h1,h1']
 obtain ⟨hi,ei⟩:=List.getElem?_eq_some_iff.mp h2
 obtain ⟨hj,ej⟩:=List.getElem?_eq_some_iff.mp h2'
 have m:∀ {a b:Nat} (ha:a < fW.cps.toList.length) (hb:b < fW.cps.toList.length),a < b→fW.cps.toList[a] < fW.cps.toList[b]:=fun ha hb hab=>List.pairwise_iff_getElem.mp qt _ _ ha hb hab
 constructor
 ·intro hl
  rw [← ei,← ej]
  exact m hi hj (by nofun)
 ·intro hl
  rcases Nat.lt_trichotomy i j with z | z | z
  ·nofun
  ·subst z
   rw [ei] at ej
   nofun
  ·have:=m hj hi z
   rw [ei,ej] at this
   nofun
theorem t7 {ps ss:List Int}(h:sN ss ps):ps=ss↔ps.Pairwise (· < ·):=by
 constructor
 ·intro e; rw [e]; exact h.1
 ·intro hp
  have np:ps.Nodup:=hp.imp fun x=>by nofun
  have ns:ss.Nodup:=h.1.imp fun x=>by nofun
  have pm:ps.Perm ss:=(List.perm_ext_iff_of_nodup np ns).mpr fun k=>(h.2 k).symm
  have hp':ps.Pairwise (fun a b=>a≤b):=hp.imp fun x=>Int.le_of_lt x
  have hs':ss.Pairwise (fun a b=>a≤b):=h.1.imp fun x=>Int.le_of_lt x
  exact List.Perm.eq_of_pairwise (fun a b _ _ h1 h2=>Int.le_antisymm h1 h2) hp' hs' pm
theorem qu {z:Str}:(∃ c,z.cps.toList[0]?=some c∧0≤pk c)∧(z.cps.toList.map pk).Pairwise (· < ·)↔1≤z.cps.toList.length∧z.cps.toList.Pairwise (· < ·)∧∀ c ∈ z.cps.toList,okc c:=by
 generalize z.cps.toList=l
 constructor
 ·rintro ⟨⟨c,h1,h2⟩,hp⟩
  match l,h1 with
  | c'::l,h1 =>
   simp at h1
   subst h1
   rw [List.map_cons,List.pairwise_cons] at hp
   have ok:∀ d ∈ c'::l,okc d:=by
    intro d hd
    rcases List.mem_cons.mp hd with rfl | hd
    ·exact ie.mp h2
    ·have:=hp.1 (pk d) (List.mem_map.mpr ⟨d,hd,rfl⟩)
     exact ie.mp (by nofun)
   refine ⟨by rw [List.length_cons]; nofun,List.pairwise_cons.mpr ⟨fun d hd=>(t6 (ok _ (List.mem_cons_self ..)) (ok d (List.mem_cons_of_mem _ hd))).mp (hp.1 _ (List.mem_map.mpr ⟨d,hd,rfl⟩)),?_⟩,ok⟩
   have h3:=List.pairwise_map.mp hp.2
   exact h3.imp_of_mem fun ha hb hlt=>(t6 (ok _ (List.mem_cons_of_mem _ ha)) (ok _ (List.mem_cons_of_mem _ hb))).mp hlt
 ·rintro ⟨h1,h2,ok⟩
  match l,h1 with
  | c::l,_ =>
   refine ⟨⟨c,rfl,ie.mpr (ok c (List.mem_cons_self ..))⟩,List.pairwise_map.mpr ?_⟩
   exact h2.imp_of_mem fun ha hb hlt=>(t6 (ok _ ha) (ok _ hb)).mpr hlt
theorem t8 {zs ws:List Int}:Bn (.lst (zs.map D.int)) (.lst (ws.map D.int)):=by
 have h1:∀ zs:List Int,okDs (zs.map D.int)=true:=fun zs=>by induction zs with
  | nil=>rfl
  | cons a r ih=>simp only [List.map_cons,okDs,okD,ih,Bool.and_self]
 have h2:∀ zs:List Int,deps (toDVs (zs.map D.int))=0:=fun zs=>by induction zs with
  | nil=>rfl
  | cons a r ih=>simp only [List.map_cons,toDVs,sr,deps,dep,ih]; rfl
 exact ⟨by simp only [okD]; exact h1 zs,by simp only [okD]; exact h1 ws,by simp only [sr,dep,h2]; decide⟩
theorem wt {zs ws:List Int}:dEq (.lst (zs.map D.int)) (.lst (ws.map D.int))=true↔zs=ws:=by
 unfold dEq
 simp only [sr,deq]
 induction zs generalizing ws with
 | nil=>cases ws <;> simp [toDVs,deqs]
 | cons a r ih =>
  cases ws with
  | nil=>simp [toDVs,deqs]
  | cons b s=>simp only [List.map_cons,toDVs,sr,deqs,deq,Bool.and_eq_true,beq_iff_eq,ih,List.cons.injEq]
theorem t9 {z:Str}:z = "" ↔ z.cps.toList.length=0:=by
 constructor
 ·intro h; rw [h]; decide +kernel
 ·intro h
  refine gh ?_
  rw [List.eq_nil_of_length_eq_zero h]
  decide +kernel
section
variable {P:Program} {w:World} {K:PySem.W.Frag} {mg:Str→Option Value} {base:Heap}
abbrev d8:Stmt:=top 38
theorem qv:FnScope ["thing"] ["thing"] (ak d8):=⟨rfl,rfl,rfl,by decide +kernel,rfl,by decide +kernel,by decide +kernel⟩
def mU:FS :=
  (bI (fIf (fOr (jO (bj (fCB cIs (ac (av 0) (ac (fC (.ty "str")) bc))))) (fOr (bj (fOp aEq (av 0) (fC (.str "")))) (bj (fOp (jI (fun i j=>decide (j < i)) fun i j=>cy j i) (fCB gP (ac (av 0) bc)) (fC (.int 8))))))
   (cX (fC (.bl false)))
   bX)
  (cX (fOp Dk (gE 1 (qa (av 0)) (az 0) (bj (fOp xN (av 0) (fC (.str "abcdefghijklmnopqrstuvwxyz")))) (av 0)) (iF bc))))
theorem qw {f:Addr} {fd:FuncData} (F:Fun K "_law_is_name" "_law_is_name" d8 f fd) (T:Txt K mg)
  (hlen:∀ os P,bq os P→os.length=1∧∀ j o,os[j]?=some o→j ∉ ([]:List Nat)→df o=true)
  (hc:∀ os P,bq os P→mU { nx:=fin [] os P (.fz .non),rt:=fin [] os P } (aU 1 os)) :
  FnOk P w K mg base CX0 1 f fd ["thing"] (spM K bq) :=
 Fun.okG 1 [] F qv rfl (by decide) hlen (by decide) (fun cdv A outer s H E hr=>⟨_,(ad (bQ (pU (i2 (dh (cq (ay (d0 K rfl) T.n_isinstance aZ (au (ae 0) (au (gx T.n_str fX rfl) ag rfl) rfl) rfl rfl))) (i2 (bh (bE K hr.units rfl) (ae 0) am aA) (ip (bh gY (ay (cJ K rfl) T.n_len cG (au (ae 0) ag rfl) rfl rfl) ai aA)))))
   (al (aN ez))
   aO)
  (al (aN (dM (nK K hr.units rfl) (dX (T:=["sign"]) (F:=[]) (ixs:=[]) rfl (CompScope.of rfl rfl rfl) (mf K (ae 0) rfl) (fun _ _ _ _=>(cu (i:=0) nu5 rfl (Or.inl rfl) (Or.inr rfl))) (fun _ _ _ _=>(rR (bh (qd K hr.units rfl) (ae 0) am rfl))) (fun _ _ _ _=>(ae 0)) (fun _=>rfl)) (cZ ag) aA)))),
  (ar (bY (jb (di (kP (bN g5 (aa ax (aa gW ah))))) (jb (aG (aq bF ax ap)) (aG (aq cv (bN cK (aa ax ah)) aj))))
   (aQ eV)
   aV)
  (aQ (aq nL (dN (no:=1) (ixs:=[]) (jd ax) (du (by decide)) (dF (i:=0) (by decide) (by decide)) (jm (by decide)) (aG (aq sJ (cU (i:=0) (by decide)) ap)) (cU (i:=0) (by decide))) (dc ah))))⟩) hc
theorem ua (os:List OV)(P:OV→List OV→Prop)(h:bq os P):os.length=1∧∀ j o,os[j]?=some o→j ∉ ([]:List Nat)→df o=true:=by
 unfold bq at h
 obtain ⟨d,rfl,_⟩:=h
 exact fzo
theorem ub (os:List OV)(P:OV→List OV→Prop)(h:bq os P):mU { nx:=fin [] os P (.fz .non),rt:=fin [] os P } (aU 1 os):=by
 unfold bq at h
 obtain ⟨d,rfl,sm,q⟩:=h
 have sz:=dD
 ac_rfl
 refine cF (∃ z:Str,d=.str z∧1≤z.cps.toList.length∧z.cps.toList.length≤8) ?_ ?_
 ·rintro ⟨z,rfl,h1,h8⟩
  ac_rfl
  refine dw (fun i as ρ=>∃ (x:Option OV),as.length≤i∧(as.isEmpty=true↔∀ c ∈ z.cps.toList.take i,97≤c∧c≤122)∧ρ=[x,some (.fz (.str z))]) ⟨none,Nat.zero_le _,by simp,rfl⟩ ?_ ?_
  ·rintro i d as ρ R hd ⟨x,hl,hb,rfl⟩ k
   obtain ⟨c,hc,rfl⟩:=jz hd
   have hi:=(List.getElem?_eq_some_iff.mp hc).1
   ac_rfl
   refine bd (¬ (97≤c∧c≤122)) (by rw [Bool.not_eq_true',decide_eq_false_iff_not]; exact not_congr jA) (fun hn=>?_) (fun hn=>?_)
   ·ac_rfl
    refine ⟨by nofun,k _ _ ⟨_,by rw [List.length_append]; show as.length+1≤i+1; nofun,?_,rfl⟩⟩
    rw [eJ hc]
    exact ⟨fun h=>by simp at h,fun h=>absurd h.2 hn⟩
   ·refine k _ _ ⟨_,by nofun,?_,rfl⟩
    rw [eJ hc,hb]
    exact ⟨fun h=>⟨h,Classical.not_not.mp hn⟩,fun h=>h.1⟩
  ·rintro as ρ ⟨x,hl,hb,rfl⟩
   rw [fu,List.take_of_length_le (Nat.le_refl _)] at hb
   ac_rfl
   refine ⟨Nat.zero_le _,?_⟩
   ac_rfl
   exact q _ (hb.trans ⟨fun h=>(show fq z from ⟨h1,h8,h⟩),fun h=>(show fq z from h).2.2⟩)
 ·intro aw
  ac_rfl
  refine ⟨⟨jy sm,rfl⟩,?_⟩
  ac_rfl
  refine bd (¬ ∃ z,d=.str z) (by rw [Bool.not_eq_true',Bool.eq_false_iff,Ne,gK]) (fun hn=>?_) (fun hn=>?_)
  ·ac_rfl
   refine iE ?_
   ac_rfl
   refine q false (gr fun h=>?_)
   cases d <;> first | exact absurd ⟨_,rfl⟩ hn | exact (h:False).elim
  ·obtain ⟨z,rfl⟩:∃ z,d=.str z:=Classical.not_not.mp hn
   have hz:z.length≤1000000:=by simpa [smD] using sm
   have hle:=ko z
   ac_rfl
   refine ⟨cm,?_⟩
   ac_rfl
   refine bd (z.cps.toList.length=0) (cP.trans t9) (fun h0=>?_) (fun h0=>?_)
   ·ac_rfl
    refine iE ?_
    ac_rfl
    exact q false (gr fun h=>by have:=(show fq z from h).1; nofun)
   ·ac_rfl
    refine ⟨by nofun,?_⟩
    ac_rfl
    refine bd ((8:Int) < z.length) decide_eq_true_iff (fun h8=>?_) (fun h8=>aw ⟨z,rfl,by nofun,by nofun⟩)
    ac_rfl
    exact q false (gr fun h=>by have:=(show fq z from h).2.1; nofun)
theorem qx {d:D}{P:OV→List OV→Prop}(sm:smD d=true)(h:∀ b:Bool,(b=true↔ic d)→P (.fz (.bl b)) [.fz d]):bq [.fz d] P:=by
 unfold bq
 exact ⟨d,rfl,sm,h⟩
@[irreducible] def bg:Ct:=fun os P=>∃ d:D,os=[.fz d]∧smD d=true∧∀ b:Bool,(b=true↔kn d)→P (.fz (.bl b)) os
abbrev dJ:Stmt:=top 39
theorem nS:FnScope ["thing", "some", "places"] ["thing"] (ak dJ):=⟨rfl,rfl,rfl,by decide +kernel,rfl,by decide +kernel,by decide +kernel⟩
def kq:FS :=
  (bI (de (fC (.str " !\"#$&'()*+,-./0123456789:;<=>?\x40ABCDEFGHIJKLMNOPQRSTUVWXYZ[\\]^_`abcdefghijklmnopqrstuvwxyz{|}~")) (az 1))
  (bI (fIf (fOr (jO (bj (fCB cIs (ac (av 0) (ac (fC (.ty "str")) bc))))) (fOr (bj (fOp aEq (av 0) (fC (.str "")))) (bj (fOp (jI (fun i j=>decide (j < i)) fun i j=>cy j i) (fCB gP (ac (av 0) bc)) (fC (.int 40))))))
   (cX (fC (.bl false)))
   bX)
  (bI (de (gE 1 (qa (av 0)) (az 0) qG (Dl (av 2) (av 0))) (az 2))
  (cX (jN (fOp (jI (fun i j=>decide (j≤i)) fun i j=>!cy i j) (fOp aIx (av 2) (fC (.int 0))) (fC (.int 0))) (fOp aEq (av 2) (mF (av 2))))))))
theorem nu7:List.Nodup [("thing" : Str),("some" : Str),("places" : Str)]:=by decide +kernel
theorem nT {f:Addr} {fd:FuncData} (F:Fun K "_law_is_signs" "_law_is_signs" dJ f fd) (T:Txt K mg)
  (hlen:∀ os P,bg os P→os.length=1∧∀ j o,os[j]?=some o→j ∉ ([]:List Nat)→df o=true)
  (hc:∀ os P,bg os P→kq { nx:=fin [] os P (.fz .non),rt:=fin [] os P } (aU 3 os)) :
  FnOk P w K mg base CX0 1 f fd ["thing"] (spM K bg) :=
 Fun.okG 3 [] F nS rfl (by decide) hlen (by decide) (fun cdv A outer s H E hr=>⟨_,(ad (aL (i:=1) nu7 rfl (Or.inr rfl) am rfl (Or.inl rfl))
  (ad (bQ (pU (i2 (dh (cq (ay (d0 K rfl) T.n_isinstance aZ (au (ae 0) (au (gx T.n_str fX rfl) ag rfl) rfl) rfl rfl))) (i2 (bh (bE K hr.units rfl) (ae 0) am aA) (ip (bh gY (ay (cJ K rfl) T.n_len cG (au (ae 0) ag rfl) rfl rfl) ai aA)))))
   (al (aN ez))
   aO)
  (ad (zH (i:=2) (T:=["sign"]) (F:=["some"]) (ixs:=[1]) rfl (CompScope.of rfl rfl rfl) (mf K (ae 0) rfl) (fun _ _ _ _=>(cu (i:=0) (show List.Nodup [("sign" : Str),("some" : Str)] from by decide +kernel) rfl (Or.inl rfl) (Or.inr rfl))) (fun _ _ _ _=>eA) (fun _ _ _ _=>(dm K PySem.F.plainAttrs_str PySem.F.slot_str_find PySem.F.type_str_find Ai (cI 1 rfl (Or.inr (Or.inl rfl))) (au (ae 0) ag rfl) rfl rfl rfl (by decide) rfl)) (fun _=>rfl) nu7 rfl (Or.inl rfl) rfl (Or.inl rfl))
  (al (aN (eP (dM zP (bO K hr.units (ae 2) ai (fun _ _=>rfl) rfl) ai aA) (fZ (dM (bE K hr.units rfl) (ae 2) (ay (vI P w rfl rfl rfl) T.n_sorted me (au (dS (zY P w K rfl rfl rfl rfl) T.n_set xu (au (ae 2) ag rfl) rfl rfl) ag rfl) rfl rfl) aA)))))))),
  (ar (aS ap (cO (by decide)) (ao (by decide)))
  (ar (bY (jb (di (kP (bN g5 (aa ax (aa gW ah))))) (jb (aG (aq bF ax ap)) (aG (aq cv (bN cK (aa ax ah)) aj))))
   (aQ eV)
   aV)
  (ar (aS (dN (no:=1) (ixs:=[1]) (jd ax) (du (by decide)) (dF (i:=0) (by decide) (by decide)) (jm (by decide)) gA (Aj (cU (i:=2) (by decide)) (cU (i:=0) (by decide)))) (cO (by decide)) (ao (by decide)))
  (aQ (eD (aq cv (aq bP ax aj) aj) (aq bF ax (nI ax)))))))⟩) hc
theorem qy (os:List OV)(P:OV→List OV→Prop)(h:bg os P):os.length=1∧∀ j o,os[j]?=some o→j ∉ ([]:List Nat)→df o=true:=by
 unfold bg at h
 obtain ⟨d,rfl,_⟩:=h
 exact fzo
theorem qz (os:List OV)(P:OV→List OV→Prop)(h:bg os P):kq { nx:=fin [] os P (.fz .non),rt:=fin [] os P } (aU 3 os):=by
 unfold bg at h
 obtain ⟨d,rfl,sm,q⟩:=h
 have sz:=dD
 ac_rfl
 refine cF (∃ z:Str,d=.str z∧1≤z.cps.toList.length∧z.cps.toList.length≤40) ?_ ?_
 ·rintro ⟨z,rfl,h1,h8⟩
  ac_rfl
  refine dw (fun i as ρ=>∃ (x y:Option OV),as=((z.cps.toList.take i).map pk).map .int∧ρ=[x,some (.fz (.str z)),some (.fz (.str fW)),y]) ⟨none,_,by simp,rfl⟩ ?_ ?_
  ·rintro i d as ρ R hd ⟨x,y,rfl,rfl⟩ k
   obtain ⟨c,hc,rfl⟩:=jz hd
   have hi:=(List.getElem?_eq_some_iff.mp hc).1
   ac_rfl
   refine iE ?_
   ac_rfl
   refine ⟨by rw [List.length_map,List.length_map,List.length_take]; nofun,k _ _ ⟨_,_,?_,rfl⟩⟩
   rw [List.take_succ,hc,List.map_append,List.map_append]
   rfl
  ·rintro as ρ ⟨x,y,rfl,rfl⟩
   rw [fu,List.take_of_length_le (Nat.le_refl _)]
   have h0:z.cps.toList[0]?=some (z.cps.toList[0]'(by nofun)):=List.getElem?_eq_getElem (by nofun)
   have e0:atI ((z.cps.toList.map pk).map D.int) (0:Int)=some (.int (pk (z.cps.toList[0]'(by nofun)))):=by
    refine gQ (j:=0) ?_
    rw [List.getElem?_map,List.getElem?_map,h0]
    rfl
   have fin:∀ b:Bool,(b=true↔(∃ c,z.cps.toList[0]?=some c∧0≤pk c)∧(z.cps.toList.map pk).Pairwise (· < ·))→P (.fz (.bl b)) [.fz (.str z)]:=fun b hb =>
    q b (hb.trans (qu.trans ⟨fun h=>(show dO z from ⟨h1,h8,h.2⟩),fun h=>⟨h1,(show dO z from h).2.2⟩⟩))
   ac_rfl
   rw [e0]
   ac_rfl
   refine bd (0≤pk (z.cps.toList[0]'(by nofun))) decide_eq_true_iff (fun h2=>?_) (fun h2=>?_)
   ·ac_rfl
    refine zZ ?_
    refine ⟨by rw [List.length_map]; nofun,fun ss hss=>?_⟩
    ac_rfl
    refine ⟨t8,?_⟩
    ac_rfl
    refine fin _ (wt.trans ((t7 hss).trans ⟨fun h=>⟨⟨_,h0,h2⟩,h⟩,fun h=>h.2⟩))
   ·ac_rfl
    exact fin _ (gr fun ⟨⟨c,e,h⟩,_⟩=>by rw [h0] at e; cases e; exact h2 h)
 ·intro aw
  ac_rfl
  refine ⟨⟨jy sm,rfl⟩,?_⟩
  ac_rfl
  refine bd (¬ ∃ z,d=.str z) (by rw [Bool.not_eq_true',Bool.eq_false_iff,Ne,gK]) (fun hn=>?_) (fun hn=>?_)
  ·ac_rfl
   refine iE ?_
   ac_rfl
   refine q false (gr fun h=>?_)
   cases d <;> first | exact absurd ⟨_,rfl⟩ hn | exact (h:False).elim
  ·obtain ⟨z,rfl⟩:∃ z,d=.str z:=Classical.not_not.mp hn
   have hz:z.length≤1000000:=by simpa [smD] using sm
   have hle:=ko z
   ac_rfl
   refine ⟨cm,?_⟩
   ac_rfl
   refine bd (z.cps.toList.length=0) (cP.trans t9) (fun h0=>?_) (fun h0=>?_)
   ·ac_rfl
    refine iE ?_
    ac_rfl
    exact q false (gr fun h=>by have:=(show dO z from h).1; nofun)
   ·ac_rfl
    refine ⟨by nofun,?_⟩
    ac_rfl
    refine bd ((40:Int) < z.length) decide_eq_true_iff (fun h8=>?_) (fun h8=>aw ⟨z,rfl,by nofun,by nofun⟩)
    ac_rfl
    exact q false (gr fun h=>by have:=(show dO z from h).2.1; nofun)
theorem nU {d:D}{P:OV→List OV→Prop}(sm:smD d=true)(h:∀ b:Bool,(b=true↔kn d)→P (.fz (.bl b)) [.fz d]):bg [.fz d] P:=by
 unfold bg
 exact ⟨d,rfl,sm,h⟩
end
end KR
set_option maxHeartbeats 4000000
namespace KR
open PySem L2
@[irreducible] def bt:Ct:=fun os P=>∃ d:D,os=[.fz d]∧smD d=true∧∀ b:Bool,(b=true↔jx d)→P (.fz (.bl b)) os
section
variable {P:Program} {w:World} {K:PySem.W.Frag} {mg:Str→Option Value} {base:Heap}
abbrev ef:Stmt:=top 40
theorem qA:FnScope ["thing", "most"] ["thing"] (ak ef):=⟨rfl,rfl,rfl,by decide +kernel,rfl,by decide +kernel,by decide +kernel⟩
def mV:FS :=
  (bI (fIf (fOr (jO (bj (fCB cIs (ac (av 0) (ac (fC (.ty "tuple")) bc))))) (fOr (bj (fOp Dk (av 0) (vv bc))) (jO (bj (fCB cIs (ac (fOp aIx (av 0) (fC (.int 0))) (ac (fC (.ty "str")) bc)))))))
   (cX (fC (.bl false)))
   bX)
  (bI (fIf (fOr (bj (fOp aEq (fOp aIx (av 0) (fC (.int 0))) (fC (.str "none")))) (bj (fOp aEq (fOp aIx (av 0) (fC (.int 0))) (fC (.str "any")))))
   (cX (fOp aEq (fCB gP (ac (av 0) bc)) (fC (.int 1))))
   bX)
  (bI (fIf (bj (fOp aEq (fOp aIx (av 0) (fC (.int 0))) (fC (.str "signs"))))
   (cX (jN (fOp aEq (fCB gP (ac (av 0) bc)) (fC (.int 2))) (bx bg (ac (fFz (fOp aIx (av 0) (fC (.int 1)))) bc))))
   bX)
  (bI (de (xZ [.inr "row", .inr "first", .inr "again", .inr "ahead", .inr "not"] [.int 8,.int 8,.int 1,.int 1,.int 1] (fOp aIx (av 0) (fC (.int 0))) (fC (.int 0))) (az 1))
  (bI (fIf (fOr (bj (fOp (jI (fun i j=>decide (i < j)) cy) (fCB gP (ac (av 0) bc)) (fC (.int 2)))) (bj (fOp (jI (fun i j=>decide (j < i)) fun i j=>cy j i) (fCB gP (ac (av 0) bc)) (fOp cL (av 1) (fC (.int 1))))))
   (cX (fC (.bl false)))
   bX)
  (cX (fOp Dk (gE 1 (vx (fSl iC (av 0) (da (fC (.int 1))) bW)) (az 0) (jO (bj (bx bq (ac (fFz (av 0)) bc)))) (av 0)) (iF bc))))))))
theorem qB {f:Addr} {fd:FuncData} (F:Fun K "_law_is_form" "_law_is_form" ef f fd) (T:Txt K mg) (O_law_is_signs:Own P w K mg base "_law_is_signs" 1 ["thing"] (spM K bg)) (O_law_is_name:Own P w K mg base "_law_is_name" 1 ["thing"] (spM K bq))
  (hlen:∀ os P,bt os P→os.length=1∧∀ j o,os[j]?=some o→j ∉ ([]:List Nat)→df o=true)
  (hc:∀ os P,bt os P→mV { nx:=fin [] os P (.fz .non),rt:=fin [] os P } (aU 2 os)) :
  FnOk P w K mg base CX0 2 f fd ["thing"] (spM K bt) :=
 Fun.okG 2 [] F qA rfl (by decide) hlen (by decide) (fun cdv A outer s H E hr=>⟨_,(ad (bQ (pU (i2 (dh (cq (ay (d0 K rfl) T.n_isinstance aZ (au (ae 0) (au (gx T.n_tuple eu rfl) ag rfl) rfl) rfl rfl))) (i2 (bh (nK K hr.units rfl) (ae 0) (gb ag) aA) (ip (dh (cq (ay (d0 K rfl) T.n_isinstance aZ (au (bO K hr.units (ae 0) ai (fun _ _=>rfl) rfl) (au (gx T.n_str fX rfl) ag rfl) rfl) rfl rfl)))))))
   (al (aN ez))
   aO)
  (ad (bQ (pU (i2 (bh (bE K hr.units rfl) (bO K hr.units (ae 0) ai (fun _ _=>rfl) rfl) am aA) (ip (bh (bE K hr.units rfl) (bO K hr.units (ae 0) ai (fun _ _=>rfl) rfl) am aA))))
   (al (aN (dM (bE K hr.units rfl) (ay (cJ K rfl) T.n_len cG (au (ae 0) ag rfl) rfl rfl) ai aA)))
   aO)
  (ad (bQ (bh (bE K hr.units rfl) (bO K hr.units (ae 0) ai (fun _ _=>rfl) rfl) am aA)
   (al (aN (eP (dM (bE K hr.units rfl) (ay (cJ K rfl) T.n_len cG (au (ae 0) ag rfl) rfl rfl) ai aA) (fZ (aP O_law_is_signs (hr.mono (by decide)) (au (bO K hr.units (ae 0) ai (fun _ _=>rfl) rfl) ag rfl) rfl rfl)))))
   aO)
  (ad (aL (i:=1) (show List.Nodup [("thing" : Str),("most" : Str)] from by decide +kernel) rfl (Or.inl rfl) (vS hr.units (zu (gy am ai (gy am ai (gy am ai (gy am ai (gy am ai zv))))) rfl rfl (by decide)) (bO K hr.units (ae 0) ai (fun _ _=>rfl) rfl) ai ⟨rfl,rfl,rfl,rfl⟩) rfl (Or.inl rfl))
  (ad (bQ (pU (i2 (bh gX (ay (cJ K rfl) T.n_len cG (au (ae 0) ag rfl) rfl rfl) ai aA) (ip (bh gY (ay (cJ K rfl) T.n_len cG (au (ae 0) ag rfl) rfl rfl) (bu (aW K rfl) (ae 1) ai) aA))))
   (al (aN ez))
   aO)
  (al (aN (dM (nK K hr.units rfl) (dX (T:=["part"]) (F:=[]) (ixs:=[]) rfl (CompScope.of rfl rfl rfl) (rT K (bi K (ae 0) (bA ai) cg rfl) rfl) (fun _ _ _ _=>(cu (i:=0) nu6 rfl (Or.inl rfl) (Or.inr rfl))) (fun _ _ _ _=>(rR (dh (cq (aP O_law_is_name (hr.mono (by decide)) (au (ae 0) ag rfl) rfl rfl))))) (fun _ _ _ _=>(ae 0)) (fun _=>rfl)) (cZ ag) aA)))))))),
  (ar (bY (jb (di (kP (bN g5 (aa ax (aa gW ah))))) (jb (aG (aq nL ax (iu ah))) (di (kP (bN g5 (aa (aq bP ax aj) (aa gW ah)))))))
   (aQ eV)
   aV)
  (ar (bY (jb (aG (aq bF (aq bP ax aj) ap)) (aG (aq bF (aq bP ax aj) ap)))
   (aQ (aq bF (bN cK (aa ax ah)) aj))
   aV)
  (ar (bY (aG (aq bF (aq bP ax aj) ap))
   (aQ (eD (aq bF (bN cK (aa ax ah)) aj) (aB (c:=bg) (aa (cM (aq bP ax aj)) ah))))
   aV)
  (ar (aS (vR [(.inr "row", .int 8),(.inr "first", .int 8),(.inr "again", .int 1),(.inr "ahead", .int 1),(.inr "not", .int 1)] (fun _ _ _ q=>q) (by decide) rfl rfl (fun _=>(.cons (.int 8) (.cons (.int 8) (.cons (.int 1) (.cons (.int 1) (.cons (.int 1) .nil)))))) (aq bP ax aj) aj) (cO (by decide)) (ao (by decide)))
  (ar (bY (jb (aG (aq cv (bN cK (aa ax ah)) aj)) (aG (aq cv (bN cK (aa ax ah)) (aq aX ax aj))))
   (aQ eV)
   aV)
  (aQ (aq nL (dN (no:=1) (ixs:=[]) (ny (dB dH ax (bB aj) ci)) (du (by decide)) (dF (i:=0) (by decide) (by decide)) (jm (by decide)) (di (kP (aB (c:=bq) (aa (cM (cU (i:=0) (by decide))) ah)))) (cU (i:=0) (by decide))) (dc ah))))))))⟩) hc
theorem uc (os:List OV)(P:OV→List OV→Prop)(h:bt os P):os.length=1∧∀ j o,os[j]?=some o→j ∉ ([]:List Nat)→df o=true:=by
 unfold bt at h
 obtain ⟨d,rfl,_⟩:=h
 exact fzo
def qC (word:Str):Int:=if word = "row" ∨ word = "first" then 8 else if word = "again" ∨ word = "ahead" ∨ word = "not" then 1 else 0
theorem wu {word:Str}:(vE [.inr "row", .inr "first", .inr "again", .inr "ahead", .inr "not"] [.int 8,.int 8,.int 1,.int 1,.int 1] (.inr word)).getD (.int 0)=.int (qC word):=by
 unfold vE qC
 simp only [List.zip_cons_cons,List.zip_nil_right,List.find?_cons]
 by_cases h1:word = "row"
 ·subst h1; rfl
 ·rw [decide_eq_false (fun z=>h1 (Sum.inr.inj z).symm)]
  by_cases h2:word = "first"
  ·subst h2; rfl
  ·rw [decide_eq_false (fun z=>h2 (Sum.inr.inj z).symm)]
   by_cases h3:word = "again"
   ·subst h3; rfl
   ·rw [decide_eq_false (fun z=>h3 (Sum.inr.inj z).symm)]
    by_cases h4:word = "ahead"
    ·subst h4; rfl
    ·rw [decide_eq_false (fun z=>h4 (Sum.inr.inj z).symm)]
     by_cases h5:word = "not"
     ·subst h5; rfl
     ·rw [decide_eq_false (fun z=>h5 (Sum.inr.inj z).symm),if_neg (by simp [h1,h2]),if_neg (by simp [h3,h4,h5])]
      rfl
theorem ud {word:Str} {xs:List D} (h1:¬ (word = "none" ∨ word = "any")) (h2:word ≠ "signs"):jP word xs↔1≤xs.length∧(xs.length:Int)≤qC word∧∀ x ∈ xs,ic x:=by
 unfold qC
 by_cases h4:word = "row" ∨ word = "first"
 ·rw [if_pos h4,ll h4]
  exact ⟨fun h=>⟨h.1,by nofun,h.2.2⟩,fun h=>⟨h.1,by nofun,h.2.2⟩⟩
 ·rw [if_neg h4]
  by_cases h3:word = "again" ∨ word = "ahead" ∨ word = "not"
  ·rw [if_pos h3,tJ h3]
   constructor
   ·rintro ⟨x,rfl,h⟩
    refine ⟨Nat.le_refl _,by rw [List.length_singleton]; decide,fun y hy=>?_⟩
    have e:y=x:=by first|exact List.mem_singleton.mp hy|simpa using hy
    rw [e]; exact h
   ·rintro ⟨g1,g2,g3⟩
    obtain ⟨x,rfl⟩:=List.length_eq_one_iff.mp (show xs.length=1 by nofun)
    exact ⟨x,rfl,g3 x (by simp)⟩
  ·rw [if_neg h3]
   exact ⟨fun h=>absurd h (tK h1 h2 h3 h4),fun h=>by have:=h.1; have:=h.2.1; nofun⟩
theorem ue (os:List OV)(P:OV→List OV→Prop)(h:bt os P):mV { nx:=fin [] os P (.fz .non),rt:=fin [] os P } (aU 2 os):=by
 unfold bt at h
 obtain ⟨d,rfl,sm,q⟩:=h
 have sz:=dD
 ac_rfl
 refine cF (∃ word xs,d=.tup (.str word::xs)) ?_ ?_
 ·rintro ⟨word,xs,rfl⟩
  obtain ⟨hl,hm⟩:=tY sm
  rw [List.length_cons] at hl
  have q':∀ b:Bool,(b=true↔jP word xs)→P (.fz (.bl b)) [.fz (.tup (.str word::xs))]:=fun b hb=>q b (hb.trans lj.symm)
  ac_rfl
  refine cF (¬ (word = "none" ∨ word = "any")) (fun h1=>?_) (fun aw=>?_)
  ·ac_rfl
   refine cN ?_
   ac_rfl
   refine gm ?_
   ac_rfl
   refine ⟨cm,?_⟩
   ac_rfl
   refine bd (word = "signs") cP (fun hw=>?_) (fun h2=>?_)
   ·ac_rfl
    refine ⟨bz,?_⟩
    ac_rfl
    refine bd (∃ x,xs=[x]) (bS.trans (by rw [List.length_cons]; exact nQ)) (fun h=>?_) (fun h=>?_)
    ·obtain ⟨x,rfl⟩:=h
     ac_rfl
     refine nU (hm x (by simp)) fun b hb=>?_
     ac_rfl
     refine q' _ (hb.trans (Iff.trans ?_ (iS hw).symm))
     exact ⟨fun h=>⟨x,rfl,h⟩,fun ⟨y,e,h⟩=>by cases e; exact h⟩
    ·ac_rfl
     exact q' _ (gr fun hh=>by obtain ⟨y,e,_⟩:=(iS hw).mp hh; exact h ⟨y,e⟩)
   ·ac_rfl
    refine gm ?_
    ac_rfl
    refine ⟨rfl,?_⟩
    rw [wu]
    have fm:=ud (xs:=xs) h1 h2
    ac_rfl
    refine cF (1≤xs.length∧(xs.length:Int)≤qC word) ?_ ?_
    ·rintro ⟨g1,g2⟩
     have q2:∀ b:Bool,(b=true↔∀ x ∈ xs,ic x)→P (.fz (.bl b)) [.fz (.tup (.str word::xs))]:=fun b hb=>q' b (hb.trans ⟨fun h=>fm.mpr ⟨g1,g2,h⟩,fun h=>(fm.mp h).2.2⟩)
     ac_rfl
     rw [jB]
     ac_rfl
     refine dw (fun i as ρ=>∃ (x y:Option OV),as.length≤i∧(as.isEmpty=true↔∀ c ∈ xs.take i,ic c)∧ρ=[x,some (.fz (.tup (.str word::xs))),y]) ⟨none,_,Nat.zero_le _,by simp,rfl⟩ ?_ ?_
     ·rintro i d as ρ R hd ⟨x,y,hbl,hb,rfl⟩ k
      have hi:=(List.getElem?_eq_some_iff.mp hd).1
      ac_rfl
      refine qx (hm d (List.mem_cons_of_mem _ (List.mem_of_getElem? hd))) fun b hb2=>?_
      ac_rfl
      refine bd (¬ ic d) (by rw [← hb2]; cases b <;> simp) (fun hn=>?_) (fun hn=>?_)
      ·ac_rfl
       refine ⟨by nofun,k _ _ ⟨_,_,by rw [List.length_append]; show as.length+1≤i+1; nofun,?_,rfl⟩⟩
       rw [eJ hd]
       exact ⟨fun h=>by simp at h,fun h=>absurd h.2 hn⟩
      ·refine k _ _ ⟨_,_,by nofun,?_,rfl⟩
       rw [eJ hd,hb]
       exact ⟨fun h=>⟨h,Classical.not_not.mp hn⟩,fun h=>h.1⟩
     ·rintro as ρ ⟨x,y,hbl,hb,rfl⟩
      rw [List.take_of_length_le (Nat.le_refl _)] at hb
      ac_rfl
      refine ⟨Nat.zero_le _,?_⟩
      ac_rfl
      exact q2 _ hb
    ·intro aw
     ac_rfl
     rw [List.length_cons]
     refine bd (((xs.length+1:Nat):Int) < 2) decide_eq_true_iff (fun g=>?_) (fun g=>?_)
     ·ac_rfl
      refine iE ?_
      ac_rfl
      exact q' _ (gr fun h=>by have:=(fm.mp h).1; nofun)
     ·ac_rfl
      rw [List.length_cons]
      refine bd (qC word+1 < ((xs.length+1:Nat):Int)) decide_eq_true_iff (fun g2=>?_) (fun g2=>aw ⟨by nofun,by nofun⟩)
      ac_rfl
      exact q' _ (gr fun h=>by have:=(fm.mp h).2.1; nofun)
  ·ac_rfl
   refine gm ?_
   ac_rfl
   refine ⟨cm,?_⟩
   ac_rfl
   refine bd (word = "none") cP (fun hw=>?_) (fun h1=>?_)
   ·ac_rfl
    refine iE ?_
    ac_rfl
    refine ⟨bz,?_⟩
    ac_rfl
    refine q' _ (bS.trans (Iff.trans ?_ (nP (.inl hw)).symm))
    exact ⟨fun h=>List.eq_nil_of_length_eq_zero (by rw [List.length_cons] at h; nofun),fun h=>by rw [h]; rfl⟩
   ·ac_rfl
    refine gm ?_
    ac_rfl
    refine ⟨cm,?_⟩
    ac_rfl
    refine bd (word = "any") cP (fun hw=>?_) (fun h2=>aw (fun z=>z.elim h1 h2))
    ac_rfl
    refine ⟨bz,?_⟩
    ac_rfl
    refine q' _ (bS.trans (Iff.trans ?_ (nP (.inr hw)).symm))
    exact ⟨fun h=>List.eq_nil_of_length_eq_zero (by rw [List.length_cons] at h; nofun),fun h=>by rw [h]; rfl⟩
 ·intro aw
  ac_rfl
  refine ⟨⟨jy sm,rfl⟩,?_⟩
  ac_rfl
  refine bd (¬ ∃ z,d=.tup z) (by rw [Bool.not_eq_true',Bool.eq_false_iff,Ne,yg]) (fun hn=>?_) (fun hn=>?_)
  ·ac_rfl
   refine iE ?_
   ac_rfl
   exact q _ (gr fun ⟨word,r,e,_⟩=>hn ⟨_,e⟩)
  ·obtain ⟨xs,rfl⟩:∃ z,d=.tup z:=Classical.not_not.mp hn
   ac_rfl
   refine ⟨Nat.zero_le _,?_⟩
   ac_rfl
   refine bd (xs=[]) List.isEmpty_iff (fun h=>?_) (fun h=>?_)
   ·subst h
    ac_rfl
    refine iE ?_
    ac_rfl
    exact q _ (gr fun ⟨word,r,e,_⟩=>nomatch e)
   ·match xs,h with
    | x::xs,_ =>
     ac_rfl
     refine gm ?_
     ac_rfl
     refine ⟨⟨jy ((tY sm).2 x (by simp)),rfl⟩,?_⟩
     ac_rfl
     refine bd (¬ ∃ z,x=.str z) (by rw [Bool.not_eq_true',Bool.eq_false_iff,Ne,gK]) (fun hn=>?_) (fun hn=>?_)
     ·ac_rfl
      refine q _ (gr fun ⟨word,r,e,_⟩=>?_)
      cases e
      exact hn ⟨_,rfl⟩
     ·obtain ⟨z,rfl⟩:∃ z,x=.str z:=Classical.not_not.mp hn
      exact aw ⟨z,xs,rfl⟩
theorem kr {d:D}{P:OV→List OV→Prop}(sm:smD d=true)(h:∀ b:Bool,(b=true↔jx d)→P (.fz (.bl b)) [.fz d]):bt [.fz d] P:=by
 unfold bt
 exact ⟨d,rfl,sm,h⟩
end
end KR
set_option maxHeartbeats 4000000
namespace KR
open PySem L2
def E3 (zs:List Str)(word:Str)(aw:List Str):Prop:=(∀ z ∈ zs,fq z)∧AJ zs word aw
def dP (word:Str)(aw:List Str):Prop:=∃ zs:List Str,E3 zs word aw
theorem ln {α β:Type}(f:α→β)(xs:List α)(lo hi:Option Int):dR (xs.map f) lo hi=(dR xs lo hi).map f:=by
 unfold dR
 rw [List.length_map,List.map_take,List.map_drop]
end KR
set_option maxHeartbeats 4000000
namespace KR
open PySem L2
abbrev dg (word:Str)(aw:List Str):Str:=Builtin.Str.glued (Str.ofString " ") (word::aw)
theorem uf:2≤sizeLine:=by rw [dD]; decide
theorem DI {z:Str}(h:fq z){c:Nat}(hc:c < 97):c ∉ z.cps.toList:=fun hm=>by have:=h.2.2 c hm; nofun
theorem AN {word:Str}{aw:List Str}(h:dP word aw):word ∈ (["none", "any", "signs", "again", "ahead", "not", "row", "first"]:List Str):=by
 obtain ⟨zs,_,h⟩:=h
 rcases h with ⟨e,_⟩ | ⟨e,_⟩ | ⟨e,_⟩ | ⟨e,_⟩
 ·rcases e with rfl | rfl <;> simp
 ·rw [e]; simp
 ·rcases e with rfl | rfl | rfl <;> simp
 ·rcases e with rfl | rfl <;> simp
theorem gM {word:Str}{aw:List Str}(h:dP word aw):word.length≤5∧32 ∉ word.cps.toList∧59 ∉ word.cps.toList:=by
 have all:∀ y ∈ (["none", "any", "signs", "again", "ahead", "not", "row", "first"]:List Str),y.length≤5∧32 ∉ y.cps.toList∧59 ∉ y.cps.toList:=by decide +kernel
 exact all word (AN h)
theorem cQ {word:Str}{aw:List Str}(h:dP word aw):(word ≠ "signs" ∧ aw.length≤8∧∀ z ∈ aw,fq z)∨(word = "signs" ∧ ∃ z,aw=[z]∧dO z):=by
 obtain ⟨zs,hz,h⟩:=h
 rcases h with ⟨e,rfl⟩ | ⟨e,z,rfl,hs⟩ | ⟨e,hl,hr⟩ | ⟨e,_,hl,hr⟩
 ·exact .inl ⟨by rcases e with rfl | rfl <;> decide +kernel,Nat.zero_le _,fun _ h=>nomatch h⟩
 ·exact .inr ⟨e,z,rfl,hs⟩
 ·exact .inl ⟨by rcases e with rfl | rfl | rfl <;> decide +kernel,by nofun,fun z h=>hz z (hr z h)⟩
 ·exact .inl ⟨by rcases e with rfl | rfl <;> decide +kernel,hl,fun z h=>hz z (hr z h)⟩
theorem fB:(Str.ofString " ").cps.toList=[32]:=by decide +kernel
theorem jC:(Str.ofString " ").length=1:=by decide +kernel
theorem DJ:(Str.ofString "; ").length=2:=by decide +kernel
theorem cE (a b:Str):(a++b).length=a.length+b.length:=by
 rw [aM,aM,aM,cT,List.length_append]
theorem yi {B:Nat}:∀ {zs:List Str},(∀ z ∈ zs,z.length≤B)→(zs.map (·.length)).sum≤zs.length * B
 | [],_=>Nat.zero_le _
 | z::zs,h=>by
  have h1:=h z (List.mem_cons_self ..)
  have h2:=yi fun y hy=>h y (List.mem_cons_of_mem z hy)
  rw [List.map_cons,List.sum_cons,List.length_cons,Nat.succ_mul]
  nofun
theorem jD {word:Str}{aw:List Str}(h:dP word aw):((word::aw).map (·.length)).sum+(word::aw).length * 1≤100:=by
 have hw:=(gM h).1
 rw [List.map_cons,List.sum_cons,List.length_cons]
 rcases cQ h with ⟨_,hl,hr⟩ | ⟨_,z,rfl,hs⟩
 ·have:=yi (B:=8) (zs:=aw) fun z hz=>by rw [aM]; exact (hr z hz).2.1
  have:aw.length * 8≤8 * 8:=Nat.mul_le_mul_right _ hl
  nofun
 ·have:z.length≤40:=by rw [aM]; exact hs.2.1
  simp only [List.map_cons,List.map_nil,List.sum_cons,List.sum_nil,List.length_cons,List.length_nil]
  nofun
theorem lp {word:Str}{aw:List Str}(h:dP word aw):(dg word aw).length≤100:=by
 have e:dg word aw=Str.join (Str.ofString " ") (word::aw):=StrLaws.glued_eq_join _ _
 rw [e]
 have h1:=StrLaws.join_length_le (Str.ofString " ") (word::aw)
 rw [jC] at h1
 exact Nat.le_trans h1 (jD h)
theorem fQ {word:Str} {aw:List Str} (h:dP word aw) (hw:word ≠ "signs"):Txt.split (dg word aw) (Str.ofString " ")=word::aw:=by
 have e:dg word aw=Str.join (Str.ofString " ") (word::aw):=StrLaws.glued_eq_join _ _
 rw [e]
 refine kc _ (by decide +kernel) (by decide +kernel) _ (by simp) fun p hp=>?_
 rw [fB]
 refine fK ?_
 rcases List.mem_cons.mp hp with rfl | hp
 ·exact (gM h).2.1
 ·rcases cQ h with ⟨_,_,hr⟩ | ⟨e,_⟩
  ·exact DI (hr p hp) (by decide)
  ·exact absurd e hw
theorem ug (z:Str):(⟨z.cps.toList.toArray⟩:Str)=z:=by cases z; simp
theorem gN {word:Str}{aw:List Str}(h:dP word aw):(Txt.partition (dg word aw) (Str.ofString " ")).1=word:=by
 have e:dg word aw=Str.join (Str.ofString " ") (word::aw):=StrLaws.glued_eq_join _ _
 have hw:=(gM h).2.1
 cases aw with
 | nil =>
  have e2:dg word []=word:=e
  rw [e2]
  exact tq (ql fB hw)
 | cons q r =>
  rw [e,tm (p:=word.cps.toList) (dz ..) (by rw [fB]; exact fK hw)]
theorem kt {z:Str}:Txt.partition (dg "signs" [z]) (Str.ofString " ")=(Str.ofString "signs", Str.ofString " ", z):=by
 have e:dg "signs" [z]=Str.join (Str.ofString " ") ["signs", z]:=StrLaws.glued_eq_join _ _
 rw [e,tm (p:=("signs" : Str).cps.toList) (r:=z.cps.toList) (dz ..) (by rw [fB]; exact fK (by decide +kernel)),ug,ug]
theorem pp {word:Str}{aw:List Str}(h:dP word aw):jx (dE word aw):=by
 refine ⟨word,aw.map .str,rfl,?_⟩
 obtain ⟨zs,hz,h⟩:=h
 rcases h with ⟨e,rfl⟩ | ⟨e,z,rfl,hs⟩ | ⟨e,hl,hr⟩ | ⟨e,h1,hl,hr⟩
 ·exact .inl ⟨e,rfl⟩
 ·exact .inr (.inl ⟨e,_,rfl,hs⟩)
 ·match aw,hl,hr with
  | [x],_,hr=>exact .inr (.inr (.inl ⟨e,_,rfl,hz x (hr x (List.mem_cons_self ..))⟩))
 ·refine .inr (.inr (.inr ⟨e,by rw [List.length_map]; exact h1,by rw [List.length_map]; exact hl,fun x hx=>?_⟩))
  obtain ⟨z,hz',rfl⟩:=List.mem_map.mp hx
  exact hz z (hr z hz')
theorem nV {word:Str}{aw:List Str}(h:dP word aw):smD (dE word aw)=true:=by
 have hp:=jD h
 have hl:aw.length≤8:=by
  rcases cQ h with ⟨_,hl,_⟩ | ⟨_,z,rfl,_⟩
  ·exact hl
  ·exact Nat.le_of_ble_eq_true rfl
 simp only [smD,Bool.and_eq_true,decide_eq_true_iff]
 refine ⟨by rw [List.length_cons,List.length_map]; nofun,nR fun d hd=>?_⟩
 have str:∀ z:Str,z.length≤100→smD (.str z)=true:=fun z hz=>by simp only [smD,decide_eq_true_iff]; nofun
 rcases List.mem_cons.mp hd with rfl | hd
 ·exact str _ (by have:=(gM h).1; nofun)
 ·obtain ⟨z,hz,rfl⟩:=List.mem_map.mp hd
  refine str z ?_
  rcases cQ h with ⟨_,_,hr⟩ | ⟨_,z',rfl,hs⟩
  ·rw [aM]; exact Nat.le_trans (hr z hz).2.1 (by decide)
  ·have e:z=z':=by first|exact List.mem_singleton.mp hz|simpa using hz
   rw [e,aM]; exact Nat.le_trans hs.2.1 (by decide)
@[irreducible] def bD:Ct:=fun os P=>∃ (word:Str) (aw:List Str),os=[.fz (.str (dg word aw))]∧dP word aw∧P (.fz (dE word aw)) os
section
variable {P:Program} {w:World} {K:PySem.W.Frag} {mg:Str→Option Value} {base:Heap}
abbrev gq:Stmt:=top 28
theorem pq:FnScope ["text", "word", "blank", "rest", "form"] ["text"] (ak gq):=⟨rfl,rfl,rfl,by decide +kernel,rfl,by decide +kernel,by decide +kernel⟩
def uh:FS :=
  (bI (fIf (jO (bj (fCB cIs (ac (av 0) (ac (fC (.ty "str")) bc)))))
   oQ
   bX)
  (bI (de (fT1 oX (av 0) (fC (.str " "))) (zL 3 (jc (az 1) (jc (az 2) (jc (az 3) zK)))))
  (bI (de (EN (bj (fOp aEq (av 1) (fC (.str "signs")))) (vv (ac (av 1) (ac (av 3) bc))) (fCB ji (ac (fT1 jt (av 0) (fC (.str " "))) bc))) (az 4))
  (bI (fIf (jO (bj (bx bV (ac (fFz (av 4)) bc))))
   oQ
   bX)
  (cX (av 4))))))
theorem nu8:List.Nodup [("text" : Str),("word" : Str),("blank" : Str),("rest" : Str),("form" : Str)]:=by decide +kernel
theorem wv {f:Addr} {fd:FuncData} (F:Fun K "read_form" "read_form" gq f fd) (T:Txt K mg) (O_is_form:Own P w K mg base "is_form" 4 ["thing"] (spM K bV))
  (hlen:∀ os P,bD os P→os.length=1∧∀ j o,os[j]?=some o→j ∉ ([]:List Nat)→df o=true)
  (hc:∀ os P,bD os P→uh { nx:=fin [] os P (.fz .non),rt:=fin [] os P } (aU 5 os)) :
  FnOk P w K mg base CX0 5 f fd ["text"] (spM K bD) :=
 Fun.okG 5 [] F pq rfl (by decide) hlen (by decide) (fun cdv A outer s H E hr=>⟨_,(ad (bQ (dh (cq (ay (d0 K rfl) T.n_isinstance aZ (au (ae 0) (au (gx T.n_str fX rfl) ag rfl) rfl) rfl rfl)))
   (al iQ)
   aO)
  (ad (jZ (dm K PySem.F.plainAttrs_str PySem.F.slot_str_partition PySem.F.type_str_partition oW (ae 0) (au am ag rfl) rfl rfl rfl (by decide) rfl) (xx K rfl (fG (cu (i:=1) nu8 rfl (Or.inl rfl) (Or.inl rfl)) (fG (cu (i:=2) nu8 rfl (Or.inl rfl) (Or.inl rfl)) (fG (cu (i:=3) nu8 rfl (Or.inl rfl) (Or.inl rfl)) rS rfl) rfl) rfl) rfl rfl rfl) rfl rfl rfl)
  (ad (aL (i:=4) nu8 rfl (Or.inl rfl) (CA (bh (bE K hr.units rfl) (ae 1) am aA) (gb (au (ae 1) (au (ae 3) ag rfl) rfl)) (dS (iJ K rfl) T.n_tuple eu (au (dm K PySem.F.plainAttrs_str PySem.F.slot_str_split PySem.F.type_str_split gI (ae 0) (au am ag rfl) rfl rfl rfl (by decide) rfl) ag rfl) rfl rfl)) rfl (Or.inl rfl))
  (ad (bQ (dh (cq (aP O_is_form (hr.mono (by decide)) (au (ae 4) ag rfl) rfl rfl)))
   (al iQ)
   aO)
  (al (aN (ae 4))))))),
  (ar (bY (di (kP (bN g5 (aa ax (aa gW ah)))))
   lh
   aV)
  (ar (aS (nM oY ax ap) (xH (fH (cO (by decide)) (fH (cO (by decide)) (fH (cO (by decide)) sw)))) (ao (by decide)))
  (ar (aS (CL (aG (aq bF ax ap)) (iu (aa ax (aa ax ah))) (bN iM (aa (nM gJ ax ap) ah))) (cO (by decide)) (ao (by decide)))
  (ar (bY (di (kP (aB (c:=bV) (aa (cM ax) ah))))
   lh
   aV)
  (aQ ax)))))⟩) hc
theorem AO (os:List OV)(P:OV→List OV→Prop)(h:bD os P):os.length=1∧∀ j o,os[j]?=some o→j ∉ ([]:List Nat)→df o=true:=by
 unfold bD at h
 obtain ⟨word,aw,rfl,_⟩:=h
 exact fzo
theorem AQ (os:List OV)(P:OV→List OV→Prop)(h:bD os P):uh { nx:=fin [] os P (.fz .non),rt:=fin [] os P } (aU 5 os):=by
 unfold bD at h
 obtain ⟨word,aw,rfl,hf,q⟩:=h
 have sz:=dD
 have hl:=lp hf
 ac_rfl
 refine cN ?_
 ac_rfl
 refine ⟨⟨rfl,rfl⟩,?_⟩
 ac_rfl
 refine mm ?_
 ac_rfl
 refine ⟨⟨by decide +kernel,by nofun⟩,?_⟩
 rcases cQ hf with ⟨hw,_,_⟩ | ⟨hw,z,hz,_⟩
 ·have e1:=gN hf
  generalize Txt.partition (dg word aw) (Str.ofString " ")=pt at e1
  obtain ⟨p1,p2,p3⟩:=pt
  have e1:p1=word:=e1
  rw [e1]
  ac_rfl
  refine ⟨rfl,?_⟩
  ac_rfl
  refine ⟨cm,?_⟩
  ac_rfl
  refine bd (word = "signs") cP (fun e=>absurd e hw) (fun _=>?_)
  ac_rfl
  refine ⟨⟨by decide +kernel,by nofun⟩,?_⟩
  rw [fQ hf hw]
  ac_rfl
  refine cN ?_
  ac_rfl
  refine gL (nV hf) fun b hb=>?_
  rw [hb.mpr (pp hf)]
  ac_rfl
  refine mm ?_
  ac_rfl
  exact q
 ·subst hw hz
  rw [kt]
  ac_rfl
  refine ⟨rfl,?_⟩
  ac_rfl
  refine ⟨cm,?_⟩
  ac_rfl
  refine bd ((Str.ofString "signs") = "signs") cP (fun _=>?_) (fun e=>absurd rfl e)
  ac_rfl
  refine ⟨uf,?_⟩
  ac_rfl
  refine cN ?_
  ac_rfl
  refine gL (nV hf) fun b hb=>?_
  rw [hb.mpr (pp hf)]
  ac_rfl
  refine mm ?_
  ac_rfl
  exact q
theorem ww {word:Str}{aw:List Str}{P:OV→List OV→Prop}(hf:dP word aw)(h:P (.fz (dE word aw)) [.fz (.str (dg word aw))]):bD [.fz (.str (dg word aw))] P:=by
 unfold bD
 exact ⟨word,aw,rfl,hf,h⟩
end
end KR
set_option maxHeartbeats 4000000
namespace KR
open PySem L2
def wx (z:Str):Prop:=∃ word aw,dP word aw∧z=dg word aw
theorem wy {b:Bool}{p:Prop}(h:b=true↔p):(!b)=true↔¬ p:=by
 cases b
 ·exact ⟨fun _ z=>Bool.false_ne_true (h.mpr z),fun _=>rfl⟩
 ·exact ⟨(fun z=>nomatch z),fun n=>(n (h.mp rfl)).elim⟩
theorem pr {aw:List Str}{x:D}(h:aw.map D.str=[x]):∃ z,aw=[z]∧x=.str z:=by
 match aw,h with
 | [z],h=>exact ⟨z,rfl,(List.cons.inj h).1.symm⟩
theorem iU {word:Str}{aw:List Str}(h:jx (dE word aw)):dP word aw:=by
 rcases lj.mp h with ⟨e,h⟩ | ⟨e,x,hx,hs⟩ | ⟨e,x,hx,hn⟩ | ⟨e,h1,h2,hn⟩
 ·exact ⟨[],(fun _ z=>nomatch z),.inl ⟨e,List.map_eq_nil_iff.mp h⟩⟩
 ·obtain ⟨z,rfl,rfl⟩:=pr hx
  exact ⟨[],(fun _ z=>nomatch z),.inr (.inl ⟨e,z,rfl,hs⟩)⟩
 ·obtain ⟨z,rfl,rfl⟩:=pr hx
  exact ⟨[z],(fun y hy=>by rw [List.mem_singleton.mp hy]; exact hn),.inr (.inr (.inl ⟨e,rfl,fun _ h=>h⟩))⟩
 ·rw [List.length_map] at h1 h2
  exact ⟨aw,(fun y hy=>hn _ (List.mem_map.mpr ⟨y,hy,rfl⟩)),.inr (.inr (.inr ⟨e,h1,h2,fun _ h=>h⟩))⟩
theorem AR:Str.empty.length=0:=rfl
theorem lq (word z:Str):dg word [z]=word++Str.ofString " " ++ z:=by
 have e:dg word [z]=Str.join (Str.ofString " ") [word,z]:=StrLaws.glued_eq_join _ _
 rw [e]
 apply bC
 rw [dz,cT,cT]
 rfl
theorem mW {z:Str} (h1:(Txt.partition z (Str.ofString " ")).1 = "signs") (h2:dO (Txt.partition z (Str.ofString " ")).2.2):wx z:=by
 rcases o7 z (Str.ofString " ") with ⟨_,e⟩ | e
 ·rw [e] at h2
  exact absurd h2.1 (by decide)
 ·rw [h1] at e
  exact ⟨"signs", [_],⟨[],(fun _ z=>nomatch z),.inr (.inl ⟨rfl,_,rfl,h2⟩)⟩,by rw [lq]; exact e⟩
theorem iD {z word:Str} {aw:List Str} (h:Txt.split z (Str.ofString " ")=word::aw):z=dg word aw:=by
 have e:dg word aw=Str.join (Str.ofString " ") (word::aw):=StrLaws.glued_eq_join _ _
 rw [e,← h,StrLaws.join_split]
theorem dQ (z y:Str):(Txt.split z y).length≤z.length+2:=by
 unfold Txt.split
 split
 ·exact Nat.le_add_left 1 _
 ·split
  ·exact Nat.le_add_left 1 _
  ·have e1:=StrLaws.occ_length_le z y 0 z.length (z.length+1)
   rw [length_partsBetween]; nofun
theorem ig {z y p:Str}(h:p ∈ Txt.split z y):p.length≤z.length:=by
 have:=join_mem_le y (Txt.split z y) p h
 rwa [StrLaws.join_split] at this
theorem uk (z y:Str):(Txt.partition z y).2.2.length≤z.length:=by
 rcases o7 z y with ⟨_,e⟩ | e
 ·rw [e,AR]; exact Nat.zero_le _
 ·have:=congrArg Str.length e
  rw [cE,cE] at this
  nofun
theorem lr {zs:List Str}(hl:zs.length≤1000000)(h:∀ z ∈ zs,z.length≤1000000):smD (.tup (zs.map .str))=true:=by
 simp only [smD,Bool.and_eq_true,decide_eq_true_iff]
 refine ⟨by rw [List.length_map]; exact hl,nR fun d hd=>?_⟩
 obtain ⟨z,hz,rfl⟩:=List.mem_map.mp hd
 simp only [smD,decide_eq_true_iff]
 exact h z hz
def nW (ds:List D):Prop:=∃ d:D,ds=[d]∧smD d=true∧∀ z,d=.str z→z.length≤120000∧¬ wx z
section
variable {P:Program} {w:World} {K:PySem.W.Frag} {mg:Str→Option Value} {base:Heap}
def wz:FS:=bI (fIf (jO (bj (fCB cIs (ac (av 0) (ac (fC (.ty "str")) bc))))) sT bX) (bI (de (fT1 oX (av 0) (fC (.str " "))) (zL 3 (jc (az 1) (jc (az 2) (jc (az 3) zK))))) (bI (de (EN (bj (fOp aEq (av 1) (fC (.str "signs")))) (vv (ac (av 1) (ac (av 3) bc))) (fCB ji (ac (fT1 jt (av 0) (fC (.str " "))) bc))) (az 4)) (bI (fIf (jO (bj (bx bV (ac (fFz (av 4)) bc)))) sT bX) (cX (av 4)))))
theorem wA (ds:List D)(h:nW ds):wz { nx:=fun _=>False,rt:=fun _ _=>False } (aU 5 (ds.map .fz)):=by
 obtain ⟨d,rfl,sm,hd⟩:=h
 have sz:=dD
 ac_rfl
 refine cN ?_
 ac_rfl
 refine ⟨⟨jy sm,rfl⟩,?_⟩
 ac_rfl
 refine bd (¬ ∃ z,d=.str z) (by rw [Bool.not_eq_true',Bool.eq_false_iff,Ne,gK]) (fun _=>trivial) (fun h=>?_)
 obtain ⟨z,rfl⟩:=Classical.not_not.mp h
 obtain ⟨hl,hn⟩:=hd z rfl
 ac_rfl
 refine ⟨⟨by decide +kernel,by nofun⟩,?_⟩
 ac_rfl
 refine ⟨rfl,?_⟩
 ac_rfl
 refine ⟨cm,?_⟩
 ac_rfl
 refine bd ((Txt.partition z (Str.ofString " ")).1 = "signs") cP (fun e=>?_) (fun _=>?_)
 ·have hr:=uk z (Str.ofString " ")
  have h5:("signs" : Str).length=5:=by decide +kernel
  ac_rfl
  refine ⟨uf,?_⟩
  ac_rfl
  refine cN ?_
  ac_rfl
  refine gL (lr (zs:=[(Txt.partition z (Str.ofString " ")).1,(Txt.partition z (Str.ofString " ")).2.2]) (Nat.le_of_ble_eq_true rfl) (fun y hy=>?_)) fun b hb=>?_
  ·rcases List.mem_cons.mp hy with rfl | hy
   ·rw [e,h5]; decide
   ·rw [List.mem_singleton.mp hy]; nofun
  ac_rfl
  refine bd (¬ jx (dE (Txt.partition z (Str.ofString " ")).1 [(Txt.partition z (Str.ofString " ")).2.2])) (wy hb) (fun _=>trivial) (fun h=>?_)
  have hf:=iU (Classical.not_not.mp h)
  rcases cQ hf with ⟨hw,_⟩ | ⟨_,y,hy,hs⟩
  ·exact absurd e hw
  ·rw [← (List.cons.inj hy).1] at hs
   exact absurd (mW e hs) hn
 ·have hc:=dQ z (Str.ofString " ")
  ac_rfl
  refine ⟨⟨by decide +kernel,by nofun⟩,?_⟩
  ac_rfl
  refine cN ?_
  ac_rfl
  refine gL (lr (zs:=Txt.split z (Str.ofString " ")) (by nofun) (fun y hy=>Nat.le_trans (ig hy) (by nofun))) fun b hb=>?_
  ac_rfl
  refine bd (¬ jx (.tup ((Txt.split z (Str.ofString " ")).map .str))) (wy hb) (fun _=>trivial) (fun h=>?_)
  have h:=Classical.not_not.mp h
  obtain ⟨word,aw,e,_⟩:=id h
  cases es:Txt.split z (Str.ofString " ") with
  | nil=>rw [es] at e; cases e
  | cons a l =>
   rw [es] at h
   exact absurd ⟨a,l,iU h,iD es⟩ hn
theorem ul {f C:Addr} {fd:FuncData} (F:Fun K "read_form" "read_form" gq f fd) (T:Txt K mg) (O_is_form:Own P w K mg base "is_form" 4 ["thing"] (spM K bV)) (hm:mg "NoText" = some (.ref C)) (hx:gp K C):FnOk P w K mg base (CXr P w) 5 f fd ["text"] (spR K nW C) :=
 Fun.okY F pq (fun ds h=>by obtain ⟨_,rfl,_⟩:=h; rfl) (by decide) 5 rfl (fun cdv A outer s H E hE0 hr hE=>⟨_,ad (bQ (dh (cq (ay (d0 K rfl) T.n_isinstance aZ (au (ae 0) (au (gx T.n_str fX rfl) ag rfl) rfl) rfl rfl))) (al (oS (Same H) rfl hm hx am hE rfl rfl rfl)) aO) (ad (jZ (dm K PySem.F.plainAttrs_str PySem.F.slot_str_partition PySem.F.type_str_partition oW (ae 0) (au am ag rfl) rfl rfl rfl (by decide) rfl) (xx K rfl (fG (cu (i:=1) nu8 rfl (Or.inl rfl) (Or.inl rfl)) (fG (cu (i:=2) nu8 rfl (Or.inl rfl) (Or.inl rfl)) (fG (cu (i:=3) nu8 rfl (Or.inl rfl) (Or.inl rfl)) rS rfl) rfl) rfl) rfl rfl rfl) rfl rfl rfl) (ad (aL (i:=4) nu8 rfl (Or.inl rfl) (CA (bh (bE K hr.units rfl) (ae 1) am aA) (gb (au (ae 1) (au (ae 3) ag rfl) rfl)) (dS (iJ K rfl) T.n_tuple eu (au (dm K PySem.F.plainAttrs_str PySem.F.slot_str_split PySem.F.type_str_split gI (ae 0) (au am ag rfl) rfl rfl rfl (by decide) rfl) ag rfl) rfl rfl)) rfl (Or.inl rfl)) (ad (bQ (dh (cq (aP O_is_form (hr.mono (by decide)) (au (ae 4) ag rfl) rfl rfl))) (al (oS (Same H) rfl hm hx am hE rfl rfl rfl)) aO) (al (aN (ae 4)))))),
  li (xX (di (kP (bN g5 (aa ax (aa gW ah))))) mM (SF.x aV)) (li (SF.x (aS (nM oY ax ap) (xH (fH (cO (by decide)) (fH (cO (by decide)) (fH (cO (by decide)) sw)))) (ao (by decide)))) (li (SF.x (aS (CL (aG (aq bF ax ap)) (iu (aa ax (aa ax ah))) (bN iM (aa (nM gJ ax ap) ah))) (cO (by decide)) (ao (by decide)))) (li (xX (di (kP (aB (c:=bV) (aa (cM ax) ah)))) mM (SF.x aV)) (SF.x (aQ ax)))))⟩) wA
end
end KR
set_option maxHeartbeats 4000000
namespace KR
open PySem L2
theorem nX (z:Str)(lo hi:Option Int):(gZ z lo hi).length≤z.length:=by
 rw [aM,aM,eI]
 exact nq _ _ _
theorem wB (zs:List Str)(k:Nat):((zs.take k).map (·.length)).sum≤(zs.map (·.length)).sum:=by
 have e:(zs.map (·.length)).sum=((zs.take k).map (·.length)).sum+((zs.drop k).map (·.length)).sum:=by
  rw [← List.sum_append,← List.map_append,List.take_append_drop]
 nofun
theorem pv (zs:List Str)(k:Nat):((zs.drop k).map (·.length)).sum≤(zs.map (·.length)).sum:=by
 have e:(zs.map (·.length)).sum=((zs.take k).map (·.length)).sum+((zs.drop k).map (·.length)).sum:=by
  rw [← List.sum_append,← List.map_append,List.take_append_drop]
 nofun
theorem AS (zs:List Str)(lo hi:Option Int):((dR zs lo hi).map (·.length)).sum≤(zs.map (·.length)).sum:=Nat.le_trans (wB _ _) (pv _ _)
theorem AT (zs:List Str)(k:Nat)(v:Str):((zs.set k v).map (·.length)).sum≤(zs.map (·.length)).sum+v.length:=by
 induction zs generalizing k with
 | nil=>exact Nat.zero_le _
 | cons a l ih =>
  cases k with
  | zero =>
   show v.length+(l.map (·.length)).sum≤a.length+(l.map (·.length)).sum+v.length
   nofun
  | succ k =>
   have:=ih k
   show a.length+((l.set k v).map (·.length)).sum≤a.length+(l.map (·.length)).sum+v.length
   nofun
theorem AU (zs:List Str):((zs.reverse).map (·.length)).sum=(zs.map (·.length)).sum:=by
 rw [List.map_reverse,List.sum_reverse]
theorem pw (y:Str):∀ ps:List Str,(ps.map (·.length)).sum≤(Str.join y ps).length
 | []=>Nat.zero_le _
 | [p]=>Nat.le_refl _
 | p::q::r=>by
  have h2:=pw y (q::r)
  have h3:=congrArg List.length (dz y p q r)
  rw [List.length_append,List.length_append,← aM,← aM,← aM,← aM] at h3
  rw [List.map_cons,List.sum_cons]
  nofun
theorem jE (z y:Str):((Txt.split z y).map (·.length)).sum≤z.length:=by
 have:=pw y (Txt.split z y)
 rwa [StrLaws.join_split] at this
theorem mX (z y:Str):1≤(Txt.split z y).length:=by
 unfold Txt.split
 split
 ·exact Nat.le_refl 1
 ·split
  ·exact Nat.le_refl 1
  ·rw [length_partsBetween]; nofun
theorem ls (y:Str)(ps:List Str):(Builtin.Str.glued y ps).length≤(ps.map (·.length)).sum+ps.length * y.length:=by
 rw [StrLaws.glued_eq_join]
 exact StrLaws.join_length_le _ _
theorem lu {zs:List Str}{i:Int}{Q:D→Prop}(h0:0≤i)(h:i < zs.length)(q:∀ z ∈ zs,Q (.str z)):match atI (zs.map D.str) i with
  | some d=>Q d
  | none=>False:=jo h0 (by rw [List.length_map]; exact h) fun d hd=>by
 obtain ⟨z,hz,rfl⟩:=List.mem_map.mp hd
 exact q z hz
theorem um (zs:List Str)(k:Nat)(v:Str):(zs.map D.str).set k (.str v)=(zs.set k v).map D.str:=List.map_set.symm
@[irreducible] def bw:Ct:=fun os P=>∃ (b0 b1 b2 n:Int),os=[cY b0 b1 b2]∧BagB b1 b2 n∧n < 2 ^ 38∧∀ (c:Nat) (b0' b1' b2':Int),BagB b1' b2' (n+1)→P (.fz (.str ⟨#[c]⟩)) [cY b0' b1' b2']
@[irreducible] def aE:Ct:=fun os P=>∃ (b0 b1 b2 n:Int) (z:Str),os=[cY b0 b1 b2,.fz (.str z)]∧BagB b1 b2 n∧n < 2 ^ 37∧z.length≤120000∧∀ (y:Str) (b0' b1' b2':Int),y.length≤3 * z.length+20→BagB b1' b2' (n+10)→P (.fz (.str y)) [cY b0' b1' b2',.fz (.str z)]
@[irreducible] def aJ:Ct:=fun os P=>∃ (b0 b1 b2 n:Int) (z:Str),os=[cY b0 b1 b2,.fz (.str z)]∧BagB b1 b2 n∧n < 2 ^ 37∧z.length≤120000∧∀ (y:Str) (b0' b1' b2':Int),y.length≤3 * z.length+20→BagB b1' b2' (n+10)→P (.fz (.str y)) [cY b0' b1' b2',.fz (.str z)]
@[irreducible] def aK:Ct:=fun os P=>∃ (b0 b1 b2 n:Int) (z:Str),os=[cY b0 b1 b2,.fz (.str z)]∧BagB b1 b2 n∧n < 2 ^ 37∧z.length≤200∧∀ (y:Str) (b0' b1' b2':Int),y.length≤10000→BagB b1' b2' (n+10)→P (.fz (.str y)) [cY b0' b1' b2',.fz (.str z)]
section
variable {P:Program} {w:World} {K:PySem.W.Frag} {mg:Str→Option Value} {base:Heap}
abbrev ku:Stmt:=top 37
theorem AV:FnScope ["bag", "some"] ["bag"] (ak ku):=⟨rfl,rfl,rfl,by decide +kernel,rfl,by decide +kernel,by decide +kernel⟩
def yj:FS :=
  (bI (de (fC (.str "abcdefghijklmnopqrstuvwxyzABCDEFGHIJKLMNOPQRSTUVWXYZ0123456789")) (az 1))
  (bI (de (fOp cL (av 1) (fC (.str " !\"#$&'()*+,-./:;<=>?\x40[\\]^_`{|}~\n\t"))) (az 1))
  (cX (fOp aIx (av 1) (bx af (ac (av 0) (ac (fC (.int 96)) bc)))))))
theorem nu9:List.Nodup [("bag" : Str),("some" : Str)]:=by decide +kernel
theorem AW {f:Addr} {fd:FuncData} (F:Fun K "_law_sign" "_law_sign" ku f fd) (T:Txt K mg) (O_law_draw:Own P w K mg base "_law_draw" 1 ["bag", "many"] (spM K af))
  (hlen:∀ os P,bw os P→os.length=1∧∀ j o,os[j]?=some o→j ∉ ([0]:List Nat)→df o=true)
  (hc:∀ os P,bw os P→yj { nx:=fin [0] os P (.fz .non),rt:=fin [0] os P } (aU 2 os)) :
  FnOk P w K mg base CX0 2 f fd ["bag"] (spM K bw) :=
 Fun.okG 2 [0] F AV rfl (by decide) hlen (by decide) (fun cdv A outer s H E hr=>⟨_,(ad (aL (i:=1) nu9 rfl (Or.inl rfl) am rfl (Or.inl rfl))
  (ad (aL (i:=1) nu9 rfl (Or.inl rfl) (bu (aW K rfl) (ae 1) am) rfl (Or.inl rfl))
  (al (aN (bO K hr.units (ae 1) (aP O_law_draw (hr.mono (by decide)) (au (ae 0) (au ai ag rfl) rfl) rfl rfl) (fun _ _=>rfl) rfl))))),
  (ar (aS ap (cO (by decide)) (ao (by decide)))
  (ar (aS (aq aX ax ap) (cO (by decide)) (ao (by decide)))
  (aQ (aq bP ax (aB (c:=af) (aa ax (aa aj ah)))))))⟩) hc
theorem DK (os:List OV)(P:OV→List OV→Prop)(h:bw os P):os.length=1∧∀ j o,os[j]?=some o→j ∉ ([0]:List Nat)→df o=true:=by
 unfold bw at h
 obtain ⟨b0,b1,b2,n,rfl,_⟩:=h
 exact D9
abbrev sgA:Str := "abcdefghijklmnopqrstuvwxyzABCDEFGHIJKLMNOPQRSTUVWXYZ0123456789"
abbrev sgB:Str := " !\"#$&'()*+,-./:;<=>?\x40[\\]^_`{|}~\n\t"
theorem DL:(sgA++sgB).cps.toList.length=96:=by decide +kernel
theorem DM (os:List OV)(P:OV→List OV→Prop)(h:bw os P):yj { nx:=fin [0] os P (.fz .non),rt:=fin [0] os P } (aU 2 os):=by
 unfold bw at h
 obtain ⟨b0,b1,b2,n,rfl,hb,hn,q⟩:=h
 have sz:=dD
 ac_rfl
 refine ⟨by decide +kernel,?_⟩
 ac_rfl
 refine bH n hb (by nofun) (by decide) (by decide) fun r b0 b1 b2 r0 r1 hb1=>?_
 ac_rfl
 refine ⟨by decide +kernel,?_⟩
 refine jp r0 (by rw [show (Str.ofString "abcdefghijklmnopqrstuvwxyzABCDEFGHIJKLMNOPQRSTUVWXYZ0123456789" ++ Str.ofString " !\"#$&'()*+,-./:;<=>?\x40[\\]^_`{|}~\n\t").cps.toList.length=96 from DL]; exact r1) fun c _=>?_
 ac_rfl
 exact q _ _ _ _ hb1
theorem lv {b0 b1 b2:Int}(n:Int){P:OV→List OV→Prop}(hb:BagB b1 b2 n)(hn:n < 2 ^ 38)(h:∀ (c:Nat) (b0' b1' b2':Int),BagB b1' b2' (n+1)→P (.fz (.str ⟨#[c]⟩)) [cY b0' b1' b2']):bw [cY b0 b1 b2] P:=by
 unfold bw
 exact ⟨b0,b1,b2,n,rfl,hb,hn,h⟩
theorem ii (c:Nat):(⟨#[c]⟩:Str).length=1:=rfl
abbrev ij:Stmt:=top 44
theorem wC:FnScope ["bag", "text", "way", "at"] ["bag", "text"] (ak ij):=⟨rfl,rfl,rfl,by decide +kernel,rfl,by decide +kernel,by decide +kernel⟩
def uo:FS :=
  (bI (de (bx af (ac (av 0) (ac (fC (.int 6)) bc))) (az 2))
  (bI (de (bx af (ac (av 0) (ac (fFz (fOp cL (fCB gP (ac (av 1) bc)) (fC (.int 1)))) bc))) (az 3))
  (bI (fIf (bj (fOp aEq (av 2) (fC (.int 0))))
   (cX (fOp cL (fOp cL (fSl iC (av 1) bW (da (av 3))) (bx bw (ac (av 0) bc))) (fSl iC (av 1) (da (av 3)) bW)))
   bX)
  (bI (fIf (bj (fOp aEq (av 2) (fC (.int 1))))
   (cX (fOp cL (fSl iC (av 1) bW (da (av 3))) (fSl iC (av 1) (da (fOp cL (av 3) (fC (.int 1)))) bW)))
   bX)
  (bI (fIf (bj (fOp aEq (av 2) (fC (.int 2))))
   (cX (fOp cL (fOp cL (fSl iC (av 1) bW (da (av 3))) (bx bw (ac (av 0) bc))) (fSl iC (av 1) (da (fOp cL (av 3) (fC (.int 1)))) bW)))
   bX)
  (bI (fIf (bj (fOp aEq (av 2) (fC (.int 3))))
   (cX (fOp cL (fOp cL (fSl iC (av 1) bW (da (av 3))) (fRv (fSl iC (av 1) (da (av 3)) (da (fOp cL (av 3) (fC (.int 2))))))) (fSl iC (av 1) (da (fOp cL (av 3) (fC (.int 2)))) bW)))
   bX)
  (cX (fOp cL (fOp cL (fSl iC (av 1) bW (da (av 3))) (fOp aIx (fC (.str " ;")) (fOp (aI0 fun i j=>.int (i - j)) (av 2) (fC (.int 4))))) (fSl iC (av 1) (da (av 3)) bW)))))))))
theorem FF:List.Nodup [("bag" : Str),("text" : Str),("way" : Str),("at" : Str)]:=by decide +kernel
theorem wD {f:Addr} {fd:FuncData} (F:Fun K "_law_text_turned" "_law_text_turned" ij f fd) (T:Txt K mg) (O_law_draw:Own P w K mg base "_law_draw" 1 ["bag", "many"] (spM K af)) (O_law_sign:Own P w K mg base "_law_sign" 2 ["bag"] (spM K bw))
  (hlen:∀ os P,aE os P→os.length=2∧∀ j o,os[j]?=some o→j ∉ ([0]:List Nat)→df o=true)
  (hc:∀ os P,aE os P→uo { nx:=fin [0] os P (.fz .non),rt:=fin [0] os P } (aU 4 os)) :
  FnOk P w K mg base CX0 3 f fd ["bag", "text"] (spM K aE) :=
 Fun.okG 4 [0] F wC rfl (by decide) hlen (by decide) (fun cdv A outer s H E hr=>⟨_,(ad (aL (i:=2) FF rfl (Or.inl rfl) (aP O_law_draw (hr.mono (by decide)) (au (ae 0) (au ai ag rfl) rfl) rfl rfl) rfl (Or.inl rfl))
  (ad (aL (i:=3) FF rfl (Or.inl rfl) (aP O_law_draw (hr.mono (by decide)) (au (ae 0) (au (bu (aW K rfl) (ay (cJ K rfl) T.n_len cG (au (ae 1) ag rfl) rfl rfl) ai) ag rfl) rfl) rfl rfl) rfl (Or.inl rfl))
  (ad (bQ (bh (bE K hr.units rfl) (ae 2) ai aA)
   (al (aN (bu (aW K rfl) (bu (aW K rfl) (bi K (ae 1) cg (bA (ae 3)) rfl) (aP O_law_sign (hr.mono (by decide)) (au (ae 0) ag rfl) rfl rfl)) (bi K (ae 1) (bA (ae 3)) cg rfl))))
   aO)
  (ad (bQ (bh (bE K hr.units rfl) (ae 2) ai aA)
   (al (aN (bu (aW K rfl) (bi K (ae 1) cg (bA (ae 3)) rfl) (bi K (ae 1) (bA (bu (aW K rfl) (ae 3) ai)) cg rfl))))
   aO)
  (ad (bQ (bh (bE K hr.units rfl) (ae 2) ai aA)
   (al (aN (bu (aW K rfl) (bu (aW K rfl) (bi K (ae 1) cg (bA (ae 3)) rfl) (aP O_law_sign (hr.mono (by decide)) (au (ae 0) ag rfl) rfl rfl)) (bi K (ae 1) (bA (bu (aW K rfl) (ae 3) ai)) cg rfl))))
   aO)
  (ad (bQ (bh (bE K hr.units rfl) (ae 2) ai aA)
   (al (aN (bu (aW K rfl) (bu (aW K rfl) (bi K (ae 1) cg (bA (ae 3)) rfl) (yb K (bi K (ae 1) (bA (ae 3)) (bA (bu (aW K rfl) (ae 3) ai)) rfl) Du rfl)) (bi K (ae 1) (bA (bu (aW K rfl) (ae 3) ai)) cg rfl))))
   aO)
  (al (aN (bu (aW K rfl) (bu (aW K rfl) (bi K (ae 1) cg (bA (ae 3)) rfl) (bO K hr.units am (bu kK (ae 2) ai) (fun _ _=>rfl) rfl)) (bi K (ae 1) (bA (ae 3)) cg rfl)))))))))),
  (ar (aS (aB (c:=af) (aa ax (aa aj ah))) (cO (by decide)) (ao (by decide)))
  (ar (aS (aB (c:=af) (aa ax (aa (cM (aq aX (bN cK (aa ax ah)) aj)) ah))) (cO (by decide)) (ao (by decide)))
  (ar (bY (aG (aq bF ax aj))
   (aQ (aq aX (aq aX (dB dH ax ci (bB ax)) (aB (c:=bw) (aa ax ah))) (dB dH ax (bB ax) ci)))
   aV)
  (ar (bY (aG (aq bF ax aj))
   (aQ (aq aX (dB dH ax ci (bB ax)) (dB dH ax (bB (aq aX ax aj)) ci)))
   aV)
  (ar (bY (aG (aq bF ax aj))
   (aQ (aq aX (aq aX (dB dH ax ci (bB ax)) (aB (c:=bw) (aa ax ah))) (dB dH ax (bB (aq aX ax aj)) ci)))
   aV)
  (ar (bY (aG (aq bF ax aj))
   (aQ (aq aX (aq aX (dB dH ax ci (bB ax)) (Ds (dB dH ax (bB ax) (bB (aq aX ax aj))))) (dB dH ax (bB (aq aX ax aj)) ci)))
   aV)
  (aQ (aq aX (aq aX (dB dH ax ci (bB ax)) (aq bP ap (aq kY ax aj))) (dB dH ax (bB ax) ci)))))))))⟩) hc
theorem AX (os:List OV)(P:OV→List OV→Prop)(h:aE os P):os.length=2∧∀ j o,os[j]?=some o→j ∉ ([0]:List Nat)→df o=true:=by
 unfold aE at h
 obtain ⟨b0,b1,b2,n,z,rfl,_⟩:=h
 exact Aw
theorem AY (z:Str):(D8 z).length=z.length:=by
 rw [aM,aM]
 show z.cps.toList.reverse.toArray.toList.length=_
 rw [List.toList_toArray,List.length_reverse]
theorem AZ (os:List OV)(P:OV→List OV→Prop)(h:aE os P):uo { nx:=fin [0] os P (.fz .non),rt:=fin [0] os P } (aU 4 os):=by
 unfold aE at h
 obtain ⟨b0,b1,b2,n,z,rfl,hb,hn,hz,q⟩:=h
 have sz:=dD
 have cl:∀ lo hi,(gZ z lo hi).length≤z.length:=nX z
 ac_rfl
 refine bH n hb (by nofun) (by decide) (by decide) fun way b0 b1 b2 w0 w1 hb1=>?_
 ac_rfl
 refine ⟨by nofun,?_⟩
 ac_rfl
 refine bH (n+1) hb1 (by nofun) (by nofun) (by nofun) fun a b0 b1 b2 a0 a1 hb2=>?_
 ac_rfl
 refine cN ?_
 ac_rfl
 refine ⟨bz,?_⟩
 ac_rfl
 refine bd (way=0) bS (fun _=>?_) (fun n0=>?_)
 ·have c1:=cl none (some a)
  have c2:=cl (some a) none
  ac_rfl
  refine ⟨by nofun,?_⟩
  ac_rfl
  refine lv (n+1+1) hb2 (by nofun) fun c b0 b1 b2 hb3=>?_
  have c3:=ii c
  ac_rfl
  refine ⟨by nofun,?_⟩
  ac_rfl
  refine ⟨by nofun,?_⟩
  ac_rfl
  refine ⟨by rw [cE]; nofun,?_⟩
  ac_rfl
  exact q _ _ _ _ (by rw [cE,cE]; nofun) (hb3.mono (by nofun))
 ac_rfl
 refine cN ?_
 ac_rfl
 refine ⟨bz,?_⟩
 ac_rfl
 refine bd (way=1) bS (fun _=>?_) (fun n1=>?_)
 ·have c1:=cl none (some a)
  have c2:=cl (some (a+1)) none
  ac_rfl
  refine ⟨by nofun,?_⟩
  ac_rfl
  refine ⟨by nofun,?_⟩
  ac_rfl
  refine ⟨by nofun,?_⟩
  ac_rfl
  exact q _ _ _ _ (by rw [cE]; nofun) (hb2.mono (by nofun))
 ac_rfl
 refine cN ?_
 ac_rfl
 refine ⟨bz,?_⟩
 ac_rfl
 refine bd (way=2) bS (fun _=>?_) (fun n2=>?_)
 ·have c1:=cl none (some a)
  have c2:=cl (some (a+1)) none
  ac_rfl
  refine ⟨by nofun,?_⟩
  ac_rfl
  refine lv (n+1+1) hb2 (by nofun) fun c b0 b1 b2 hb3=>?_
  have c3:=ii c
  ac_rfl
  refine ⟨by nofun,?_⟩
  ac_rfl
  refine ⟨by nofun,?_⟩
  ac_rfl
  refine ⟨by rw [cE]; nofun,?_⟩
  ac_rfl
  exact q _ _ _ _ (by rw [cE,cE]; nofun) (hb3.mono (by nofun))
 ac_rfl
 refine cN ?_
 ac_rfl
 refine ⟨bz,?_⟩
 ac_rfl
 refine bd (way=3) bS (fun _=>?_) (fun n3=>?_)
 ·have c1:=cl none (some a)
  have c2:=cl (some a) (some (a+2))
  have c3:=AY (gZ z (some a) (some (a+2)))
  have c4:=cl (some (a+2)) none
  ac_rfl
  refine ⟨by nofun,?_⟩
  ac_rfl
  refine ⟨by nofun,?_⟩
  ac_rfl
  refine ⟨by nofun,?_⟩
  ac_rfl
  refine ⟨by nofun,?_⟩
  ac_rfl
  refine ⟨by nofun,?_⟩
  ac_rfl
  refine ⟨by rw [cE]; nofun,?_⟩
  ac_rfl
  exact q _ _ _ _ (by rw [cE,cE]; nofun) (hb2.mono (by nofun))
 ·have c1:=cl none (some a)
  have c2:=cl (some a) none
  ac_rfl
  refine ⟨by nofun,?_⟩
  ac_rfl
  refine ⟨by decide +kernel,?_⟩
  refine jp (by nofun) (by rw [show (Str.ofString " ;").cps.toList.length=2 from by decide +kernel]; nofun) fun c _=>?_
  have c3:=ii c
  ac_rfl
  refine ⟨by nofun,?_⟩
  ac_rfl
  refine ⟨by nofun,?_⟩
  ac_rfl
  refine ⟨by rw [cE]; nofun,?_⟩
  ac_rfl
  exact q _ _ _ _ (by rw [cE,cE]; nofun) (hb2.mono (by nofun))
theorem px {b0 b1 b2:Int}(n:Int){z:Str}{P:OV→List OV→Prop}(hb:BagB b1 b2 n)(hn:n < 2 ^ 37)(hz:z.length≤120000)(h:∀ (y:Str) (b0' b1' b2':Int),y.length≤3 * z.length+20→BagB b1' b2' (n+10)→P (.fz (.str y)) [cY b0' b1' b2',.fz (.str z)]):aE [cY b0 b1 b2,.fz (.str z)] P:=by
 unfold aE
 exact ⟨b0,b1,b2,n,z,rfl,hb,hn,hz,h⟩
end
end KR
set_option maxHeartbeats 4000000
namespace KR
open PySem L2
theorem mY (y:Str):∀ ps:List Str,(ps.map (·.length)).sum+ps.length * y.length≤(Str.join y ps).length+y.length
 | []=>by show 0+0 * y.length≤_; nofun
 | [p]=>by show p.length+0+1 * y.length≤p.length+y.length; nofun
 | p::q::r=>by
  have h2:=mY y (q::r)
  have h3:=congrArg List.length (dz y p q r)
  rw [List.length_append,List.length_append,← aM,← aM,← aM,← aM] at h3
  rw [List.map_cons,List.sum_cons,List.length_cons,Nat.succ_mul]
  nofun
theorem qD (z y:Str):((Txt.split z y).map (·.length)).sum+(Txt.split z y).length * y.length≤z.length+y.length:=by
 have:=mY y (Txt.split z y)
 rwa [StrLaws.join_split] at this
theorem uq {α:Type}(xs:List α){a:Int}(h:0≤a):(dR xs (some a) (some (a+1))).length≤1:=by
 obtain ⟨k,rfl⟩:=Int.eq_ofNat_of_zero_le h
 have e:dR xs (some (k:Int)) (some ((k:Int)+1))=_:=vM xs k (k+1)
 rw [e,List.length_take,List.length_drop]
 nofun
theorem pz:1≤sizeLine:=by rw [dD]; decide
theorem ur:(Str.ofString "  ").length=2:=by decide +kernel
section
variable {P:Program} {w:World} {K:PySem.W.Frag} {mg:Str→Option Value} {base:Heap}
abbrev ik:Stmt:=top 47
theorem wE:FnScope ["bag", "text", "words", "way", "at", "other", "some", "between"] ["bag", "text"] (ak ik):=⟨rfl,rfl,rfl,by decide +kernel,rfl,by decide +kernel,by decide +kernel⟩
def ut:FS :=
  (bI (de (fT1 jt (av 1) (fC (.str " "))) (az 2))
  (bI (de (bx af (ac (av 0) (ac (fC (.int 4)) bc))) (az 3))
  (bI (de (bx af (ac (av 0) (ac (fFz (fCB gP (ac (av 2) bc))) bc))) (az 4))
  (bI (de (bx af (ac (av 0) (ac (fFz (fCB gP (ac (av 2) bc))) bc))) (az 5))
  (bI (de (iF (ac (fC (.str "none")) (ac (fC (.str "any")) (ac (fC (.str "signs")) (ac (fC (.str "row")) (ac (fC (.str "first")) (ac (fC (.str "again")) (ac (fC (.str "ahead")) (ac (fC (.str "not")) (ac (fC (.str "=")) (ac (fC (.str "a")) (ac (fC (.str "zz")) (ac (fC (.str "abcdefghi")) (ac (fC (.str "Row")) bc)))))))))))))) (az 6))
  (bI (de (fOp cL (av 6) (iF (ac (fC (.str "")) (ac (fC (.str ";")) bc)))) (az 6))
  (bI (de (fSl iC (av 2) (da (av 5)) (da (fOp cL (av 5) (fC (.int 1))))) (az 7))
  (bI (fIf (bj (fOp aEq (av 3) (fC (.int 0))))
   (de (iF bc) (az 7))
   bX)
  (bI (fIf (bj (fOp aEq (av 3) (fC (.int 1))))
   (de (fOp cL (fSl iC (av 2) (da (av 4)) (da (fOp cL (av 4) (fC (.int 1))))) (fSl iC (av 2) (da (av 4)) (da (fOp cL (av 4) (fC (.int 1)))))) (az 7))
   bX)
  (bI (fIf (bj (fOp aEq (av 3) (fC (.int 2))))
   (de (iF (ac (fOp aIx (av 6) (bx af (ac (av 0) (ac (fC (.int 15)) bc)))) bc)) (az 7))
   bX)
  (cX (qj (fC (.str " ")) (fOp cL (fOp cL (fSl iC (av 2) bW (da (av 4))) (av 7)) (fSl iC (av 2) (da (fOp cL (av 4) (fC (.int 1)))) bW))))))))))))))
theorem uP:List.Nodup [("bag" : Str),("text" : Str),("words" : Str),("way" : Str),("at" : Str),("other" : Str),("some" : Str),("between" : Str)]:=by decide +kernel
theorem wF {f:Addr} {fd:FuncData} (F:Fun K "_law_words_turned" "_law_words_turned" ik f fd) (T:Txt K mg) (O_law_draw:Own P w K mg base "_law_draw" 1 ["bag", "many"] (spM K af))
  (hlen:∀ os P,aJ os P→os.length=2∧∀ j o,os[j]?=some o→j ∉ ([0]:List Nat)→df o=true)
  (hc:∀ os P,aJ os P→ut { nx:=fin [0] os P (.fz .non),rt:=fin [0] os P } (aU 8 os)) :
  FnOk P w K mg base CX0 3 f fd ["bag", "text"] (spM K aJ) :=
 Fun.okG 8 [0] F wE rfl (by decide) hlen (by decide) (fun cdv A outer s H E hr=>⟨_,(ad (aL (i:=2) uP rfl (Or.inl rfl) (dm K PySem.F.plainAttrs_str PySem.F.slot_str_split PySem.F.type_str_split gI (ae 1) (au am ag rfl) rfl rfl rfl (by decide) rfl) rfl (Or.inl rfl))
  (ad (aL (i:=3) uP rfl (Or.inl rfl) (aP O_law_draw (hr.mono (by decide)) (au (ae 0) (au ai ag rfl) rfl) rfl rfl) rfl (Or.inl rfl))
  (ad (aL (i:=4) uP rfl (Or.inl rfl) (aP O_law_draw (hr.mono (by decide)) (au (ae 0) (au (ay (cJ K rfl) T.n_len cG (au (ae 2) ag rfl) rfl rfl) ag rfl) rfl) rfl rfl) rfl (Or.inl rfl))
  (ad (aL (i:=5) uP rfl (Or.inl rfl) (aP O_law_draw (hr.mono (by decide)) (au (ae 0) (au (ay (cJ K rfl) T.n_len cG (au (ae 2) ag rfl) rfl rfl) ag rfl) rfl) rfl rfl) rfl (Or.inl rfl))
  (ad (aL (i:=6) uP rfl (Or.inl rfl) (cZ (au am (au am (au am (au am (au am (au am (au am (au am (au am (au am (au am (au am (au am ag rfl) rfl) rfl) rfl) rfl) rfl) rfl) rfl) rfl) rfl) rfl) rfl) rfl)) rfl (Or.inl rfl))
  (ad (aL (i:=6) uP rfl (Or.inl rfl) (bu (aW K rfl) (ae 6) (cZ (au am (au am ag rfl) rfl))) rfl (Or.inl rfl))
  (ad (aL (i:=7) uP rfl (Or.inl rfl) (bi K (ae 2) (bA (ae 5)) (bA (bu (aW K rfl) (ae 5) ai)) rfl) rfl (Or.inl rfl))
  (ad (bQ (bh (bE K hr.units rfl) (ae 3) ai aA)
   (al (aL (i:=7) uP rfl (Or.inl rfl) (cZ ag) rfl (Or.inl rfl)))
   aO)
  (ad (bQ (bh (bE K hr.units rfl) (ae 3) ai aA)
   (al (aL (i:=7) uP rfl (Or.inl rfl) (bu (aW K rfl) (bi K (ae 2) (bA (ae 4)) (bA (bu (aW K rfl) (ae 4) ai)) rfl) (bi K (ae 2) (bA (ae 4)) (bA (bu (aW K rfl) (ae 4) ai)) rfl)) rfl (Or.inl rfl)))
   aO)
  (ad (bQ (bh (bE K hr.units rfl) (ae 3) ai aA)
   (al (aL (i:=7) uP rfl (Or.inl rfl) (cZ (au (bO K hr.units (ae 6) (aP O_law_draw (hr.mono (by decide)) (au (ae 0) (au ai ag rfl) rfl) rfl rfl) (fun _ _=>rfl) rfl) ag rfl)) rfl (Or.inl rfl)))
   aO)
  (al (aN (dm K PySem.F.plainAttrs_str PySem.F.slot_str_join PySem.F.type_str_join (i4 K rfl) am (au (bu (aW K rfl) (bu (aW K rfl) (bi K (ae 2) cg (bA (ae 4)) rfl) (ae 7)) (bi K (ae 2) (bA (bu (aW K rfl) (ae 4) ai)) cg rfl)) ag rfl) rfl rfl rfl (by decide) rfl))))))))))))),
  (ar (aS (nM gJ ax ap) (cO (by decide)) (ao (by decide)))
  (ar (aS (aB (c:=af) (aa ax (aa aj ah))) (cO (by decide)) (ao (by decide)))
  (ar (aS (aB (c:=af) (aa ax (aa (cM (bN cK (aa ax ah))) ah))) (cO (by decide)) (ao (by decide)))
  (ar (aS (aB (c:=af) (aa ax (aa (cM (bN cK (aa ax ah))) ah))) (cO (by decide)) (ao (by decide)))
  (ar (aS (dc (aa ap (aa ap (aa ap (aa ap (aa ap (aa ap (aa ap (aa ap (aa ap (aa ap (aa ap (aa ap (aa ap ah)))))))))))))) (cO (by decide)) (ao (by decide)))
  (ar (aS (aq aX ax (dc (aa ap (aa ap ah)))) (cO (by decide)) (ao (by decide)))
  (ar (aS (dB dH ax (bB ax) (bB (aq aX ax aj))) (cO (by decide)) (ao (by decide)))
  (ar (bY (aG (aq bF ax aj))
   (aS (dc ah) (cO (by decide)) (ao (by decide)))
   aV)
  (ar (bY (aG (aq bF ax aj))
   (aS (aq aX (dB dH ax (bB ax) (bB (aq aX ax aj))) (dB dH ax (bB ax) (bB (aq aX ax aj)))) (cO (by decide)) (ao (by decide)))
   aV)
  (ar (bY (aG (aq bF ax aj))
   (aS (dc (aa (aq bP ax (aB (c:=af) (aa ax (aa aj ah)))) ah)) (cO (by decide)) (ao (by decide)))
   aV)
  (aQ (jl ap (aq aX (aq aX (dB dH ax ci (bB ax)) ax) (dB dH ax (bB (aq aX ax aj)) ci))))))))))))))⟩) hc
theorem A0 (os:List OV)(P:OV→List OV→Prop)(h:aJ os P):os.length=2∧∀ j o,os[j]?=some o→j ∉ ([0]:List Nat)→df o=true:=by
 unfold aJ at h
 obtain ⟨b0,b1,b2,n,z,rfl,_⟩:=h
 exact Aw
abbrev nY:List Str:=["none", "any", "signs", "row", "first", "again", "ahead", "not", "=", "a", "zz", "abcdefghi", "Row", "", ";"]
theorem wG:∀ z ∈ nY,z.length≤9:=by decide +kernel
theorem A6 (os:List OV)(P:OV→List OV→Prop)(h:aJ os P):ut { nx:=fin [0] os P (.fz .non),rt:=fin [0] os P } (aU 8 os):=by
 unfold aJ at h
 obtain ⟨b0,b1,b2,n,z,rfl,hb,hn,hz,q⟩:=h
 have sz:=dD
 have hc:=dQ z (Str.ofString " ")
 have hp:=mX z (Str.ofString " ")
 have hs:=jE z (Str.ofString " ")
 have hf:=qD z (Str.ofString " ")
 rw [jC,Nat.mul_one] at hf
 have hsp:=jC
 ac_rfl
 refine ⟨⟨by decide +kernel,by nofun⟩,?_⟩
 generalize hW:Txt.split z (Str.ofString " ")=W at hc hp hs hf
 have cl:∀ lo hi,(dR W lo hi).length≤W.length:=nq W
 have cs:∀ lo hi,((dR W lo hi).map (·.length)).sum≤(W.map (·.length)).sum:=AS W
 ac_rfl
 refine bH n hb (by nofun) (by decide) (by decide) fun way b0 b1 b2 w0 w1 hb1=>?_
 ac_rfl
 rw [List.length_map]
 refine bH (n+1) hb1 (by nofun) (by nofun) (by nofun) fun a b0 b1 b2 a0 a1 hb2=>?_
 ac_rfl
 rw [List.length_map]
 refine bH (n+1+1) hb2 (by nofun) (by nofun) (by nofun) fun oth b0 b1 b2 o0 o1 hb3=>?_
 ac_rfl
 refine ⟨by show 13≤sizeLine; nofun,?_⟩
 ac_rfl
 refine ⟨by show 2≤sizeLine; nofun,?_⟩
 ac_rfl
 refine ⟨by show 13+2≤sizeLine; nofun,?_⟩
 ac_rfl
 rw [ln]
 have base:∃ (B:List Str),dR W (some oth) (some (oth+1))=B∧B.length≤1∧(B.map (·.length)).sum≤z.length:=⟨_,rfl,uq W o0,Nat.le_trans (cs _ _) hs⟩
 obtain ⟨B,eB,hBl,hBs⟩:=base
 rw [eB]
 have eS:∀ c0 c1 c2:Int,∀ B:List Str,B.length≤2→(B.map (·.length)).sum≤2 * z.length+9→BagB c1 c2 (n+4)→∃ (B':List Str) (b0 b1 b2:Int),B'.length≤2∧(B'.map (·.length)).sum≤2 * z.length+9∧BagB b1 b2 (n+4)∧([some (cY c0 c1 c2),some (.fz (.str z)),some (.fz (.lst (W.map .str))),some (.fz (.int way)),some (.fz (.int a)),some (.fz (.int oth)),some (.fz (.lst (nY.map .str))),some (.fz (.lst (B.map .str)))]:FSt)=[some (cY b0 b1 b2),some (.fz (.str z)),some (.fz (.lst (W.map .str))),some (.fz (.int way)),some (.fz (.int a)),some (.fz (.int oth)),some (.fz (.lst (nY.map .str))),some (.fz (.lst (B'.map .str)))]:=fun c0 c1 c2 B h1 h2 h3=>⟨B,c0,c1,c2,h1,h2,h3,rfl⟩
 ac_rfl
 refine jq (fun ρ=>∃ (B:List Str) (b0 b1 b2:Int),B.length≤2∧(B.map (·.length)).sum≤2 * z.length+9∧BagB b1 b2 (n+4)∧ρ=[some (cY b0 b1 b2),some (.fz (.str z)),some (.fz (.lst (W.map .str))),some (.fz (.int way)),some (.fz (.int a)),some (.fz (.int oth)),some (.fz (.lst (nY.map .str))),some (.fz (.lst (B.map .str)))]) ?_ ?_
 ·rintro ρ ⟨B,c0,c1,c2,hBl,hBs,hb4,rfl⟩
  ac_rfl
  refine jq (fun ρ=>∃ (B:List Str) (b0 b1 b2:Int),B.length≤2∧(B.map (·.length)).sum≤2 * z.length+9∧BagB b1 b2 (n+4)∧ρ=[some (cY b0 b1 b2),some (.fz (.str z)),some (.fz (.lst (W.map .str))),some (.fz (.int way)),some (.fz (.int a)),some (.fz (.int oth)),some (.fz (.lst (nY.map .str))),some (.fz (.lst (B.map .str)))]) ?_ ?_
  ·rintro ρ ⟨B,c0,c1,c2,hBl,hBs,hb4,rfl⟩
   ac_rfl
   refine jq (fun ρ=>∃ (B:List Str) (b0 b1 b2:Int),B.length≤2∧(B.map (·.length)).sum≤2 * z.length+9∧BagB b1 b2 (n+5)∧ρ=[some (cY b0 b1 b2),some (.fz (.str z)),some (.fz (.lst (W.map .str))),some (.fz (.int way)),some (.fz (.int a)),some (.fz (.int oth)),some (.fz (.lst (nY.map .str))),some (.fz (.lst (B.map .str)))]) ?_ ?_
   ·rintro ρ ⟨B,c0,c1,c2,hBl,hBs,hb5,rfl⟩
    have k1:(dR W none (some a)).length+(dR W (some (a+1)) none).length≤W.length∧((dR W none (some a)).map (·.length)).sum+((dR W (some (a+1)) none).map (·.length)).sum≤(W.map (·.length)).sum:=by
     obtain ⟨k,rfl⟩:=Int.eq_ofNat_of_zero_le a0
     have e1:=kH W k
     have e2:=gw W (k+1)
     have e3:=pv (W.drop k) 1
     rw [List.drop_drop] at e3
     have e4:(W.map (·.length)).sum=((W.take k).map (·.length)).sum+((W.drop k).map (·.length)).sum:=by
      rw [← List.sum_append,← List.map_append,List.take_append_drop]
     have e2':dR W (some ((k:Int)+1)) none=W.drop (k+1):=e2
     rw [e1,e2']
     refine ⟨?_,by nofun⟩
     rw [List.length_take,List.length_drop]
     nofun
    generalize hX:dR W none (some a)=X1 at k1
    generalize hY:dR W (some (a+1)) none=X2 at k1
    ac_rfl
    rw [ln,hX]
    ac_rfl
    refine ⟨by rw [List.length_map,List.length_map]; nofun,?_⟩
    rw [← List.map_append]
    ac_rfl
    rw [ln,hY]
    ac_rfl
    refine ⟨by rw [List.length_map,List.length_map,List.length_append]; nofun,?_⟩
    rw [← List.map_append]
    have t1:((X1++B++X2).map (·.length)).sum=(X1.map (·.length)).sum+(B.map (·.length)).sum+(X2.map (·.length)).sum:=by
     rw [List.map_append,List.map_append,List.sum_append,List.sum_append]
    have t2:(X1++B++X2).length=X1.length+B.length+X2.length:=by
     rw [List.length_append,List.length_append]
    have t3:=ls (Str.ofString " ") (X1++B++X2)
    refine hU ⟨by rw [hsp,Nat.mul_one]; nofun,?_⟩
    ac_rfl
    refine q _ _ _ _ ?_ (hb5.mono (by nofun))
    rw [hsp,Nat.mul_one] at t3
    nofun
   ·intro aw
    ac_rfl
    refine ⟨bz,?_⟩
    ac_rfl
    refine bd (way=2) bS (fun _=>?_) (fun _=>?_)
    ·ac_rfl
     refine bH (n+4) hb4 (by nofun) (by decide) (by decide) fun r b0 b1 b2 r0 r1 hb5=>?_
     ac_rfl
     refine lu (zs:=nY) r0 (by show r < 15; exact r1) fun y hy=>?_
     ac_rfl
     refine ⟨pz,?_⟩
     have hy9:=wG y hy
     exact aw _ ⟨[y],b0,b1,b2,by decide +revert,by show y.length+0≤_; nofun,hb5.mono (by nofun),rfl⟩
    ·exact aw _ ⟨B,c0,c1,c2,hBl,hBs,hb4.mono (by nofun),rfl⟩
  ·intro aw
   ac_rfl
   refine ⟨bz,?_⟩
   ac_rfl
   refine bd (way=1) bS (fun _=>?_) (fun _=>?_)
   ·have ca:=uq W a0
    have cb:=cs (some a) (some (a+1))
    ac_rfl
    rw [ln]
    ac_rfl
    refine ⟨by rw [List.length_map]; nofun,?_⟩
    rw [← List.map_append]
    exact aw _ (eS _ _ _ (dR W (some a) (some (a+1))++dR W (some a) (some (a+1))) (by rw [List.length_append]; nofun) (by rw [List.map_append,List.sum_append]; nofun) hb4)
   ·exact aw _ (eS _ _ _ B hBl hBs hb4)
 ·intro aw
  ac_rfl
  refine ⟨bz,?_⟩
  ac_rfl
  refine bd (way=0) bS (fun _=>?_) (fun _=>?_)
  ·ac_rfl
   refine ⟨Nat.zero_le _,?_⟩
   exact aw _ (eS _ _ _ [] (Nat.zero_le _) (Nat.zero_le _) (hb3.mono (by nofun)))
  ·exact aw _ (eS _ _ _ B (by nofun) (by nofun) (hb3.mono (by nofun)))
theorem wH {b0 b1 b2:Int}(n:Int){z:Str}{P:OV→List OV→Prop}(hb:BagB b1 b2 n)(hn:n < 2 ^ 37)(hz:z.length≤120000)(h:∀ (y:Str) (b0' b1' b2':Int),y.length≤3 * z.length+20→BagB b1' b2' (n+10)→P (.fz (.str y)) [cY b0' b1' b2',.fz (.str z)]):aJ [cY b0 b1 b2,.fz (.str z)] P:=by
 unfold aJ
 exact ⟨b0,b1,b2,n,z,rfl,hb,hn,hz,h⟩
abbrev il:Stmt:=top 45
theorem wI:FnScope ["bag", "text", "way", "words", "at", "place"] ["bag", "text"] (ak il):=⟨rfl,rfl,rfl,by decide +kernel,rfl,by decide +kernel,by decide +kernel⟩
def uu:FS :=
  (bI (de (bx af (ac (av 0) (ac (fC (.int 4)) bc))) (az 2))
  (bI (sy 3 (fT1 jt (av 1) (fC (.str " "))))
  (bI (de (bx af (ac (av 0) (ac (fFz (fCB gP (ac (av 3) bc))) bc))) (az 4))
  (bI (de (bx af (ac (av 0) (ac (fFz (fOp cL (fCB gP (ac (av 1) bc)) (fC (.int 1)))) bc))) (az 5))
  (bI (fIf (bj (fOp aEq (av 2) (fC (.int 0))))
   (bI (mv 3 (fT0 tt (fOp aIx (av 3) (av 4))) (av 4))
  (cX (qj (fC (.str " ")) (av 3))))
   bX)
  (bI (fIf (bj (fOp aEq (av 2) (fC (.int 1))))
   (cX (fOp cL (fOp cL (fSl iC (av 1) bW (da (av 5))) (fOp nO (bx bw (ac (av 0) bc)) (fOp cL (fC (.int 1)) (bx af (ac (av 0) (ac (fC (.int 40)) bc)))))) (fSl iC (av 1) (da (av 5)) bW)))
   bX)
  (bI (fIf (bj (fOp aEq (av 2) (fC (.int 2))))
   (cX (qj (fC (.str "; ")) (fRv (fT1 jt (av 1) (fC (.str "; "))))))
   bX)
  (cX (Dt " " "  " (av 1))))))))))
theorem Ea:List.Nodup [("bag" : Str),("text" : Str),("way" : Str),("words" : Str),("at" : Str),("place" : Str)]:=by decide +kernel
theorem wJ {f:Addr} {fd:FuncData} (F:Fun K "_law_whole_turned" "_law_whole_turned" il f fd) (T:Txt K mg) (O_law_draw:Own P w K mg base "_law_draw" 1 ["bag", "many"] (spM K af)) (O_law_sign:Own P w K mg base "_law_sign" 2 ["bag"] (spM K bw))
  (hlen:∀ os P,aK os P→os.length=2∧∀ j o,os[j]?=some o→j ∉ ([0]:List Nat)→df o=true)
  (hc:∀ os P,aK os P→uu { nx:=fin [0] os P (.fz .non),rt:=fin [0] os P } (aU 6 os)) :
  FnOk P w K mg base CX0 3 f fd ["bag", "text"] (spM K aK) :=
 Fun.okG 6 [0] F wI rfl (by decide) hlen (by decide) (fun cdv A outer s H E hr=>⟨_,(ad (aL (i:=2) Ea rfl (Or.inl rfl) (aP O_law_draw (hr.mono (by decide)) (au (ae 0) (au ai ag rfl) rfl) rfl rfl) rfl (Or.inl rfl))
  (ad (aL (i:=3) Ea rfl (Or.inl rfl) (dm K PySem.F.plainAttrs_str PySem.F.slot_str_split PySem.F.type_str_split gI (ae 1) (au am ag rfl) rfl rfl rfl (by decide) rfl) rfl (Or.inl rfl))
  (ad (aL (i:=4) Ea rfl (Or.inl rfl) (aP O_law_draw (hr.mono (by decide)) (au (ae 0) (au (ay (cJ K rfl) T.n_len cG (au (ae 3) ag rfl) rfl rfl) ag rfl) rfl) rfl rfl) rfl (Or.inl rfl))
  (ad (aL (i:=5) Ea rfl (Or.inl rfl) (aP O_law_draw (hr.mono (by decide)) (au (ae 0) (au (bu (aW K rfl) (ay (cJ K rfl) T.n_len cG (au (ae 1) ag rfl) rfl rfl) ai) ag rfl) rfl) rfl rfl) rfl (Or.inl rfl))
  (ad (bQ (bh (bE K hr.units rfl) (ae 2) ai aA)
   (ad (jZ (vk K PySem.F.plainAttrs_str PySem.F.slot_str_upper PySem.F.type_str_upper vX (bO K hr.units (ae 3) (ae 4) (fun _ _=>rfl) rfl) rfl rfl rfl) (oq (ae 3) (ae 4) (fun _=>rfl)) rfl rfl rfl)
  (al (aN (dm K PySem.F.plainAttrs_str PySem.F.slot_str_join PySem.F.type_str_join (i4 K rfl) am (au (ae 3) ag rfl) rfl rfl rfl (by decide) rfl))))
   aO)
  (ad (bQ (bh (bE K hr.units rfl) (ae 2) ai aA)
   (al (aN (bu (aW K rfl) (bu (aW K rfl) (bi K (ae 1) cg (bA (ae 5)) rfl) (bu ke (aP O_law_sign (hr.mono (by decide)) (au (ae 0) ag rfl) rfl rfl) (bu (aW K rfl) ai (aP O_law_draw (hr.mono (by decide)) (au (ae 0) (au ai ag rfl) rfl) rfl rfl)))) (bi K (ae 1) (bA (ae 5)) cg rfl))))
   aO)
  (Av (bE K hr.units rfl) (ae 2) aA (al (aN (dm K PySem.F.plainAttrs_str PySem.F.slot_str_join PySem.F.type_str_join (i4 K rfl) am (au (yb K (dm K PySem.F.plainAttrs_str PySem.F.slot_str_split PySem.F.type_str_split gI (ae 1) (au am ag rfl) rfl rfl rfl (by decide) rfl) Du rfl) ag rfl) rfl rfl rfl (by decide) rfl))) (by decide +kernel) (ae 1) rfl rfl))))))),
  (ar (aS (aB (c:=af) (aa ax (aa aj ah))) (cO (by decide)) (ao (by decide)))
  (ar (kU (nM gJ ax ap) (by decide))
  (ar (aS (aB (c:=af) (aa ax (aa (cM (bN cK (aa ax ah))) ah))) (cO (by decide)) (ao (by decide)))
  (ar (aS (aB (c:=af) (aa ax (aa (cM (aq aX (bN cK (aa ax ah)) aj)) ah))) (cO (by decide)) (ao (by decide)))
  (ar (bY (aG (aq bF ax aj))
   (ar (iK (by decide) (tD (aq bP ax ax)) ax)
  (aQ (jl ap ax)))
   aV)
  (ar (bY (aG (aq bF ax aj))
   (aQ (aq aX (aq aX (dB dH ax ci (bB ax)) (aq kf (aB (c:=bw) (aa ax ah)) (aq aX aj (aB (c:=af) (aa ax (aa aj ah)))))) (dB dH ax (bB ax) ci)))
   aV)
  (ar (bY (aG (aq bF ax aj))
   (aQ (jl ap (Ds (nM gJ ax ap))))
   aV)
  (aQ (Au ax)))))))))⟩) hc
theorem A7 (os:List OV)(P:OV→List OV→Prop)(h:aK os P):os.length=2∧∀ j o,os[j]?=some o→j ∉ ([0]:List Nat)→df o=true:=by
 unfold aK at h
 obtain ⟨b0,b1,b2,n,z,rfl,_⟩:=h
 exact Aw
theorem A8 {z:Str}(hz:z.length≤200):(Txt.replace z (Str.ofString " ") (Str.ofString "  ")).length≤10000:=by
 unfold Txt.replace
 split
 ·nofun
 ·have h1:=StrLaws.occ_length_le z (Str.ofString " ") 0 z.length (z.length+1)
  have hy:=congrArg Str.length (StrLaws.glued_between_self z (Str.ofString " ") (z.length+1))
  rw [size_glued,length_partsBetween,Nat.add_sub_cancel] at hy
  rw [size_glued,length_partsBetween,Nat.add_sub_cancel,ur]
  nofun
theorem A9 (os:List OV)(P:OV→List OV→Prop)(h:aK os P):uu { nx:=fin [0] os P (.fz .non),rt:=fin [0] os P } (aU 6 os):=by
 unfold aK at h
 obtain ⟨b0,b1,b2,n,z,rfl,hb,hn,hz,q⟩:=h
 have sz:=dD
 have hc:=dQ z (Str.ofString " ")
 have hp:=mX z (Str.ofString " ")
 have hs:=jE z (Str.ofString " ")
 have hsp:=jC
 have cl:∀ lo hi,(gZ z lo hi).length≤z.length:=nX z
 ac_rfl
 refine bH n hb (by nofun) (by decide) (by decide) fun way b0 b1 b2 w0 w1 hb1=>?_
 ac_rfl
 refine ⟨⟨by decide +kernel,by nofun⟩,?_⟩
 generalize hW:Txt.split z (Str.ofString " ")=W at hc hp hs
 have hWp:∀ y ∈ W,y.length≤z.length:=fun y hy=>ig (y:=Str.ofString " ") (by rw [hW]; exact hy)
 ac_rfl
 rw [List.length_map]
 refine bH (n+1) hb1 (by nofun) (by nofun) (by nofun) fun a b0 b1 b2 a0 a1 hb2=>?_
 ac_rfl
 refine ⟨by nofun,?_⟩
 ac_rfl
 refine bH (n+1+1) hb2 (by nofun) (by nofun) (by nofun) fun pl b0 b1 b2 p0 p1 hb3=>?_
 ac_rfl
 refine cN ?_
 ac_rfl
 refine ⟨bz,?_⟩
 ac_rfl
 refine bd (way=0) bS (fun _=>?_) (fun n0=>?_)
 ·ac_rfl
  refine lu (zs:=W) a0 a1 fun y hy=>?_
  have hyl:=hWp y hy
  have hu:=PyProof.Rows.len_upper y
  ac_rfl
  refine ⟨PyProof.Rows.fit_upper (by nofun),?_⟩
  have x1:ixN (W.map D.str).length a=some a.toNat:=by unfold ixN; rw [if_pos a0,if_pos (by rw [List.length_map]; exact a1)]
  ac_rfl
  refine ⟨rfl,?_⟩
  ac_rfl
  rw [x1]
  ac_rfl
  rw [um]
  have t1:=AT W a.toNat (Txt.upper y)
  have t2:=ls (Str.ofString " ") (W.set a.toNat (Txt.upper y))
  rw [List.length_set,hsp,Nat.mul_one] at t2
  refine hU ⟨by rw [List.length_set,hsp,Nat.mul_one]; nofun,?_⟩
  ac_rfl
  exact q _ _ _ _ (by nofun) (hb3.mono (by nofun))
 ac_rfl
 refine cN ?_
 ac_rfl
 refine ⟨bz,?_⟩
 ac_rfl
 refine bd (way=1) bS (fun _=>?_) (fun n1=>?_)
 ·have c1:=cl none (some pl)
  have c2:=cl (some pl) none
  ac_rfl
  refine ⟨by nofun,?_⟩
  ac_rfl
  refine lv (n+1+1+1) hb3 (by nofun) fun c b0 b1 b2 hb4=>?_
  have c3:=ii c
  ac_rfl
  refine bH (n+1+1+1+1) hb4 (by nofun) (by decide) (by decide) fun r b0 b1 b2 r0 r1 hb5=>?_
  have c4:=hV ⟨#[c]⟩ (1+r)
  rw [c3,Nat.one_mul] at c4
  ac_rfl
  refine ⟨⟨by nofun,by nofun,by rw [c3]; nofun⟩,?_⟩
  ac_rfl
  refine ⟨by nofun,?_⟩
  ac_rfl
  refine ⟨by nofun,?_⟩
  ac_rfl
  refine ⟨by rw [cE]; nofun,?_⟩
  ac_rfl
  exact q _ _ _ _ (by rw [cE,cE]; nofun) (hb5.mono (by nofun))
 ac_rfl
 refine cN ?_
 ac_rfl
 refine ⟨bz,?_⟩
 ac_rfl
 refine bd (way=2) bS (fun _=>?_) (fun n2=>?_)
 ·have d1:=dQ z (Str.ofString "; ")
  have d2:=jE z (Str.ofString "; ")
  have d3:=DJ
  ac_rfl
  refine ⟨⟨by decide +kernel,by nofun⟩,?_⟩
  generalize Txt.split z (Str.ofString "; ")=V at d1 d2
  ac_rfl
  rw [← List.map_reverse]
  have d4:=AU V
  have d5:=ls (Str.ofString "; ") V.reverse
  rw [List.length_reverse,d3] at d5
  refine hU ⟨by rw [List.length_reverse,d3]; nofun,?_⟩
  ac_rfl
  exact q _ _ _ _ (by nofun) (hb3.mono (by nofun))
 ·ac_rfl
  refine ⟨by rw [ur]; nofun,?_⟩
  ac_rfl
  exact q _ _ _ _ (A8 hz) (hb3.mono (by nofun))
theorem wK {b0 b1 b2:Int}(n:Int){z:Str}{P:OV→List OV→Prop}(hb:BagB b1 b2 n)(hn:n < 2 ^ 37)(hz:z.length≤200)(h:∀ (y:Str) (b0' b1' b2':Int),y.length≤10000→BagB b1' b2' (n+10)→P (.fz (.str y)) [cY b0' b1' b2',.fz (.str z)]):aK [cY b0 b1 b2,.fz (.str z)] P:=by
 unfold aK
 exact ⟨b0,b1,b2,n,z,rfl,hb,hn,hz,h⟩
end
end KR
set_option maxHeartbeats 4000000
namespace KR
open PySem L2
theorem qE (s a x:Str)(l:List Str):Builtin.Str.glued s ((a::l)++[x])=Builtin.Str.glued s (a::l)++s++x:=by
 apply bC
 rw [cT,cT]
 show ((((a::l)++[x]).drop 1).foldl (fun acc p=>acc++s.cps++p.cps) a.cps).toList=(((a::l).drop 1).foldl (fun acc p=>acc++s.cps++p.cps) a.cps).toList++_++_
 show ((l++[x]).foldl (fun acc p=>acc++s.cps++p.cps) a.cps).toList=(l.foldl (fun acc p=>acc++s.cps++p.cps) a.cps).toList++_++_
 rw [List.foldl_append,List.foldl_cons,List.foldl_nil,Array.toList_append,Array.toList_append]
theorem wL {word:Str}{aw:List Str}(h:dP word aw)(i:Nat):(Builtin.Str.glued (Str.ofString " ") (word::aw.take i)).length≤100:=by
 have e:Builtin.Str.glued (Str.ofString " ") (word::aw.take i)=Str.join (Str.ofString " ") (word::aw.take i):=StrLaws.glued_eq_join _ _
 rw [e]
 have h1:=StrLaws.join_length_le (Str.ofString " ") (word::aw.take i)
 rw [jC] at h1
 have hp:=jD h
 rw [List.map_cons,List.sum_cons,List.length_cons] at h1 hp
 have hs:((aw.take i).map (·.length)).sum≤(aw.map (·.length)).sum:=by
  have e2:(aw.map (·.length)).sum=((aw.take i).map (·.length)).sum+((aw.drop i).map (·.length)).sum:=by
   rw [← List.sum_append,← List.map_append,List.take_append_drop]
  nofun
 have hl:(aw.take i).length≤aw.length:=by rw [List.length_take]; nofun
 nofun
@[irreducible] def aY:Ct:=fun os P=>∃ (word:Str) (aw:List Str),os=[.fz (dE word aw)]∧dP word aw∧P (.fz (.str (dg word aw))) os
def qH (y:Str):List Str→List Nat
 | []=>[]
 | a::l=>a.cps.toList++y.cps.toList++qH y l
theorem mZ (y x:Str):∀ l:List Str,qH y (l++[x])=qH y l++x.cps.toList++y.cps.toList
 | []=>by simp [qH]
 | a::l=>by
  show a.cps.toList++y.cps.toList++qH y (l++[x])=a.cps.toList++y.cps.toList++qH y l++x.cps.toList++y.cps.toList
  rw [mZ y x l]
  simp only [List.append_assoc]
theorem pA (y x:Str):∀ l:List Str,(Str.join y (l++[x])).cps.toList=qH y l++x.cps.toList
 | []=>rfl
 | [a]=>by
  show (Str.join y [a,x]).cps.toList=a.cps.toList++y.cps.toList++[]++x.cps.toList
  rw [dz,List.append_nil]
  rfl
 | a::b::l=>by
  show (Str.join y (a::b::(l++[x]))).cps.toList=a.cps.toList++y.cps.toList++qH y (b::l)++x.cps.toList
  rw [dz,show b::(l++[x])=(b::l)++[x] from rfl,pA y x (b::l)]
  simp only [List.append_assoc]
theorem wM {z:Str} {l:List Str} {x:Str} (h:qH (Str.ofString " ") l++x.cps.toList=z.cps.toList) (hn:∀ p ∈ l++[x],32 ∉ p.cps.toList):Txt.split z (Str.ofString " ")=l++[x]:=by
 have e:z=Str.join (Str.ofString " ") (l++[x]):=bC (by rw [pA]; exact h.symm)
 rw [e]
 refine kc _ (by decide +kernel) (by decide +kernel) _ (by simp) fun p hp=>?_
 rw [fB]
 exact fK (hn p hp)
@[irreducible] def bL:Ct:=fun os P=>∃ z:Str,os=[.fz (.str z)]∧z.length≤120000∧P (.fl ((Txt.split z (Str.ofString " ")).map .str)) os
@[irreducible] def aT:Ct:=fun os P=>∃ d:D,os=[.fz d]∧smD d=true∧(∀ z,d=.str z→z.length≤120000)∧(∀ word aw,d=.str (dg word aw)→dP word aw→P (.fz (dE word aw)) os)∧((∀ z,d=.str z→¬ wx z)→P (.fz .non) os)
@[irreducible] def ce:Ct:=fun os P=>∃ (b0 b1 b2 n:Int),os=[cY b0 b1 b2]∧BagB b1 b2 n∧n < 2 ^ 37∧∀ (y:Str) (b0' b1' b2':Int),y.length≤4000→BagB b1' b2' (n+10)→P (.fz (.str y)) [cY b0' b1' b2']
@[irreducible] def ba:Ct:=fun os P=>∃ (b0 b1 b2 n:Int),os=[cY b0 b1 b2]∧BagB b1 b2 n∧n < 2 ^ 37∧∀ (d:D) (b0' b1' b2':Int),smD d=true→(∀ z,d=.str z→z.length≤100)→BagB b1' b2' (n+10)→P (.fz d) [cY b0' b1' b2']
theorem yk {c:Nat}:(⟨#[c]⟩:Str) = " " ↔ c=32:=by
 constructor
 ·intro e
  have:=congrArg (fun s=>s.cps.toList) e
  have h2:(Str.ofString " ").cps.toList=[32]:=fB
  have h3:[c]=[32]:=this.trans h2
  exact (List.cons.inj h3).1
 ·rintro rfl
  exact bC fB.symm
theorem Ba {α β:Type}(f:α→β)(l:List α)(x:α):atI ((l++[x]).map f) (-1)=some (f x):=by
 unfold atI ixN
 rw [List.length_map,List.length_append,List.length_singleton]
 rw [if_neg (by decide),if_pos (by nofun)]
 have e:((-1:Int)+((l.length+1:Nat):Int)).toNat=l.length:=by nofun
 rw [e]
 show ((l++[x]).map f)[l.length]?=some (f x)
 rw [List.getElem?_map,List.getElem?_append_right (Nat.le_refl _),Nat.sub_self]
 rfl
theorem Bb (n:Nat):ixN (n+1) (-1)=some n:=by
 unfold ixN
 rw [if_neg (by decide),if_pos (by nofun)]
 have e:((-1:Int)+((n+1:Nat):Int)).toNat=n:=by nofun
 rw [e]
theorem wN {α:Type}(l:List α)(x y:α):(l++[x]).set l.length y=l++[y]:=by
 rw [List.set_append_right _ _ (Nat.le_refl _),Nat.sub_self]
 rfl
section
variable {P:Program} {w:World} {K:PySem.W.Frag} {mg:Str→Option Value} {base:Heap}
abbrev fR:Stmt:=top 41
theorem uv:FnScope ["form", "text", "part"] ["form"] (ak fR):=⟨rfl,rfl,rfl,by decide +kernel,rfl,by decide +kernel,by decide +kernel⟩
def pB:FS :=
  (bI (de (fOp aIx (av 0) (fC (.int 0))) (az 1))
  (bI (CO (vx (fSl iC (av 0) (da (fC (.int 1))) bW)) (az 2)
   (de (fOp cL (fOp cL (av 1) (fC (.str " "))) (av 2)) (az 1)))
  (cX (av 1))))
theorem E4:List.Nodup [("form" : Str),("text" : Str),("part" : Str)]:=by decide +kernel
theorem uw {f:Addr} {fd:FuncData} (F:Fun K "_law_form_shown" "_law_form_shown" fR f fd) (T:Txt K mg)
  (hlen:∀ os P,aY os P→os.length=1∧∀ j o,os[j]?=some o→j ∉ ([]:List Nat)→df o=true)
  (hc:∀ os P,aY os P→pB { nx:=fin [] os P (.fz .non),rt:=fin [] os P } (aU 3 os)) :
  FnOk P w K mg base CX0 1 f fd ["form"] (spM K aY) :=
 Fun.okG 3 [] F uv rfl (by decide) hlen (by decide) (fun cdv A outer s H E hr=>⟨_,(ad (aL (i:=1) E4 rfl (Or.inl rfl) (bO K hr.units (ae 0) ai (fun _ _=>rfl) rfl) rfl (Or.inl rfl))
  (ad (ot PassesOwn.never rfl (rT K (bi K (ae 0) (bA ai) cg rfl) rfl) (cu (i:=2) E4 rfl (Or.inl rfl) (Or.inl rfl))
   (al (aL (i:=1) E4 rfl (Or.inl rfl) (bu (aW K rfl) (bu (aW K rfl) (ae 1) am) (ae 2)) rfl (Or.inl rfl))) (fun _=>rfl))
  (al (aN (ae 1))))),
  (ar (aS (aq bP ax aj) (cO (by decide)) (ao (by decide)))
  (ar (oD (ny (dB dH ax (bB aj) ci)) (cO (by decide)) (ao (by decide))
   (aS (aq aX (aq aX ax ap) ax) (cO (by decide)) (ao (by decide))))
  (aQ ax)))⟩) hc
theorem wO (os:List OV)(P:OV→List OV→Prop)(h:aY os P):os.length=1∧∀ j o,os[j]?=some o→j ∉ ([]:List Nat)→df o=true:=by
 unfold aY at h
 obtain ⟨word,aw,rfl,_⟩:=h
 exact fzo
theorem wP (os:List OV)(P:OV→List OV→Prop)(h:aY os P):pB { nx:=fin [] os P (.fz .non),rt:=fin [] os P } (aU 3 os):=by
 unfold aY at h
 obtain ⟨word,aw,rfl,hf,q⟩:=h
 have sz:=dD
 have ec:dR (D.str word::aw.map D.str) (some 1) none=aw.map D.str:=jB
 ac_rfl
 refine gm ?_
 ac_rfl
 rw [ec]
 refine iP (fun i ρ=>∃ x:Option OV,ρ=[some (.fz (dE word aw)),some (.fz (.str (Builtin.Str.glued (Str.ofString " ") (word::aw.take i)))),x]) ⟨none,rfl⟩ ?_ ?_
 ·rintro i d ρ R hd ⟨x,rfl⟩ kk
  rw [List.getElem?_map,Option.map_eq_some_iff] at hd
  obtain ⟨z,hz,rfl⟩:=hd
  have h1:=wL hf i
  have h2:z.length≤40:=by
   rcases cQ hf with ⟨_,_,hr⟩ | ⟨_,z',rfl,hs⟩
   ·rw [aM]; exact Nat.le_trans (hr z (List.mem_of_getElem? hz)).2.1 (by decide)
   ·have e:z=z':=by simpa using List.mem_of_getElem? hz
    rw [e,aM]; exact hs.2.1
  ac_rfl
  refine ⟨by rw [jC]; nofun,?_⟩
  ac_rfl
  refine ⟨by rw [cE,jC]; nofun,?_⟩
  ac_rfl
  refine kk _ ⟨some (.fz (.str z)),?_⟩
  have e:Builtin.Str.glued (Str.ofString " ") (word::aw.take (i+1))=Builtin.Str.glued (Str.ofString " ") (word::aw.take i)++Str.ofString " " ++ z:=by
   rw [List.take_add_one,hz]
   exact qE ..
  rw [e]
  rfl
 ·rintro ρ ⟨x,rfl⟩
  rw [List.length_map,List.take_of_length_le (Nat.le_refl _)]
  ac_rfl
  exact q
theorem ux {word:Str}{aw:List Str}{P:OV→List OV→Prop}(hf:dP word aw)(h:P (.fz (.str (dg word aw))) [.fz (dE word aw)]):aY [.fz (dE word aw)] P:=by
 unfold aY
 exact ⟨word,aw,rfl,hf,h⟩
abbrev fS:Stmt:=top 42
theorem uy:FnScope ["text", "words", "sign"] ["text"] (ak fS):=⟨rfl,rfl,rfl,by decide +kernel,rfl,by decide +kernel,by decide +kernel⟩
def pD:FS :=
  (bI (sy 1 (iF (ac (fC (.str "")) bc)))
  (bI (CO (qa (av 0)) (az 2)
   (fIf (bj (fOp aEq (av 2) (fC (.str " "))))
   (CN (EO 1 (fC (.str ""))))
   (mv 1 (fOp cL (fOp aIx (av 1) (EU (fC (.int 1)))) (av 2)) (EU (fC (.int 1))))))
  (cX (av 1))))
theorem FH:List.Nodup [("text" : Str),("words" : Str),("sign" : Str)]:=by decide +kernel
theorem uz {f:Addr} {fd:FuncData} (F:Fun K "_law_words" "_law_words" fS f fd) (T:Txt K mg)
  (hlen:∀ os P,bL os P→os.length=1∧∀ j o,os[j]?=some o→j ∉ ([]:List Nat)→df o=true)
  (hc:∀ os P,bL os P→pD { nx:=fin [] os P (.fz .non),rt:=fin [] os P } (aU 3 os)) :
  FnOk P w K mg base CX0 1 f fd ["text"] (spM K bL) :=
 Fun.okG 3 [] F uy rfl (by decide) hlen (by decide) (fun cdv A outer s H E hr=>⟨_,(ad (aL (i:=1) FH rfl (Or.inl rfl) (cZ (au am ag rfl)) rfl (Or.inl rfl))
  (ad (ot PassesOwn.never rfl (mf K (ae 0) rfl) (cu (i:=2) FH rfl (Or.inl rfl) (Or.inl rfl))
   (al (bQ (bh (bE K hr.units rfl) (ae 2) am aA)
   (al (zx (dm K PySem.F.plainAttrs_list PySem.F.slot_list_append PySem.F.type_list_append (rW K rfl) (ae 1) (au am ag rfl) rfl rfl rfl (by decide) rfl) rfl))
   (al (jZ (bu (aW K rfl) (bO K hr.units (ae 1) (rP ai) (fun _ _=>rfl) rfl) (ae 2)) (oq (ae 1) (rP ai) (fun _=>rfl)) rfl rfl rfl)))) (fun _=>rfl))
  (al (aN (ae 1))))),
  (ar (kU (dc (aa ap ah)) (by decide))
  (ar (oD (jd ax) (cO (by decide)) (ao (by decide))
   (bY (aG (aq bF ax ap))
   (zM (Aa (by decide) ap))
   (iK (by decide) (aq aX (aq bP ax (xV aj)) ax) (xV aj))))
  (aQ ax)))⟩) hc
theorem wQ (os:List OV)(P:OV→List OV→Prop)(h:bL os P):os.length=1∧∀ j o,os[j]?=some o→j ∉ ([]:List Nat)→df o=true:=by
 unfold bL at h
 obtain ⟨z,rfl,_⟩:=h
 exact fzo
theorem wR (os:List OV)(P:OV→List OV→Prop)(h:bL os P):pD { nx:=fin [] os P (.fz .non),rt:=fin [] os P } (aU 3 os):=by
 unfold bL at h
 obtain ⟨z,rfl,hl,q⟩:=h
 have sz:=dD
 ac_rfl
 refine ⟨pz,?_⟩
 ac_rfl
 refine iP (fun i ρ=>∃ (L:List Str) (y:Str) (x:Option OV),qH (Str.ofString " ") L++y.cps.toList=z.cps.toList.take i∧(∀ p ∈ L++[y],32 ∉ p.cps.toList)∧L.length≤i∧y.length≤i∧ρ=[some (.fz (.str z)),some (.fl ((L++[y]).map .str)),x]) ⟨[],Str.ofString "", none,by simp [qH]; decide +kernel,(fun p hp=>by rw [List.mem_singleton.mp hp]; decide +kernel),Nat.le_refl _,by decide +kernel,rfl⟩ ?_ ?_
 ·rintro i d ρ R hd ⟨L,y,x,hJ,hN,hLl,hyl,rfl⟩ kk
  obtain ⟨c,hc,rfl⟩:=jz hd
  have hi:=(List.getElem?_eq_some_iff.mp hc).1
  have hzl:=aM z
  have tk:z.cps.toList.take (i+1)=z.cps.toList.take i++[c]:=by rw [List.take_add_one,hc]; rfl
  ac_rfl
  refine cN ?_
  ac_rfl
  refine ⟨cm,?_⟩
  ac_rfl
  refine bd ((⟨#[c]⟩:Str) = " ") cP (fun e=>?_) (fun e=>?_)
  ·ac_rfl
   refine ⟨rfl,?_⟩
   ac_rfl
   refine ⟨by rw [List.length_map,List.length_append,List.length_singleton]; nofun,?_⟩
   refine kk _ ⟨L++[y],Str.ofString "", some (.fz (.str ⟨#[c]⟩)),?_,fun p hp=>?_,by rw [List.length_append,List.length_singleton]; nofun,Nat.zero_le _,?_⟩
   rotate_left 2
   ·rw [List.map_append (l₁:=L++[y])]; rfl
   ·rw [mZ,hJ,tk,yk.mp e,fB,show (Str.ofString "").cps.toList=[] from by decide +kernel,List.append_nil]
   ·rcases List.mem_append.mp hp with h | h
    ·exact hN p h
    ·rw [List.mem_singleton.mp h]; decide +kernel
  ·ac_rfl
   rw [Ba]
   ac_rfl
   refine ⟨by rw [ii]; nofun,?_⟩
   ac_rfl
   refine ⟨rfl,?_⟩
   ac_rfl
   rw [show ((L++[y]).map D.str).length=L.length+1 by rw [List.length_map,List.length_append]; rfl,Bb]
   ac_rfl
   rw [um,wN]
   refine kk _ ⟨L,y++⟨#[c]⟩,_,?_,fun p hp=>?_,by nofun,by rw [cE,ii]; nofun,rfl⟩
   ·rw [cT,← List.append_assoc,hJ,tk]
   ·rcases List.mem_append.mp hp with h | h
    ·exact hN p (List.mem_append_left _ h)
    ·rw [List.mem_singleton.mp h,cT]
     intro hm
     rcases List.mem_append.mp hm with h2 | h2
     ·exact hN y (by simp) h2
     ·exact e (yk.mpr (List.mem_singleton.mp h2).symm)
 ·rintro ρ ⟨L,y,x,hJ,hN,hLl,hyl,rfl⟩
  have hfull:qH (Str.ofString " ") L++y.cps.toList=z.cps.toList:=by
   rw [hJ,List.take_of_length_le]
   unfold eW
   rw [List.length_map]
   exact Nat.le_refl _
  rw [← wM hfull hN]
  ac_rfl
  exact q
theorem uA {z:Str} {P:OV→List OV→Prop} (hl:z.length≤120000) (h:P (.fl ((Txt.split z (Str.ofString " ")).map .str)) [.fz (.str z)]):bL [.fz (.str z)] P:=by
 unfold bL
 exact ⟨z,rfl,hl,h⟩
theorem uB (z:Str):gZ z none (some 6)=⟨(z.cps.toList.take 6).toArray⟩:=by
 apply bC
 rw [eI]
 exact kH z.cps.toList 6
theorem m3 (z:Str):gZ z (some 6) none=⟨(z.cps.toList.drop 6).toArray⟩:=by
 apply bC
 rw [eI]
 exact gw z.cps.toList 6
theorem sg6:(Str.ofString "signs ").cps.toList=[115,105,103,110,115,32]:=by decide +kernel
theorem sg5:(Str.ofString "signs" ++ Str.ofString " ").cps.toList=(Str.ofString "signs ").cps.toList:=by decide +kernel
theorem DN {z:Str} (h:gZ z none (some 6)=Str.ofString "signs "):z=dg "signs" [gZ z (some 6) none]:=by
 rw [lq]
 apply bC
 rw [cT,sg5,m3]
 have h1:=congrArg (fun s=>s.cps.toList) h
 rw [uB] at h1
 have h1:z.cps.toList.take 6=(Str.ofString "signs ").cps.toList:=h1
 rw [← h1]
 exact (List.take_append_drop 6 _).symm
theorem wS {z y:Str} (h:z=dg "signs" [y]):gZ z none (some 6)=Str.ofString "signs " ∧ gZ z (some 6) none=y:=by
 rw [lq] at h
 have h1:=congrArg (fun s=>s.cps.toList) h
 have h1:z.cps.toList=(Str.ofString "signs" ++ Str.ofString " " ++ y).cps.toList:=h1
 rw [cT,sg5,sg6] at h1
 refine ⟨bC ?_,bC ?_⟩
 ·rw [uB,h1,sg6]
  rfl
 ·rw [m3,h1]
  rfl
abbrev fT:Stmt:=top 43
theorem uC:FnScope ["text", "form"] ["text"] (ak fT):=⟨rfl,rfl,rfl,by decide +kernel,rfl,by decide +kernel,by decide +kernel⟩
def pE:FS :=
  (bI (fIf (jO (bj (fCB cIs (ac (av 0) (ac (fC (.ty "str")) bc)))))
   (cX (fC .non))
   bX)
  (bI (de (fCB ji (ac (bx bL (ac (fFz (av 0)) bc)) bc)) (az 1))
  (bI (fIf (bj (fOp aEq (fSl iC (av 0) bW (da (fC (.int 6)))) (fC (.str "signs "))))
   (de (vv (ac (fC (.str "signs")) (ac (fSl iC (av 0) (da (fC (.int 6))) bW) bc))) (az 1))
   bX)
  (bI (fIf (jO (bj (bx bt (ac (fFz (av 1)) bc))))
   (cX (fC .non))
   bX)
  (cX (av 1))))))
theorem FJ:List.Nodup [("text" : Str),("form" : Str)]:=by decide +kernel
theorem uD {f:Addr} {fd:FuncData} (F:Fun K "_law_read_form" "_law_read_form" fT f fd) (T:Txt K mg) (O_law_words:Own P w K mg base "_law_words" 1 ["text"] (spM K bL)) (O_law_is_form:Own P w K mg base "_law_is_form" 2 ["thing"] (spM K bt))
  (hlen:∀ os P,aT os P→os.length=1∧∀ j o,os[j]?=some o→j ∉ ([]:List Nat)→df o=true)
  (hc:∀ os P,aT os P→pE { nx:=fin [] os P (.fz .non),rt:=fin [] os P } (aU 2 os)) :
  FnOk P w K mg base CX0 3 f fd ["text"] (spM K aT) :=
 Fun.okG 2 [] F uC rfl (by decide) hlen (by decide) (fun cdv A outer s H E hr=>⟨_,(ad (bQ (dh (cq (ay (d0 K rfl) T.n_isinstance aZ (au (ae 0) (au (gx T.n_str fX rfl) ag rfl) rfl) rfl rfl)))
   (al (aN eO))
   aO)
  (ad (aL (i:=1) FJ rfl (Or.inl rfl) (dS (iJ K rfl) T.n_tuple eu (au (aP O_law_words (hr.mono (by decide)) (au (ae 0) ag rfl) rfl rfl) ag rfl) rfl rfl) rfl (Or.inl rfl))
  (ad (bQ (bh (bE K hr.units rfl) (bi K (ae 0) cg (bA ai) rfl) am aA)
   (al (aL (i:=1) FJ rfl (Or.inl rfl) (gb (au am (au (bi K (ae 0) (bA ai) cg rfl) ag rfl) rfl)) rfl (Or.inl rfl)))
   aO)
  (ad (bQ (dh (cq (aP O_law_is_form (hr.mono (by decide)) (au (ae 1) ag rfl) rfl rfl)))
   (al (aN eO))
   aO)
  (al (aN (ae 1))))))),
  (ar (bY (di (kP (bN g5 (aa ax (aa gW ah)))))
   (aQ ja)
   aV)
  (ar (aS (bN iM (aa (aB (c:=bL) (aa (cM ax) ah)) ah)) (cO (by decide)) (ao (by decide)))
  (ar (bY (aG (aq bF (dB dH ax ci (bB aj)) ap))
   (aS (iu (aa ap (aa (dB dH ax (bB aj) ci) ah))) (cO (by decide)) (ao (by decide)))
   aV)
  (ar (bY (di (kP (aB (c:=bt) (aa (cM ax) ah))))
   (aQ ja)
   aV)
  (aQ ax)))))⟩) hc
theorem wT (os:List OV)(P:OV→List OV→Prop)(h:aT os P):os.length=1∧∀ j o,os[j]?=some o→j ∉ ([]:List Nat)→df o=true:=by
 unfold aT at h
 obtain ⟨d,rfl,_⟩:=h
 exact fzo
theorem wU (os:List OV)(P:OV→List OV→Prop)(h:aT os P):pE { nx:=fin [] os P (.fz .non),rt:=fin [] os P } (aU 2 os):=by
 unfold aT at h
 obtain ⟨d,rfl,sm,hl,q1,q2⟩:=h
 have sz:=dD
 ac_rfl
 refine cN ?_
 ac_rfl
 refine ⟨⟨jy sm,rfl⟩,?_⟩
 ac_rfl
 refine bd (¬ ∃ z,d=.str z) (by rw [Bool.not_eq_true',Bool.eq_false_iff,Ne,gK]) (fun h=>?_) (fun h=>?_)
 ·ac_rfl
  exact q2 fun z e=>absurd ⟨z,e⟩ h
 ·obtain ⟨z,rfl⟩:=Classical.not_not.mp h
  have hzl:=hl z rfl
  have hc:=dQ z (Str.ofString " ")
  ac_rfl
  refine uA hzl ?_
  ac_rfl
  refine jq (fun ρ=>(gZ z none (some 6)=Str.ofString "signs " ∧ ρ=[some (.fz (.str z)),some (.fz (dE "signs" [gZ z (some 6) none]))])∨(gZ z none (some 6)≠Str.ofString "signs " ∧ ρ=[some (.fz (.str z)),some (.fz (.tup ((Txt.split z (Str.ofString " ")).map .str)))])) ?_ ?_
  ·rintro ρ (⟨e6,rfl⟩ | ⟨e6,rfl⟩)
   ·have hcl:=nX z (some 6) none
    have h5:(Str.ofString "signs").length≤1000000:=by decide +kernel
    ac_rfl
    refine cN ?_
    ac_rfl
    refine kr (lr (zs:=[Str.ofString "signs", gZ z (some 6) none]) (Nat.le_of_ble_eq_true rfl) (fun y hy=>?_)) fun b hb=>?_
    ·rcases List.mem_cons.mp hy with rfl | hy
     ·exact h5
     ·rw [List.mem_singleton.mp hy]; nofun
    ac_rfl
    refine bd (¬ jx (dE "signs" [gZ z (some 6) none])) (wy hb) (fun h=>?_) (fun h=>?_)
    ·ac_rfl
     refine q2 fun y e W=>?_
     cases e
     obtain ⟨word,aw,hf,e⟩:=W
     have hp:(Txt.partition z (Str.ofString " ")).1=word:=by rw [e]; exact gN hf
     have hp2:(Txt.partition z (Str.ofString " ")).1 = "signs" := by
      rw [DN e6,kt]
     have hw:word = "signs" := hp.symm.trans hp2
     rcases cQ hf with ⟨hn,_⟩ | ⟨_,y,hy,hs⟩
     ·exact hn hw
     ·subst hw hy
      rw [(wS e).2] at h
      exact h (pp hf)
    ·have hf:=iU (Classical.not_not.mp h)
     ac_rfl
     exact q1 _ _ (congrArg D.str (DN e6)) hf
   ·ac_rfl
    refine cN ?_
    ac_rfl
    refine kr (lr (zs:=Txt.split z (Str.ofString " ")) (by nofun) (fun y hy=>Nat.le_trans (ig hy) (by nofun))) fun b hb=>?_
    ac_rfl
    refine bd (¬ jx (.tup ((Txt.split z (Str.ofString " ")).map .str))) (wy hb) (fun h=>?_) (fun h=>?_)
    ·ac_rfl
     refine q2 fun y e W=>?_
     cases e
     obtain ⟨word,aw,hf,e⟩:=W
     by_cases hw:word = "signs"
     ·rcases cQ hf with ⟨hn,_⟩ | ⟨_,y,hy,hs⟩
      ·exact hn hw
      ·subst hw hy
       exact e6 (wS e).1
     ·rw [e,fQ hf hw] at h
      exact h (pp hf)
    ·have h:=Classical.not_not.mp h
     obtain ⟨word,aw,e,_⟩:=id h
     cases es:Txt.split z (Str.ofString " ") with
     | nil=>rw [es] at e; cases e
     | cons a l =>
      rw [es] at h
      ac_rfl
      exact q1 _ _ (congrArg D.str (iD es)) (iU h)
  ·intro aw
   ac_rfl
   refine ⟨by nofun,?_⟩
   ac_rfl
   refine ⟨cm,?_⟩
   ac_rfl
   refine bd (gZ z none (some 6) = "signs ") cP (fun e=>?_) (fun e=>?_)
   ·ac_rfl
    refine ⟨by nofun,?_⟩
    ac_rfl
    refine ⟨uf,?_⟩
    exact aw _ (.inl ⟨e,rfl⟩)
   ·exact aw _ (.inr ⟨e,rfl⟩)
theorem m5 {d:D}{P:OV→List OV→Prop}(sm:smD d=true)(hl:∀ z,d=.str z→z.length≤120000)(h1:∀ word aw,d=.str (dg word aw)→dP word aw→P (.fz (dE word aw)) [.fz d])(h2:(∀ z,d=.str z→¬ wx z)→P (.fz .non) [.fz d]):aT [.fz d] P:=by
 unfold aT
 exact ⟨d,rfl,sm,hl,h1,h2⟩
end
end KR
set_option maxHeartbeats 4000000
namespace KR
open PySem L2
theorem cut4 (z:Str):(gZ z none (some 4000)).length≤4000:=by
 rw [aM,eI]
 have e:dR z.cps.toList none (some (4000:Int))=z.cps.toList.take 4000:=kH z.cps.toList 4000
 rw [e,List.length_take]
 nofun
abbrev ym:List Str:=["; ", "a ", "a = any; ", ";", "=", "any", " ", "row a", "none; "]
theorem uE:∀ z ∈ ym,0 < z.length∧z.length≤9:=by decide +kernel
abbrev FK:List Str:=(["", " ", "none ", " none", "None", "any none", "signs", "signs ", "signs  ", "signs ba", "signs aa", "row"]:List Str)++(["row ", "row  a", "first", "again", "again a b", "ahead a b", "not", "not a ", "rows a", "row A"]:List Str)++(["row a1", "sign ab", "none any", "signs a b", "signs ab ", "first a a a a a a a a a"]:List Str)++(["signs \n", "signs \ta", "none\n", "row a\n", "\nany"]:List Str)
theorem Bc:∀ z ∈ FK,z.length≤100:=by decide +kernel
theorem oddS (d:D)(h:d ∈ FK.map D.str):smD d=true∧∀ z,d=.str z→z.length≤100:=by
 obtain ⟨z,hz,rfl⟩:=List.mem_map.mp h
 have:=Bc z hz
 refine ⟨?_,fun y e=>?_⟩
 ·simp only [smD,decide_eq_true_iff]; nofun
 ·cases e; exact this
section
variable {P:Program} {w:World} {K:PySem.W.Frag} {mg:Str→Option Value} {base:Heap}
abbrev im:Stmt:=top 46
theorem wV:FnScope ["bag", "piece"] ["bag"] (ak im):=⟨rfl,rfl,rfl,by decide +kernel,rfl,by decide +kernel,by decide +kernel⟩
def uF:FS :=
  (bI (de (fOp aIx (iF (ac (fC (.str "; ")) (ac (fC (.str "a ")) (ac (fC (.str "a = any; ")) (ac (fC (.str ";")) (ac (fC (.str "=")) (ac (fC (.str "any")) (ac (fC (.str " ")) (ac (fC (.str "row a")) (ac (fC (.str "none; ")) bc)))))))))) (bx af (ac (av 0) (ac (fC (.int 9)) bc)))) (az 1))
  (cX (fSl iC (fOp nO (av 1) (fOp cL (fC (.int 1)) (bx af (ac (av 0) (ac (fC (.int 1300)) bc))))) bW (da (fC (.int 4000))))))
theorem wW {f:Addr} {fd:FuncData} (F:Fun K "_law_long" "_law_long" im f fd) (T:Txt K mg) (O_law_draw:Own P w K mg base "_law_draw" 1 ["bag", "many"] (spM K af))
  (hlen:∀ os P,ce os P→os.length=1∧∀ j o,os[j]?=some o→j ∉ ([0]:List Nat)→df o=true)
  (hc:∀ os P,ce os P→uF { nx:=fin [0] os P (.fz .non),rt:=fin [0] os P } (aU 2 os)) :
  FnOk P w K mg base CX0 2 f fd ["bag"] (spM K ce) :=
 Fun.okG 2 [0] F wV rfl (by decide) hlen (by decide) (fun cdv A outer s H E hr=>⟨_,(ad (aL (i:=1) (show List.Nodup [("bag" : Str),("piece" : Str)] from by decide +kernel) rfl (Or.inl rfl) (bO K hr.units (cZ (au am (au am (au am (au am (au am (au am (au am (au am (au am ag rfl) rfl) rfl) rfl) rfl) rfl) rfl) rfl) rfl)) (aP O_law_draw (hr.mono (by decide)) (au (ae 0) (au ai ag rfl) rfl) rfl rfl) (fun _ _=>rfl) rfl) rfl (Or.inl rfl))
  (al (aN (bi K (bu ke (ae 1) (bu (aW K rfl) ai (aP O_law_draw (hr.mono (by decide)) (au (ae 0) (au ai ag rfl) rfl) rfl rfl))) cg (bA ai) rfl)))),
  (ar (aS (aq bP (dc (aa ap (aa ap (aa ap (aa ap (aa ap (aa ap (aa ap (aa ap (aa ap ah)))))))))) (aB (c:=af) (aa ax (aa aj ah)))) (cO (by decide)) (ao (by decide)))
  (aQ (dB dH (aq kf ax (aq aX aj (aB (c:=af) (aa ax (aa aj ah))))) ci (bB aj))))⟩) hc
theorem Bd (os:List OV)(P:OV→List OV→Prop)(h:ce os P):os.length=1∧∀ j o,os[j]?=some o→j ∉ ([0]:List Nat)→df o=true:=by
 unfold ce at h
 obtain ⟨b0,b1,b2,n,rfl,_⟩:=h
 exact D9
theorem Be (os:List OV)(P:OV→List OV→Prop)(h:ce os P):uF { nx:=fin [0] os P (.fz .non),rt:=fin [0] os P } (aU 2 os):=by
 unfold ce at h
 obtain ⟨b0,b1,b2,n,rfl,hb,hn,q⟩:=h
 have sz:=dD
 ac_rfl
 refine ⟨by show 9≤sizeLine; nofun,?_⟩
 ac_rfl
 refine bH n hb (by nofun) (by decide) (by decide) fun r b0 b1 b2 r0 r1 hb1=>?_
 ac_rfl
 refine lu (zs:=ym) r0 (by show r < 9; exact r1) fun y hy=>?_
 obtain ⟨y0,y9⟩:=uE y hy
 ac_rfl
 refine bH (n+1) hb1 (by nofun) (by decide) (by decide) fun r2 b0 b1 b2 r20 r21 hb2=>?_
 have hm:y.length * (1+r2).toNat≤9 * 1300:=Nat.mul_le_mul y9 (by nofun)
 have ht:=hV y (1+r2)
 ac_rfl
 refine ⟨⟨by nofun,y0,by nofun⟩,?_⟩
 ac_rfl
 refine ⟨by nofun,?_⟩
 ac_rfl
 exact q _ _ _ _ (cut4 _) (hb2.mono (by nofun))
theorem wX {b0 b1 b2:Int}(n:Int){P:OV→List OV→Prop}(hb:BagB b1 b2 n)(hn:n < 2 ^ 37)(h:∀ (y:Str) (b0' b1' b2':Int),y.length≤4000→BagB b1' b2' (n+10)→P (.fz (.str y)) [cY b0' b1' b2']):ce [cY b0 b1 b2] P:=by
 unfold ce
 exact ⟨b0,b1,b2,n,rfl,hb,hn,h⟩
abbrev kw:Stmt:=top 49
theorem Bf:FnScope ["bag", "some"] ["bag"] (ak kw):=⟨rfl,rfl,rfl,by decide +kernel,rfl,by decide +kernel,by decide +kernel⟩
def yn:FS :=
  (bI (de (iF (ac (fC (.str "")) (ac (fC (.str " ")) (ac (fC (.str "none ")) (ac (fC (.str " none")) (ac (fC (.str "None")) (ac (fC (.str "any none")) (ac (fC (.str "signs")) (ac (fC (.str "signs ")) (ac (fC (.str "signs  ")) (ac (fC (.str "signs ba")) (ac (fC (.str "signs aa")) (ac (fC (.str "row")) bc))))))))))))) (az 1))
  (bI (de (fOp cL (av 1) (iF (ac (fC (.str "row ")) (ac (fC (.str "row  a")) (ac (fC (.str "first")) (ac (fC (.str "again")) (ac (fC (.str "again a b")) (ac (fC (.str "ahead a b")) (ac (fC (.str "not")) (ac (fC (.str "not a ")) (ac (fC (.str "rows a")) (ac (fC (.str "row A")) bc)))))))))))) (az 1))
  (bI (de (fOp cL (av 1) (iF (ac (fC (.str "row a1")) (ac (fC (.str "sign ab")) (ac (fC (.str "none any")) (ac (fC (.str "signs a b")) (ac (fC (.str "signs ab ")) (ac (fC (.str "first a a a a a a a a a")) bc)))))))) (az 1))
  (bI (de (fOp cL (av 1) (iF (ac (fC (.str "signs \n")) (ac (fC (.str "signs \ta")) (ac (fC (.str "none\n")) (ac (fC (.str "row a\n")) (ac (fC (.str "\nany")) bc))))))) (az 1))
  (bI (de (fOp cL (av 1) (iF (ac (fC .non) (ac (fC (.int 0)) (ac (fC (.bl true)) (ac (vv (ac (fC (.str "none")) bc)) (ac (iF (ac (fC (.str "any")) bc)) (ac (vv bc) (ac (iF bc) (ac (Fy 0) bc)))))))))) (az 1))
  (cX (fOp aIx (av 1) (bx af (ac (av 0) (ac (fC (.int 41)) bc))))))))))
theorem Bg {f:Addr} {fd:FuncData} (F:Fun K "_law_odd_thing" "_law_odd_thing" kw f fd) (T:Txt K mg) (O_law_draw:Own P w K mg base "_law_draw" 1 ["bag", "many"] (spM K af))
  (hlen:∀ os P,ba os P→os.length=1∧∀ j o,os[j]?=some o→j ∉ ([0]:List Nat)→df o=true)
  (hc:∀ os P,ba os P→yn { nx:=fin [0] os P (.fz .non),rt:=fin [0] os P } (aU 2 os)) :
  FnOk P w K mg base CX0 2 f fd ["bag"] (spM K ba) :=
 Fun.okG 2 [0] F Bf rfl (by decide) hlen (by decide) (fun cdv A outer s H E hr=>⟨_,(ad (aL (i:=1) nu9 rfl (Or.inl rfl) (cZ (au am (au am (au am (au am (au am (au am (au am (au am (au am (au am (au am (au am ag rfl) rfl) rfl) rfl) rfl) rfl) rfl) rfl) rfl) rfl) rfl) rfl)) rfl (Or.inl rfl))
  (ad (aL (i:=1) nu9 rfl (Or.inl rfl) (bu (aW K rfl) (ae 1) (cZ (au am (au am (au am (au am (au am (au am (au am (au am (au am (au am ag rfl) rfl) rfl) rfl) rfl) rfl) rfl) rfl) rfl) rfl))) rfl (Or.inl rfl))
  (ad (aL (i:=1) nu9 rfl (Or.inl rfl) (bu (aW K rfl) (ae 1) (cZ (au am (au am (au am (au am (au am (au am ag rfl) rfl) rfl) rfl) rfl) rfl))) rfl (Or.inl rfl))
  (ad (aL (i:=1) nu9 rfl (Or.inl rfl) (bu (aW K rfl) (ae 1) (cZ (au am (au am (au am (au am (au am ag rfl) rfl) rfl) rfl) rfl))) rfl (Or.inl rfl))
  (ad (aL (i:=1) nu9 rfl (Or.inl rfl) (bu (aW K rfl) (ae 1) (cZ (au eO (au ai (au ez (au (gb (au am ag rfl)) (au (cZ (au am ag rfl)) (au (gb ag) (au (cZ ag) (au rQ ag rfl) rfl) rfl) rfl) rfl) rfl) rfl) rfl))) rfl (Or.inl rfl))
  (al (aN (bO K hr.units (ae 1) (aP O_law_draw (hr.mono (by decide)) (au (ae 0) (au ai ag rfl) rfl) rfl rfl) (fun _ _=>rfl) rfl)))))))),
  (ar (aS (dc (aa ap (aa ap (aa ap (aa ap (aa ap (aa ap (aa ap (aa ap (aa ap (aa ap (aa ap (aa ap ah))))))))))))) (cO (by decide)) (ao (by decide)))
  (ar (aS (aq aX ax (dc (aa ap (aa ap (aa ap (aa ap (aa ap (aa ap (aa ap (aa ap (aa ap (aa ap ah)))))))))))) (cO (by decide)) (ao (by decide)))
  (ar (aS (aq aX ax (dc (aa ap (aa ap (aa ap (aa ap (aa ap (aa ap ah)))))))) (cO (by decide)) (ao (by decide)))
  (ar (aS (aq aX ax (dc (aa ap (aa ap (aa ap (aa ap (aa ap ah))))))) (cO (by decide)) (ao (by decide)))
  (ar (aS (aq aX ax (dc (aa ja (aa aj (aa eV (aa (iu (aa ap ah)) (aa (dc (aa ap ah)) (aa (iu ah) (aa (dc ah) (aa Ak ah)))))))))) (cO (by decide)) (ao (by decide)))
  (aQ (aq bP ax (aB (c:=af) (aa ax (aa aj ah))))))))))⟩) hc
theorem DO (os:List OV)(P:OV→List OV→Prop)(h:ba os P):os.length=1∧∀ j o,os[j]?=some o→j ∉ ([0]:List Nat)→df o=true:=by
 unfold ba at h
 obtain ⟨b0,b1,b2,n,rfl,_⟩:=h
 exact D9
theorem DP (os:List OV)(P:OV→List OV→Prop)(h:ba os P):yn { nx:=fin [0] os P (.fz .non),rt:=fin [0] os P } (aU 2 os):=by
 unfold ba at h
 obtain ⟨b0,b1,b2,n,rfl,hb,hn,q⟩:=h
 have sz:=dD
 ac_rfl
 refine ⟨by rw [sz]; exact Nat.le_of_ble_eq_true rfl,?_⟩
 ac_rfl
 refine ⟨by rw [sz]; exact Nat.le_of_ble_eq_true rfl,?_⟩
 ac_rfl
 refine ⟨by rw [sz]; exact Nat.le_of_ble_eq_true rfl,?_⟩
 ac_rfl
 refine ⟨by rw [sz]; exact Nat.le_of_ble_eq_true rfl,?_⟩
 ac_rfl
 refine ⟨by rw [sz]; exact Nat.le_of_ble_eq_true rfl,?_⟩
 ac_rfl
 refine ⟨by rw [sz]; exact Nat.le_of_ble_eq_true rfl,?_⟩
 ac_rfl
 refine ⟨by rw [sz]; exact Nat.le_of_ble_eq_true rfl,?_⟩
 ac_rfl
 refine ⟨pz,?_⟩
 ac_rfl
 refine ⟨pz,?_⟩
 ac_rfl
 refine ⟨Nat.zero_le _,?_⟩
 ac_rfl
 refine ⟨Nat.zero_le _,?_⟩
 ac_rfl
 intro a
 ac_rfl
 refine ⟨by rw [sz]; exact Nat.le_of_ble_eq_true rfl,?_⟩
 ac_rfl
 refine ⟨by rw [sz]; exact Nat.le_of_ble_eq_true rfl,?_⟩
 ac_rfl
 refine bH n hb (by nofun) (by decide) (by decide) fun r b0 b1 b2 r0 r1 hb1=>?_
 ac_rfl
 refine jo r0 r1 fun d hd=>?_
 ac_rfl
 have fin:smD d=true∧∀ z,d=.str z→z.length≤100:=by
  rcases List.mem_append.mp hd with h | h
  ·exact oddS d h
  ·simp only [List.mem_cons,List.not_mem_nil,or_false] at h
   rcases h with rfl | rfl | rfl | rfl | rfl | rfl | rfl | rfl <;> exact ⟨by first | rfl | decide +kernel,fun z e=>nomatch e⟩
 exact q _ _ _ _ fin.1 fin.2 (hb1.mono (by nofun))
theorem Bh {b0 b1 b2:Int}(n:Int){P:OV→List OV→Prop}(hb:BagB b1 b2 n)(hn:n < 2 ^ 37)(h:∀ (d:D) (b0' b1' b2':Int),smD d=true→(∀ z,d=.str z→z.length≤100)→BagB b1' b2' (n+10)→P (.fz d) [cY b0' b1' b2']):ba [cY b0 b1 b2] P:=by
 unfold ba
 exact ⟨b0,b1,b2,n,rfl,hb,hn,h⟩
end
end KR
set_option maxHeartbeats 4000000
namespace KR
open PySem L2
theorem lw:bootBuiltins "ValueError" = some (.type "ValueError"):=by decide +kernel
def spX (C:Addr):Sp:=fun vs H Q _=>∃ ea,vs=[.ref ea]∧H ea=some (mO ea C)∧∀ H',Same H H'→Q (.bl true) H'
section
variable {P:Program} {w:World} {K:PySem.W.Frag} {mg:Str→Option Value} {base:Heap}
abbrev fU:Stmt:=top 48
theorem uG:FnScope ["caught"] ["caught"] (ak fU):=⟨rfl,rfl,rfl,by decide +kernel,rfl,by decide +kernel,by decide +kernel⟩
theorem uH {f C c0 c1 c2 c3 c4 c5 c6 c7 c8 c9:Addr} {fd:FuncData} (F:Fun K "_law_plain_refusal" "_law_plain_refusal" fU f fd) (T:Txt K mg)
  (hC:ExcCl K C) (hmN:mg "NoText" = some (.ref C)) (k0:mg "Loops" = some (.ref c0)) (k1:mg "NoBook" = some (.ref c1)) (k2:mg "NoDeed" = some (.ref c2)) (k3:mg "NoForm" = some (.ref c3)) (k4:mg "NoName" = some (.ref c4)) (k5:mg "NoPlace" = some (.ref c5)) (k6:mg "NoRow" = some (.ref c6)) (k7:mg "NoRows" = some (.ref c7)) (k8:mg "NoRule" = some (.ref c8)) (k9:mg "TooMany" = some (.ref c9))
  (ha1:PySem.W.kitAny K (.ref C) ([c0,c1,c2,c3,c4].map Value.ref)=some false) (ha2:PySem.W.kitAny K (.ref C) ([c5,c6,c7,c8,c9].map Value.ref)=some false) (hval:PySem.W.kitOne K (.ref C) (.type "ValueError")=some true):FnOk P w K mg base CX0 1 f fd ["caught"] (spX C):=by
 have hone:PySem.W.kitOne K (.ref C) (.ref C)=some true:=by
  unfold PySem.W.kitOne
  rw [if_pos (by simp)]
 refine Fun.okB F uG (fun vs H Q E h=>?_) (fun cdv A outer s H vs Q E hr h=>?_)
 ·obtain ⟨ea,rfl,_⟩:=h
  rfl
 ·obtain ⟨ea,rfl,hea,q⟩:=h
  refine ⟨_,ad (bQ (cq (ay ⟨mP hC ha1⟩ T.n_isinstance aZ (au (ae 0) (au (gb (au (dG (v:=.ref c0) ⟨_,k0,rfl⟩ rfl) (au (dG (v:=.ref c1) ⟨_,k1,rfl⟩ rfl) (au (dG (v:=.ref c2) ⟨_,k2,rfl⟩ rfl) (au (dG (v:=.ref c3) ⟨_,k3,rfl⟩ rfl) (au (dG (v:=.ref c4) ⟨_,k4,rfl⟩ rfl) ag rfl) rfl) rfl) rfl) rfl)) ag rfl) rfl) rfl rfl)) (al (aN ez)) aO)
   (ad (bQ (cq (ay ⟨mP hC ha2⟩ T.n_isinstance aZ (au (ae 0) (au (gb (au (dG (v:=.ref c5) ⟨_,k5,rfl⟩ rfl) (au (dG (v:=.ref c6) ⟨_,k6,rfl⟩ rfl) (au (dG (v:=.ref c7) ⟨_,k7,rfl⟩ rfl) (au (dG (v:=.ref c8) ⟨_,k8,rfl⟩ rfl) (au (dG (v:=.ref c9) ⟨_,k9,rfl⟩ rfl) ag rfl) rfl) rfl) rfl) rfl)) ag rfl) rfl) rfl rfl)) (al (aN ez)) aO)
   (al (aN (eP (ay ⟨oV (c:=.ref C) hC (fun u h=>h) hone⟩ T.n_isinstance aZ (au (ae 0) (au (dG (v:=.ref C) ⟨_,hmN,rfl⟩ rfl) ag rfl) rfl) rfl rfl)
    (fZ (ay ⟨oV (c:=.ty "ValueError") hC (fun u h=>h) hval⟩ T.n_isinstance aZ (au (ae 0) (au (gx T.n_ValueError lw rfl) ag rfl) rfl) rfl rfl)))))),?_⟩
  refine ⟨.ref ea,rfl,(by show 5≤sizeLine; decide),fun p hp=>?_⟩
  have hea1:=ck (o:=.tup ([c0,c1,c2,c3,c4].map V.ref)) hp _ _ hea
  refine ⟨ea,p,rfl,hea1,bn,false,rfl,Fi ?_⟩
  refine ⟨.ref ea,rfl,(by show 5≤sizeLine; decide),fun p2 hp2=>?_⟩
  have hea2:=ck (o:=.tup ([c5,c6,c7,c8,c9].map V.ref)) hp2 _ _ hea1
  refine ⟨ea,p2,rfl,hea2,bn,false,rfl,Fi ?_⟩
  refine ⟨.ref ea,rfl,ea,rfl,hea2,true,rfl,EE ?_⟩
  exact ⟨.ref ea,rfl,ea,rfl,hea2,q _ ((ck hp).trans (ck hp2))⟩
end
end KR
set_option maxHeartbeats 4000000
namespace KR
open PySem L2
theorem jF:∀ zs:List Str,okDs (zs.map D.str)=true
 | []=>by simp [okDs]
 | z::zs=>by rw [List.map_cons,okDs,jF zs]; rfl
theorem jG:∀ zs:List Str,deps (toDVs (zs.map D.str))=0
 | []=>by simp [toDVs,deps]
 | z::zs=>by rw [List.map_cons,toDVs,deps,jG zs]; rfl
theorem wY (d:D):dEq d d=true:=oj _
theorem uI {word word':Str}{aw rest':List Str}:Bn (dE word aw) (dE word' rest'):=⟨by simp only [okD,okDs,Bool.true_and]; exact jF aw,by simp only [okD,okDs,Bool.true_and]; exact jF rest',by
 simp only [sr,toDVs,dep,deps]
 rw [jG]
 decide⟩
theorem uJ {word word':Str}{aw rest':List Str}(h:dP word aw)(h':dP word' rest')(e:dg word aw=dg word' rest'):word=word'∧aw=rest':=by
 have ew:word=word':=by
  have h1:=gN h
  rw [e,gN h'] at h1
  exact h1.symm
 subst ew
 refine ⟨rfl,?_⟩
 by_cases hw:word = "signs"
 ·rcases cQ h with ⟨hn,_⟩ | ⟨_,y,rfl,_⟩
  ·exact absurd hw hn
  rcases cQ h' with ⟨hn,_⟩ | ⟨_,y',rfl,_⟩
  ·exact absurd hw hn
  subst hw
  have h1:=(wS rfl:_∧gZ (dg "signs" [y]) (some 6) none=y).2
  rw [(wS e).2] at h1
  rw [h1]
 ·have h1:=fQ h hw
  rw [e,fQ h' hw] at h1
  exact (List.cons.inj h1).2.symm
@[irreducible] def gO:Ct:=fun os P=>∃ (word:Str) (aw:List Str),os=[.fz (.str (dg word aw))]∧dP word aw∧P (.fz (.bl true)) os
@[irreducible] def bM:Ct:=fun os P=>∃ d:D,os=[.fz d]∧smD d=true∧(∀ z,d=.str z→z.length≤120000)∧P (.fz (.bl true)) os
def spN (K:PySem.W.Frag):Sp:=fun vs H Q _=>∃ (F1:Hp) (d:D),Same F1 H∧Dens K F1 vs [d]∧nW [d]∧∀ H',Same H H'→Q (.bl true) H'
section
variable {P:Program} {w:World} {K:PySem.W.Frag} {mg:Str→Option Value} {base:Heap}
abbrev dW:Stmt:=top 50
theorem m6:FnScope ["text", "found", "caught", "e", "due"] ["text"] (ak dW):=⟨rfl,rfl,rfl,by decide +kernel,rfl,by decide +kernel,by decide +kernel⟩
def pF:FS:=bI (de (fC .non) (az 1)) (bI (de (fC .non) (az 2)) (bI (de (bx bD (ac (fFz (av 0)) bc)) (az 1)) (bI (de (bx aT (ac (fFz (av 0)) bc)) (az 4)) (bI (fIf (bj (fOp D7 (av 4) (fC .non))) oQ bX) (cX (jN (fOp D7 (av 2) (fC .non)) (jN (fCB cIs (ac (av 1) (ac (fC (.ty "tuple")) bc))) (fOp aEq (av 1) (av 4)))))))))
theorem yo:List.Nodup [("text" : Str),("found" : Str),("caught" : Str),("e" : Str),("due" : Str)]:=by decide +kernel
theorem FL:List.Nodup [("text" : Str), "found", "caught", "e", "due"]:=by decide +kernel
theorem wZ {f C cR:Addr} {fd:FuncData} (F:Fun K "_law_asked" "_law_asked" dW f fd) (T:Txt K mg) (O_read_form:Own P w K mg base "read_form" 5 ["text"] (spM K bD)) (O_law_read_form:Own P w K mg base "_law_read_form" 3 ["text"] (spM K aT))
  (R_read_form:OwnR P w K mg base "read_form" 5 ["text"] (spR K nW C)) (hmR:mg "ReadError" = some (.ref cR)) (hx:PySem.W.exmOne K (.ref C) (.ref cR)=some true)
  (hlen:∀ os P,gO os P→os.length=1∧∀ j o,os[j]?=some o→j ∉ ([]:List Nat)→df o=true)
  (hc:∀ os P,gO os P→pF { nx:=fin [] os P (.fz .non),rt:=fin [] os P } (aU 5 os)):FnOk P w K mg base CX0 6 f fd ["text"] (spM K gO) :=
 Fun.okG 5 [] F m6 rfl (by decide) hlen (by decide) (fun cdv A outer s H E hr=>⟨_,ad (aL (i:=1) yo rfl (Or.inl rfl) eO rfl (Or.inl rfl)) (ad (aL (i:=2) yo rfl (Or.inl rfl) eO rfl (Or.inl rfl)) (ad
   (tw (iN:=3) (iY:=2) K rfl (aL (i:=1) yo rfl (Or.inl rfl) (aP O_read_form (hr.mono (by decide)) (au (ae 0) ag rfl) rfl rfl) rfl (Or.inl rfl)) R_read_form (hr.mono (by decide)) rfl (au (ae 0) ag rfl) ⟨rfl,rfl⟩ rfl hmR hx FL rfl rfl rfl rfl (by decide) rfl rfl rfl rfl rfl rfl rfl)
   (ad (aL (i:=4) yo rfl (Or.inl rfl) (aP O_law_read_form (hr.mono (by decide)) (au (ae 0) ag rfl) rfl rfl) rfl (Or.inl rfl)) (ad (bQ (bh nu (ae 4) eO aA) (al iQ) aO) (al (aN (eP (dM nu (ae 2) eO aA) (eP (ay (d0 K rfl) T.n_isinstance aZ (au (ae 1) (au (gx T.n_tuple eu rfl) ag rfl) rfl) rfl rfl) (fZ (dM (bE K hr.units rfl) (ae 1) (ae 4) aA)))))))))),
  ar (aS ja (cO (by decide)) (ao (by decide))) (ar (aS ja (cO (by decide)) (ao (by decide))) (ar (Ao (aS (aB (c:=bD) (aa (cM ax) ah)) (cO (by decide)) (ao (by decide)))) (ar (aS (aB (c:=aT) (aa (cM ax) ah)) (cO (by decide)) (ao (by decide))) (ar (bY (aG (aq sS ax ja)) lh aV) (aQ (eD (aq sS ax ja) (eD (bN g5 (aa ax (aa gW ah))) (aq bF ax ax))))))))⟩) hc
theorem w6 (os:List OV)(P:OV→List OV→Prop)(h:gO os P):os.length=1∧∀ j o,os[j]?=some o→j ∉ ([]:List Nat)→df o=true:=by
 unfold gO at h
 obtain ⟨word,aw,rfl,_⟩:=h
 exact fzo
theorem w8 (os:List OV)(P:OV→List OV→Prop)(h:gO os P):pF { nx:=fin [] os P (.fz .non),rt:=fin [] os P } (aU 5 os):=by
 unfold gO at h
 obtain ⟨word,aw,rfl,hf,q⟩:=h
 have sz:=dD
 have hl:=lp hf
 have sm:smD (.str (dg word aw))=true:=by simp only [smD,decide_eq_true_iff]; nofun
 ac_rfl
 refine ww hf ?_
 ac_rfl
 refine m5 sm (fun z e=>by cases e; nofun) (fun word' rest' e hf'=>?_) (fun h=>absurd ⟨word,aw,hf,rfl⟩ (h _ rfl))
 ac_rfl
 refine cN ?_
 ac_rfl
 refine mm ?_
 ac_rfl
 refine iE ?_
 ac_rfl
 refine ⟨⟨rfl,rfl⟩,?_⟩
 ac_rfl
 refine iE ?_
 ac_rfl
 refine ⟨uI,?_⟩
 obtain ⟨rfl,rfl⟩:=uJ hf hf' (by injection e)
 rw [wY]
 ac_rfl
 exact q
theorem w9 {f C cR:Addr} {fd:FuncData} (F:Fun K "_law_asked" "_law_asked" dW f fd) (T:Txt K mg) (O_read_form:Own P w K mg base "read_form" 5 ["text"] (spM K bD)) (O_law_read_form:Own P w K mg base "_law_read_form" 3 ["text"] (spM K aT)) (O_plain:Own P w K mg base "_law_plain_refusal" 1 ["caught"] (spX C))
  (R_read_form:OwnR P w K mg base "read_form" 5 ["text"] (spR K nW C)) (hmR:mg "ReadError" = some (.ref cR)) (hx:PySem.W.exmOne K (.ref C) (.ref cR)=some true):FnOk P w K mg base CX0 6 f fd ["text"] (spN K):=by
 refine Fun.okB F m6 (fun vs H Q E h=>?_) (fun cdv A outer s H vs Q E hr h=>?_)
 ·obtain ⟨F1,d,_,hd,_⟩:=h
  exact hd.length
 ·obtain ⟨F1,d,sf,hd,hn,q⟩:=h
  obtain ⟨v,rfl⟩:=List.length_eq_one_iff.mp (show vs.length=1 from hd.length)
  refine ⟨_,ad (aL (i:=1) yo rfl (Or.inl rfl) eO rfl (Or.inl rfl)) (ad (aL (i:=2) yo rfl (Or.inl rfl) eO rfl (Or.inl rfl)) (ad
   (tw (iN:=3) (iY:=2) K rfl (aL (i:=1) yo rfl (Or.inl rfl) (aP O_read_form (hr.mono (by decide)) (au (ae 0) ag rfl) rfl rfl) rfl (Or.inl rfl)) R_read_form (hr.mono (by decide)) rfl (au (ae 0) ag rfl) ⟨rfl,rfl⟩ rfl hmR hx FL rfl rfl rfl rfl (by decide) rfl rfl rfl rfl rfl rfl rfl)
   (ad (aL (i:=4) yo rfl (Or.inl rfl) (aP O_law_read_form (hr.mono (by decide)) (au (ae 0) ag rfl) rfl rfl) rfl (Or.inl rfl)) (ad (bQ (bh nu (ae 4) eO aA) (al (aN (eP (dM vm (ae 2) eO aA) (fZ (aP O_plain (hr.mono (by decide)) (au (ae 2) ag rfl) rfl rfl))))) aO) (al iQ))))),?_⟩
  obtain ⟨d',e,sm,hl⟩:=id hn
  cases e
  refine .inr ⟨v,rfl,⟨F1,[d],sf,hd,hn,fun _ _=>rfl⟩,Same.refl _,fun ea H2 s2 hea=>?_⟩
  refine ⟨v,rfl,Ap (E:=E0) (d:=.non) (sf.trans s2) hd (m5 sm (fun z e=>(hl z e).1) (fun word aw e hf=>absurd ⟨word,aw,hf,rfl⟩ (hl _ e).2) fun _=>rfl) fun u F' H3 s3 _ dn=>?_⟩
  rw [dn.non_eq]
  refine ⟨.non,rfl,rfl,?_⟩
  refine ⟨true,rfl,EE ?_⟩
  refine ⟨.ref ea,rfl,rfl,true,rfl,EE ?_⟩
  exact ⟨.ref ea,rfl,ea,rfl,s3 _ _ hea,fun H4 s4=>q H4 ((s2.trans s3).trans s4)⟩
theorem xc (vs:List V)(H:Hp)(Q:VK)(E:XK)(h:spM K bM vs H Q E):spM K gO vs H Q E∨spN K vs H Q E:=by
 obtain ⟨F1,Z,os,Cc,Pq,sf,sz,dj,ho,nd,fr,hcc,q⟩:=h
 unfold bM at hcc
 obtain ⟨d,rfl,sm,hl,hP⟩:=hcc
 by_cases W:∃ word aw,d=.str (dg word aw)∧dP word aw
 ·obtain ⟨word,aw,rfl,hf⟩:=W
  refine .inl ⟨F1,Z,_,Cc,Pq,sf,sz,dj,ho,nd,fr,?_,q⟩
  unfold gO
  exact ⟨word,aw,rfl,hf,hP⟩
 ·obtain ⟨v,rfl⟩:=List.length_eq_one_iff.mp (show vs.length=1 from ho.length)
  have hd:Dens K F1 [v] [d]:=by
   cases ho with
   | cons h1 t1=>cases h1 with | fz d1=>exact .cons d1 .nil
  refine .inr ⟨F1,d,sf,hd,⟨d,rfl,sm,fun z e=>⟨hl z e,fun ⟨word,aw,hf,e2⟩=>W ⟨word,aw,by rw [e,e2],hf⟩⟩⟩,fun H' sH=>?_⟩
  exact q (.fz (.bl true)) _ (.bl true) F1 _ [] [] hP (Same.refl _) (sf.trans sH) (sz.trans sH) dj (sU hd) (.fz (.bl true)) List.nodup_nil (fun _ z=>nomatch z)
theorem uK {f C cR:Addr} {fd:FuncData} (F:Fun K "_law_asked" "_law_asked" dW f fd) (T:Txt K mg) (O_read_form:Own P w K mg base "read_form" 5 ["text"] (spM K bD)) (O_law_read_form:Own P w K mg base "_law_read_form" 3 ["text"] (spM K aT)) (O_plain:Own P w K mg base "_law_plain_refusal" 1 ["caught"] (spX C))
  (R_read_form:OwnR P w K mg base "read_form" 5 ["text"] (spR K nW C)) (hmR:mg "ReadError" = some (.ref cR)) (hx:PySem.W.exmOne K (.ref C) (.ref cR)=some true):FnOk P w K mg base CX0 6 f fd ["text"] (spM K bM) :=
 ((wZ F T O_read_form O_law_read_form R_read_form hmR hx w6 w8).or (w9 F T O_read_form O_law_read_form O_plain R_read_form hmR hx)).imp xc
theorem jH {d:D}{P:OV→List OV→Prop}(sm:smD d=true)(hl:∀ z,d=.str z→z.length≤120000)(h:P (.fz (.bl true)) [.fz d]):bM [.fz d] P:=by
 unfold bM
 exact ⟨d,rfl,sm,hl,h⟩
end
end KR
set_option maxHeartbeats 4000000
namespace KR
open PySem L2
theorem Bi {ns:List Int}{k:Nat}{P:OV→List OV→Prop}(h:∀ z:Int,P (.fz (.int z)) [.fz (.lst (ns.map .int)),.fz (.int k)]):bp [.fz (.lst (ns.map .int)),.fz (.int k)] P:=by
 unfold bp
 exact ⟨ns,k,rfl,h⟩
theorem DQ {z:Int}{k:Nat}{P:OV→List OV→Prop}(hk:k≤100)(h:∀ b0 b1 b2,BagB b1 b2 0→P (cY b0 b1 b2) [.fz (.int z),.fz (.int k)]):cA [.fz (.int z),.fz (.int k)] P:=by
 unfold cA
 exact ⟨z,k,rfl,hk,h⟩
@[irreducible] def lx:Ct:=fun os P=>∃ ns:List Int,os=[.fz (.lst (ns.map .int))]∧ns.length≤63∧P (.fz (.bl true)) os
section
variable {P:Program} {w:World} {K:PySem.W.Frag} {mg:Str→Option Value} {base:Heap}
abbrev ly:Stmt:=top 51
theorem DR:FnScope ["script", "k", "bag", "way", "twice", "form", "text", "odd"] ["script"] (ak ly):=⟨rfl,rfl,rfl,by decide +kernel,rfl,by decide +kernel,by decide +kernel⟩
def DS:FS :=
  (bI (CO (iw (ac (fCB ES (ac (fC (.int 1)) (ac (fCB Fv (ac (fC (.int 40)) (ac (fCB gP (ac (av 0) bc)) bc))) bc))) bc)) (az 1)
   (bI (sy 2 (bx cA (ac (fFz (bx bp (ac (fFz (av 0)) (ac (fFz (av 1)) bc)))) (ac (fFz (av 1)) bc))))
  (bI (de (bx af (ac (av 2) (ac (fC (.int 8)) bc))) (az 3))
  (bI (de (bx af (ac (av 2) (ac (fC (.int 2)) bc))) (az 4))
  (bI (de (bx cc (ac (av 2) (ac (fFz (bx bJ (ac (av 2) (ac (fC (.int 4)) bc)))) bc))) (az 5))
  (bI (de (bx aY (ac (fFz (av 5)) bc)) (az 6))
  (bI (de (iF (ac (bx ce (ac (av 2) bc)) (ac (av 5) (ac (fCB zW (ac (av 5) bc)) bc)))) (az 7))
  (bI (fIf (zI (bj (fOp aEq (av 1) (fC (.int 0)))) (jO (bj (fCB zV (ac (gE 1 (xI (av 7)) (az 0) qG (bx bM (ac (fFz (av 0)) bc))) bc)))))
   (cX (fC (.bl false)))
   bX)
  (bI (fIf (bj (fOp aEq (av 3) (fC (.int 0))))
   (de (bx ba (ac (av 2) bc)) (az 6))
   (fIf (bj (fOp (jI (fun i j=>decide (i < j)) cy) (av 3) (fC (.int 4))))
   (de (bx aE (ac (av 2) (ac (fFz (av 6)) bc))) (az 6))
   (fIf (bj (fOp aEq (av 3) (fC (.int 4))))
   (de (bx aJ (ac (av 2) (ac (fFz (av 6)) bc))) (az 6))
   (fIf (bj (fOp (jI (fun i j=>decide (j < i)) fun i j=>cy j i) (av 3) (fC (.int 5))))
   (de (bx aK (ac (av 2) (ac (fFz (av 6)) bc))) (az 6))
   bX))))
  (bI (fIf (jO (bj (bx bM (ac (fFz (av 6)) bc))))
   (cX (fC (.bl false)))
   bX)
  (fIf (zI (bj (fOp aEq (av 4) (fC (.int 1)))) (zI (bj (fCB cIs (ac (av 6) (ac (fC (.ty "str")) bc)))) (jO (bj (bx bM (ac (fFz (bx aE (ac (av 2) (ac (fFz (av 6)) bc)))) bc))))))
   (cX (fC (.bl false)))
   bX)))))))))))
  (cX (fC (.bl true))))
theorem uL:List.Nodup [("script" : Str),("k" : Str),("bag" : Str),("way" : Str),("twice" : Str),("form" : Str),("text" : Str),("odd" : Str)]:=by decide +kernel
theorem DT {f:Addr} {fd:FuncData} (F:Fun K "law" "law" ly f fd) (T:Txt K mg) (O_law_cell_at:Own P w K mg base "_law_cell_at" 1 ["script", "k"] (spM K bp)) (O_law_bag:Own P w K mg base "_law_bag" 1 ["cell", "place"] (spM K cA)) (O_law_draw:Own P w K mg base "_law_draw" 1 ["bag", "many"] (spM K af)) (O_law_names:Own P w K mg base "_law_names" 3 ["bag", "many"] (spM K bJ)) (O_law_form:Own P w K mg base "_law_form" 3 ["bag", "names"] (spM K cc)) (O_law_form_shown:Own P w K mg base "_law_form_shown" 1 ["form"] (spM K aY)) (O_law_long:Own P w K mg base "_law_long" 2 ["bag"] (spM K ce)) (O_law_asked:Own P w K mg base "_law_asked" 6 ["text"] (spM K bM)) (O_law_odd_thing:Own P w K mg base "_law_odd_thing" 2 ["bag"] (spM K ba)) (O_law_text_turned:Own P w K mg base "_law_text_turned" 3 ["bag", "text"] (spM K aE)) (O_law_words_turned:Own P w K mg base "_law_words_turned" 3 ["bag", "text"] (spM K aJ)) (O_law_whole_turned:Own P w K mg base "_law_whole_turned" 3 ["bag", "text"] (spM K aK))
  (hlen:∀ os P,lx os P→os.length=1∧∀ j o,os[j]?=some o→j ∉ ([]:List Nat)→df o=true)
  (hc:∀ os P,lx os P→DS { nx:=fin [] os P (.fz .non),rt:=fin [] os P } (aU 8 os)) :
  FnOk P w K mg base CX0 7 f fd ["script"] (spM K lx) :=
 Fun.okG 8 [] F DR rfl (by decide) hlen (by decide) (fun cdv A outer s H E hr=>⟨_,(ad (ot PassesOwn.never rfl (eQ rfl T.n_range (au (ay (xz rfl) T.n_max xt (au ai (au (ay (CB rfl) T.n_min Cv (au ai (au (ay (cJ K rfl) T.n_len cG (au (ae 0) ag rfl) rfl rfl) ag rfl) rfl) rfl rfl) ag rfl) rfl) rfl rfl) ag rfl) rfl) (cu (i:=1) uL rfl (Or.inl rfl) (Or.inl rfl))
   (ad (aL (i:=2) uL rfl (Or.inl rfl) (aP O_law_bag (hr.mono (by decide)) (au (aP O_law_cell_at (hr.mono (by decide)) (au (ae 0) (au (ae 1) ag rfl) rfl) rfl rfl) (au (ae 1) ag rfl) rfl) rfl rfl) rfl (Or.inl rfl))
  (ad (aL (i:=3) uL rfl (Or.inl rfl) (aP O_law_draw (hr.mono (by decide)) (au (ae 2) (au ai ag rfl) rfl) rfl rfl) rfl (Or.inl rfl))
  (ad (aL (i:=4) uL rfl (Or.inl rfl) (aP O_law_draw (hr.mono (by decide)) (au (ae 2) (au ai ag rfl) rfl) rfl rfl) rfl (Or.inl rfl))
  (ad (aL (i:=5) uL rfl (Or.inl rfl) (aP O_law_form (hr.mono (by decide)) (au (ae 2) (au (aP O_law_names (hr.mono (by decide)) (au (ae 2) (au ai ag rfl) rfl) rfl rfl) ag rfl) rfl) rfl rfl) rfl (Or.inl rfl))
  (ad (aL (i:=6) uL rfl (Or.inl rfl) (aP O_law_form_shown (hr.mono (by decide)) (au (ae 5) ag rfl) rfl rfl) rfl (Or.inl rfl))
  (ad (aL (i:=7) uL rfl (Or.inl rfl) (cZ (au (aP O_law_long (hr.mono (by decide)) (au (ae 2) ag rfl) rfl rfl) (au (ae 5) (au (dS (sk K rfl rfl) T.n_list rK (au (ae 5) ag rfl) rfl rfl) ag rfl) rfl) rfl)) rfl (Or.inl rfl))
  (ad (bQ (pU (jY (bh (bE K hr.units rfl) (ae 1) ai aA) (i1 (dh (cq (ay (mh K rfl rfl) T.n_all md (au (dX (T:=["one"]) (F:=[]) (ixs:=[]) rfl (CompScope.of rfl rfl rfl) (zw K (ae 7) rfl) (fun _ _ _ _=>(cu (i:=0) (show List.Nodup [("one" : Str)] from by decide +kernel) rfl (Or.inl rfl) (Or.inr rfl))) (fun _ _ _ _=>eA) (fun _ _ _ _=>(aP O_law_asked (hr.mono (by decide)) (au (ae 0) ag rfl) rfl rfl)) (fun _=>rfl)) ag rfl) rfl rfl))))))
   (al (aN ez))
   aO)
  (ad (bQ (bh (bE K hr.units rfl) (ae 3) ai aA)
   (al (aL (i:=6) uL rfl (Or.inl rfl) (aP O_law_odd_thing (hr.mono (by decide)) (au (ae 2) ag rfl) rfl rfl) rfl (Or.inl rfl)))
   (al (bQ (bh gX (ae 3) ai aA)
   (al (aL (i:=6) uL rfl (Or.inl rfl) (aP O_law_text_turned (hr.mono (by decide)) (au (ae 2) (au (ae 6) ag rfl) rfl) rfl rfl) rfl (Or.inl rfl)))
   (al (bQ (bh (bE K hr.units rfl) (ae 3) ai aA)
   (al (aL (i:=6) uL rfl (Or.inl rfl) (aP O_law_words_turned (hr.mono (by decide)) (au (ae 2) (au (ae 6) ag rfl) rfl) rfl rfl) rfl (Or.inl rfl)))
   (al (bQ (bh gY (ae 3) ai aA)
   (al (aL (i:=6) uL rfl (Or.inl rfl) (aP O_law_whole_turned (hr.mono (by decide)) (au (ae 2) (au (ae 6) ag rfl) rfl) rfl rfl) rfl (Or.inl rfl)))
   aO)))))))
  (ad (bQ (dh (cq (aP O_law_asked (hr.mono (by decide)) (au (ae 6) ag rfl) rfl rfl)))
   (al (aN ez))
   aO)
  (al (bQ (pU (jY (bh (bE K hr.units rfl) (ae 4) ai aA) (jY (cq (ay (d0 K rfl) T.n_isinstance aZ (au (ae 6) (au (gx T.n_str fX rfl) ag rfl) rfl) rfl rfl)) (i1 (dh (cq (aP O_law_asked (hr.mono (by decide)) (au (aP O_law_text_turned (hr.mono (by decide)) (au (ae 2) (au (ae 6) ag rfl) rfl) rfl rfl) ag rfl) rfl rfl)))))))
   (al (aN ez))
   aO))))))))))) (fun _=>rfl))
  (al (aN ez))),
  (ar (oD (gB (aa (bN xQ (aa aj (aa (bN Da (aa aj (aa (bN cK (aa ax ah)) ah))) ah))) ah)) (cO (by decide)) (ao (by decide))
   (ar (kU (aB (c:=cA) (aa (cM (aB (c:=bp) (aa (cM ax) (aa (cM ax) ah)))) (aa (cM ax) ah))) (by decide))
  (ar (aS (aB (c:=af) (aa ax (aa aj ah))) (cO (by decide)) (ao (by decide)))
  (ar (aS (aB (c:=af) (aa ax (aa aj ah))) (cO (by decide)) (ao (by decide)))
  (ar (aS (aB (c:=cc) (aa ax (aa (cM (aB (c:=bJ) (aa ax (aa aj ah)))) ah))) (cO (by decide)) (ao (by decide)))
  (ar (aS (aB (c:=aY) (aa (cM ax) ah)) (cO (by decide)) (ao (by decide)))
  (ar (aS (dc (aa (aB (c:=ce) (aa ax ah)) (aa ax (aa (bN sK (aa ax ah)) ah)))) (cO (by decide)) (ao (by decide)))
  (ar (bY (j6 (aG (aq bF ax aj)) (di (kP (bN mC (aa (dN (no:=1) (ixs:=[]) (vA ax) (du (by decide)) (dF (i:=0) (by decide) (by decide)) (jm (by decide)) gA (aB (c:=bM) (aa (cM (cU (i:=0) (by decide))) ah))) ah)))))
   (aQ eV)
   aV)
  (ar (bY (aG (aq bF ax aj))
   (aS (aB (c:=ba) (aa ax ah)) (cO (by decide)) (ao (by decide)))
   (bY (aG (aq cv ax aj))
   (aS (aB (c:=aE) (aa ax (aa (cM ax) ah))) (cO (by decide)) (ao (by decide)))
   (bY (aG (aq bF ax aj))
   (aS (aB (c:=aJ) (aa ax (aa (cM ax) ah))) (cO (by decide)) (ao (by decide)))
   (bY (aG (aq cv ax aj))
   (aS (aB (c:=aK) (aa ax (aa (cM ax) ah))) (cO (by decide)) (ao (by decide)))
   aV))))
  (ar (bY (di (kP (aB (c:=bM) (aa (cM ax) ah))))
   (aQ eV)
   aV)
  (bY (j6 (aG (aq bF ax aj)) (j6 (kP (bN g5 (aa ax (aa gW ah)))) (di (kP (aB (c:=bM) (aa (cM (aB (c:=aE) (aa ax (aa (cM ax) ah)))) ah))))))
   (aQ eV)
   aV)))))))))))
  (aQ eV))⟩) hc
theorem E5 (os:List OV)(P:OV→List OV→Prop)(h:lx os P):os.length=1∧∀ j o,os[j]?=some o→j ∉ ([]:List Nat)→df o=true:=by
 unfold lx at h
 obtain ⟨ns,rfl,_⟩:=h
 exact fzo
theorem E6 (os:List OV)(P:OV→List OV→Prop)(h:lx os P):DS { nx:=fin [] os P (.fz .non),rt:=fin [] os P } (aU 8 os):=by
 unfold lx at h
 obtain ⟨ns,rfl,hns,q⟩:=h
 have sz:=dD
 ac_rfl
 rw [List.length_map]
 refine ⟨⟨?_,?_⟩,?_⟩
 ·split <;> split <;> nofun
 ·split <;> split <;> nofun
 ac_rfl
 refine iP (fun i ρ=>∃ x1 x2 x3 x4 x5 x6 x7:Option OV,ρ=[some (.fz (.lst (ns.map .int))),x1,x2,x3,x4,x5,x6,x7]) ⟨none,none,none,none,none,none,none,rfl⟩ ?_ ?_
 ·rintro i d ρ R hd ⟨x1,x2,x3,x4,x5,x6,x7,rfl⟩ kk
  obtain ⟨hi,rfl⟩:=d7 hd
  have hi':i≤40:=by split at hi <;> split at hi <;> nofun
  ac_rfl
  rw [Int.zero_add]
  refine Bi fun c=>?_
  ac_rfl
  refine DQ (by nofun) fun b0 b1 b2 hb=>?_
  ac_rfl
  refine bH 0 hb (by decide) (by decide) (by decide) fun way b0 b1 b2 w0 w1 hb1=>?_
  ac_rfl
  refine bH _ hb1 (by decide) (by decide) (by decide) fun twice b0 b1 b2 t0 t1 hb2=>?_
  ac_rfl
  refine v7 (k:=4) hb2 (by decide) (by decide) fun zs b0 b1 b2 _ hz1 hzl hnm hb3=>?_
  ac_rfl
  refine AM hb3 (by decide) (hz1 (by decide)) (by nofun) fun word aw b0 b1 b2 hL hb4=>?_
  have hf:dP word aw:=⟨zs,hnm,hL⟩
  have hlen:=lp hf
  have hsm:=nV hf
  ac_rfl
  refine ux hf ?_
  ac_rfl
  refine wX _ hb4 (by decide) fun lz b0 b1 b2 hlz hb5=>?_
  ac_rfl
  refine ⟨by rw [sz]; exact Nat.le_of_ble_eq_true rfl,?_⟩
  have hlsm:smD (.lst (.str word::aw.map .str))=true:=hsm
  have hsmS:∀ z:Str,z.length≤120000→smD (.str z)=true:=fun z hz=>by simp only [smD,decide_eq_true_iff]; nofun
  ac_rfl
  refine cF True (fun _=>?_) (fun go=>?_)
  rotate_left
  ·ac_rfl
   refine ⟨bz,?_⟩
   ac_rfl
   refine bd ((i:Int)=0) bS (fun _=>?_) (fun _=>?_)
   ·ac_rfl
    refine dw (fun j as ρ=>∃ (x:Option OV),as=(List.replicate j true).map .bl∧ρ=[x,some (.fz (.lst (ns.map .int))),some (.fz (.int i)),some (cY b0 b1 b2),some (.fz (.int way)),some (.fz (.int twice)),some (.fz (dE word aw)),some (.fz (.str (dg word aw))),some (.fz (.lst [.str lz,dE word aw,.lst (.str word::aw.map .str)]))]) ⟨none,rfl,rfl⟩ ?_ ?_
    ·rintro j d as ρ R2 hd2 ⟨x,rfl,rfl⟩ k2
     have hj:j < 3:=(List.getElem?_eq_some_iff.mp hd2).1
     have hm:=List.mem_of_getElem? hd2
     have ok:smD d=true∧∀ z,d=.str z→z.length≤120000:=by
      rcases List.mem_cons.mp hm with rfl | hm
      ·exact ⟨hsmS _ (by nofun),fun z e=>by cases e; nofun⟩
      rcases List.mem_cons.mp hm with rfl | hm
      ·exact ⟨hsm,fun z e=>nomatch e⟩
      ·rw [List.mem_singleton.mp hm]
       exact ⟨hlsm,fun z e=>nomatch e⟩
     ac_rfl
     refine iE ?_
     ac_rfl
     refine jH ok.1 ok.2 ?_
     ac_rfl
     refine ⟨by rw [List.length_map,List.length_replicate]; nofun,k2 _ _ ⟨_,?_,rfl⟩⟩
     rw [List.replicate_succ',List.map_append]
     rfl
    ·rintro as ρ ⟨x,rfl,rfl⟩
     ac_rfl
     exact mm (go trivial)
   ·exact mm (go trivial)
  ac_rfl
  refine jq (fun ρ=>∃ (d:D) (b0 b1 b2:Int),smD d=true∧(∀ z,d=.str z→z.length≤10000)∧BagB b1 b2 200∧ρ=[some (.fz (.lst (ns.map .int))),some (.fz (.int i)),some (cY b0 b1 b2),some (.fz (.int way)),some (.fz (.int twice)),some (.fz (dE word aw)),some (.fz d),some (.fz (.lst [.str lz,dE word aw,.lst (.str word::aw.map .str)]))]) ?_ ?_
  rotate_left
  ·intro go
   have eS:∀ (y:Str) (b0 b1 b2 n:Int),y.length≤10000→BagB b1 b2 n→n≤200→∃ (d:D) (b0' b1' b2':Int),smD d=true∧(∀ z,d=.str z→z.length≤10000)∧BagB b1' b2' 200∧[some (.fz (.lst (ns.map .int))),some (.fz (.int i)),some (cY b0 b1 b2),some (.fz (.int way)),some (.fz (.int twice)),some (.fz (dE word aw)),some (.fz (.str y)),some (.fz (.lst [.str lz,dE word aw,.lst (.str word::aw.map .str)]))]=[some (.fz (.lst (ns.map .int))),some (.fz (.int i)),some (cY b0' b1' b2'),some (.fz (.int way)),some (.fz (.int twice)),some (.fz (dE word aw)),some (.fz d),some (.fz (.lst [.str lz,dE word aw,.lst (.str word::aw.map .str)]))] :=
    fun y b0 b1 b2 n hy hb hn=>⟨_,b0,b1,b2,hsmS y (by nofun),fun z e=>by cases e; exact hy,hb.mono hn,rfl⟩
   ac_rfl
   refine ⟨bz,?_⟩
   ac_rfl
   refine bd (way=0) bS (fun _=>?_) (fun _=>?_)
   ·ac_rfl
    refine Bh _ hb5 (by decide) fun d b0 b1 b2 h1 h2 hb6=>?_
    exact go _ ⟨d,b0,b1,b2,h1,fun z e=>Nat.le_trans (h2 z e) (by decide),hb6.mono (by decide),rfl⟩
   ac_rfl
   refine cN ?_
   ac_rfl
   refine bd (way < 4) decide_eq_true_iff (fun _=>?_) (fun _=>?_)
   ·ac_rfl
    refine px _ hb5 (by decide) (by nofun) fun y b0 b1 b2 hy hb6=>?_
    exact go _ (eS y b0 b1 b2 _ (by nofun) hb6 (by decide))
   ac_rfl
   refine cN ?_
   ac_rfl
   refine ⟨bz,?_⟩
   ac_rfl
   refine bd (way=4) bS (fun _=>?_) (fun _=>?_)
   ·ac_rfl
    refine wH _ hb5 (by decide) (by nofun) fun y b0 b1 b2 hy hb6=>?_
    exact go _ (eS y b0 b1 b2 _ (by nofun) hb6 (by decide))
   ac_rfl
   refine cN ?_
   ac_rfl
   refine bd (5 < way) decide_eq_true_iff (fun _=>?_) (fun _=>?_)
   ·ac_rfl
    refine wK _ hb5 (by decide) (by nofun) fun y b0 b1 b2 hy hb6=>?_
    exact go _ (eS y b0 b1 b2 _ hy hb6 (by decide))
   ·exact go _ (eS _ b0 b1 b2 _ (by nofun) hb5 (by decide))
  rintro ρ ⟨d,b0,b1,b2,dsm,dl,hb6,rfl⟩
  ac_rfl
  refine cF True (fun _=>?_) (fun go=>?_)
  rotate_left
  ·ac_rfl
   refine jH dsm (fun z e=>Nat.le_trans (dl z e) (by decide)) ?_
   ac_rfl
   exact mm (go trivial)
  ac_rfl
  refine cN ?_
  ac_rfl
  refine ⟨bz,?_⟩
  ac_rfl
  refine bd (twice=1) bS (fun _=>?_) (fun _=>?_)
  ·ac_rfl
   refine ⟨⟨jy dsm,rfl⟩,?_⟩
   ac_rfl
   refine bd (∃ z,d=.str z) gK (fun h=>?_) (fun _=>?_)
   ·obtain ⟨z,rfl⟩:=h
    have hzl:=dl z rfl
    ac_rfl
    refine px _ hb6 (by decide) (by nofun) fun y b0 b1 b2 hy hb7=>?_
    ac_rfl
    refine jH (hsmS y (by nofun)) (fun z e=>by cases e; nofun) ?_
    ac_rfl
    exact mm (kk _ ⟨_,_,_,_,_,_,_,rfl⟩)
   ·exact mm (kk _ ⟨_,_,_,_,_,_,_,rfl⟩)
  ·exact mm (kk _ ⟨_,_,_,_,_,_,_,rfl⟩)
 ·rintro ρ ⟨x1,x2,x3,x4,x5,x6,x7,rfl⟩
  ac_rfl
  exact q
end
end KR
set_option maxHeartbeats 4000000
namespace KR
open PySem L2
theorem lA {α:Type}{P:List α→Prop}(h:∀ a,P [a]):∀ us:List α,us.length=1→P us
 | [a],_=>h a
theorem xf {α:Type}{P:List α→Prop}(h:∀ a b,P [a,b]):∀ us:List α,us.length=2→P us
 | [a,b],_=>h a b
def xg (K:PySem.W.Frag):Sp:=fun vs H Q _=>∃ (a:Addr) (ns:List Int),vs=[.ref a]∧SqL K H a (ns.map V.int)∧ns.length≤63∧∀ H',Q (.bl true) H'
theorem DU {K:PySem.W.Frag}(vs:List V)(H:Hp)(Q:VK)(E:XK)(h:xg K vs H Q E):spM K lx vs H Q E:=by
 obtain ⟨a,ns,rfl,hS,hl,q⟩:=h
 refine ⟨H,fun _=>none,[.fz (.lst (ns.map .int))],[],fun o _=>o=.fz (.bl true),Same.refl H,(fun _ _ z=>nomatch z),fun _ _ _=>rfl,.cons (.fz (.lst hS (Dens.ints ns))) .nil,List.nodup_nil,(fun _ z=>nomatch z),?_,fun o os' v F' H' C' B e _ _ _ _ _ ow _ _=>?_⟩
 ·unfold lx
  exact ⟨ns,rfl,hl,rfl⟩
 ·subst e
  cases ow with
  | fz d=>rw [d.bl_eq]; exact q H'
theorem all_mk {l:PySem.W.OpenLaw} {w:World} {K:PySem.W.Frag} {h:Heap} {mg:Str→Option Value} {fa f0 f1 f2 f3 f4 f5 f6 f7 f8 f9 f10 f11 f12 f13 f14 f15 f16 f17 f18 f19 f20 f21 f22 f23 f24 f25 f26 f27:Addr} (X:K.In h) (G:h.Ns mainGlobals mg) (hfa:mg "law" = some (.ref fa))
  {od0 an0 od1 an1 od2 an2 od3 an3 od4 an4 od5 an5 od6 an6 od7 an7 od8 an8 od9 an9 od10 an10 od11 an11 od12 an12 od13 an13 od14 an14 od15 an15 od16 an16 od17 an17 od18 an18 od19 an19 od20 an20 od21 an21 od22 an22 od23 an23 od24 an24 od25 an25 od26 an26 od27 an27:Option Addr} {sl0 sl1 sl2 sl3 sl4 sl5 sl6 sl7 sl8 sl9 sl10 sl11 sl12 sl13 sl14 sl15 sl16 sl17 sl18 sl19 sl20 sl21 sl22 sl23 sl24 sl25 sl26 sl27:Array (Option Value)} {oc0 kV0 dc0 pm0 cd0 ct0 oc1 kV1 dc1 pm1 cd1 ct1 oc2 kV2 dc2 pm2 cd2 ct2 oc3 kV3 dc3 pm3 cd3 ct3 oc4 kV4 dc4 pm4 cd4 ct4 oc5 kV5 dc5 pm5 cd5 ct5 oc6 kV6 dc6 pm6 cd6 ct6 oc7 kV7 dc7 pm7 cd7 ct7 oc8 kV8 dc8 pm8 cd8 ct8 oc9 kV9 dc9 pm9 cd9 ct9 oc10 kV10 dc10 pm10 cd10 ct10 oc11 kV11 dc11 pm11 cd11 ct11 oc12 kV12 dc12 pm12 cd12 ct12 oc13 kV13 dc13 pm13 cd13 ct13 oc14 kV14 dc14 pm14 cd14 ct14 oc15 kV15 dc15 pm15 cd15 ct15 oc16 kV16 dc16 pm16 cd16 ct16 oc17 kV17 dc17 pm17 cd17 ct17 oc18 kV18 dc18 pm18 cd18 ct18 oc19 kV19 dc19 pm19 cd19 ct19 oc20 kV20 dc20 pm20 cd20 ct20 oc21 kV21 dc21 pm21 cd21 ct21 oc22 kV22 dc22 pm22 cd22 ct22 oc23 kV23 dc23 pm23 cd23 ct23 oc24 kV24 dc24 pm24 cd24 ct24 oc25 kV25 dc25 pm25 cd25 ct25 oc26 kV26 dc26 pm26 cd26 ct26 oc27 kV27 dc27 pm27 cd27 ct27:Value} {tk0 tk1 tk2 tk3 tk4:Tok}
  (a0:PySem.W.nsIn K mainGlobals "is_name" = some (some (.ref f0))) (l0:K.lookup f0=some ⟨oc0,od0,.func (PySem.W.fnOf "is_name" "is_name" (bv fL) (bf fL) (ak fL) .none kV0 dc0 pm0 an0 cd0 ct0),sl0⟩) (c0:PySem.W.codeIn K cd0 "is_name" = true) (k0:PySem.W.keepIn K (.ref f0)=true)
  (a1:PySem.W.nsIn K mainGlobals "is_sign" = some (some (.ref f1))) (l1:K.lookup f1=some ⟨oc1,od1,.func (PySem.W.fnOf "is_sign" "is_sign" (bv fM) (bf fM) (ak fM) .none kV1 dc1 pm1 an1 cd1 ct1),sl1⟩) (c1:PySem.W.codeIn K cd1 "is_sign" = true) (k1:PySem.W.keepIn K (.ref f1)=true)
  (a2:PySem.W.nsIn K mainGlobals "is_text" = some (some (.ref f2))) (l2:K.lookup f2=some ⟨oc2,od2,.func (PySem.W.fnOf "is_text" "is_text" (bv fN) (bf fN) (ak fN) .none kV2 dc2 pm2 an2 cd2 ct2),sl2⟩) (c2:PySem.W.codeIn K cd2 "is_text" = true) (k2:PySem.W.keepIn K (.ref f2)=true)
  (a3:PySem.W.nsIn K mainGlobals "are_rising_signs" = some (some (.ref f3))) (l3:K.lookup f3=some ⟨oc3,od3,.func (PySem.W.fnOf "are_rising_signs" "are_rising_signs" (bv fO) (bf fO) (ak fO) .none kV3 dc3 pm3 an3 cd3 ct3),sl3⟩) (c3:PySem.W.codeIn K cd3 "are_rising_signs" = true) (k3:PySem.W.keepIn K (.ref f3)=true)
  (a4:PySem.W.nsIn K mainGlobals "is_form" = some (some (.ref f4))) (l4:K.lookup f4=some ⟨oc4,od4,.func (PySem.W.fnOf "is_form" "is_form" (bv fP) (bf fP) (ak fP) .none kV4 dc4 pm4 an4 cd4 ct4),sl4⟩) (c4:PySem.W.codeIn K cd4 "is_form" = true) (k4:PySem.W.keepIn K (.ref f4)=true)
  (a5:PySem.W.nsIn K mainGlobals "read_form" = some (some (.ref f5))) (l5:K.lookup f5=some ⟨oc5,od5,.func (PySem.W.fnOf "read_form" "read_form" (bv gq) (bf gq) (ak gq) .none kV5 dc5 pm5 an5 cd5 ct5),sl5⟩) (c5:PySem.W.codeIn K cd5 "read_form" = true) (k5:PySem.W.keepIn K (.ref f5)=true)
  (a6:PySem.W.nsIn K mainGlobals "_law_cell_at" = some (some (.ref f6))) (l6:K.lookup f6=some ⟨oc6,od6,.func (PySem.W.fnOf "_law_cell_at" "_law_cell_at" (bv kg) (bf kg) (ak kg) .none kV6 dc6 pm6 an6 cd6 ct6),sl6⟩) (c6:PySem.W.codeIn K cd6 "_law_cell_at" = true) (k6:PySem.W.keepIn K (.ref f6)=true)
  (a7:PySem.W.nsIn K mainGlobals "_law_bag" = some (some (.ref f7))) (l7:K.lookup f7=some ⟨oc7,od7,.func (PySem.W.fnOf "_law_bag" "_law_bag" (bv qq) (bf qq) (ak qq) .none kV7 dc7 pm7 an7 cd7 ct7),sl7⟩) (c7:PySem.W.codeIn K cd7 "_law_bag" = true) (k7:PySem.W.keepIn K (.ref f7)=true)
  (a8:PySem.W.nsIn K mainGlobals "_law_draw" = some (some (.ref f8))) (l8:K.lookup f8=some ⟨oc8,od8,.func (PySem.W.fnOf "_law_draw" "_law_draw" (bv kh) (bf kh) (ak kh) .none kV8 dc8 pm8 an8 cd8 ct8),sl8⟩) (c8:PySem.W.codeIn K cd8 "_law_draw" = true) (k8:PySem.W.keepIn K (.ref f8)=true)
  (a9:PySem.W.nsIn K mainGlobals "_law_name" = some (some (.ref f9))) (l9:K.lookup f9=some ⟨oc9,od9,.func (PySem.W.fnOf "_law_name" "_law_name" (bv ki) (bf ki) (ak ki) .none kV9 dc9 pm9 an9 cd9 ct9),sl9⟩) (c9:PySem.W.codeIn K cd9 "_law_name" = true) (k9:PySem.W.keepIn K (.ref f9)=true)
  (a10:PySem.W.nsIn K mainGlobals "_law_names" = some (some (.ref f10))) (l10:K.lookup f10=some ⟨oc10,od10,.func (PySem.W.fnOf "_law_names" "_law_names" (bv ia) (bf ia) (ak ia) .none kV10 dc10 pm10 an10 cd10 ct10),sl10⟩) (c10:PySem.W.codeIn K cd10 "_law_names" = true) (k10:PySem.W.keepIn K (.ref f10)=true)
  (a11:PySem.W.nsIn K mainGlobals "_law_signs" = some (some (.ref f11))) (l11:K.lookup f11=some ⟨oc11,od11,.func (PySem.W.fnOf "_law_signs" "_law_signs" (bv ib) (bf ib) (ak ib) .none kV11 dc11 pm11 an11 cd11 ct11),sl11⟩) (c11:PySem.W.codeIn K cd11 "_law_signs" = true) (k11:PySem.W.keepIn K (.ref f11)=true)
  (a12:PySem.W.nsIn K mainGlobals "_law_form" = some (some (.ref f12))) (l12:K.lookup f12=some ⟨oc12,od12,.func (PySem.W.fnOf "_law_form" "_law_form" (bv km) (bf km) (ak km) .none kV12 dc12 pm12 an12 cd12 ct12),sl12⟩) (c12:PySem.W.codeIn K cd12 "_law_form" = true) (k12:PySem.W.keepIn K (.ref f12)=true)
  (a13:PySem.W.nsIn K mainGlobals "_law_sign" = some (some (.ref f13))) (l13:K.lookup f13=some ⟨oc13,od13,.func (PySem.W.fnOf "_law_sign" "_law_sign" (bv ku) (bf ku) (ak ku) .none kV13 dc13 pm13 an13 cd13 ct13),sl13⟩) (c13:PySem.W.codeIn K cd13 "_law_sign" = true) (k13:PySem.W.keepIn K (.ref f13)=true)
  (a14:PySem.W.nsIn K mainGlobals "_law_is_name" = some (some (.ref f14))) (l14:K.lookup f14=some ⟨oc14,od14,.func (PySem.W.fnOf "_law_is_name" "_law_is_name" (bv d8) (bf d8) (ak d8) .none kV14 dc14 pm14 an14 cd14 ct14),sl14⟩) (c14:PySem.W.codeIn K cd14 "_law_is_name" = true) (k14:PySem.W.keepIn K (.ref f14)=true)
  (a15:PySem.W.nsIn K mainGlobals "_law_is_signs" = some (some (.ref f15))) (l15:K.lookup f15=some ⟨oc15,od15,.func (PySem.W.fnOf "_law_is_signs" "_law_is_signs" (bv dJ) (bf dJ) (ak dJ) .none kV15 dc15 pm15 an15 cd15 ct15),sl15⟩) (c15:PySem.W.codeIn K cd15 "_law_is_signs" = true) (k15:PySem.W.keepIn K (.ref f15)=true)
  (a16:PySem.W.nsIn K mainGlobals "_law_is_form" = some (some (.ref f16))) (l16:K.lookup f16=some ⟨oc16,od16,.func (PySem.W.fnOf "_law_is_form" "_law_is_form" (bv ef) (bf ef) (ak ef) .none kV16 dc16 pm16 an16 cd16 ct16),sl16⟩) (c16:PySem.W.codeIn K cd16 "_law_is_form" = true) (k16:PySem.W.keepIn K (.ref f16)=true)
  (a17:PySem.W.nsIn K mainGlobals "_law_form_shown" = some (some (.ref f17))) (l17:K.lookup f17=some ⟨oc17,od17,.func (PySem.W.fnOf "_law_form_shown" "_law_form_shown" (bv fR) (bf fR) (ak fR) .none kV17 dc17 pm17 an17 cd17 ct17),sl17⟩) (c17:PySem.W.codeIn K cd17 "_law_form_shown" = true) (k17:PySem.W.keepIn K (.ref f17)=true)
  (a18:PySem.W.nsIn K mainGlobals "_law_words" = some (some (.ref f18))) (l18:K.lookup f18=some ⟨oc18,od18,.func (PySem.W.fnOf "_law_words" "_law_words" (bv fS) (bf fS) (ak fS) .none kV18 dc18 pm18 an18 cd18 ct18),sl18⟩) (c18:PySem.W.codeIn K cd18 "_law_words" = true) (k18:PySem.W.keepIn K (.ref f18)=true)
  (a19:PySem.W.nsIn K mainGlobals "_law_read_form" = some (some (.ref f19))) (l19:K.lookup f19=some ⟨oc19,od19,.func (PySem.W.fnOf "_law_read_form" "_law_read_form" (bv fT) (bf fT) (ak fT) .none kV19 dc19 pm19 an19 cd19 ct19),sl19⟩) (c19:PySem.W.codeIn K cd19 "_law_read_form" = true) (k19:PySem.W.keepIn K (.ref f19)=true)
  (a20:PySem.W.nsIn K mainGlobals "_law_text_turned" = some (some (.ref f20))) (l20:K.lookup f20=some ⟨oc20,od20,.func (PySem.W.fnOf "_law_text_turned" "_law_text_turned" (bv ij) (bf ij) (ak ij) .none kV20 dc20 pm20 an20 cd20 ct20),sl20⟩) (c20:PySem.W.codeIn K cd20 "_law_text_turned" = true) (k20:PySem.W.keepIn K (.ref f20)=true)
  (a21:PySem.W.nsIn K mainGlobals "_law_whole_turned" = some (some (.ref f21))) (l21:K.lookup f21=some ⟨oc21,od21,.func (PySem.W.fnOf "_law_whole_turned" "_law_whole_turned" (bv il) (bf il) (ak il) .none kV21 dc21 pm21 an21 cd21 ct21),sl21⟩) (c21:PySem.W.codeIn K cd21 "_law_whole_turned" = true) (k21:PySem.W.keepIn K (.ref f21)=true)
  (a22:PySem.W.nsIn K mainGlobals "_law_long" = some (some (.ref f22))) (l22:K.lookup f22=some ⟨oc22,od22,.func (PySem.W.fnOf "_law_long" "_law_long" (bv im) (bf im) (ak im) .none kV22 dc22 pm22 an22 cd22 ct22),sl22⟩) (c22:PySem.W.codeIn K cd22 "_law_long" = true) (k22:PySem.W.keepIn K (.ref f22)=true)
  (a23:PySem.W.nsIn K mainGlobals "_law_words_turned" = some (some (.ref f23))) (l23:K.lookup f23=some ⟨oc23,od23,.func (PySem.W.fnOf "_law_words_turned" "_law_words_turned" (bv ik) (bf ik) (ak ik) .none kV23 dc23 pm23 an23 cd23 ct23),sl23⟩) (c23:PySem.W.codeIn K cd23 "_law_words_turned" = true) (k23:PySem.W.keepIn K (.ref f23)=true)
  (a24:PySem.W.nsIn K mainGlobals "_law_plain_refusal" = some (some (.ref f24))) (l24:K.lookup f24=some ⟨oc24,od24,.func (PySem.W.fnOf "_law_plain_refusal" "_law_plain_refusal" (bv fU) (bf fU) (ak fU) .none kV24 dc24 pm24 an24 cd24 ct24),sl24⟩) (c24:PySem.W.codeIn K cd24 "_law_plain_refusal" = true) (k24:PySem.W.keepIn K (.ref f24)=true)
  (a25:PySem.W.nsIn K mainGlobals "_law_odd_thing" = some (some (.ref f25))) (l25:K.lookup f25=some ⟨oc25,od25,.func (PySem.W.fnOf "_law_odd_thing" "_law_odd_thing" (bv kw) (bf kw) (ak kw) .none kV25 dc25 pm25 an25 cd25 ct25),sl25⟩) (c25:PySem.W.codeIn K cd25 "_law_odd_thing" = true) (k25:PySem.W.keepIn K (.ref f25)=true)
  (a26:PySem.W.nsIn K mainGlobals "_law_asked" = some (some (.ref f26))) (l26:K.lookup f26=some ⟨oc26,od26,.func (PySem.W.fnOf "_law_asked" "_law_asked" (bv dW) (bf dW) (ak dW) .none kV26 dc26 pm26 an26 cd26 ct26),sl26⟩) (c26:PySem.W.codeIn K cd26 "_law_asked" = true) (k26:PySem.W.keepIn K (.ref f26)=true)
  (a27:PySem.W.nsIn K mainGlobals "law" = some (some (.ref f27))) (l27:K.lookup f27=some ⟨oc27,od27,.func (PySem.W.fnOf "law" "law" (bv ly) (bf ly) (ak ly) .none kV27 dc27 pm27 an27 cd27 ct27),sl27⟩) (c27:PySem.W.codeIn K cd27 "law" = true) (k27:PySem.W.keepIn K (.ref f27)=true)
  (z0:PySem.W.nsIn K mainGlobals "len" = some none)
  (z1:PySem.W.nsIn K mainGlobals "max" = some none)
  (z2:PySem.W.nsIn K mainGlobals "min" = some none)
  (z3:PySem.W.nsIn K mainGlobals "isinstance" = some none)
  (z4:PySem.W.nsIn K mainGlobals "all" = some none)
  (z5:PySem.W.nsIn K mainGlobals "sorted" = some none)
  (z6:PySem.W.nsIn K mainGlobals "range" = some none)
  (z7:PySem.W.nsIn K mainGlobals "str" = some none)
  (z8:PySem.W.nsIn K mainGlobals "list" = some none)
  (z9:PySem.W.nsIn K mainGlobals "tuple" = some none)
  (z10:PySem.W.nsIn K mainGlobals "set" = some none)
  (z11:PySem.W.nsIn K mainGlobals "ord" = some none)
  (z12:PySem.W.nsIn K mainGlobals "ValueError" = some none)
  (gl0:PySem.W.nsIn K mainGlobals "LETTERS" = some (some (.str "abcdefghijklmnopqrstuvwxyz" tk0)))
  (gl1:PySem.W.nsIn K mainGlobals "MOST_LETTERS" = some (some (.int 8 tk1)))
  (gl2:PySem.W.nsIn K mainGlobals "MOST_SIGNS" = some (some (.int 40 tk2)))
  (gl3:PySem.W.nsIn K mainGlobals "MOST_PARTS" = some (some (.int 8 tk3)))
  (gl4:PySem.W.nsIn K mainGlobals "BARRED_SIGN" = some (some (.int 37 tk4)))
  {ta0:Addr} {odt0:Option Addr} {nt0:Nat} {slt0:Array (Option Value)} {tt0_0 tt0_1:Tok} {ta1:Addr} {odt1:Option Addr} {nt1:Nat} {slt1:Array (Option Value)} {tt1_0 tt1_1 tt1_2:Tok} {ta2:Addr} {odt2:Option Addr} {nt2:Nat} {slt2:Array (Option Value)} {tt2_0 tt2_1:Tok}
  (ga0:PySem.W.nsIn K mainGlobals "WORDS_ALONE" = some (some (.ref ta0))) (gt0:K.lookup ta0=some ⟨.type "tuple", odt0,.seq #[.str "none" tt0_0,.str "any" tt0_1] nt0,slt0⟩)
  (ga1:PySem.W.nsIn K mainGlobals "WORDS_WITH_ONE" = some (some (.ref ta1))) (gt1:K.lookup ta1=some ⟨.type "tuple", odt1,.seq #[.str "again" tt1_0,.str "ahead" tt1_1,.str "not" tt1_2] nt1,slt1⟩)
  (ga2:PySem.W.nsIn K mainGlobals "WORDS_WITH_SOME" = some (some (.ref ta2))) (gt2:K.lookup ta2=some ⟨.type "tuple", odt2,.seq #[.str "row" tt2_0,.str "first" tt2_1] nt2,slt2⟩)
  {C cR e0 e1 e2 e3 e4 e5 e6 e7 e8 e9:Addr}
  (x0:PySem.W.nsIn K mainGlobals "NoText" = some (some (.ref C)))
  (x1:PySem.W.nsIn K mainGlobals "ReadError" = some (some (.ref cR)))
  (x2:PySem.W.nsIn K mainGlobals "Loops" = some (some (.ref e0)))
  (x3:PySem.W.nsIn K mainGlobals "NoBook" = some (some (.ref e1)))
  (x4:PySem.W.nsIn K mainGlobals "NoDeed" = some (some (.ref e2)))
  (x5:PySem.W.nsIn K mainGlobals "NoForm" = some (some (.ref e3)))
  (x6:PySem.W.nsIn K mainGlobals "NoName" = some (some (.ref e4)))
  (x7:PySem.W.nsIn K mainGlobals "NoPlace" = some (some (.ref e5)))
  (x8:PySem.W.nsIn K mainGlobals "NoRow" = some (some (.ref e6)))
  (x9:PySem.W.nsIn K mainGlobals "NoRows" = some (some (.ref e7)))
  (x10:PySem.W.nsIn K mainGlobals "NoRule" = some (some (.ref e8)))
  (x11:PySem.W.nsIn K mainGlobals "TooMany" = some (some (.ref e9)))
  (xe:gp K C)
  (xf1:PySem.W.findIn K (.ref C) "__getattribute__" = some (some (.builtin "BaseException.__getattribute__")))
  (xf2:PySem.W.findIn K (.ref C) "__getattr__" = some none)
  (xf3:PySem.W.findIn K (.ref C) "__class__" = some (some (.builtin "object.__class__")))
  (xf4:PySem.W.specialIn K (.builtin "object.__class__") "__get__" = some (some (.builtin "getset_descriptor.__get__")))
  (xf5:PySem.W.takesIn K (.builtin "object.__class__")=some true)
  (xf6:PySem.W.mroIn K C (.type "object")=some true)
  (xf7:PySem.W.mroIn K C (.type "BaseException")=some true)
  (xs:PySem.W.subIn K (.ref cR) (.type "BaseException")=some true)
  (xk:PySem.W.kitOne K (.ref C) (.ref cR)=some true)
  (xn:(Value.ref C == Value.ref cR)=false)
  (xa:PySem.W.kitAny K (.ref C) ([e0,e1,e2,e3,e4].map Value.ref)=some false)
  (xb:PySem.W.kitAny K (.ref C) ([e5,e6,e7,e8,e9].map Value.ref)=some false)
  (xv:PySem.W.kitOne K (.ref C) (.type "ValueError")=some true)
  : ∃ fd:FuncData,(∀ (s:Shared) (v:Value),BindsTo s fd ⟨[v],[]⟩ [("script", v)])∧∀ base:Heap,K.In base→base.Ns mainGlobals mg→FnOk l.prog w K mg base CX0 7 fa fd ["script"] (xg K):=by
 have e:=hfa.symm.trans (PySem.W.mg_of X G a27)
 cases e
 have T:Txt K mg:=⟨PySem.W.mg_none_of X G z0,PySem.W.mg_none_of X G z1,PySem.W.mg_none_of X G z2,PySem.W.mg_none_of X G z3,PySem.W.mg_none_of X G z4,PySem.W.mg_none_of X G z5,PySem.W.mg_none_of X G z6,PySem.W.mg_none_of X G z7,PySem.W.mg_none_of X G z8,PySem.W.mg_none_of X G z9,PySem.W.mg_none_of X G z10,PySem.W.mg_none_of X G z11,PySem.W.mg_none_of X G z12,⟨_,PySem.W.mg_of X G gl0,⟨_,rfl⟩⟩,⟨_,PySem.W.mg_of X G gl1,⟨_,rfl⟩⟩,⟨_,PySem.W.mg_of X G gl2,⟨_,rfl⟩⟩,⟨_,PySem.W.mg_of X G gl3,⟨_,rfl⟩⟩,⟨_,PySem.W.mg_of X G gl4,⟨_,rfl⟩⟩,⟨ta0,PySem.W.mg_of X G ga0,fun _=>.inr ⟨_,_,_,gt0,rfl,rfl,(by show 2≤sizeLine; decide),(.cons ⟨_,rfl⟩ (.cons ⟨_,rfl⟩ Paired.nil))⟩⟩,⟨ta1,PySem.W.mg_of X G ga1,fun _=>.inr ⟨_,_,_,gt1,rfl,rfl,(by show 3≤sizeLine; decide),(.cons ⟨_,rfl⟩ (.cons ⟨_,rfl⟩ (.cons ⟨_,rfl⟩ Paired.nil)))⟩⟩,⟨ta2,PySem.W.mg_of X G ga2,fun _=>.inr ⟨_,_,_,gt2,rfl,rfl,(by show 2≤sizeLine; decide),(.cons ⟨_,rfl⟩ (.cons ⟨_,rfl⟩ Paired.nil))⟩⟩⟩
 have F0:=cw (st:=fL) l0 c0 k0
 have b0:=F0.binds (ps:=["thing"]) fun _ _ _ _ _ _=>lA fun _=>rfl
 have F1:=cw (st:=fM) l1 c1 k1
 have b1:=F1.binds (ps:=["sign"]) fun _ _ _ _ _ _=>lA fun _=>rfl
 have F2:=cw (st:=fN) l2 c2 k2
 have b2:=F2.binds (ps:=["thing"]) fun _ _ _ _ _ _=>lA fun _=>rfl
 have F3:=cw (st:=fO) l3 c3 k3
 have b3:=F3.binds (ps:=["thing"]) fun _ _ _ _ _ _=>lA fun _=>rfl
 have F4:=cw (st:=fP) l4 c4 k4
 have b4:=F4.binds (ps:=["thing"]) fun _ _ _ _ _ _=>lA fun _=>rfl
 have F5:=cw (st:=gq) l5 c5 k5
 have b5:=F5.binds (ps:=["text"]) fun _ _ _ _ _ _=>lA fun _=>rfl
 have F6:=cw (st:=kg) l6 c6 k6
 have b6:=F6.binds (ps:=["script", "k"]) fun _ _ _ _ _ _=>xf fun _ _=>rfl
 have F7:=cw (st:=qq) l7 c7 k7
 have b7:=F7.binds (ps:=["cell", "place"]) fun _ _ _ _ _ _=>xf fun _ _=>rfl
 have F8:=cw (st:=kh) l8 c8 k8
 have b8:=F8.binds (ps:=["bag", "many"]) fun _ _ _ _ _ _=>xf fun _ _=>rfl
 have F9:=cw (st:=ki) l9 c9 k9
 have b9:=F9.binds (ps:=["bag", "last"]) fun _ _ _ _ _ _=>xf fun _ _=>rfl
 have F10:=cw (st:=ia) l10 c10 k10
 have b10:=F10.binds (ps:=["bag", "many"]) fun _ _ _ _ _ _=>xf fun _ _=>rfl
 have F11:=cw (st:=ib) l11 c11 k11
 have b11:=F11.binds (ps:=["bag"]) fun _ _ _ _ _ _=>lA fun _=>rfl
 have F12:=cw (st:=km) l12 c12 k12
 have b12:=F12.binds (ps:=["bag", "names"]) fun _ _ _ _ _ _=>xf fun _ _=>rfl
 have F13:=cw (st:=ku) l13 c13 k13
 have b13:=F13.binds (ps:=["bag"]) fun _ _ _ _ _ _=>lA fun _=>rfl
 have F14:=cw (st:=d8) l14 c14 k14
 have b14:=F14.binds (ps:=["thing"]) fun _ _ _ _ _ _=>lA fun _=>rfl
 have F15:=cw (st:=dJ) l15 c15 k15
 have b15:=F15.binds (ps:=["thing"]) fun _ _ _ _ _ _=>lA fun _=>rfl
 have F16:=cw (st:=ef) l16 c16 k16
 have b16:=F16.binds (ps:=["thing"]) fun _ _ _ _ _ _=>lA fun _=>rfl
 have F17:=cw (st:=fR) l17 c17 k17
 have b17:=F17.binds (ps:=["form"]) fun _ _ _ _ _ _=>lA fun _=>rfl
 have F18:=cw (st:=fS) l18 c18 k18
 have b18:=F18.binds (ps:=["text"]) fun _ _ _ _ _ _=>lA fun _=>rfl
 have F19:=cw (st:=fT) l19 c19 k19
 have b19:=F19.binds (ps:=["text"]) fun _ _ _ _ _ _=>lA fun _=>rfl
 have F20:=cw (st:=ij) l20 c20 k20
 have b20:=F20.binds (ps:=["bag", "text"]) fun _ _ _ _ _ _=>xf fun _ _=>rfl
 have F21:=cw (st:=il) l21 c21 k21
 have b21:=F21.binds (ps:=["bag", "text"]) fun _ _ _ _ _ _=>xf fun _ _=>rfl
 have F22:=cw (st:=im) l22 c22 k22
 have b22:=F22.binds (ps:=["bag"]) fun _ _ _ _ _ _=>lA fun _=>rfl
 have F23:=cw (st:=ik) l23 c23 k23
 have b23:=F23.binds (ps:=["bag", "text"]) fun _ _ _ _ _ _=>xf fun _ _=>rfl
 have F24:=cw (st:=fU) l24 c24 k24
 have b24:=F24.binds (ps:=["caught"]) fun _ _ _ _ _ _=>lA fun _=>rfl
 have F25:=cw (st:=kw) l25 c25 k25
 have b25:=F25.binds (ps:=["bag"]) fun _ _ _ _ _ _=>lA fun _=>rfl
 have F26:=cw (st:=dW) l26 c26 k26
 have b26:=F26.binds (ps:=["text"]) fun _ _ _ _ _ _=>lA fun _=>rfl
 have F27:=cw (st:=ly) l27 c27 k27
 have b27:=F27.binds (ps:=["script"]) fun _ _ _ _ _ _=>lA fun _=>rfl
 refine ⟨PySem.W.fnOf "law" "law" (bv ly) (bf ly) (ak ly) .none kV27 dc27 pm27 an27 cd27 ct27,fun s v=>.of_eq rfl,fun base _ _=>?_⟩
 have O_is_name:Own l.prog w K mg base "is_name" 1 ["thing"] (spM K cj):=⟨f0,_,tM F0 T we wf,PySem.W.mg_of X G a0,k0,b0⟩
 have O_is_sign:Own l.prog w K mg base "is_sign" 1 ["sign"] (spM K cD):=⟨f1,_,tP F1 T wg wj,PySem.W.mg_of X G a1,k1,b1⟩
 have O_is_text:Own l.prog w K mg base "is_text" 2 ["thing"] (spM K cB):=⟨f2,_,tS F2 T O_is_sign wl wm,PySem.W.mg_of X G a2,k2,b2⟩
 have O_are_rising_signs:Own l.prog w K mg base "are_rising_signs" 3 ["thing"] (spM K aH):=⟨f3,_,tW F3 T O_is_text wn wo,PySem.W.mg_of X G a3,k3,b3⟩
 have O_is_form:Own l.prog w K mg base "is_form" 4 ["thing"] (spM K bV):=⟨f4,_,t4 F4 T O_are_rising_signs O_is_name wp wq,PySem.W.mg_of X G a4,k4,b4⟩
 have O_read_form:Own l.prog w K mg base "read_form" 5 ["text"] (spM K bD):=⟨f5,_,wv F5 T O_is_form AO AQ,PySem.W.mg_of X G a5,k5,b5⟩
 have O_law_cell_at:Own l.prog w K mg base "_law_cell_at" 1 ["script", "k"] (spM K bp):=⟨f6,_,Ay F6 T Dy Dz,PySem.W.mg_of X G a6,k6,b6⟩
 have O_law_bag:Own l.prog w K mg base "_law_bag" 1 ["cell", "place"] (spM K cA):=⟨f7,_,Dx F7 T EY EZ,PySem.W.mg_of X G a7,k7,b7⟩
 have O_law_draw:Own l.prog w K mg base "_law_draw" 1 ["bag", "many"] (spM K af):=⟨f8,_,AA F8 T DA DB,PySem.W.mg_of X G a8,k8,b8⟩
 have O_law_name:Own l.prog w K mg base "_law_name" 2 ["bag", "last"] (spM K bZ):=⟨f9,_,AC F9 T O_law_draw DC DD,PySem.W.mg_of X G a9,k9,b9⟩
 have O_law_names:Own l.prog w K mg base "_law_names" 3 ["bag", "many"] (spM K bJ):=⟨f10,_,v6 F10 T O_law_name AE AG,PySem.W.mg_of X G a10,k10,b10⟩
 have O_law_signs:Own l.prog w K mg base "_law_signs" 2 ["bag"] (spM K bK):=⟨f11,_,wb F11 T O_law_draw AH AI,PySem.W.mg_of X G a11,k11,b11⟩
 have O_law_form:Own l.prog w K mg base "_law_form" 3 ["bag", "names"] (spM K cc):=⟨f12,_,AL F12 T O_law_draw O_law_signs DF DG,PySem.W.mg_of X G a12,k12,b12⟩
 have O_law_sign:Own l.prog w K mg base "_law_sign" 2 ["bag"] (spM K bw):=⟨f13,_,AW F13 T O_law_draw DK DM,PySem.W.mg_of X G a13,k13,b13⟩
 have O_law_is_name:Own l.prog w K mg base "_law_is_name" 1 ["thing"] (spM K bq):=⟨f14,_,qw F14 T ua ub,PySem.W.mg_of X G a14,k14,b14⟩
 have O_law_is_signs:Own l.prog w K mg base "_law_is_signs" 1 ["thing"] (spM K bg):=⟨f15,_,nT F15 T qy qz,PySem.W.mg_of X G a15,k15,b15⟩
 have O_law_is_form:Own l.prog w K mg base "_law_is_form" 2 ["thing"] (spM K bt):=⟨f16,_,qB F16 T O_law_is_signs O_law_is_name uc ue,PySem.W.mg_of X G a16,k16,b16⟩
 have O_law_form_shown:Own l.prog w K mg base "_law_form_shown" 1 ["form"] (spM K aY):=⟨f17,_,uw F17 T wO wP,PySem.W.mg_of X G a17,k17,b17⟩
 have O_law_words:Own l.prog w K mg base "_law_words" 1 ["text"] (spM K bL):=⟨f18,_,uz F18 T wQ wR,PySem.W.mg_of X G a18,k18,b18⟩
 have O_law_read_form:Own l.prog w K mg base "_law_read_form" 3 ["text"] (spM K aT):=⟨f19,_,uD F19 T O_law_words O_law_is_form wT wU,PySem.W.mg_of X G a19,k19,b19⟩
 have O_law_text_turned:Own l.prog w K mg base "_law_text_turned" 3 ["bag", "text"] (spM K aE):=⟨f20,_,wD F20 T O_law_draw O_law_sign AX AZ,PySem.W.mg_of X G a20,k20,b20⟩
 have O_law_whole_turned:Own l.prog w K mg base "_law_whole_turned" 3 ["bag", "text"] (spM K aK):=⟨f21,_,wJ F21 T O_law_draw O_law_sign A7 A9,PySem.W.mg_of X G a21,k21,b21⟩
 have O_law_long:Own l.prog w K mg base "_law_long" 2 ["bag"] (spM K ce):=⟨f22,_,wW F22 T O_law_draw Bd Be,PySem.W.mg_of X G a22,k22,b22⟩
 have O_law_words_turned:Own l.prog w K mg base "_law_words_turned" 3 ["bag", "text"] (spM K aJ):=⟨f23,_,wF F23 T O_law_draw A0 A6,PySem.W.mg_of X G a23,k23,b23⟩
 have O_law_plain_refusal:Own l.prog w K mg base "_law_plain_refusal" 1 ["caught"] (spX C):=⟨f24,_,uH F24 T (vQ xe xf1 xf2 xf3 xf4 xf5 xf6 xf7) (PySem.W.mg_of X G x0) (PySem.W.mg_of X G x2) (PySem.W.mg_of X G x3) (PySem.W.mg_of X G x4) (PySem.W.mg_of X G x5) (PySem.W.mg_of X G x6) (PySem.W.mg_of X G x7) (PySem.W.mg_of X G x8) (PySem.W.mg_of X G x9) (PySem.W.mg_of X G x10) (PySem.W.mg_of X G x11) xa xb xv,PySem.W.mg_of X G a24,k24,b24⟩
 have O_law_odd_thing:Own l.prog w K mg base "_law_odd_thing" 2 ["bag"] (spM K ba):=⟨f25,_,Bg F25 T O_law_draw DO DP,PySem.W.mg_of X G a25,k25,b25⟩
 have okx:=ul (P:=l.prog) (w:=w) (base:=base) F5 T O_is_form (PySem.W.mg_of X G x0) xe
 have R_read_form:OwnR l.prog w K mg base "read_form" 5 ["text"] (spR K nW C):=⟨⟨_,_,okx,PySem.W.mg_of X G a5,k5,b5⟩⟩
 have O_law_asked:Own l.prog w K mg base "_law_asked" 6 ["text"] (spM K bM):=⟨f26,_,uK F26 T O_read_form O_law_read_form O_law_plain_refusal R_read_form (PySem.W.mg_of X G x1) (Df xs xk xn),PySem.W.mg_of X G a26,k26,b26⟩
 exact (DT F27 T O_law_cell_at O_law_bag O_law_draw O_law_names O_law_form O_law_form_shown O_law_long O_law_asked O_law_odd_thing O_law_text_turned O_law_words_turned O_law_whole_turned E5 E6).imp DU
theorem walkX {q:Program}{loose:List Str}{XP:(Str→Option Value)→Heap→Prop}{r:PySem.W.RowW}{d:DefRec}{kwd:List (Str×Expr)}{run:Value→List Value→Sem Value}{K:Params→PySem.W.Frag}{as:List Addr}{n t:Nat}(e:∀ P,as=(K P).map (·.1))(W:PySem.W.WalkO q loose XP (fun w h=>(K w.params).In h) r d kwd run) :
  PySem.W.WalkX q loose XP (PySem.W.X.obsZ as) (PySem.W.X.valZ K n t) r d kwd run:=by
 intro w s₀ s₁ mg mb G y a o pm cd doc dV kV ho hd hcd hD hmg hg args vals as' L hpre hlay hrd hwl hlo
 exact W w s₀ s₁ mg mb G (PySem.W.InK.keeps w _ _ (PySem.W.X.z_facts e y).2.1 L.keeps) a o pm cd doc dV kV ho hd hcd hD hmg hg args vals as' hpre hlay hrd hwl hlo
theorem walk {l:PySem.W.OpenLaw}{q:Program}{loose:List Str}{XP:(Str→Option Value)→Heap→Prop}{YP:World→Heap→Prop}{d:DefRec}{K:Params→PySem.W.Frag}(hn:l.most=some 63)(hdf:d.params.defaults=[])
  (hY:∀ (w:World) (h:Heap),YP w h→(K w.params).In h)
  (F:∀ (w:World) (mg:Str→Option Value) (fa:Addr) (h:Heap),(K w.params).In h→h.Ns mainGlobals mg→mg d.name=some (.ref fa) →
   ∃ fd:FuncData,(∀ (s:Shared) (u:Value),BindsTo s fd ⟨[u],[]⟩ [("script", u)])∧∀ base:Heap,(K w.params).In base→base.Ns mainGlobals mg→FnOk l.prog w (K w.params) mg base CX0 7 fa fd ["script"] (xg (K w.params))) :
  PySem.W.WalkO q loose XP YP l.row.toRowW d [] (fun f vs=>PySem.call f vs) :=
 L2.walk_of (n:=63) (k:=7) (x := "script") (CX:=fun _=>CX0) (sp:=fun w=>xg (K w.params)) hn (by decide) hdf ⟨rfl,by decide,by decide,rfl⟩ hY F (fun _ _ a ns hl _ hS=>⟨a,ns,rfl,hS,hl,fun _=>rfl⟩) fun _ _ _ _ _ z=>z
end KR
open PySem PySem.W PyProof.Rows
def PySem.W.Fast.tw8316724984840676969 : Nat := 0
def PySem.W.Fast.tw111169010998875253 : Nat := 0
def PySem.W.Fast.tw13931255393141008583 : Nat := 0
def PySem.W.Fast.tw16713074017752458407 : Nat := 0
set_option maxRecDepth 100000 in
set_option maxHeartbeats 0 in
theorem PySem.Challenge.cw_keptreading_k47_texts_of_no_form_holds : PySem.Challenge.rw_keptreading_k47_texts_of_no_form.Holds := by
  w_on; o_law; z_head; (case hw=>w_witness2)
  k_fill
  refine KR.walkX (fun _=>rfl) (KR.walk (l:=PySem.Challenge.rw_keptreading_k47_texts_of_no_form) rfl rfl (fun w h Y=>Y) ?F)
  case F =>
    intro w mg fa h KX G hmg
    refine' KR.all_mk KX G hmg ?a0 ?l0 ?c0 ?k0 ?a1 ?l1 ?c1 ?k1 ?a2 ?l2 ?c2 ?k2 ?a3 ?l3 ?c3 ?k3 ?a4 ?l4 ?c4 ?k4 ?a5 ?l5 ?c5 ?k5 ?a6 ?l6 ?c6 ?k6 ?a7 ?l7 ?c7 ?k7 ?a8 ?l8 ?c8 ?k8 ?a9 ?l9 ?c9 ?k9 ?a10 ?l10 ?c10 ?k10 ?a11 ?l11 ?c11 ?k11 ?a12 ?l12 ?c12 ?k12 ?a13 ?l13 ?c13 ?k13 ?a14 ?l14 ?c14 ?k14 ?a15 ?l15 ?c15 ?k15 ?a16 ?l16 ?c16 ?k16 ?a17 ?l17 ?c17 ?k17 ?a18 ?l18 ?c18 ?k18 ?a19 ?l19 ?c19 ?k19 ?a20 ?l20 ?c20 ?k20 ?a21 ?l21 ?c21 ?k21 ?a22 ?l22 ?c22 ?k22 ?a23 ?l23 ?c23 ?k23 ?a24 ?l24 ?c24 ?k24 ?a25 ?l25 ?c25 ?k25 ?a26 ?l26 ?c26 ?k26 ?a27 ?l27 ?c27 ?k27 ?z0 ?z1 ?z2 ?z3 ?z4 ?z5 ?z6 ?z7 ?z8 ?z9 ?z10 ?z11 ?z12 ?gl0 ?gl1 ?gl2 ?gl3 ?gl4 ?ga0 ?gt0 ?ga1 ?gt1 ?ga2 ?gt2 ?x0 ?x1 ?x2 ?x3 ?x4 ?x5 ?x6 ?x7 ?x8 ?x9 ?x10 ?x11 ?xe ?xf1 ?xf2 ?xf3 ?xf4 ?xf5 ?xf6 ?xf7 ?xs ?xk ?xn ?xa ?xb ?xv
    (case a0=>k_is); (case l0=>k_is); (case c0=>k_is); (case k0=>k_is); (case a1=>k_is); (case l1=>k_is)
    (case c1=>k_is); (case k1=>k_is); (case a2=>k_is); (case l2=>k_is); (case c2=>k_is); (case k2=>k_is)
    (case a3=>k_is); (case l3=>k_is); (case c3=>k_is); (case k3=>k_is); (case a4=>k_is); (case l4=>k_is)
    (case c4=>k_is); (case k4=>k_is); (case a5=>k_is); (case l5=>k_is); (case c5=>k_is); (case k5=>k_is)
    (case a6=>k_is); (case l6=>k_is); (case c6=>k_is); (case k6=>k_is); (case a7=>k_is); (case l7=>k_is)
    (case c7=>k_is); (case k7=>k_is); (case a8=>k_is); (case l8=>k_is); (case c8=>k_is); (case k8=>k_is)
    (case a9=>k_is); (case l9=>k_is); (case c9=>k_is); (case k9=>k_is); (case a10=>k_is); (case l10=>k_is)
    (case c10=>k_is); (case k10=>k_is); (case a11=>k_is); (case l11=>k_is); (case c11=>k_is); (case k11=>k_is)
    (case a12=>k_is); (case l12=>k_is); (case c12=>k_is); (case k12=>k_is); (case a13=>k_is); (case l13=>k_is)
    (case c13=>k_is); (case k13=>k_is); (case a14=>k_is); (case l14=>k_is); (case c14=>k_is); (case k14=>k_is)
    (case a15=>k_is); (case l15=>k_is); (case c15=>k_is); (case k15=>k_is); (case a16=>k_is); (case l16=>k_is)
    (case c16=>k_is); (case k16=>k_is); (case a17=>k_is); (case l17=>k_is); (case c17=>k_is); (case k17=>k_is)
    (case a18=>k_is); (case l18=>k_is); (case c18=>k_is); (case k18=>k_is); (case a19=>k_is); (case l19=>k_is)
    (case c19=>k_is); (case k19=>k_is); (case a20=>k_is); (case l20=>k_is); (case c20=>k_is); (case k20=>k_is)
    (case a21=>k_is); (case l21=>k_is); (case c21=>k_is); (case k21=>k_is); (case a22=>k_is); (case l22=>k_is)
    (case c22=>k_is); (case k22=>k_is); (case a23=>k_is); (case l23=>k_is); (case c23=>k_is); (case k23=>k_is)
    (case a24=>k_is); (case l24=>k_is); (case c24=>k_is); (case k24=>k_is); (case a25=>k_is); (case l25=>k_is)
    (case c25=>k_is); (case k25=>k_is); (case a26=>k_is); (case l26=>k_is); (case c26=>k_is); (case k26=>k_is)
    (case a27=>k_is); (case l27=>k_is); (case c27=>k_is); (case k27=>k_is); (case z0=>k_is); (case z1=>k_is)
    (case z2=>k_is); (case z3=>k_is); (case z4=>k_is); (case z5=>k_is); (case z6=>k_is); (case z7=>k_is)
    (case z8=>k_is); (case z9=>k_is); (case z10=>k_is); (case z11=>k_is); (case z12=>k_is); (case gl0=>k_is)
    (case gl1=>k_is); (case gl2=>k_is); (case gl3=>k_is); (case gl4=>k_is)
    (case ga0=>k_is); (case gt0=>k_is); (case ga1=>k_is); (case gt1=>k_is); (case ga2=>k_is); (case gt2=>k_is)
    (case x0=>k_is)
    (case x1=>k_is)
    (case x2=>k_is)
    (case x3=>k_is)
    (case x4=>k_is)
    (case x5=>k_is)
    (case x6=>k_is)
    (case x7=>k_is)
    (case x8=>k_is)
    (case x9=>k_is)
    (case x10=>k_is)
    (case x11=>k_is)
    (case xe=>(show PySem.W.excIn _ _ [.type "ValueError", .type "Exception", .type "BaseException", .type "object"] "ValueError.__new__" = true; k_exc))
    (case xf1=>k_is)
    (case xf2=>k_is)
    (case xf3=>k_is)
    (case xf4=>k_is)
    (case xf5=>k_is)
    (case xf6=>k_is)
    (case xf7=>k_is)
    (case xs=>k_is)
    (case xk=>kit_is)
    (case xn=>first | rfl | decide)
    (case xa=>kit_is)
    (case xb=>kit_is)
    (case xv=>kit_is)
