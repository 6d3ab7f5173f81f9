import PyProof.Rows.All
import Wide.All
import OpenK.AllK
import Wide.FinOn
import Lean
import PyProof.EqAt
import PyProof.EqKinds
import PyProof.TupleCall
import PySem.Challenge.RW_keptreading_k49_whole_one_writing
set_option genSizeOf false
set_option genSizeOfSpec false
set_option genInjectivity false
set_option Elab.async false
set_option linter.all false
set_option maxRecDepth 100000
noncomputable section
local macro_rules | `(tactic| nofun) => `(tactic| (first|lia|omega))
local macro_rules | `(tactic| ac_rfl) => `(tactic| (conv => whnf))
set_option compiler.extract_closed false
namespace L2
theorem aF (_:True:=by first | exact .inl rfl | exact .inr rfl | assumption):True:=trivial
theorem aD (_:True:=by decide):True:=trivial
theorem aI (_:True:=by intro _; rfl):True:=trivial
theorem aR (_:True:=by rfl):True:=trivial
end L2
namespace L2
open PySem PySem.Spec PyProof.Rows
abbrev Key:=Sum Int Str
def lx:Key→Value→Bool
 | .inl k,v=>Value.isInt k v
 | .inr x,v=>Value.isStrOf x v
def keyH (w:World):Key→Int
 | .inl k=>hashInt k
 | .inr x=>hashStr w x
theorem cc:∀ {k:Key} {v:Value},lx k v=true→(∃ i t,k=Sum.inl i∧v=Value.int i t)∨(∃ x t,k=Sum.inr x∧v=Value.str x t)
 | .inl i,v,h=>by
  obtain ⟨t,e⟩:=Value.isInt_shape (k:=i) (v:=v) h
  exact .inl ⟨i,t,rfl,e⟩
 | .inr x,v,h=>by
  obtain ⟨t,e⟩:=Value.isStrOf_shape (x:=x) (v:=v) h
  exact .inr ⟨x,t,rfl,e⟩
theorem qD (i:Int)(t:Tok):lx (.inl i) (.int i t)=true:=by simp [lx,Value.isInt]
theorem ly (x:Str)(t:Tok):lx (.inr x) (.str x t)=true:=by simp [lx,Value.isStrOf]
theorem Bn (a b:Int):decide ((Sum.inl a:Key)=Sum.inl b)=(a == b):=by
 by_cases e:a=b
 ·subst e; simp
 ·have h:¬ (Sum.inl a:Key)=Sum.inl b:=fun q=>e (Sum.inl.inj q)
  rw [decide_eq_false h]
  exact (beq_eq_false_iff_ne.mpr e).symm
theorem Bo (a b:Str):decide ((Sum.inr a:Key)=Sum.inr b)=decide (a=b):=by
 by_cases e:a=b
 ·subst e; simp
 ·have h:¬ (Sum.inr a:Key)=Sum.inr b:=fun q=>e (Sum.inr.inj q)
  rw [decide_eq_false h,decide_eq_false e]
theorem Bp (a:Int)(b:Str):decide ((Sum.inl a:Key)=Sum.inr b)=false:=decide_eq_false (fun q=>nomatch q)
theorem Bq (a:Str)(b:Int):decide ((Sum.inr a:Key)=Sum.inl b)=false:=decide_eq_false (fun q=>nomatch q)
def cI (prog:Program)(w:World):PySem.KeyKind prog w Key where
 is:=lx
 hash:=keyH w
 inj:=fun v a b ha hb=>by
  rcases cc ha with ⟨i,t,rfl,rfl⟩ | ⟨x,t,rfl,rfl⟩
  ·rcases cc hb with ⟨j,u,rfl,e⟩ | ⟨y,u,rfl,e⟩
   ·injection e with e1 _; rw [e1]
   ·exact nomatch e
  ·rcases cc hb with ⟨j,u,rfl,e⟩ | ⟨y,u,rfl,e⟩
   ·exact nomatch e
   ·injection e with e1 _; rw [e1]
 byValue:=fun k v h=>by
  rcases cc h with ⟨i,t,rfl,rfl⟩ | ⟨x,t,rfl,rfl⟩ <;> rfl
 pyHash:=fun hv h=>by
  rcases cc hv with ⟨i,t,rfl,rfl⟩ | ⟨x,t,rfl,rfl⟩
  ·exact wpAny_pyHash_int h
  ·exact wpAny_pyHash_str h
 eqBool:=fun hu hv h=>by
  rcases cc hu with ⟨i,t,rfl,rfl⟩ | ⟨x,t,rfl,rfl⟩
  ·rcases cc hv with ⟨j,u,rfl,rfl⟩ | ⟨y,u,rfl,rfl⟩
   ·rw [Bn] at h; exact wpAny_eqBool_int h
   ·rw [Bp] at h; exact SeqAt.EqAt.int_str i t y u _ _ _ _ h
  ·rcases cc hv with ⟨j,u,rfl,rfl⟩ | ⟨y,u,rfl,rfl⟩
   ·rw [Bq] at h; exact SeqAt.EqAt.str_int x t j u _ _ _ _ h
   ·rw [Bo] at h; exact wpAny_eqBool_str h
 «strs»:=fun k x t v h=>by
  rcases cc h with ⟨i,u,rfl,e⟩ | ⟨y,u,rfl,e⟩
  ·exact nomatch e
  ·injection e with e1 _
   subst e1
   cases v <;> rfl
theorem mX (prog:Program)(w:World)(i:Int)(t:Tok):(cI prog w).is (.inl i) (.int i t)=true:=qD i t
theorem mY (prog:Program)(w:World)(x:Str)(t:Tok):(cI prog w).is (.inr x) (.str x t)=true:=ly x t
end L2
namespace L2
open PySem PySem.Spec PyProof.Rows
inductive V where
 | non | bl (b:Bool) | int (i:Int) | str (x:Str) | byt (b:Array UInt8) | flt (b:UInt64) | ref (a:Addr) | ty (n:String)
 deriving DecidableEq
def RelV:V→Value→Prop
 | .non,u=>u=Value.none
 | .bl b,u=>u=Value.bool b
 | .int i,u=>∃ t,u=Value.int i t
 | .str x,u=>∃ t,u=Value.str x t
 | .byt b,u=>∃ t,u=Value.bytes b t
 | .flt b,u=>∃ t,u=Value.float b t
 | .ref a,u=>u=Value.ref a
 | .ty n,u=>u=Value.type n
abbrev Vals:List V→List Value→Prop:=Paired RelV
theorem Vals.length {xs:List V}{us:List Value}(r:Vals xs us):xs.length=us.length:=Paired.length r
theorem Vals.get:∀ {xs:List V} {us:List Value} {i:Nat} {x:V},Vals xs us→xs[i]?=some x→∃ u,us[i]?=some u∧RelV x u
 | _,_,_,_,.nil,e=>by simp at e
 | _,_,0,_,.cons r _,e=>by simp at e; subst e; exact ⟨_,rfl,r⟩
 | _,_,i+1,x,.cons _ t,e=>by
  obtain ⟨u,h1,h2⟩:=Vals.get (i:=i) (x:=x) t (by first|exact List.mem_singleton.mp e|simpa using e)
  exact ⟨u,by first|exact List.mem_singleton.mp h1|simpa using h1,h2⟩
theorem Vals.set {x:V}{u:Value}(r:RelV x u):∀ {xs:List V} {us:List Value} (i:Nat),Vals xs us→Vals (xs.set i x) (us.set i u)
 | _,_,_,.nil=>.nil
 | _,_,0,.cons _ t=>.cons r t
 | _,_,i+1,.cons q t=>.cons q (Vals.set r i t)
theorem Vals.append:∀ {xs ys:List V} {us ws:List Value},Vals xs us→Vals ys ws→Vals (xs++ys) (us++ws)
 | _,_,_,_,.nil,s=>s
 | _,_,_,_,.cons r t,s=>.cons r (Vals.append t s)
theorem Vals.take:∀ {xs:List V} {us:List Value} (n:Nat),Vals xs us→Vals (xs.take n) (us.take n)
 | _,_,0,_=>.nil
 | _,_,_+1,.nil=>.nil
 | _,_,n+1,.cons r t=>.cons r (Vals.take n t)
theorem Vals.drop:∀ {xs:List V} {us:List Value} (n:Nat),Vals xs us→Vals (xs.drop n) (us.drop n)
 | _,_,0,r=>r
 | _,_,_+1,.nil=>.nil
 | _,_,n+1,.cons _ t=>Vals.drop n t
def RelO:Option V→Option Value→Prop
 | some v,some u=>RelV v u
 | none,none=>True
 | _,_=>False
def KV {κ:Type}:List (κ×V)→List (κ×Value)→Prop:=Paired fun (p:κ×V) (q:κ×Value)=>p.1=q.1∧RelV p.2 q.2
def kV:Key→V
 | .inl i=>.int i
 | .inr x=>.str x
inductive HO where
 | lst (xs:List V)
 | tup (xs:List V)
 | dK (kvs:List (Key×V)) | dT (kvs:List (List Key×V))
 | set (S:Int→Bool) (n:Nat)
 | ins (C dx:Addr) (fs:List (Str×V))
 | own (x:Addr)
 | xd (fs:List (Str×V))
 | met (f x:Addr)
 | rng (lo hi:Int)
 | frz (o:Obj) (u:HO)
 | tbl (ps:Array Value)
 | ext (φ:Heap→Prop)
abbrev Hp:=Addr→Option HO
def upd (H:Hp)(a:Addr)(o:HO):Hp:=fun b=>if b=a then some o else H b
theorem bB {H:Hp}{a:Addr}{o:HO}:upd H a o a=some o:=by unfold upd; rw [if_pos rfl]
theorem bN {H:Hp}{a b:Addr}{o:HO}(h:b≠a):upd H a o b=H b:=by unfold upd; rw [if_neg h]
theorem Ej {H:Hp}{a b:Addr}{o u:HO}(h:H a=some o)(h':H b=some u)(d:o≠u):a≠b:=by
 intro e; subst e; rw [h] at h'; exact d (Option.some.inj h')
theorem bI {H:Hp}{a b:Addr}{o:HO}(h:H a=some o)(h':H b=none):a≠b:=by
 intro e; subst e; rw [h] at h'; cases h'
section
variable (P:Program) (w:World)
def ObjOk (H:Hp)(h:Heap)(a:Addr):HO→Prop
 | .lst xs=>xs.length≤sizeLine∧∃ (its:List Value) (n:Nat),Vals xs its∧h.get? a=some { cls:=.type "list", data:=.seq its.toArray n }
 | .tup xs=>xs.length≤sizeLine∧∃ its:List Value,Vals xs its∧IsTup h a its.toArray
 | .dK kvs=>kvs.length≤sizeLine∧(a == sysModules)=false∧∃ vs,KV kvs vs∧h.DictOf (cI P w) a vs
 | .dT kvs=>kvs.length≤sizeLine∧(a == sysModules)=false∧∃ xs:List (List Key×Addr×Value),
   Paired (fun (p:List Key×V) (q:List Key×Addr×Value)=>p.1=q.1∧H q.2.1=some (.tup (p.1.map kV))∧RelV p.2 q.2.2) kvs xs ∧
   ∃ o es ep,h.get? a=some o∧o.ExactDict∧o.data=.dict es ep∧es.toList=xs.map (entryOfKey (tupleKind (cI P w)))∧(xs.map (·.1)).Nodup
 | .set S n=>h.SetOf (intKind P w) a S n
 | .ins C dx fs=>H dx=some (.own a)∧fs.length≤1000∧dx≠a∧h.get? a=some (PySem.W.instObj C dx) ∧
   ∃ mA,h.Ns1 dx mA∧(∀ f,RelO (fs.lookup f) (mA f))∧PySem.Within mA (fs.map (·.1))
 | .own _=>∃ o,h.get? a=some o
 | .xd fs=>∃ mA,h.Ns1 a mA∧∀ f,RelO (fs.lookup f) (mA f)
 | .rng lo hi=>∃ t u v,h.get? a=some { cls:=.type "range", data:=.fields #[.int lo t,.int hi u,.int 1 v] }
 | .frz o u=>h.get? a=some o∧ObjOk H h a u
 | .tbl ps=>h.get? a=some { cls:=.none,data:=.fields ps }
 | .met f x=>h.get? a=some (PySem.W.methodObj (.ref f) (.ref x))
 | .ext φ=>φ h∧(∃ o,h.get? a=some o)∧∀ h1 h2:Heap,φ h1→(∀ o,h1.get? a=some o→h2.get? a=some o)→φ h2
def HOk (H:Hp)(h:Heap):Prop:=∀ a o,H a=some o→ObjOk P w H h a o
end
section
variable {P:Program} {w:World} {H H':Hp} {h h':Heap} {a:Addr} {o:HO}
theorem ObjOk.lt (x:ObjOk P w H h a o):a < h.objs.size:=by
 cases o with
 | lst xs=>obtain ⟨_,_,_,_,e⟩:=x; exact Heap.lt_size e
 | tup xs=>obtain ⟨_,_,_,p⟩:=x; exact p.lt
 | dK kvs=>obtain ⟨_,_,_,_,o,_,_,e,_⟩:=x; exact Heap.lt_size e
 | dT kvs=>obtain ⟨_,_,_,_,o,_,_,e,_⟩:=x; exact Heap.lt_size e
 | set S n=>obtain ⟨o,_,_,_,e,_⟩:=x; exact Heap.lt_size e
 | ins C dx fs=>obtain ⟨_,_,_,e,_⟩:=x; exact Heap.lt_size e
 | own y=>obtain ⟨_,e⟩:=x; exact Heap.lt_size e
 | xd fs=>obtain ⟨_,⟨_,_,_,e,_⟩,_⟩:=x; exact Heap.lt_size e
 | rng lo hi=>obtain ⟨_,_,_,e⟩:=x; exact Heap.lt_size e
 | frz ob u=>obtain ⟨e,_⟩:=x; exact Heap.lt_size e
 | tbl ps=>exact Heap.lt_size (show h.get? a=some _ from x)
 | met f y=>exact Heap.lt_size (show h.get? a=some _ from x)
 | ext φ=>obtain ⟨_,⟨_,e⟩,_⟩:=x; exact Heap.lt_size e
theorem Paired.mapP {α β:Type}{F G:α→β→Prop}{l₁:List α}{l₂:List β}(h:Paired F l₁ l₂)(f:∀ a b,F a b→G a b):Paired G l₁ l₂:=by
 induction h with
 | nil=>exact .nil
 | cons r t ih=>exact .cons (f _ _ r) ih
theorem ObjOk.stay (x:ObjOk P w H h a o)(k:∀ b u,(b=a∨H b=some (.own a))→h.get? b=some u→h'.get? b=some u)
  (ho:∀ b,H b=some (.own a)→H' b=some (.own a)) (ht:∀ b xs,H b=some (.tup xs)→H' b=some (.tup xs)):ObjOk P w H' h' a o:=by
 induction o with
 | lst xs=>obtain ⟨z,its,n,r,e⟩:=x; exact ⟨z,its,n,r,k _ _ (.inl rfl) e⟩
 | tup xs=>obtain ⟨z,its,r,ob,e,c⟩:=x; exact ⟨z,its,r,ob,k _ _ (.inl rfl) e,c⟩
 | dK kvs=>obtain ⟨z,y,vs,r,ob,es,ep,e,c⟩:=x; exact ⟨z,y,vs,r,ob,es,ep,k _ _ (.inl rfl) e,c⟩
 | dT kvs =>
  obtain ⟨z,y,xs,r,ob,es,ep,e,c⟩:=x
  exact ⟨z,y,xs,Paired.mapP r fun p q z=>⟨z.1,ht _ _ z.2.1,z.2.2⟩,ob,es,ep,k _ _ (.inl rfl) e,c⟩
 | set S n=>obtain ⟨ob,es,ep,t,e,c⟩:=x; exact ⟨ob,es,ep,t,k _ _ (.inl rfl) e,c⟩
 | ins C dx fs =>
  obtain ⟨d,z,ne,e,mA,⟨od,es,ep,e2,c⟩,r⟩:=x
  exact ⟨ho _ d,z,ne,k _ _ (.inl rfl) e,mA,⟨od,es,ep,k _ _ (.inr d) e2,c⟩,r⟩
 | own y=>obtain ⟨ob,e⟩:=x; exact ⟨ob,k _ _ (.inl rfl) e⟩
 | xd fs=>obtain ⟨mA,⟨od,es,ep,e,c⟩,r⟩:=x; exact ⟨mA,⟨od,es,ep,k _ _ (.inl rfl) e,c⟩,r⟩
 | rng lo hi=>obtain ⟨t,u,v,e⟩:=x; exact ⟨t,u,v,k _ _ (.inl rfl) e⟩
 | frz ob u ih=>obtain ⟨e,q⟩:=x; exact ⟨k _ _ (.inl rfl) e,ih q⟩
 | tbl ps =>
  have e:h.get? a=some { cls:=.none,data:=.fields ps }:=x
  show h'.get? a=some { cls:=.none,data:=.fields ps }
  exact k a _ (.inl rfl) e
 | met f y =>
  have e:h.get? a=some (PySem.W.methodObj (.ref f) (.ref y)):=x
  show h'.get? a=some (PySem.W.methodObj (.ref f) (.ref y))
  exact k a _ (.inl rfl) e
 | ext φ=>obtain ⟨p,⟨o,e⟩,st⟩:=x; exact ⟨st _ _ p fun o q=>k _ _ (.inl rfl) q,⟨o,k _ _ (.inl rfl) e⟩,st⟩
theorem HOk.lt (x:HOk P w H h)(e:H a=some o):a < h.objs.size:=(x a o e).lt
theorem HOk.fresh (x:HOk P w H h)(e:h.objs.size≤a):H a=none:=by
 cases q:H a with
 | none=>rfl
 | some u=>exact absurd (Nat.lt_of_lt_of_le (x.lt q) e) (Nat.lt_irrefl _)
theorem HOk.kept (x:HOk P w H h)(k:∀ b u,h.get? b=some u→h'.get? b=some u):HOk P w H h':=fun a o e =>
 (x a o e).stay (fun b u _ q=>k b u q) (fun _ q=>q) fun _ _ q=>q
theorem HOk.laid (x:HOk P w H h)(k:∀ b u,h.get? b=some u→h'.get? b=some u)(hp:h.objs.size≤a)(new:ObjOk P w (upd H a o) h' a o):HOk P w (upd H a o) h':=fun b u e=>by
 have hn:=x.fresh hp
 by_cases hb:b=a
 ·subst hb; rw [bB] at e; cases e; exact new
 ·rw [bN hb] at e
  exact (x b u e).stay (fun c v _ q=>k c v q) (fun c q=>by rw [bN (bI q hn)]; exact q) fun c xs q=>by rw [bN (bI q hn)]; exact q
end
def Rd (H:Hp)(a:Addr)(u:HO):Prop:=H a=some u∨∃ o,H a=some (.frz o u)
theorem Rd.ok {P:Program}{w:World}{H:Hp}{h:Heap}{a:Addr}{u:HO}(r:Rd H a u)(x:HOk P w H h):ObjOk P w H h a u:=by
 rcases r with r | ⟨o,r⟩
 ·exact x a u r
 ·obtain ⟨_,q⟩:=x a _ r
  exact q
def Mut:Option HO→Prop
 | some (.lst _)=>True
 | some (.dK _)=>True
 | some (.dT _)=>True
 | some (.set _ _)=>True
 | some (.ins _ _ _)=>True
 | some (.ext _)=>True
 | _=>False
section
variable {P:Program} {w:World} {H:Hp} {h h':Heap} {x e:Addr} {o':HO}
theorem HOk.write (ok:HOk P w H h)(mu:Mut (H x))(he:e=x∨H e=some (.own x))(k:∀ b u,b≠e→h.get? b=some u→h'.get? b=some u)(heo:∃ u,h'.get? e=some u)
  (new:ObjOk P w (upd H x o') h' x o'):HOk P w (upd H x o') h':=fun b u q=>by
 have nown:∀ c y,H c=some (.own y)→c≠x:=fun c y r z=>by subst z; rw [r] at mu; exact mu
 have ntup:∀ c xs,H c=some (.tup xs)→c≠x:=fun c xs r z=>by subst z; rw [r] at mu; exact mu
 by_cases hb:b=x
 ·subst hb; rw [bB] at q; cases q; exact new
 ·rw [bN hb] at q
  by_cases hbe:b=e
  ·have q':H b=some (.own x):=by
    rcases he with z | z
    ·exact absurd (hbe.trans z) hb
    ·rw [hbe]; exact z
   rw [q] at q'; cases q'
   obtain ⟨v,hv⟩:=heo
   exact ⟨v,by rw [hbe]; exact hv⟩
  ·refine (ok b u q).stay (fun c v hc r=>k c v ?_ r) (fun c r=>by rw [bN (nown c b r)]; exact r) fun c xs r=>by rw [bN (ntup c xs r)]; exact r
   rcases hc with rfl | hc
   ·exact hbe
   ·rintro rfl
    rcases he with z | z
    ·exact nown c b hc z
    ·rw [hc] at z; cases z; exact hb rfl
end
structure Un (fs ex:List Addr)(H H':Hp)(h h':Heap):Prop where
 keep:∀ b o,h.get? b=some o→H b=none→b ∉ fs→b ∉ ex→h'.get? b=some o
 slot:∀ b o,h.get? b=some o→H b=none→b ∈ fs→b ∉ ex→∃ sl,h'.get? b=some { o with slots:=sl }
 free:∀ b o,h.get? b=some o→H b=none→b ∉ ex→H' b=none
 there:∀ b o,h.get? b=some o→b ∉ ex→∃ o',h'.get? b=some o'
 tups:∀ b xs,H b=some (.tup xs)→H' b=some (.tup xs)
 frzs:∀ b o u,H b=some (.frz o u)→H' b=some (.frz o u)
 tbls:∀ b ps,H b=some (.tbl ps)→∃ more,H' b=some (.tbl (ps++more))
section
variable {fs fs' ex ex':List Addr} {H H1 H2:Hp} {h h1 h2 h':Heap} {a x e:Addr} {o:HO}
theorem Un.any (u:Un fs ex H H1 h h1){b:Addr}{ob:Obj}(q:h.get? b=some ob)(n:H b=none)(hx:b ∉ ex):∃ sl,h1.get? b=some { ob with slots:=sl }:=by
 by_cases hb:b ∈ fs
 ·exact u.slot b ob q n hb hx
 ·exact ⟨ob.slots,u.keep b ob q n hb hx⟩
theorem Un.kept (k:∀ b u,h.get? b=some u→h'.get? b=some u):Un fs ex H H h h' :=
 ⟨fun b ob q _ _ _=>k b ob q,fun b ob q _ _ _=>⟨ob.slots,k b ob q⟩,fun _ _ _ n _=>n,fun b ob q _=>⟨ob,k b ob q⟩,fun _ _ q=>q,fun _ _ _ q=>q,fun _ ps q=>⟨#[],by rw [q]; simp⟩⟩
theorem Un.refl:Un fs ex H H h h:=Un.kept fun _ _ q=>q
theorem Un.laid (k:∀ b u,h.get? b=some u→h'.get? b=some u)(hp:h.objs.size≤a)(hn:H a=none):Un fs ex H (upd H a o) h h' where
 keep:=fun b u q _ _ _=>k b u q
 slot:=fun b u q _ _ _=>⟨u.slots,k b u q⟩
 free:=fun b u q n _=>by rw [bN (Nat.ne_of_lt (Nat.lt_of_lt_of_le (Heap.lt_size q) hp))]; exact n
 there:=fun b u q _=>⟨u,k b u q⟩
 tups:=fun b xs q=>by rw [bN (bI q hn)]; exact q
 frzs:=fun b u xs q=>by rw [bN (bI q hn)]; exact q
 tbls:=fun b ps q=>⟨#[],by rw [bN (bI q hn),q]; simp⟩
theorem Un.write (mu:Mut (H x))(he:e=x∨H e=some (.own x))(k:∀ b u,b≠e→h.get? b=some u→h'.get? b=some u)(heo:∃ u,h'.get? e=some u):Un fs ex H (upd H x o) h h':=by
 have hx:∀ b,H b=none→b≠x:=fun b n z=>by subst z; rw [n] at mu; exact mu
 have hb:∀ b,H b=none→b≠e:=fun b n z=>by
  subst z
  rcases he with r | r
  ·exact hx b n r
  ·rw [n] at r; cases r
 have hm:∀ b u,H b=some u→¬ Mut (some u)→b≠x:=fun b u q nm z=>by subst z; rw [q] at mu; exact nm mu
 refine ⟨fun b u q n _ _=>k b u (hb b n) q,fun b u q n _ _=>⟨u.slots,k b u (hb b n) q⟩,fun b u q n _=>by rw [bN (hx b n)]; exact n,fun b u q _=>?_,
  fun b xs q=>by rw [bN (hm b _ q fun z=>z)]; exact q,fun b u xs q=>by rw [bN (hm b _ q fun z=>z)]; exact q,fun b ps q=>⟨#[],by rw [bN (hm b _ q fun z=>z),q]; simp⟩⟩
 by_cases hbe:b=e
 ·subst hbe; exact heo
 ·exact ⟨u,k b u hbe q⟩
end
def trk (h:Heap)(H:Hp):List Addr:=(List.range h.objs.size).filter fun a=>(H a).isSome
def uP (h:Heap)(H:Hp):Heap:=PySem.W.hideAll h (trk h H)
theorem qE (h:Heap)(H:Hp):(uP h H).objs.size=h.objs.size:=PySem.W.hideAll_size _ _
theorem uQ {h:Heap}{H:Hp}{b:Addr}{o:Obj}(e:h.get? b=some o)(n:H b=none):(uP h H).get? b=some o :=
 PySem.W.hideAll_get _ e fun hm=>by
  have q:(H b).isSome=true:=(List.mem_filter.mp hm).2
  rw [n] at q; simp at q
theorem yk {h:Heap}{H:Hp}{b:Addr}{o:Obj}(e:(uP h H).get? b=some o):h.get? b=some o∧H b=none:=by
 have e':h.get? b=some o:=PySem.W.of_hideAll (trk h H) e
 refine ⟨e',?_⟩
 cases q:H b with
 | none=>rfl
 | some x =>
  have hm:b ∈ trk h H:=List.mem_filter.mpr ⟨List.mem_range.mpr (Heap.lt_size e'),by simp [q]⟩
  have z:(uP h H).get? b=none:=PySem.W.hideAll_none (trk h H) hm
  rw [z] at e; cases e
def kt (g h:Heap)(L:Addr):List (Addr×Obj):=(List.range h.objs.size).filterMap fun a=>if a=L∨(g.get? a).isSome=true then none else (h.get? a).map fun o=>(a,o)
theorem dF {g h:Heap}{L a:Addr}{o:Obj}(h1:a≠L)(h2:g.get? a=none)(h3:h.get? a=some o):(a,o) ∈ kt g h L :=
 List.mem_filterMap.mpr ⟨a,List.mem_range.mpr (Heap.lt_size h3),by simp [h1,h2,h3]⟩
theorem jz {g h:Heap}{L:Addr}{p:Addr×Obj}(hp:p ∈ kt g h L):p.1≠L∧g.get? p.1=none∧h.get? p.1=some p.2:=by
 obtain ⟨b,_,e⟩:=List.mem_filterMap.mp hp
 split at e
 ·cases e
 ·rename_i hn
  cases q:h.get? b with
  | none=>rw [q] at e; simp at e
  | some u =>
   rw [q] at e
   simp only [Option.map_some,Option.some.injEq] at e
   subst e
   refine ⟨fun z=>hn (.inl z),?_,q⟩
   show g.get? b=none
   cases r:g.get? b with
   | none=>rfl
   | some v=>exact (hn (.inr (by simp [r]))).elim
def rest (g h:Heap)(L d:Addr):List (Addr×Obj):=(kt g h L).filter fun p=>decide (p.1≠d)
theorem nR {g h:Heap}{L:Addr}:News g L h (kt g h L):=fun p hp=>let ⟨a,b,c⟩:=jz hp; ⟨c,a,b⟩
end L2
namespace L2
open PySem PySem.Spec PyProof.Rows
structure Mod (K:PySem.W.Frag)(mg:Str→Option Value)(base:Heap):Prop where
 kin:K.In base
 glob:base.Ns mainGlobals mg
 blt:∃ mb,base.Ns builtinsNs mb∧∀ x:Str,x ≠ "__name__" → mb x=bootBuiltins x
 nolimit:base.NoLimit
structure Cx where
 prog:Program
 w:World
 K:PySem.W.Frag
 mg:Str→Option Value
 base:Heap
 A:Around
 N:List Str
 s₀:Shared
 H₀:Hp
 env:Env
 outer:List Env
 stack:List Env
 ex:List Addr
 fn:Str→Bool
 calm:Bool
 pn:List (Addr×Obj)
 xe:Value→Shared→Prop
def frs (l:List Env):List Addr:=l.filterMap (·.frame)
abbrev Cx.fs (X:Cx):List Addr:=frs X.outer
def Vis (sc:Scope)(x:Str):Prop:=sc.names.lookup x=some .local∨sc.names.lookup x=some .cell∨sc.names.lookup x=some .free
def Loc (sc:Scope)(x:Str):Prop:=sc.names.lookup x=some .local∨sc.names.lookup x=some .cell
def Look (env:Env)(h:Heap)(m:Str→Option Value)(x:Str)(u:Value):Prop :=
 (env.kindOf x=some .local∧m x=some u)∨((env.kindOf x=some .cell∨env.kindOf x=some .free)∧∃ c,env.cells.lookup x=some c∧h.IsCell c (some u))
structure Cx.Ok (X:Cx):Prop where
 mod:Mod X.K X.mg X.base
 kind:X.env.scope.kind=.function
 glob:X.env.globals=mainGlobals
 blt:X.env.builtins=builtinsNs
 above:X.s₀.heap.objs.size≤X.env.locals
 inj:∀ x y c,X.env.cells.lookup x=some c→X.env.cells.lookup y=some c→x=y
 has:∀ x,(X.env.kindOf x=some .cell∨X.env.kindOf x=some .free)→∃ c,X.env.cells.lookup x=some c
 cab:∀ x c,X.fn x=true→X.env.cells.lookup x=some c→X.s₀.heap.objs.size≤c
 hd:X.calm=true→X.A.handled=none
 frames:X.A.frames=some X.stack
 stk:X.stack=X.outer∨(X.stack=X.env::X.outer∧X.env.frame=some X.env.locals)
 exf:∀ b ∈ X.ex,b≠X.env.locals∧∀ x c,X.env.cells.lookup x=some c→c≠b
 bs:∀ b o,X.base.get? b=some o→X.s₀.heap.get? b=some o∧X.H₀ b=none
 bsz:X.base.objs.size≤X.s₀.heap.objs.size
 noex:∀ b o,X.base.get? b=some o→b ∉ X.ex
 exfs:∀ b ∈ X.ex,b ∉ X.fs
 funs:X.s₀.heap.FunFrames X.base X.outer
 frf:∀ b ∈ X.fs,X.H₀ b=none
structure Inv (X:Cx)(pins:List (Addr×Obj))(σ:List (Option V))(H:Hp)(s:Shared):Prop where
 ok:X.Ok
 os:s.os=X.s₀.os
 bare:AllBare s.gens
 base:Un X.fs X.ex X.H₀ H X.s₀.heap s.heap
 loc:∃ m,s.heap.Ns X.env.locals m∧∀ (i:Nat) (x:Str) (v:V),X.N[i]?=some x→σ[i]?=some (some v)→Vis X.env.scope x→∃ u,RelV v u∧Look X.env s.heap m x u
 cell:∀ x c,X.env.cells.lookup x=some c→∃ v,s.heap.IsCell c v
 free:H X.env.locals=none
 freeC:∀ x c,X.env.cells.lookup x=some c→H c=none
 pin:∀ p ∈ X.pn++pins,s.heap.get? p.1=some p.2∧H p.1=none∧p.1≠X.env.locals∧p.1 ∉ X.fs∧∀ v,p.2.data≠.cell v
 hok:HOk X.prog X.w H s.heap
 len:σ.length=X.N.length
section
variable {X:Cx} {pins:List (Addr×Obj)} {σ:List (Option V)} {H H':Hp} {s:Shared} {h':Heap}
theorem Cx.Ok.nofr (ok:X.Ok){b:Addr}{o:Obj}(e:X.base.get? b=some o):b ∉ X.fs:=fun hb=>by
 have:=(ok.funs.mem hb).1
 rw [e] at this; cases this
theorem Inv.bs (I:Inv X pins σ H s):∀ b o,X.base.get? b=some o→s.heap.get? b=some o∧H b=none:=fun b o e =>
 ⟨I.base.keep b o (I.ok.bs b o e).1 (I.ok.bs b o e).2 (I.ok.nofr e) (I.ok.noex b o e),I.base.free b o (I.ok.bs b o e).1 (I.ok.bs b o e).2 (I.ok.noex b o e)⟩
theorem Inv.bk (I:Inv X pins σ H s):∀ b o,X.base.get? b=some o→s.heap.get? b=some o:=fun b o e=>(I.bs b o e).1
theorem Inv.mod (I:Inv X pins σ H s):Mod X.K X.mg X.base:=I.ok.mod
theorem Inv.kIn (I:Inv X pins σ H s):X.K.In s.heap:=I.ok.mod.kin.keeps I.bk
theorem Inv.lt (I:Inv X pins σ H s):X.env.locals < s.heap.objs.size:=let ⟨_,hn,_⟩:=I.loc; hn.lt
theorem Inv.sz (I:Inv X pins σ H s):X.s₀.heap.objs.size≤s.heap.objs.size:=Nat.le_trans I.ok.above (Nat.le_of_lt I.lt)
theorem Inv.nofs (I:Inv X pins σ H s){a:Addr}(h:s.heap.objs.size≤a):a ∉ X.fs:=fun hb=>by
 obtain ⟨_,o,ho,_⟩:=I.ok.funs.mem hb
 exact absurd (Nat.lt_of_lt_of_le (Heap.lt_size ho) (Nat.le_trans I.sz h)) (Nat.lt_irrefl _)
theorem Inv.cne (I:Inv X pins σ H s):∀ x c,X.env.cells.lookup x=some c→c≠X.env.locals:=fun x c e z=>by
 obtain ⟨v,o,ho,hd⟩:=I.cell x c e
 obtain ⟨m,⟨o',es,ep,ho',hd',_⟩,_⟩:=I.loc
 rw [z,ho'] at ho; cases ho; rw [hd'] at hd; cases hd
theorem Inv.funs (I:Inv X pins σ H s):s.heap.FunFrames X.base X.outer:=by
 have all:∀ (l:List Env),(∀ b ∈ frs l,b ∈ X.fs)→X.s₀.heap.FunFrames X.base l→s.heap.FunFrames X.base l:=by
  intro l
  induction l with
  | nil=>intro _ _; trivial
  | cons env r ih =>
   intro hs hl
   obtain ⟨hk,⟨L,o,hf,hn,ho,hd⟩,hr⟩:=hl
   have hL:L ∈ X.fs:=hs L (by unfold frs; rw [List.filterMap_cons,hf]; exact List.mem_cons_self)
   obtain ⟨sl,e⟩:=I.base.slot L o ho (I.ok.frf L hL) hL fun z=>I.ok.exfs L z hL
   exact ⟨hk,⟨L,_,hf,hn,e,hd⟩,ih (fun b hb=>hs b (by unfold frs; rw [List.filterMap_cons,hf]; exact List.mem_cons_of_mem _ hb)) hr⟩
 exact all X.outer (fun _ hb=>hb) I.ok.funs
theorem Inv.stack (I:Inv X pins σ H s):s.heap.FunFrames X.base X.stack:=by
 rcases I.ok.stk with e | ⟨e,hf⟩
 ·rw [e]; exact I.funs
 ·rw [e]
  obtain ⟨m,hn,_⟩:=I.loc
  refine .cons (by rw [I.ok.kind]; decide) hf hn ?_ I.funs
  exact Heap.get?_none_of_le (Nat.le_trans I.ok.bsz I.ok.above)
theorem Inv.stkSub (I:Inv X pins σ H s):∀ b ∈ frs X.stack,b ∈ X.env.locals::X.fs:=fun b hb=>by
 rcases I.ok.stk with e | ⟨e,hf⟩
 ·rw [e] at hb; exact List.mem_cons_of_mem _ hb
 ·rw [e] at hb
  unfold frs at hb
  rw [List.filterMap_cons,hf] at hb
  exact hb
theorem Inv.stkFree (I:Inv X pins σ H s):∀ b ∈ frs X.stack,H b=none:=fun b hb=>by
 rcases List.mem_cons.mp (I.stkSub b hb) with e | hb
 ·rw [e]; exact I.free
 ·obtain ⟨_,o,ho,_⟩:=I.ok.funs.mem hb
  exact I.base.free b o ho (I.ok.frf b hb) fun z=>I.ok.exfs b z hb
theorem Inv.step {g':Array GenState}{t':Nat}{d':Drawn}{ch:List Addr}(I:Inv X pins σ H s)
  (hch:∀ b ∈ ch,(b ∈ X.ex∨X.s₀.heap.objs.size≤b)∧b≠X.env.locals∧(∀ x c,X.env.cells.lookup x=some c→c≠b)∧∀ p ∈ X.pn++pins,p.1≠b)
  (keep:∀ b o,b≠X.env.locals→b ∉ X.fs→b ∉ ch→s.heap.get? b=some o→H b=none→h'.get? b=some o)
  (slot:∀ b o,b≠X.env.locals→b ∈ X.fs→b ∉ ch→s.heap.get? b=some o→H b=none→∃ sl,h'.get? b=some { o with slots:=sl }) (free:∀ b o,b ∉ ch→s.heap.get? b=some o→H b=none→H' b=none)
  (there:∀ b o,b ∉ ch→s.heap.get? b=some o→∃ o',h'.get? b=some o')
  (tups:∀ b xs,H b=some (.tup xs)→H' b=some (.tup xs)) (frzs:∀ b o u,H b=some (.frz o u)→H' b=some (.frz o u)) (tbls:∀ b ps,H b=some (.tbl ps)→∃ more,H' b=some (.tbl (ps++more)))
  (ns:∀ m,s.heap.Ns X.env.locals m→h'.Ns X.env.locals m) (hok:HOk X.prog X.w H' h') (hg:AllBare g') :
  Inv X pins σ H' { s with heap:=h',gens:=g',drawn:=d',toks:=t' }:=by
 have neL:∀ b o,X.s₀.heap.get? b=some o→b≠X.env.locals:=fun b o e=>Nat.ne_of_lt (Nat.lt_of_lt_of_le (Heap.lt_size e) I.ok.above)
 have neC:∀ b o,X.s₀.heap.get? b=some o→b ∉ X.ex→b ∉ ch:=fun b o e hx hb=>by
  rcases (hch b hb).1 with z | z
  ·exact hx z
  ·exact absurd (Nat.lt_of_lt_of_le (Heap.lt_size e) z) (Nat.lt_irrefl _)
 have cellK:∀ x c,X.env.cells.lookup x=some c→∀ v,s.heap.IsCell c v→h'.IsCell c v:=fun x c e v ⟨o,ho,hd⟩=>by
  have nch:c ∉ ch:=fun z=>(hch c z).2.2.1 x c e rfl
  by_cases hc:c ∈ X.fs
  ·obtain ⟨sl,q⟩:=slot c o (I.cne x c e) hc nch ho (I.freeC x c e)
   exact ⟨_,q,hd⟩
  ·exact ⟨o,keep c o (I.cne x c e) hc nch ho (I.freeC x c e),hd⟩
 refine ⟨I.ok,I.os,hg,⟨fun b o e n hb hx=>?_,fun b o e n hb hx=>?_,fun b o e n hx=>?_,fun b o e hx=>?_,fun b xs e=>tups b xs (I.base.tups b xs e),fun b o xs e=>frzs b o xs (I.base.frzs b o xs e),fun b ps e=>?_⟩,?_,fun x c e=>?_,?_,fun x c e=>?_,fun p hp=>?_,hok,I.len⟩
 ·exact keep b o (neL b o e) hb (neC b o e hx) (I.base.keep b o e n hb hx) (I.base.free b o e n hx)
 ·obtain ⟨sl,e1⟩:=I.base.slot b o e n hb hx
  obtain ⟨sl',e2⟩:=slot b _ (neL b o e) hb (neC b o e hx) e1 (I.base.free b o e n hx)
  exact ⟨sl',e2⟩
 ·obtain ⟨o',e1⟩:=I.base.there b o e hx
  exact free b o' (neC b o e hx) e1 (I.base.free b o e n hx)
 ·obtain ⟨o',e1⟩:=I.base.there b o e hx
  exact there b o' (neC b o e hx) e1
 ·obtain ⟨m1,e1⟩:=I.base.tbls b ps e
  obtain ⟨m2,e2⟩:=tbls b _ e1
  exact ⟨m1++m2,by rw [e2,Array.append_assoc]⟩
 ·obtain ⟨m,hn,hl⟩:=I.loc
  refine ⟨m,ns m hn,fun i x v e1 e2 e3=>?_⟩
  obtain ⟨u,r,l⟩:=hl i x v e1 e2 e3
  refine ⟨u,r,?_⟩
  rcases l with l | ⟨k,c,e,z⟩
  ·exact .inl l
  ·exact .inr ⟨k,c,e,cellK x c e _ z⟩
 ·obtain ⟨v,z⟩:=I.cell x c e
  exact ⟨v,cellK x c e v z⟩
 ·obtain ⟨m,⟨o,_,_,ho,_⟩,_⟩:=I.loc
  exact free _ o (fun z=>(hch _ z).2.1 rfl) ho I.free
 ·obtain ⟨v,o,ho,hd⟩:=I.cell x c e
  exact free c o (fun z=>(hch c z).2.2.1 x c e rfl) ho (I.freeC x c e)
 ·obtain ⟨e,n,ne,nf,d⟩:=I.pin p hp
  have nch:p.1 ∉ ch:=fun z=>(hch p.1 z).2.2.2 p hp rfl
  exact ⟨keep p.1 p.2 ne nf nch e n,free p.1 p.2 nch e n,ne,nf,d⟩
theorem Inv.un {t':Nat}(I:Inv X pins σ H s)(u:Un X.fs [] H H' s.heap h')(hok:HOk X.prog X.w H' h'):Inv X pins σ H' { s with heap:=h',toks:=t' }:=by
 obtain ⟨m,⟨o,es,ep,ho,r⟩,_⟩:=id I.loc
 obtain ⟨sl,hL⟩:=u.any ho I.free (by simp)
 exact I.step (g':=s.gens) (d':=s.drawn) (ch:=[]) (fun _ z=>nomatch z) (fun b o _ hb _ e n=>u.keep b o e n hb (by simp)) (fun b o _ hb _ e n=>u.slot b o e n hb (by simp)) (fun b o _ e n=>u.free b o e n (by simp)) (fun b o _ e=>u.there b o e (by simp)) u.tups u.frzs u.tbls (fun m' hm=>by
  obtain ⟨o',es',ep',ho',r'⟩:=hm
  rw [ho] at ho'; cases ho'
  exact ⟨_,es',ep',hL,r'⟩) hok I.bare
theorem Inv.call {g':Array GenState}{t':Nat}{d':Drawn}{ch:List Addr}(I:Inv X pins σ H s)(u:Un (frs X.stack) ch H H' s.heap h')(hok:HOk X.prog X.w H' h')(hg:AllBare g')
  (hch:∀ b ∈ ch,(b ∈ X.ex∨X.s₀.heap.objs.size≤b)∧b≠X.env.locals∧(∀ x c,X.env.cells.lookup x=some c→c≠b)∧∀ p ∈ X.pn++pins,p.1≠b) :
  Inv X pins σ H' { s with heap:=h',gens:=g',drawn:=d',toks:=t' }:=by
 obtain ⟨m,⟨o,es,ep,ho,r⟩,_⟩:=id I.loc
 obtain ⟨sl,hL⟩:=u.any ho I.free fun z=>(hch _ z).2.1 rfl
 exact I.step (ch:=ch) hch (fun b o hL hb hc e n=>u.keep b o e n (fun z=>(List.mem_cons.mp (I.stkSub b z)).elim hL hb) hc) (fun b o _ _ hc e n=>u.any e n hc) (fun b o hc e n=>u.free b o e n hc) (fun b o hc e=>u.there b o e hc) u.tups u.frzs u.tbls (fun m' hm=>by
  obtain ⟨o',es',ep',ho',r'⟩:=hm
  rw [ho] at ho'; cases ho'
  exact ⟨_,es',ep',hL,r'⟩) hok hg
theorem Inv.turned {t':Nat}{it:Addr}(I:Inv X pins σ H s)(k:∀ b o,b≠it→s.heap.get? b=some o→h'.get? b=some o)(hn:H it=none)(hL:it≠X.env.locals)
  (h1:it ∈ X.ex∨X.s₀.heap.objs.size≤it) (h2:∀ x c,X.env.cells.lookup x=some c→c≠it) (h3:∀ p ∈ X.pn++pins,p.1≠it):Inv X pins σ H { s with heap:=h',toks:=t' }:=by
 have nit:∀ b u,H b=some u→b≠it:=fun b u e z=>by rw [z,hn] at e; cases e
 refine I.step (g':=s.gens) (d':=s.drawn) (ch:=[it]) (fun b hb=>?_) (fun b o _ _ hc e _=>k b o (fun z=>hc (by simp [z])) e) (fun b o _ _ hc e _=>⟨o.slots,k b o (fun z=>hc (by simp [z])) e⟩) (fun _ _ _ _ n=>n)
  (fun b o hc e=>⟨o,k b o (fun z=>hc (by simp [z])) e⟩) (fun _ _ e=>e) (fun _ _ _ e=>e) (fun b ps e=>⟨#[],by rw [e]; simp⟩) (fun m hm=>?_) (fun b u e=>?_) I.bare
 ·have e:b=it:=by first|exact List.mem_singleton.mp hb|simpa using hb
  subst e
  exact ⟨h1,hL,h2,h3⟩
 ·obtain ⟨o,es,ep,ho,r⟩:=hm
  exact ⟨o,es,ep,k _ o (Ne.symm hL) ho,r⟩
 ·refine (I.hok b u e).stay (fun c v hc q=>k c v ?_ q) (fun _ q=>q) fun _ _ q=>q
  rcases hc with z | z
  ·rw [z]; exact nit b u e
  ·exact nit c _ z
theorem Inv.tok (I:Inv X pins σ H s)(t:Nat):Inv X pins σ H { s with toks:=t }:=I.un (h':=s.heap) (t':=t) Un.refl I.hok
theorem Inv.kept {t':Nat}(I:Inv X pins σ H s)(k:∀ b u,s.heap.get? b=some u→h'.get? b=some u):Inv X pins σ H { s with heap:=h',toks:=t' }:=I.un (Un.kept k) (I.hok.kept k)
theorem Inv.laid {a:Addr}{o:HO}{t':Nat}(I:Inv X pins σ H s)(k:∀ b u,s.heap.get? b=some u→h'.get? b=some u)(hp:s.heap.objs.size≤a)(new:ObjOk X.prog X.w (upd H a o) h' a o) :
  Inv X pins σ (upd H a o) { s with heap:=h',toks:=t' }:=I.un (Un.laid k hp (I.hok.fresh hp)) (I.hok.laid k hp new)
theorem Inv.write {x e:Addr}{o:HO}{t':Nat}(I:Inv X pins σ H s)(mu:Mut (H x))(he:e=x∨H e=some (.own x))(k:∀ b u,b≠e→s.heap.get? b=some u→h'.get? b=some u)(heo:∃ u,h'.get? e=some u)
  (new:ObjOk X.prog X.w (upd H x o) h' x o):Inv X pins σ (upd H x o) { s with heap:=h',toks:=t' }:=I.un (Un.write mu he k heo) (I.hok.write mu he k heo new)
theorem Inv.pins_of {pins':List (Addr×Obj)}(I:Inv X pins σ H s)(h:∀ p ∈ pins',s.heap.get? p.1=some p.2∧H p.1=none∧p.1≠X.env.locals∧p.1 ∉ X.fs∧∀ v,p.2.data≠.cell v):Inv X pins' σ H s :=
 ⟨I.ok,I.os,I.bare,I.base,I.loc,I.cell,I.free,I.freeC,fun p hp=>(List.mem_append.mp hp).elim (fun z=>I.pin p (List.mem_append_left _ z)) (h p),I.hok,I.len⟩
theorem nS {N:List Str}(hN:N.Nodup){i j:Nat}{x:Str}(a:N[i]?=some x)(b:N[j]?=some x):i=j:=by
 obtain ⟨h1,e1⟩:=List.getElem?_eq_some_iff.mp a
 obtain ⟨h2,e2⟩:=List.getElem?_eq_some_iff.mp b
 exact (List.getElem_inj hN).mp (e1.trans e2.symm)
theorem iD {M:Model}{A:Around}{E:Value→Shared→Prop}{i:Nat}{x:Str}{v:V}{u:Value}{Q:Unit→Shared→Prop}(I:Inv X pins σ H s)(hN:X.N.Nodup)(hi:X.N[i]?=some x)(hx:Loc X.env.scope x)(r:RelV v u)
  (h:∀ s',Inv X pins (σ.set i (some v)) H s'→(∃ a,Heap.SameBut a s.heap s'.heap∧(a=X.env.locals∨X.env.cells.lookup x=some a))→Q () s') (hf:autoParam (X.fn x=true∨X.env.scope.names.lookup x=some .local) L2.aF._auto_1):wpAny M A (storeName X.env x u) Q E s:=by
 obtain ⟨m,hn,hl⟩:=id I.loc
 have hcls:(X.env.scope.kind == .class || (X.env.scope.kind == .module && X.env.locals != X.env.globals))=false:=by rw [I.ok.kind]; rfl
 have hiσ:i < σ.length:=by rw [I.len]; exact (List.getElem?_eq_some_iff.mp hi).1
 have cne:=I.cne
 have tracked:∀ {a:Addr} {h':Heap},(∃ o,s.heap.get? a=some o∧H a=none)→Heap.SameBut a s.heap h'→HOk X.prog X.w H h':=fun {a h'} ha hs b ob e=>by
  obtain ⟨_,_,hfree⟩:=ha
  refine (I.hok b ob e).stay (fun c w' hc q=>(hs.2 c ?_).trans q) (fun _ q=>q) fun _ _ q=>q
  rintro rfl
  rcases hc with rfl | hc
  ·rw [hfree] at e; cases e
  ·rw [hfree] at hc; cases hc
 rcases hx with hk | hk
 ·refine wpAny_storeName_local hk hn (fun h' hn' hs=>?_) hcls
  obtain ⟨oL,_,_,hoL,_⟩:=id hn
  refine h _ ⟨I.ok,I.os,I.bare,⟨fun b o e n hb hx=>?_,fun b o e n hb hx=>?_,I.base.free,fun b o e hx=>?_,I.base.tups,I.base.frzs,I.base.tbls⟩,⟨_,hn',fun j y v' e1 e2 e3=>?_⟩,fun y c e=>?_,I.free,I.freeC,fun p hp=>?_,tracked ⟨oL,hoL,I.free⟩ hs,by simpa using I.len⟩ ⟨_,hs,.inl rfl⟩
  ·exact (hs.2 b (Nat.ne_of_lt (Nat.lt_of_lt_of_le (Heap.lt_size e) I.ok.above))).trans (I.base.keep b o e n hb hx)
  ·obtain ⟨sl,e1⟩:=I.base.slot b o e n hb hx
   exact ⟨sl,(hs.2 b (Nat.ne_of_lt (Nat.lt_of_lt_of_le (Heap.lt_size e) I.ok.above))).trans e1⟩
  ·obtain ⟨o',e1⟩:=I.base.there b o e hx
   exact ⟨o',(hs.2 b (Nat.ne_of_lt (Nat.lt_of_lt_of_le (Heap.lt_size e) I.ok.above))).trans e1⟩
  ·by_cases hj:j=i
   ·subst hj
    rw [hi] at e1; cases e1
    rw [List.getElem?_set_self hiσ] at e2
    cases e2
    exact ⟨u,r,.inl ⟨hk,by simp⟩⟩
   ·rw [List.getElem?_set_ne (Ne.symm hj)] at e2
    obtain ⟨u',r',q⟩:=hl j y v' e1 e2 e3
    refine ⟨u',r',?_⟩
    rcases q with ⟨k,e⟩ | ⟨k,c,e,z⟩
    ·refine .inl ⟨k,?_⟩
     have:y≠x:=fun e=>hj (nS hN e1 (e ▸ hi))
     simp [this,e]
    ·exact .inr ⟨k,c,e,z.sameBut hs (cne y c e)⟩
  ·obtain ⟨w',z⟩:=I.cell y c e
   exact ⟨w',z.sameBut hs (cne y c e)⟩
  ·obtain ⟨e,n,ne,nf,d⟩:=I.pin p hp
   exact ⟨(hs.2 p.1 ne).trans e,n,ne,nf,d⟩
 ·have hfn:X.fn x=true:=by
   rcases hf with z | z
   ·exact z
   ·rw [z] at hk; cases hk
  obtain ⟨c,hc⟩:=I.ok.has x (.inl hk)
  obtain ⟨w',z⟩:=I.cell x c hc
  refine wpAny_storeName_cell I.ok.kind hk hc z (fun h' hc' hs=>?_)
  obtain ⟨oc,hoc,hocd⟩:=id z
  refine h { s with heap:=h' } ⟨I.ok,I.os,I.bare,⟨fun b o e n hb hx=>?_,fun b o e n hb hx=>?_,I.base.free,fun b o e hx=>?_,I.base.tups,I.base.frzs,I.base.tbls⟩,⟨m,hn.sameBut hs (Ne.symm (cne x c hc)),fun j y v' e1 e2 e3=>?_⟩,fun y c' e=>?_,I.free,I.freeC,fun p hp=>?_,tracked ⟨oc,hoc,I.freeC x c hc⟩ hs,by simpa using I.len⟩ ⟨c,hs,.inr hc⟩
  ·exact (hs.2 b (Nat.ne_of_lt (Nat.lt_of_lt_of_le (Heap.lt_size e) (I.ok.cab x c hfn hc)))).trans (I.base.keep b o e n hb hx)
  ·obtain ⟨sl,e1⟩:=I.base.slot b o e n hb hx
   exact ⟨sl,(hs.2 b (Nat.ne_of_lt (Nat.lt_of_lt_of_le (Heap.lt_size e) (I.ok.cab x c hfn hc)))).trans e1⟩
  ·obtain ⟨o',e1⟩:=I.base.there b o e hx
   exact ⟨o',(hs.2 b (Nat.ne_of_lt (Nat.lt_of_lt_of_le (Heap.lt_size e) (I.ok.cab x c hfn hc)))).trans e1⟩
  ·by_cases hj:j=i
   ·subst hj
    rw [hi] at e1; cases e1
    rw [List.getElem?_set_self hiσ] at e2
    cases e2
    exact ⟨u,r,.inr ⟨.inl hk,c,hc,hc'⟩⟩
   ·rw [List.getElem?_set_ne (Ne.symm hj)] at e2
    obtain ⟨u',r',q⟩:=hl j y v' e1 e2 e3
    refine ⟨u',r',?_⟩
    rcases q with q | ⟨k,c',e,z'⟩
    ·exact .inl q
    ·refine .inr ⟨k,c',e,z'.sameBut hs ?_⟩
     rintro rfl
     exact hj (nS hN e1 (I.ok.inj _ _ _ e hc ▸ hi))
  ·by_cases hcc:c'=c
   ·subst hcc; exact ⟨_,hc'⟩
   ·obtain ⟨w2,z2⟩:=I.cell y c' e
    exact ⟨w2,z2.sameBut hs hcc⟩
  ·obtain ⟨e,n,ne,nf,d⟩:=I.pin p hp
   refine ⟨(hs.2 p.1 ?_).trans e,n,ne,nf,d⟩
   intro q
   rw [q,hoc] at e
   have q':oc=p.2:=Option.some.inj e
   exact d w' (by rw [← q']; exact hocd)
theorem nT {M:Model}{A:Around}{E:Value→Shared→Prop}{i:Nat}{x:Str}{v:V}{u:Value}{Q:Unit→Shared→Prop}(I:Inv X pins σ H s)(hN:X.N.Nodup)(hi:X.N[i]?=some x)(hx:Loc X.env.scope x)(r:RelV v u)
  (h:∀ s',Inv X pins (σ.set i (some v)) H s'→Q () s') (hf:autoParam (X.fn x=true∨X.env.scope.names.lookup x=some .local) L2.aF._auto_1):wpAny M A (storeName X.env x u) Q E s :=
 iD I hN hi hx r (fun s' I' _=>h s' I') hf
theorem Inv.call' {s':Shared}{ch:List Addr}(I:Inv X pins σ H s)(ho:s'.os=s.os)(u:Un (frs X.stack) ch H H' s.heap s'.heap)(hok:HOk X.prog X.w H' s'.heap)(hg:AllBare s'.gens)
  (hch:∀ b ∈ ch,(b ∈ X.ex∨X.s₀.heap.objs.size≤b)∧b≠X.env.locals∧(∀ x c,X.env.cells.lookup x=some c→c≠b)∧∀ p ∈ X.pn++pins,p.1≠b):Inv X pins σ H' s':=by
 obtain ⟨h',g',d',t',o'⟩:=s'
 have e:o'=s.os:=ho
 subst e
 exact I.call (g':=g') (t':=t') (d':=d') u hok hg hch
end
abbrev XK:=Value→Option Addr→Hp→Prop
abbrev St:=List (Option V)
abbrev VK:=V→Hp→Prop
abbrev TE:=St→Hp→VK→Prop
abbrev TT:=St→Hp→(Bool→Hp→Prop)→Prop
abbrev TA:=St→Hp→(List V→Hp→Prop)→Prop
structure Ends where
 nx:St→Hp→Prop
 rt:VK
 bk:St→Hp→Prop:=fun _ _=>False
 ct:St→Hp→Prop:=fun _ _=>False
abbrev TS:=Ends→St→Hp→Prop
def EP (X:Cx)(pins:List (Addr×Obj))(σ:St)(Q:VK)(u:Value)(s':Shared):Prop:=∃ v H',Inv X pins σ H' s'∧RelV v u∧Q v H'
def TP (X:Cx)(pins:List (Addr×Obj))(σ:St)(Q:Bool→Hp→Prop)(b:Bool)(s':Shared):Prop:=∃ H',Inv X pins σ H' s'∧Q b H'
def AP (X:Cx)(pins:List (Addr×Obj))(σ:St)(Q:List V→Hp→Prop)(us:List Value)(s':Shared):Prop:=∃ vs H',Inv X pins σ H' s'∧Vals vs us∧Q vs H'
def SP (X:Cx)(pins:List (Addr×Obj))(D:Ends)(f:Flow)(s':Shared):Prop :=
 match f with
 | .next=>∃ σ' H',Inv X pins σ' H' s'∧D.nx σ' H'
 | .brk=>∃ σ' H',Inv X pins σ' H' s'∧D.bk σ' H'
 | .cont=>∃ σ' H',Inv X pins σ' H' s'∧D.ct σ' H'
 | .ret u=>∃ v σ' H',Inv X pins σ' H' s'∧RelV v u∧D.rt v H'
def PE (X:Cx)(e:Expr)(t:TE):Prop :=
 ∀ (pins:List (Addr×Obj)) (s:Shared) (σ:St) (H:Hp) (Q:VK),Inv X pins σ H s→t σ H Q→wpAny (model X.prog X.w) X.A (eval e X.env) (EP X pins σ Q) X.xe s
def PT (X:Cx)(e:Expr)(t:TT):Prop :=
 ∀ (pins:List (Addr×Obj)) (s:Shared) (σ:St) (H:Hp) (Q:Bool→Hp→Prop),Inv X pins σ H s→t σ H Q→wpAny (model X.prog X.w) X.A (isTrue e X.env (eval e X.env)) (TP X pins σ Q) X.xe s
def PW (X:Cx)(e:Expr)(t:TT):Prop :=
 ∀ (whole:Sem Value) (pins:List (Addr×Obj)) (s:Shared) (σ:St) (H:Hp) (Q:Bool→Hp→Prop),Inv X pins σ H s→t σ H Q→wpAny (model X.prog X.w) X.A (isTrue e X.env whole) (TP X pins σ Q) X.xe s
theorem PW.pt {X:Cx}{e:Expr}{t:TT}(h:PW X e t):PT X e t:=h _
def PA (X:Cx)(es:List Expr)(t:TA):Prop :=
 ∀ (pos:Pos) (pins:List (Addr×Obj)) (s:Shared) (σ:St) (H:Hp) (Q:List V→Hp→Prop),Inv X pins σ H s→t σ H Q→wpAny (model X.prog X.w) X.A (spliced (backTo pos (starEach es X.env))) (AP X pins σ Q) X.xe s
def PS (X:Cx)(st:Stmt)(t:TS):Prop :=
 ∀ (pins:List (Addr×Obj)) (s:Shared) (σ:St) (H:Hp) (D:Ends),Inv X pins σ H s→t D σ H→wpAny (model X.prog X.w) X.A (exec st X.env) (SP X pins D) X.xe s
def PSs (X:Cx)(st:List Stmt)(t:TS):Prop :=
 ∀ (pins:List (Addr×Obj)) (s:Shared) (σ:St) (H:Hp) (D:Ends),Inv X pins σ H s→t D σ H→wpAny (model X.prog X.w) X.A (execs st X.env) (SP X pins D) X.xe s
theorem thn {α:Type}{t:Sem α}{Q Q':α→Shared→Prop}{M:Model}{A:Around}{E:Value→Shared→Prop}{s:Shared}(h:wpAny M A t Q E s)(hQ:∀ a s,Q a s→Q' a s):wpAny M A t Q' E s:=wpAny_mono h hQ fun _ _ x=>x
end L2
namespace L2
open PySem PySem.Spec PyProof.Rows
section
variable {X:Cx}
theorem bin {a b:Expr}{ta tb:TE}(ha:PE X a ta)(hb:PE X b tb){pins:List (Addr×Obj)}{s:Shared}{σ:St}{H:Hp}{R:V→V→Hp→Prop}(I:Inv X pins σ H s)(h:ta σ H fun x H1=>tb σ H1 fun y H2=>R x y H2)
  {α:Type} {Q:α→Shared→Prop} {f:Value→Value→Sem α}
  (hf:∀ v u s2 x y H2,Inv X pins σ H2 s2→RelV x v→RelV y u→R x y H2→wpAny (model X.prog X.w) X.A (f v u) Q X.xe s2) :
  wpAny (model X.prog X.w) X.A (eval a X.env) (fun v s₁=>wpAny (model X.prog X.w) X.A (eval b X.env) (fun u s₂=>wpAny (model X.prog X.w) X.A (f v u) Q X.xe s₂) X.xe s₁) X.xe s:=by
 refine thn (ha pins s σ H _ I h) fun v s1 ⟨x,H1,I1,r1,q1⟩=>?_
 refine thn (hb pins s1 σ H1 _ I1 q1) fun u s2 ⟨y,H2,I2,r2,q2⟩=>?_
 exact hf v u s2 x y H2 I2 r1 r2 q2
def qz (i:Nat):TE:=fun σ H Q=>∃ v,σ[i]?=some (some v)∧Q v H
def tC (v:V):TE:=fun _ H Q=>Q v H
theorem Br {i:Nat} {x:Str} {pos:Pos} (hN:X.N[i]?=some x) (hv:Vis X.env.scope x) (hd:autoParam ((x == ("__debug__" : Str))=false) L2.aD._auto_1) (hcd:autoParam ((x == ("__classdict__" : Str))=false) L2.aD._auto_1):PE X (.Name x pos) (qz i):=by
 intro pins s σ H Q I h
 obtain ⟨v,e,h⟩:=h
 obtain ⟨m,hn,hl⟩:=I.loc
 obtain ⟨u,r,l⟩:=hl i x v hN e hv
 have fin:EP X pins σ Q u s:=⟨v,H,I,r,h⟩
 rcases l with ⟨hk,hm⟩ | ⟨hk,c,hc,hcell⟩
 ·exact wpAny_Name (wpAny_loadName_local I.ok.kind hk hn hm fin) hd
 ·rcases hk with hk | hk
  ·exact wpAny_Name (wpAny_loadName_cell I.ok.kind hk hc hcell fin) hd
  ·exact wpAny_Name (wpAny_loadName_free I.ok.kind hk hc hcell fin hcd) hd
theorem Bs {i j pos}:PE X (.Constant (.int i) j pos) (tC (.int i)):=fun _ _ _ H _ I h=>wpAny_Constant_int ⟨.int i,H,I.tok _,⟨_,rfl⟩,h⟩
theorem Bt {b j pos}:PE X (.Constant (.bool b) j pos) (tC (.bl b)):=fun _ _ _ H _ I h=>Constant_bool ⟨.bl b,H,I,rfl,h⟩
theorem Bu {j pos}:PE X (.Constant .none j pos) (tC .non):=fun _ _ _ H _ I h=>Constant_none ⟨.non,H,I,rfl,h⟩
theorem Bv {x j pos}:PE X (.Constant (.str x) j pos) (tC (.str x)):=fun _ _ _ H _ I h=>Calls.Constant_str ⟨.str x,H,I.tok _,⟨_,rfl⟩,h⟩
def Gl (X:Cx)(x:Str):Prop:=X.env.kindOf x=some .globalImplicit
theorem iE {E:Value→Shared→Prop}{pins:List (Addr×Obj)}{s:Shared}{σ:St}{H:Hp}{x:Str}{u:Value}{pos:Pos}{Q:Value→Shared→Prop}(I:Inv X pins σ H s)(hg:Gl X x)(hm:X.mg x=some u)(h:Q u s)
  (hd:autoParam ((x == ("__debug__" : Str))=false) L2.aD._auto_1):wpAny (model X.prog X.w) X.A (eval (.Name x pos) X.env) Q E s :=
 Calls.Name_function_global I.ok.kind hg (Calls.loadGlobal_global (by rw [I.ok.glob]; exact I.mod.glob.keeps I.bk) hm h) hd
theorem lz {E:Value→Shared→Prop}{pins:List (Addr×Obj)}{s:Shared}{σ:St}{H:Hp}{x:Str}{u:Value}{pos:Pos}{Q:Value→Shared→Prop}(I:Inv X pins σ H s)(hg:Gl X x)(hm:X.mg x=none)(hv:bootBuiltins x=some u)(h:Q u s)
  (hn:autoParam (x ≠ "__name__") L2.aD._auto_1) (hd:autoParam ((x == ("__debug__" : Str))=false) L2.aD._auto_1):wpAny (model X.prog X.w) X.A (eval (.Name x pos) X.env) Q E s:=by
 obtain ⟨mb,h1,h2⟩:=I.mod.blt
 exact Calls.Name_function_global I.ok.kind hg (Calls.loadGlobal_builtin (by rw [I.ok.glob]; exact I.mod.glob.keeps I.bk) hm (by rw [I.ok.blt]; exact h1.keeps I.bk) ((h2 x hn).trans hv) h) hd
theorem ym {x:Str} {v:V} {u:Value} {pos:Pos} (hg:Gl X x) (hm:X.mg x=some u) (r:RelV v u) (hd:autoParam ((x == ("__debug__" : Str))=false) L2.aD._auto_1):PE X (.Name x pos) (tC v) :=
 fun _ _ _ H _ I h=>iE I hg hm ⟨v,H,I,r,h⟩ hd
theorem yn {x:Str} {v:V} {u:Value} {pos:Pos} (hg:Gl X x) (hm:X.mg x=none) (hv:bootBuiltins x=some u) (r:RelV v u) (hn:autoParam (x ≠ "__name__") L2.aD._auto_1) (hd:autoParam ((x == ("__debug__" : Str))=false) L2.aD._auto_1):PE X (.Name x pos) (tC v) :=
 fun _ _ _ H _ I h=>lz I hg hm hv ⟨v,H,I,r,h⟩ hn hd
variable {a b:Expr} {ta tb:TE} {pos:Pos}
def PC (X:Cx)(op:CmpOp)(a b:Expr)(t:TE):Prop :=
 ∀ (pins:List (Addr×Obj)) (s:Shared) (σ:St) (H:Hp) (Q:VK),Inv X pins σ H s→t σ H Q →
  wpAny (model X.prog X.w) X.A (eval a X.env) (fun v s₁=>wpAny (model X.prog X.w) X.A (eval b X.env) (fun u s₂=>wpAny (model X.prog X.w) X.A (compareOp op v u) (EP X pins σ Q) X.xe s₂) X.xe s₁) X.xe s
def tB (t:TE):TT:=fun σ H Q=>t σ H fun x H1=>∃ c,x=.bl c∧Q c H1
theorem Fh {op:CmpOp}{t:TE}(h:PC X op a b t)(h1:behindInMarks op b=false:=by first | exact nobehind _ (by decide) (by decide) | rfl):PT X (.Compare a [op] [b] pos) (tB t):=by
 intro pins s σ H Q I hw
 refine wpAny_isTrue_Compare1 (thn (h pins s σ H _ I hw) fun v s1 h1=>thn h1 fun u s2 h2=>thn h2 fun c s3 ⟨x,H1,I1,r1,q1⟩=>?_) h1
 obtain ⟨d,rfl,q⟩:=q1
 cases r1
 exact wpAny_truthy_bool ⟨H1,I1,q⟩
theorem Bw {e:Expr}{t:TE}(h:PE X e t)(he:autoParam (∀ whole,isTrue e X.env whole=(do let v ← whole; standAt e.pos; holding [v] (truthy v))) L2.aI._auto_1):PT X e (tB t):=by
 intro pins s σ H Q I hw
 refine isTrue_plain (thn (h pins s σ H _ I hw) fun v s1 ⟨x,H1,I1,r1,q1⟩=>?_) (he _)
 obtain ⟨d,rfl,q⟩:=q1
 cases r1
 exact wpAny_truthy_bool ⟨H1,I1,q⟩
variable {tA tB':TT} {rest:List Expr}
def Ek (t u:TT):TT:=fun σ H Q=>t σ H fun c H1=>if c=true then u σ H1 Q else Q false H1
def tOr (t u:TT):TT:=fun σ H Q=>t σ H fun c H1=>if c=true then Q true H1 else u σ H1 Q
def El (t:TT):TT:=fun σ H Q=>t σ H fun c H1=>Q (!c) H1
theorem yo (ha:PT X a tA):PW X (.BoolOp .And [a] pos) tA:=by
 intro wh pins s σ H Q I h
 refine isTrue_and (thn (ha pins s σ H Q I h) fun c s1 e=>?_)
 cases c with
 | true=>exact isTrue_and_nil e
 | false=>exact e
theorem Bx (ha:PT X a tA):PW X (.BoolOp .Or [a] pos) tA:=by
 intro wh pins s σ H Q I h
 refine isTrue_or (thn (ha pins s σ H Q I h) fun c s1 e=>?_)
 cases c with
 | false=>exact isTrue_or_nil e
 | true=>exact e
theorem By (ha:PT X a tA)(hb:PW X (.BoolOp .And (b::rest) pos) tB'):PW X (.BoolOp .And (a::b::rest) pos) (Ek tA tB'):=by
 intro wh pins s σ H Q I h
 refine isTrue_and (thn (ha pins s σ H _ I h) fun c s1 ⟨H1,I1,q1⟩=>?_)
 cases c with
 | true=>exact hb wh pins s1 σ H1 Q I1 q1
 | false=>exact ⟨H1,I1,q1⟩
theorem Em (ha:PT X a tA)(hb:PW X (.BoolOp .Or (b::rest) pos) tB'):PW X (.BoolOp .Or (a::b::rest) pos) (tOr tA tB'):=by
 intro wh pins s σ H Q I h
 refine isTrue_or (thn (ha pins s σ H _ I h) fun c s1 ⟨H1,I1,q1⟩=>?_)
 cases c with
 | true=>exact ⟨H1,I1,q1⟩
 | false=>exact hb wh pins s1 σ H1 Q I1 q1
theorem Bz (ha:PT X a tA):PT X (.UnaryOp .Not a pos) (El tA):=by
 intro pins s σ H Q I h
 exact isTrue_not (ha pins s σ H (fun c H1=>Q (!c) H1) I h)
def yq (ta tb:TE):TE:=fun σ H Q=>ta σ H fun x H1=>∃ c,x=.bl c∧if c=true then tb σ H1 Q else Q (.bl false) H1
def En (ta tb:TE):TE:=fun σ H Q=>ta σ H fun x H1=>∃ c,x=.bl c∧if c=true then Q (.bl true) H1 else tb σ H1 Q
theorem BB {op}{t:TE}(h:PE X a t):PE X (.BoolOp op [a] pos) t:=fun pins s σ H Q I hw=>BoolOp_one (h pins s σ H Q I hw)
theorem BC (ha:PE X a ta)(hb:PE X (.BoolOp .And (b::rest) pos) tb):PE X (.BoolOp .And (a::b::rest) pos) (yq ta tb):=by
 intro pins s σ H Q I h
 refine BoolOp_and (thn (ha pins s σ H _ I h) fun v s1 ⟨x,H1,I1,r1,q1⟩=>?_)
 obtain ⟨c,rfl,q1⟩:=q1
 cases r1
 refine wpAny_truthy_bool ?_
 cases c with
 | true=>exact hb pins s1 σ H1 Q I1 q1
 | false=>exact ⟨.bl false,H1,I1,rfl,q1⟩
theorem Eo (ha:PE X a ta)(hb:PE X (.BoolOp .Or (b::rest) pos) tb):PE X (.BoolOp .Or (a::b::rest) pos) (En ta tb):=by
 intro pins s σ H Q I h
 refine BoolOp_or (thn (ha pins s σ H _ I h) fun v s1 ⟨x,H1,I1,r1,q1⟩=>?_)
 obtain ⟨c,rfl,q1⟩:=q1
 cases r1
 refine wpAny_truthy_bool ?_
 cases c with
 | false=>exact hb pins s1 σ H1 Q I1 q1
 | true=>exact ⟨.bl true,H1,I1,rfl,q1⟩
def tIf (t:TT)(ta tb:TE):TE:=fun σ H Q=>t σ H fun c H1=>if c=true then ta σ H1 Q else tb σ H1 Q
theorem uR {c:Expr}(hc:PT X c tA)(ha:PE X a ta)(hb:PE X b tb):PE X (.IfExp c a b pos) (tIf tA ta tb):=by
 intro pins s σ H Q I h
 refine wpAny_IfExp (thn (hc pins s σ H _ I h) fun d s1 ⟨H1,I1,q1⟩=>?_)
 cases d with
 | true=>exact ha pins s1 σ H1 Q I1 q1
 | false=>exact hb pins s1 σ H1 Q I1 q1
end
end L2
namespace L2
open PySem PySem.Spec PyProof.Rows
def SqL (K:PySem.W.Frag)(H:Hp)(a:Addr)(xs:List V):Prop :=
 Rd H a (.lst xs) ∨
  ∃ (o:Obj) (its:Array Value) (n:Nat),K.lookup a=some o∧o.cls=.type "list" ∧ o.dict=none∧o.data=.seq its n∧its.size≤sizeLine∧Vals xs its.toList
def SqT (K:PySem.W.Frag)(H:Hp)(a:Addr)(xs:List V):Prop :=
 Rd H a (.tup xs) ∨
  ∃ (o:Obj) (its:Array Value) (n:Nat),K.lookup a=some o∧o.cls=.type "tuple" ∧ o.data=.seq its n∧its.size≤sizeLine∧Vals xs its.toList
def absV:Value→Option V
 | .none=>some .non
 | .bool b=>some (.bl b)
 | .int i _=>some (.int i)
 | .str x _=>some (.str x)
 | .bytes b _=>some (.byt b)
 | .float b _=>some (.flt b)
 | .ref a=>some (.ref a)
 | .type n=>some (.ty n)
 | _=>none
theorem RelV.abs {x:V}{u:Value}(r:RelV x u):absV u=some x:=by
 cases x with
 | non=>cases r; rfl
 | bl _=>cases r; rfl
 | int _=>obtain ⟨t,rfl⟩:=r; rfl
 | str _=>obtain ⟨t,rfl⟩:=r; rfl
 | byt _=>obtain ⟨t,rfl⟩:=r; rfl
 | flt _=>obtain ⟨t,rfl⟩:=r; rfl
 | ref _=>cases r; rfl
 | ty _=>cases r; rfl
theorem RelV.inj {x y:V}{u:Value}(r:RelV x u)(q:RelV y u):x=y:=Option.some.inj (r.abs.symm.trans q.abs)
theorem Vals.inj {xs ys:List V}{us:List Value}(h:Vals xs us)(h':Vals ys us):xs=ys:=by
 induction h generalizing ys with
 | nil=>cases h'; rfl
 | cons r t ih=>cases h' with | cons r' t'=>rw [r.inj r',ih t']
section
variable {X:Cx} {pins:List (Addr×Obj)} {σ:St} {H:Hp} {s:Shared} {a:Addr} {xs ys:List V}
theorem SqL.of {K:PySem.W.Frag}(h:H a=some (.lst xs)):SqL K H a xs:=.inl (.inl h)
theorem SqT.of {K:PySem.W.Frag}(h:H a=some (.tup xs)):SqT K H a xs:=.inl (.inl h)
theorem Inv.list (I:Inv X pins σ H s)(h:SqL X.K H a xs):∃ its:List Value,Vals xs its∧PlainL s.heap a its.toArray∧xs.length≤sizeLine:=by
 rcases h with h | ⟨o,its,n,hk,hc,hd,hs,hz,r⟩
 ·obtain ⟨z,its,n,r,e⟩:=h.ok I.hok
  exact ⟨its,r,⟨_,n,e,rfl,rfl,rfl⟩,z⟩
 ·refine ⟨its.toList,r,⟨o,n,I.kIn a o hk,hc,hd,by first|exact List.mem_singleton.mp hs|simpa using hs⟩,?_⟩
  have e:=r.length
  simp only [Array.length_toList] at e
  nofun
theorem Inv.tuple (I:Inv X pins σ H s)(h:SqT X.K H a xs):∃ its:List Value,Vals xs its∧IsTup s.heap a its.toArray∧xs.length≤sizeLine:=by
 rcases h with h | ⟨o,its,n,hk,hc,hs,hz,r⟩
 ·obtain ⟨z,its,r,p⟩:=h.ok I.hok
  exact ⟨its,r,p,z⟩
 ·refine ⟨its.toList,r,⟨o,I.kIn a o hk,hc,n,by first|exact List.mem_singleton.mp hs|simpa using hs⟩,?_⟩
  have e:=r.length
  simp only [Array.length_toList] at e
  nofun
theorem Inv.list_inj (I:Inv X pins σ H s)(h:SqL X.K H a xs)(h':SqL X.K H a ys):xs=ys:=by
 obtain ⟨its,r,⟨o,n,e,_,_,d⟩,_⟩:=I.list h
 obtain ⟨its',r',⟨o',n',e',_,_,d'⟩,_⟩:=I.list h'
 rw [e] at e'; cases e'
 rw [d] at d'
 injection d' with d1 _
 have:its=its':=by simpa using congrArg Array.toList d1
 subst this
 exact r.inj r'
theorem Inv.tuple_inj (I:Inv X pins σ H s)(h:SqT X.K H a xs)(h':SqT X.K H a ys):xs=ys:=by
 obtain ⟨its,r,⟨o,e,_,n,d⟩,_⟩:=I.tuple h
 obtain ⟨its',r',⟨o',e',_,n',d'⟩,_⟩:=I.tuple h'
 rw [e] at e'; cases e'
 rw [d] at d'
 injection d' with d1 _
 have:its=its':=by simpa using congrArg Array.toList d1
 subst this
 exact r.inj r'
end
abbrev Cx.wish (X:Cx)(E:Value→Shared→Prop):Cx:={ X with xe:=E }
abbrev Cx.nox (X:Cx):Cx:=X.wish fun _ _=>False
theorem Cx.Ok.wish {X:Cx}(ok:X.Ok)(E:Value→Shared→Prop):(X.wish E).Ok :=
 ⟨ok.mod,ok.kind,ok.glob,ok.blt,ok.above,ok.inj,ok.has,ok.cab,ok.hd,ok.frames,ok.stk,ok.exf,ok.bs,ok.bsz,ok.noex,ok.exfs,ok.funs,ok.frf⟩
theorem Cx.Ok.unwish {X:Cx}{E:Value→Shared→Prop}(ok:(X.wish E).Ok):X.Ok :=
 ⟨ok.mod,ok.kind,ok.glob,ok.blt,ok.above,ok.inj,ok.has,ok.cab,ok.hd,ok.frames,ok.stk,ok.exf,ok.bs,ok.bsz,ok.noex,ok.exfs,ok.funs,ok.frf⟩
section
variable {X:Cx} {pins:List (Addr×Obj)} {σ:St} {H:Hp} {s:Shared} {E:Value→Shared→Prop}
theorem Inv.wish (I:Inv X pins σ H s)(E:Value→Shared→Prop):Inv (X.wish E) pins σ H s:=⟨I.ok.wish E,I.os,I.bare,I.base,I.loc,I.cell,I.free,I.freeC,I.pin,I.hok,I.len⟩
theorem Inv.unwish (I:Inv (X.wish E) pins σ H s):Inv X pins σ H s:=⟨I.ok.unwish,I.os,I.bare,I.base,I.loc,I.cell,I.free,I.freeC,I.pin,I.hok,I.len⟩
theorem SP.unwish {D:Ends}{f:Flow}{s':Shared}(h:SP (X.wish E) pins D f s'):SP X pins D f s':=by
 cases f with
 | next=>obtain ⟨σ',H',I,q⟩:=h; exact ⟨σ',H',I.unwish,q⟩
 | brk=>obtain ⟨σ',H',I,q⟩:=h; exact ⟨σ',H',I.unwish,q⟩
 | cont=>obtain ⟨σ',H',I,q⟩:=h; exact ⟨σ',H',I.unwish,q⟩
 | ret u=>obtain ⟨v,σ',H',I,r,q⟩:=h; exact ⟨v,σ',H',I.unwish,r,q⟩
theorem PSs.nox {st:List Stmt}{t:TS}(h:PSs X.nox st t):PSs X st t:=fun pins s σ H D I hw =>
 wpAny_mono (h pins s σ H D (I.wish _) hw) (fun _ _ q=>q.unwish) fun _ _ z=>False.elim z
end
section
variable {X:Cx} {st:Stmt} {rest:List Stmt} {t u:TS} {e:Expr} {te:TE} {pos:Pos}
def qF:TS:=fun D σ H=>D.nx σ H
def Bg (t u:TS):TS:=fun D σ H=>t { D with nx:=u D } σ H
theorem yr:PSs X [] qF:=fun _ _ σ H _ I h=>wpAny_execs_nil ⟨σ,H,I,h⟩
theorem uS (h1:PS X st t)(h2:PSs X rest u):PSs X (st::rest) (Bg t u):=by
 intro pins s σ H D I h
 refine wpAny_execs_cons (thn (h1 pins s σ H { D with nx:=u D } I h) fun f s1 q=>?_)
 cases f with
 | next =>
  obtain ⟨σ',H',I',q⟩:=q
  exact h2 pins s1 σ' H' D I' q
 | ret v=>exact q
 | brk=>exact q
 | cont=>exact q
theorem mZ (h1:PS X st t):PSs X [st] t:=by
 intro pins s σ H D I h
 refine wpAny_execs_cons (thn (h1 pins s σ H D I h) fun f s1 q=>?_)
 cases f with
 | next=>exact wpAny_execs_nil q
 | ret v=>exact q
 | brk=>exact q
 | cont=>exact q
theorem Inv.quiet {pins:List (Addr×Obj)}{σ:St}{H:Hp}{s:Shared}(I:Inv X pins σ H s):interactive X.env=false:=by simp [interactive,I.ok.kind]
def yt (te:TE):TS:=fun D σ H=>te σ H fun _ H1=>D.nx σ H1
theorem yu (he:PE X e te)(hs:autoParam (swapsWith e none pos.line X.env=pure false) L2.aR._auto_1):PS X (.Expr e pos) (yt te):=by
 intro pins s σ H D I h
 exact wpAny_Expr_any (thn (he pins s σ H _ I h) fun v s1 ⟨x,H1,I1,r1,q1⟩=>⟨σ,H1,I1,q1⟩) I.quiet hs
def Bh (te:TE):TS:=fun D σ H=>te σ H D.rt
theorem BD (he:PE X e te):PS X (.Return (some e) pos) (Bh te):=by
 intro pins s σ H D I h
 exact wpAny_Return_some (thn (he pins s σ H _ I h) fun v s1 ⟨x,H1,I1,r1,q1⟩=>⟨x,σ,H1,I1,r1,q1⟩)
def Bi (c:TT)(t u:TS):TS:=fun D σ H=>c σ H fun b H1=>if b=true then t D σ H1 else u D σ H1
theorem Ep {c:Expr}{a b:List Stmt}{tc:TT}(hc:PT X c tc)(ha:PSs X a t)(hb:PSs X b u):PS X (.If c a b pos) (Bi tc t u):=by
 intro pins s σ H D I h
 refine wpAny_If (thn (hc pins s σ H _ I h) fun d s1 ⟨H1,I1,q1⟩=>?_)
 cases d with
 | true=>exact ha pins s1 σ H1 D I1 q1
 | false=>exact hb pins s1 σ H1 D I1 q1
def qG:TS:=fun _ _ _=>False
theorem uT:PS X st qG:=fun _ _ _ _ _ _ h=>h.elim
end
abbrev TG:=V→St→Hp→(St→Hp→Prop)→Prop
abbrev TGs:=List V→St→Hp→(St→Hp→Prop)→Prop
def PG (X:Cx)(target:Expr)(t:TG):Prop :=
 ∀ (pins:List (Addr×Obj)) (s:Shared) (σ:St) (H:Hp) (v:V) (u:Value) (Q:St→Hp→Prop),Inv X pins σ H s→RelV v u→t v σ H Q →
  wpAny (model X.prog X.w) X.A (assign target X.env u) (fun _ s'=>∃ σ' H',Inv X pins σ' H' s'∧Q σ' H') X.xe s
def PGs (X:Cx)(ts:List Expr)(t:TGs):Prop :=
 ∀ (pins:List (Addr×Obj)) (s:Shared) (σ:St) (H:Hp) (vs:List V) (us:List Value) (Q:St→Hp→Prop),Inv X pins σ H s→Vals vs us→t vs σ H Q →
  wpAny (model X.prog X.w) X.A (assignInOrder ((assignEach ts X.env).map (·.2)) us) (fun _ s'=>∃ σ' H',Inv X pins σ' H' s'∧Q σ' H') X.xe s
abbrev Er:=V→V→V→Hp→(Hp→Prop)→Prop
def Fi (X:Cx)(t:Er):Prop :=
 ∀ (pins:List (Addr×Obj)) (s:Shared) (σ:St) (H:Hp) (o i v:V) (ov iv u:Value) (Q:Hp→Prop),Inv X pins σ H s→RelV o ov→RelV i iv→RelV v u→t o i v H Q →
  wpAny (model X.prog X.w) X.A (setItem ov iv u) (fun _ s'=>∃ H',Inv X pins σ H' s'∧Q H') X.xe s
section
variable {X:Cx} {pos:Pos}
def ic (i:Nat):TG:=fun v σ H Q=>Q (σ.set i (some v)) H
theorem yv {i:Nat}{x:Str}(hN:X.N.Nodup)(hi:X.N[i]?=some x)(hx:Loc X.env.scope x)(hf:autoParam (X.fn x=true∨X.env.scope.names.lookup x=some .local) L2.aF._auto_1):PG X (.Name x pos) (ic i):=by
 intro pins s σ H v u Q I r h
 exact wpAny_assign_Name (nT I hN hi hx r (fun s' I'=>⟨_,H,I',h⟩) hf)
def Es:TGs:=fun vs σ H Q=>vs=[]∧Q σ H
def yw (t:TG)(u:TGs):TGs:=fun vs σ H Q=>∃ v r,vs=v::r∧t v σ H fun σ' H'=>u r σ' H' Q
theorem yx:PGs X [] Es:=by
 intro pins s σ H vs us Q I r h
 obtain ⟨e,h⟩:=h
 subst e
 cases r
 exact assignInOrder_nil ⟨σ,H,I,h⟩
theorem uU {e:Expr}{es:List Expr}{t:TG}{u:TGs}(h1:PG X e t)(h2:PGs X es u)
  (hs:autoParam ((assignEach (e::es) X.env).map (·.2)=assign e X.env::(assignEach es X.env).map (·.2)) L2.aR._auto_1):PGs X (e::es) (yw t u):=by
 intro pins s σ H vs us Q I r h
 obtain ⟨v,vr,e1,h⟩:=h
 subst e1
 cases r with
 | cons r rr =>
  rw [hs]
  refine assignInOrder_cons (thn (h1 pins s σ H _ _ _ I r h) fun _ s1 ⟨σ1,H1,I1,q1⟩=>?_)
  exact h2 pins s1 σ1 H1 _ _ Q I1 rr q1
def D3 (K:PySem.W.Frag)(n:Nat)(t:TGs):TG:=fun v σ H Q=>∃ a xs,v=.ref a∧SqT K H a xs∧xs.length=n∧t xs σ H Q
theorem BF {es:List Expr}{k:Nat}{t:TGs}{n:Nat}(hc:X.calm=true)(h:PGs X es t)
  (hn:autoParam ((assignEach es X.env).length=n) L2.aR._auto_1) (hst:autoParam ((assignEach es X.env).findIdx? (·.1)=none) L2.aR._auto_1):PG X (.Tuple es k pos) (D3 X.K n t):=by
 intro pins s σ H v u Q I r hw
 obtain ⟨a,xs,e1,hq,hl,hw⟩:=hw
 subst e1
 cases r
 obtain ⟨its,rv,ht,hz⟩:=I.tuple hq
 refine assign_Tuple_tuple (I.ok.hd hc) ht (by simp [hn,← hl,rv.length]) hst fun h' hx=>?_
 have I1:Inv X pins σ H { s with heap:=h' }:=I.kept (t':=s.toks) fun b o e=>hx b o (Nat.ne_of_lt (Heap.lt_size e)) e
 exact h pins _ σ H xs _ Q I1 (by first|exact List.mem_singleton.mp rv|simpa using rv) hw
def Et (to ti:TE)(t:Er):TG:=fun v σ H Q=>to σ H fun o H1=>ti σ H1 fun i H2=>t o i v H2 fun H3=>Q σ H3
theorem BH {o i:Expr}{to ti:TE}{t:Er}(ho:PE X o to)(hi:PE X i ti)(hs:Fi X t)
  (ha:autoParam (∀ v,assign (.Subscript o i pos) X.env v=(do
   let ov ← holding [v] (eval o X.env)
   let iv ← holding [v,ov] (eval i X.env)
   standAt pos
   holding [v,ov,iv] (setItem ov iv v)
   release [v,ov,iv] [])) L2.aI._auto_1):PG X (.Subscript o i pos) (Et to ti t):=by
 intro pins s σ H v u Q I r h
 rw [ha]
 refine wpAny_bind (wpAny_holding (thn (ho pins s σ H _ I h) fun ov s1 ⟨x,H1,I1,r1,q1⟩=>?_))
 refine wpAny_bind (wpAny_holding (thn (hi pins s1 σ H1 _ I1 q1) fun iv s2 ⟨y,H2,I2,r2,q2⟩=>?_))
 refine wpAny_bind (wpAny_standAt (wpAny_bind (wpAny_holding (thn (hs pins s2 σ H2 x y v ov iv u _ I2 r1 r2 r q2) fun _ s3 ⟨H3,I3,q3⟩=>?_))))
 exact wpAny_release ⟨σ,H3,I3,q3⟩
def qA (te:TE)(g:TG):TS:=fun D σ H=>te σ H fun x H1=>g x σ H1 D.nx
theorem BJ {tg e:Expr}{te:TE}{g:TG}(he:PE X e te)(hg:PG X tg g)(hs:autoParam (swapsWithSole [tg] e pos.line X.env=pure false) L2.aR._auto_1)(hw:autoParam (swappedStores [tg] e X.env=pure none) L2.aR._auto_1)
  (h1:autoParam ((assignEach [tg] X.env).map (·.2)=[assign tg X.env]) L2.aR._auto_1):PS X (.Assign [tg] e pos) (qA te g):=by
 intro pins s σ H D I h
 refine wpAny_Assign_stores (thn (he pins s σ H _ I h) fun v s1 ⟨x,H1,I1,r1,q1⟩=>?_) hs hw
 rw [h1]
 exact thn (hg pins s1 σ H1 x v _ I1 r1 q1) fun _ s2 q=>q
theorem xr {i:Nat}{x:Str}{e:Expr}{te:TE}{pos':Pos}(hN:X.N.Nodup)(hi:X.N[i]?=some x)(hx:Loc X.env.scope x)(he:PE X e te)(hs:autoParam (swapsWith e (some (.Name x pos')) pos.line X.env=pure false) L2.aR._auto_1)(hf:autoParam (X.fn x=true∨X.env.scope.names.lookup x=some .local) L2.aF._auto_1) :
  PS X (.Assign [.Name x pos'] e pos) (qA te (ic i)):=by
 intro pins s σ H D I h
 refine wpAny_Assign_Name (thn (he pins s σ H _ I h) fun v s1 ⟨y,H1,I1,r1,q1⟩=>?_) hs
 exact nT I1 hN hi hx r1 (fun s2 I2=>⟨_,H1,I2,q1⟩) hf
end
section
variable {X:Cx} {pos:Pos}
end
structure It where
 go:Nat→Hp→Prop
 yld:Nat→Hp→V→Hp→Prop
 stop:Nat→Hp→Prop
def nU (X:Cx)(pins:List (Addr×Obj))(H:Hp)(b:Addr):Prop :=
 H b=none∧b≠X.env.locals∧b ∉ X.fs∧(b ∈ X.ex∨X.s₀.heap.objs.size≤b)∧(∀ x c,X.env.cells.lookup x=some c→c≠b)∧∀ p ∈ X.pn++pins,p.1≠b
theorem Inv.fpOk {X:Cx}{pins:List (Addr×Obj)}{σ:St}{H H':Hp}{s:Shared}{b:Addr}(I:Inv X pins σ H s)(hb:s.heap.objs.size≤b)(hn:H' b=none):nU X pins H' b:=by
 refine ⟨hn,Nat.ne_of_gt (Nat.lt_of_lt_of_le I.lt hb),I.nofs hb,.inr (Nat.le_trans I.sz hb),fun x c e z=>?_,fun p hp z=>?_⟩
 ·obtain ⟨v,q⟩:=I.cell x c e
  exact absurd (Nat.lt_of_lt_of_le q.lt (by rw [z]; exact hb)) (Nat.lt_irrefl _)
 ·exact absurd (Nat.lt_of_lt_of_le (Heap.lt_size (I.pin p hp).1) (by rw [z]; exact hb)) (Nat.lt_irrefl _)
structure Turn (P:Program)(w:World)(K:PySem.W.Frag)(tg:Expr)(J:It)(fp:List Addr)(it:Addr)(tn:Nat→Heap→Prop):Prop where
 mem:it ∈ fp
 obj:∀ i h,tn i h→∀ b ∈ fp,∃ o,h.get? b=some o∧∀ v,o.data≠.cell v
 keep:∀ i h h',tn i h→(∀ b ∈ fp,∀ o,h.get? b=some o→h'.get? b=some o)→tn i h'
 item:∀ (X:Cx),X.prog=P→X.w=w→X.K=K→X.calm=true→∀ (i:Nat) (pins:List (Addr×Obj)) (s:Shared) (σ:St) (H:Hp) (E:Value→Shared→Prop),Inv X pins σ H s→(∀ b ∈ fp,nU X pins H b)→tn i s.heap→J.go i H →
  wpAny (model P w) X.A (pyNext (.ref it)) (fun r s1=>∃ u,r=some u ∧
   wpAny (model P w) X.A (letOwnedTupleGo tg (.ref it) u) (fun _ s2=>∃ x H',Inv X pins σ H' s2∧RelV x u∧J.yld i H x H'∧tn (i+1) s2.heap∧∀ b ∈ fp,H' b=none) E s1) E s
 done:∀ (X:Cx),X.prog=P→X.w=w→X.K=K→X.calm=true→∀ (i:Nat) (pins:List (Addr×Obj)) (s:Shared) (σ:St) (H:Hp) (E:Value→Shared→Prop),Inv X pins σ H s→(∀ b ∈ fp,nU X pins H b)→tn i s.heap→J.stop i H →
  wpAny (model P w) X.A (pyNext (.ref it)) (fun r s1=>r=none∧Inv X pins σ H s1) E s
 self:∀ (A:Around) (i:Nat) (s:Shared) (Q:Value→Shared→Prop) (E:Value→Shared→Prop),tn i s.heap→Q (.ref it) s→wpAny (model P w) A (pyIter (.ref it)) Q E s
abbrev TI:=St→Hp→(It→Hp→Prop)→Prop
def PIE (X:Cx)(pins:List (Addr×Obj))(σ:St)(tg:Expr)(R:It→Hp→Prop)(itv:Value)(s2:Shared):Prop :=
 ∃ (it:Addr) (fp:List Addr) (tn:Nat→Heap→Prop) (J:It) (H':Hp),itv=.ref it∧Inv X pins σ H' s2∧Turn X.prog X.w X.K tg J fp it tn∧tn 0 s2.heap∧(∀ b ∈ fp,nU X pins H' b)∧R J H'
def PI (X:Cx)(tg iter:Expr)(wi:TI):Prop :=
 ∀ (pins:List (Addr×Obj)) (s:Shared) (σ:St) (H:Hp) (R:It→Hp→Prop),Inv X pins σ H s→wi σ H R →
  wpAny (model X.prog X.w) X.A (eval iter X.env) (fun v s1=>wpAny (model X.prog X.w) X.A (pyIter v) (PIE X pins σ tg R) X.xe s1) X.xe s
theorem uV {M:Model}{A:Around}{E:Value→Shared→Prop}{s:Shared}{tg:Expr}{it:Addr}{u:Value}{o:Obj}{n:String}{vs:Array Value}{Q:Unit→Shared→Prop}(ho:s.heap.get? it=some o)(hc:o.cls=.type n)(hd:o.data=.fields vs)
    (hn:["enumerate", "zip", "dict_itemiterator", "dict_reverseitemiterator", "odict_iterator", "itertools.zip_longest", "itertools.pairwise"].contains n=false) (hQ:Q () s):wpAny M A (letOwnedTupleGo tg (.ref it) u) Q E s:=by
  unfold letOwnedTupleGo
  cases tg <;> first
    | exact wpAny_pure hQ
    | (cases u <;> first
        | exact wpAny_pure hQ
        | (refine wpAny_bind (wpAny_load ho ?_)
           rw [hc,hd]
           show wpAny M A (if (["enumerate", "zip", "dict_itemiterator", "dict_reverseitemiterator", "odict_iterator", "itertools.zip_longest", "itertools.pairwise"].contains n && vs[0]? == some (rawInt _))=true then _ else _) Q E s
           rw [if_neg (by intro h; rw [hn,Bool.false_and] at h; cases h)]
           exact wpAny_pure hQ))
def Itl (K:PySem.W.Frag)(a:Addr):It :=
 ⟨fun i H=>∃ xs x,SqL K H a xs∧xs[i]?=some x,fun i H x H'=>H'=H∧∀ xs,SqL K H a xs→xs[i]?=some x,fun i H=>∃ xs,SqL K H a xs∧xs.length≤i⟩
def Itt (K:PySem.W.Frag)(a:Addr):It :=
 ⟨fun i H=>∃ xs x,SqT K H a xs∧xs[i]?=some x,fun i H x H'=>H'=H∧∀ xs,SqT K H a xs→xs[i]?=some x,fun i H=>∃ xs,SqT K H a xs∧xs.length≤i⟩
def Itr (lo:Int)(n:Nat):It:=⟨fun i _=>i < n,fun i H x H'=>H'=H∧x=.int (lo+i),fun i _=>n≤i⟩
theorem qH {P:Program}{w:World}{K:PySem.W.Frag}{tg:Expr}(a it:Addr):Turn P w K tg (Itl K a) [it] it (fun i h=>h.IsListIter it a i) where
 mem:=by simp
 obj:=fun i h st b hb=>by
  have e:b=it:=by first|exact List.mem_singleton.mp hb|simpa using hb
  subst e
  obtain ⟨o,e,c,d⟩:=st
  exact ⟨o,e,fun v z=>by rw [d] at z; cases z⟩
 keep:=fun i h h' st k=>st.at fun o e=>k it (by simp) o e
 item:=by
  intro X hP hw hK hc i pins s σ H E I hf st hg
  subst hP hw hK
  obtain ⟨xs,x,hq,hx⟩:=hg
  obtain ⟨its,rv,p,hz⟩:=I.list hq
  obtain ⟨u,hu,ru⟩:=rv.get hx
  obtain ⟨f0,f1,f2,f3,f4,f5⟩:=hf it (by simp)
  refine wpAny_pyNext_list_item st p.isList (x:=u) (by first|exact List.mem_singleton.mp hu|simpa using hu) fun h' st' sb=>?_
  have I1:Inv X pins σ H { s with heap:=h' }:=I.turned (t':=s.toks) (fun b o hb e=>(sb.2 b hb).trans e) f0 f1 f3 f4 f5
  obtain ⟨o,e,c,d⟩:=id st'
  exact ⟨u,rfl,uV (s:={ s with heap:=h' }) e c d (by decide) ⟨x,H,I1,ru,⟨rfl,fun ys hy=>by rw [I.list_inj hy hq]; exact hx⟩,st',fun b hb=>(hf b hb).1⟩⟩
 done:=by
  intro X hP hw hK hc i pins s σ H E I hf st hg
  subst hP hw hK
  obtain ⟨xs,hq,hx⟩:=hg
  obtain ⟨its,rv,p,hz⟩:=I.list hq
  obtain ⟨f0,f1,f2,f3,f4,f5⟩:=hf it (by simp)
  have hl:=rv.length
  exact wpAny_pyNext_list_end (I.ok.hd hc) st p.isList (by simp; nofun) fun h' eb=>⟨rfl,I.turned (t':=s.toks) (fun b o hb e=>eb b o hb e) f0 f1 f3 f4 f5⟩
 self:=fun _ _ _ _ _ st h=>wpAny_pyIter_listiter st h
theorem pB {P:Program}{w:World}{K:PySem.W.Frag}{tg:Expr}(a it:Addr):Turn P w K tg (Itt K a) [it] it (fun i h=>h.IsTupleIter it a i) where
 mem:=by simp
 obj:=fun i h st b hb=>by
  have e:b=it:=by first|exact List.mem_singleton.mp hb|simpa using hb
  subst e
  obtain ⟨o,e,c,d⟩:=st
  exact ⟨o,e,fun v z=>by rw [d] at z; cases z⟩
 keep:=fun i h h' st k=>st.at fun o e=>k it (by simp) o e
 item:=by
  intro X hP hw hK hc i pins s σ H E I hf st hg
  subst hP hw hK
  obtain ⟨xs,x,hq,hx⟩:=hg
  obtain ⟨its,rv,p,hz⟩:=I.tuple hq
  obtain ⟨u,hu,ru⟩:=rv.get hx
  obtain ⟨f0,f1,f2,f3,f4,f5⟩:=hf it (by simp)
  refine wpAny_pyNext_tuple_item st (show s.heap.IsTuple a its.toArray from p) (x:=u) (by first|exact List.mem_singleton.mp hu|simpa using hu) fun h' st' sb=>?_
  have I1:Inv X pins σ H { s with heap:=h' }:=I.turned (t':=s.toks) (fun b o hb e=>(sb.2 b hb).trans e) f0 f1 f3 f4 f5
  obtain ⟨o,e,c,d⟩:=id st'
  exact ⟨u,rfl,uV (s:={ s with heap:=h' }) e c d (by decide) ⟨x,H,I1,ru,⟨rfl,fun ys hy=>by rw [I.tuple_inj hy hq]; exact hx⟩,st',fun b hb=>(hf b hb).1⟩⟩
 done:=by
  intro X hP hw hK hc i pins s σ H E I hf st hg
  subst hP hw hK
  obtain ⟨xs,hq,hx⟩:=hg
  obtain ⟨its,rv,p,hz⟩:=I.tuple hq
  obtain ⟨f0,f1,f2,f3,f4,f5⟩:=hf it (by simp)
  have hl:=rv.length
  exact wpAny_pyNext_tuple_end (I.ok.hd hc) st (show s.heap.IsTuple a its.toArray from p) (by simp; nofun) fun h' eb=>⟨rfl,I.turned (t':=s.toks) (fun b o hb e=>eb b o hb e) f0 f1 f3 f4 f5⟩
 self:=fun _ _ _ _ _ st h=>wpAny_pyIter_tupleiter st h
theorem pD {P:Program}{w:World}{K:PySem.W.Frag}{tg:Expr}(it:Addr)(lo:Int)(n:Nat):Turn P w K tg (Itr lo n) [it] it (fun i h=>IsRangeIter h it (lo+(i:Nat) * 1) ((n:Int) - (i:Nat)) 1) where
 mem:=by simp
 obj:=fun i h st b hb=>by
  have e:b=it:=by first|exact List.mem_singleton.mp hb|simpa using hb
  subst e
  exact ⟨_,st,fun v z=>by
   have z':Data.fields _=Data.cell v:=z
   cases z'⟩
 keep:=fun i h h' st k=>k it (by simp) _ st
 item:=by
  intro X hP hw hK hc i pins s σ H E I hf st hg
  subst hP hw hK
  obtain ⟨f0,f1,f2,f3,f4,f5⟩:=hf it (by simp)
  have W:=Walks.range (prog:=X.prog) (w:=X.w) (I.ok.hd hc) it lo 1 n
  refine W.item i s _ _ hg st fun v h' tk hv st' kk=>?_
  obtain ⟨t,rfl⟩:=hv
  have I1:Inv X pins σ H { s with heap:=h',toks:=tk }:=I.turned (fun b o hb e=>kk b o (by first|exact List.mem_singleton.mp hb|simpa using hb) e) f0 f1 f3 f4 f5
  refine ⟨_,rfl,uV (s:={ s with heap:=h',toks:=tk }) (n := "range_iterator") st' rfl rfl (by decide) ⟨.int (lo+i),H,I1,⟨t,?_⟩,⟨rfl,rfl⟩,st',fun b hb=>(hf b hb).1⟩⟩
  rw [Int.mul_one]
 done:=by
  intro X hP hw hK hc i pins s σ H E I hf st hg
  subst hP hw hK
  obtain ⟨f0,f1,f2,f3,f4,f5⟩:=hf it (by simp)
  exact wpAny_pyNext_range_end (I.ok.hd hc) st (by have:n≤i:=hg; nofun) fun h' eb=>⟨rfl,I.turned (t':=s.toks) (fun b o hb e=>eb b o hb e) f0 f1 f3 f4 f5⟩
 self:=fun _ _ _ _ _ st h=>wpAny_pyIter_rangeiter st h
end L2
namespace L2
open PySem PySem.Spec PyProof.Rows
section
variable {X:Cx} {tg:Expr}
def pE (K:PySem.W.Frag)(tl:TE):TI:=fun σ H R=>tl σ H fun x H1=>∃ a,x=.ref a∧(∃ xs,SqL K H1 a xs)∧R (Itl K a) H1
def D4 (K:PySem.W.Frag)(tl:TE):TI:=fun σ H R=>tl σ H fun x H1=>∃ a,x=.ref a∧(∃ xs,SqT K H1 a xs)∧R (Itt K a) H1
theorem yy {l:Expr}{tl:TE}(hl:PE X l tl):PI X tg l (pE X.K tl):=by
 intro pins s σ H R I h
 refine thn (hl pins s σ H _ I h) fun v s1 ⟨x,H1,I1,r1,q1⟩=>?_
 obtain ⟨a,e,⟨xs,hq⟩,q⟩:=q1
 subst e
 cases r1
 obtain ⟨its,rv,p,hz⟩:=I1.list hq
 refine wpAny_pyIter_list p.isList ?_
 refine ⟨s1.heap.objs.size,[s1.heap.objs.size],_,_,H1,rfl,I1.kept (t':=s1.toks) fun b o e=>Heap.get?_push_of_some _ e,qH a _,⟨_,Heap.get?_push_size _ rfl,rfl,rfl⟩,fun b hb=>?_,q⟩
 have e:b=s1.heap.objs.size:=by first|exact List.mem_singleton.mp hb|simpa using hb
 subst e
 exact I1.fpOk (Nat.le_refl _) (I1.hok.fresh (Nat.le_refl _))
theorem BK {l:Expr}{tl:TE}(hl:PE X l tl):PI X tg l (D4 X.K tl):=by
 intro pins s σ H R I h
 refine thn (hl pins s σ H _ I h) fun v s1 ⟨x,H1,I1,r1,q1⟩=>?_
 obtain ⟨a,e,⟨xs,hq⟩,q⟩:=q1
 subst e
 cases r1
 obtain ⟨its,rv,p,hz⟩:=I1.tuple hq
 refine wpAny_pyIter_tuple (show s1.heap.IsTuple a its.toArray from p) ?_
 refine ⟨s1.heap.objs.size,[s1.heap.objs.size],_,_,H1,rfl,I1.kept (t':=s1.toks) fun b o e=>Heap.get?_push_of_some _ e,pB a _,⟨_,Heap.get?_push_size _ rfl,rfl,rfl⟩,fun b hb=>?_,q⟩
 have e:b=s1.heap.objs.size:=by first|exact List.mem_singleton.mp hb|simpa using hb
 subst e
 exact I1.fpOk (Nat.le_refl _) (I1.hok.fresh (Nat.le_refl _))
theorem nV {pins:List (Addr×Obj)}{σ:St}{H:Hp}{s:Shared}{R:It→Hp→Prop}{E:Value→Shared→Prop}{lo hi:Int}{t u v:Tok}{tk:Nat}(I:Inv X pins σ H s)(h1:-(2 ^ 62)≤lo)(h2:lo < 2 ^ 62)(h3:-(2 ^ 62)≤hi)(h4:hi < 2 ^ 62)
  (q:R (Itr lo (hi - lo).toNat) H):wpAny (model X.prog X.w) X.A (pyIter (.ref s.heap.objs.size)) (PIE X pins σ tg R) E { s with heap:=s.heap.push { cls:=.type "range", data:=.fields #[.int lo t,.int hi u,.int 1 v] },toks:=tk }:=by
 refine wpAny_pyIter_range (IsRange.new ..) (small_one h1 h2 h3 h4) ?_
 have I1:Inv X pins σ H { s with heap:=s.heap.push { cls:=.type "range", data:=.fields #[.int lo t,.int hi u,.int 1 v] },toks:=tk }:=I.kept fun b o e=>Heap.get?_push_of_some _ e
 refine ⟨(s.heap.push { cls:=.type "range", data:=.fields #[.int lo t,.int hi u,.int 1 v] }).objs.size,[(s.heap.push { cls:=.type "range", data:=.fields #[.int lo t,.int hi u,.int 1 v] }).objs.size],_,_,H,rfl,
  I1.kept (t':=tk) fun b o e=>Heap.get?_push_of_some _ e,pD _ lo (hi - lo).toNat,?_,fun b hb=>?_,q⟩
 ·have e1:lo+((0:Nat):Int) * 1=lo:=by simp
  have e2:(((hi - lo).toNat:Nat):Int) - ((0:Nat):Int)=Builtin.Range.rangeSize lo hi 1:=by rw [rangeSize_one]; split <;> nofun
  show IsRangeIter _ _ (lo+((0:Nat):Int) * 1) ((((hi - lo).toNat:Nat):Int) - ((0:Nat):Int)) 1
  rw [e1,e2]
  exact Heap.get?_push_size _ rfl
 ·have e:b=(s.heap.push { cls:=.type "range", data:=.fields #[.int lo t,.int hi u,.int 1 v] }).objs.size:=by first|exact List.mem_singleton.mp hb|simpa using hb
  subst e
  exact I1.fpOk (Nat.le_refl _) (I1.hok.fresh (Nat.le_refl _))
def yz (ta:TA):TI:=fun σ H R=>ta σ H fun vs H1=>∃ j:Int,vs=[.int j]∧-(2 ^ 62)≤j∧j < 2 ^ 62∧R (Itr 0 j.toNat) H1
def yB (ta:TA):TI:=fun σ H R=>ta σ H fun vs H1=>∃ i j:Int,vs=[.int i,.int j]∧(-(2 ^ 62)≤i∧i < 2 ^ 62∧-(2 ^ 62)≤j∧j < 2 ^ 62)∧R (Itr i (j - i).toNat) H1
theorem qI {a:Expr} {ta:TA} {p pos:Pos} (hg:Gl X "range") (hm:X.mg "range" = none) (ha:PA X [a] ta) (hs:autoParam (starEach [a] X.env=[(false,eval a X.env)]) L2.aR._auto_1):PI X tg (.Call (.Name "range" p) [a] [] pos) (yz ta):=by
 intro pins s σ H R I h
 refine Call_ (lz I hg hm boot_range (PyProof.Rows.callWith_type1 (thn (ha pos pins s σ H _ I h) fun us s1 ⟨vs,H1,I1,r1,q1⟩=>?_) hs rfl))
 obtain ⟨j,e,q1,q2,q⟩:=q1
 subst e
 cases r1 with
 | cons r rr =>
  cases rr
  obtain ⟨t,rfl⟩:=r
  exact call_range_1 (nV I1 (by nofun) (by nofun) q1 q2 (by first|exact List.mem_singleton.mp q|simpa using q))
theorem qJ {a b:Expr} {ta:TA} {p pos:Pos} (hg:Gl X "range") (hm:X.mg "range" = none) (ha:PA X [a,b] ta) (hs:autoParam (starEach [a,b] X.env=[(false,eval a X.env),(false,eval b X.env)]) L2.aR._auto_1) (hs2:autoParam (starEach [b] X.env=[(false,eval b X.env)]) L2.aR._auto_1) :
  PI X tg (.Call (.Name "range" p) [a,b] [] pos) (yB ta):=by
 intro pins s σ H R I h
 refine Call_ (lz I hg hm boot_range (PyProof.Rows.callWith_type1 (thn (ha pos pins s σ H _ I h) fun us s1 ⟨vs,H1,I1,r1,q1⟩=>?_) (by rw [hs,hs2]) (by rw [hs2]; rfl)))
 obtain ⟨i,j,e,⟨q1,q2,q3,q4⟩,q⟩:=q1
 subst e
 cases r1 with
 | cons r rr =>
  cases rr with
  | cons r' rr =>
   cases rr
   obtain ⟨t,rfl⟩:=r
   obtain ⟨t',rfl⟩:=r'
   exact call_range_2 (nV I1 q1 q2 q3 q4 q)
def Eu (wi:TI)(g:TG)(tb:TS):TS:=fun D σ H=>wi σ H fun J H1=>∃ W:Nat→Nat→St→Hp→Prop,(∃ m,W 0 m σ H1)∧∀ i m σ H,W i m σ H →
 (J.stop i H∧D.nx σ H)∨(J.go i H∧∃ N:St→Hp→Prop,(∀ σ' H',N σ' H'→∃ m',m' < m∧W (i+1) m' σ' H')∧∀ x H',J.yld i H x H'→g x σ H' fun σ2 H2=>tb { D with nx:=N,ct:=N,bk:=D.nx } σ2 H2)
def g8 (fp:List Addr)(h:Heap):List (Addr×Obj):=fp.filterMap fun b=>(h.get? b).map fun o=>(b,o)
theorem dM {fp:List Addr}{h:Heap}{b:Addr}{o:Obj}(hb:b ∈ fp)(e:h.get? b=some o):(b,o) ∈ g8 fp h:=List.mem_filterMap.mpr ⟨b,hb,by rw [e]; rfl⟩
theorem qK {fp:List Addr}{h:Heap}{p:Addr×Obj}(hp:p ∈ g8 fp h):p.1 ∈ fp∧h.get? p.1=some p.2:=by
 obtain ⟨b,hb,e⟩:=List.mem_filterMap.mp hp
 cases q:h.get? b with
 | none=>rw [q] at e; cases e
 | some o =>
  rw [q] at e
  have e':(b,o)=p:=Option.some.inj e
  subst e'
  exact ⟨hb,q⟩
theorem Inv.pinned {pins:List (Addr×Obj)}{σ:St}{H:Hp}{s:Shared}{fp:List Addr}(I:Inv X pins σ H s)(hf:∀ b ∈ fp,nU X pins H b)(ho:∀ b ∈ fp,∃ o,s.heap.get? b=some o∧∀ v,o.data≠.cell v):Inv X (pins++g8 fp s.heap) σ H s :=
 I.pins_of fun p hp=>(List.mem_append.mp hp).elim (fun z=>I.pin p (List.mem_append_right _ z)) fun z=>by
  obtain ⟨hb,e⟩:=qK z
  obtain ⟨f0,f1,f2,_⟩:=hf p.1 hb
  obtain ⟨o,e',d⟩:=ho p.1 hb
  rw [e] at e'; cases e'
  exact ⟨e,f0,f1,f2,d⟩
theorem Inv.unpinned {pins pl:List (Addr×Obj)}{σ:St}{H:Hp}{s:Shared}(I:Inv X (pins++pl) σ H s):Inv X pins σ H s:=I.pins_of fun p hp=>I.pin p (List.mem_append_right _ (List.mem_append_left _ hp))
theorem BL {iter:Expr}{body:List Stmt}{wi:TI}{g:TG}{tb:TS}{pos:Pos}(hp:PassesOwn (model X.prog X.w) X.A X.env X.xe)(hc:X.calm=true)(hi:PI X tg iter wi)(hg:PG X tg g)(hb:PSs X body tb)
  (hs:autoParam (∀ x,foldedSetIterable iter X.env x=pure x) L2.aI._auto_1):PS X (.For tg iter body [] pos) (Eu wi g tb):=by
 intro pins s σ H D I h
 refine wpAny_For (thn (hi pins s σ H _ I h) fun v s1 h1=>thn h1 fun itv s2 h2=>?_) hs
 obtain ⟨it,fp,tn,J,H2,e,I2,T,st2,f2,W,⟨m0,w0⟩,turn⟩:=h2
 subst e
 -- what stays true of the iterator's objects through the loop
 have stat:∀ {H':Hp},(∀ b ∈ fp,H' b=none)→∀ b ∈ fp,nU X pins H' b:=fun hn b hb=>⟨hn b hb,(f2 b hb).2⟩
 refine codeAny_forLoop_any (fun n s'=>∃ i σ' H',Inv X pins σ' H' s'∧tn i s'.heap∧(∀ b ∈ fp,H' b=none)∧W i n σ' H') ?_ m0 ⟨0,σ,H2,I2,st2,fun b hb=>(f2 b hb).1,w0⟩
 rintro n s3 ⟨i,σ3,H3,I3,st3,fr3,w3⟩
 rcases turn i n σ3 H3 w3 with ⟨stop,qn⟩ | ⟨go,N,hN,step⟩
 ·refine wpAny_passesOwn hp (thn (T.done X rfl rfl rfl hc i pins s3 σ3 H3 X.xe I3 (stat fr3) st3 stop) fun r s4 ⟨hr,I4⟩=>?_)
  subst hr
  exact wpAny_execs_nil ⟨σ3,H3,I4,qn⟩
 ·refine wpAny_passesOwn hp (thn (T.item X rfl rfl rfl hc i pins s3 σ3 H3 X.xe I3 (stat fr3) st3 go) fun r s4 ⟨u,hr,h4⟩=>?_)
  subst hr
  refine wpAny_passesOwn hp (thn h4 fun _ s5 ⟨x,H5,I5,r5,y5,st5,fr5⟩=>?_)
  have I5':=I5.pinned (stat fr5) (T.obj _ _ st5)
  refine wpAny_passesOwn hp (thn (hg _ s5 σ3 H5 x u _ I5' r5 (step x H5 y5)) fun _ s6 ⟨σ6,H6,I6,q6⟩=>?_)
  refine wpAny_passesOwn hp (thn (hb _ s6 σ6 H6 _ I6 q6) fun f s7 q7=>?_)
  have again:∀ {σ7:St} {H7:Hp},Inv X (pins++g8 fp s5.heap) σ7 H7 s7→N σ7 H7→∃ m,m < n∧∃ i σ' H',Inv X pins σ' H' s7∧tn i s7.heap∧(∀ b ∈ fp,H' b=none)∧W i m σ' H':=fun {σ7 H7} I7 n7=>by
   obtain ⟨m',hm,w7⟩:=hN σ7 H7 n7
   refine ⟨m',hm,i+1,σ7,H7,I7.unpinned,T.keep _ _ _ st5 fun b hb o e=>(I7.pin (b,o) (List.mem_append_right _ (List.mem_append_right _ (dM hb e)))).1,fun b hb=>?_,w7⟩
   obtain ⟨o,e,d⟩:=T.obj _ _ st5 b hb
   exact (I7.pin (b,o) (List.mem_append_right _ (List.mem_append_right _ (dM hb e)))).2.1
  cases f with
  | next=>obtain ⟨σ7,H7,I7,n7⟩:=q7; exact again I7 n7
  | cont=>obtain ⟨σ7,H7,I7,n7⟩:=q7; exact again I7 n7
  | brk=>obtain ⟨σ7,H7,I7,q7⟩:=q7; exact ⟨σ7,H7,I7.unpinned,q7⟩
  | ret v=>obtain ⟨x7,σ7,H7,I7,r7,q7⟩:=q7; exact ⟨x7,σ7,H7,I7.unpinned,r7,q7⟩
end
end L2
namespace L2
open PySem PySem.Spec PyProof.Rows
abbrev R2:=V→V→Hp→VK→Prop
def OpR (X:Cx)(f:Value→Value→Sem Value)(r:R2):Prop :=
 ∀ (pins:List (Addr×Obj)) (s:Shared) (σ:St) (H:Hp) (x y:V) (v u:Value) (Q:VK),Inv X pins σ H s→RelV x v→RelV y u→r x y H Q →
  wpAny (model X.prog X.w) X.A (f v u) (EP X pins σ Q) X.xe s
def UnR (X:Cx)(f:Value→Sem Value)(r:V→Hp→VK→Prop):Prop :=
 ∀ (pins:List (Addr×Obj)) (s:Shared) (σ:St) (H:Hp) (x:V) (v:Value) (Q:VK),Inv X pins σ H s→RelV x v→r x H Q →
  wpAny (model X.prog X.w) X.A (f v) (EP X pins σ Q) X.xe s
def CallR (X:Cx)(f:Value)(r:List V→Hp→VK→Prop):Prop :=
 ∀ (pins:List (Addr×Obj)) (s:Shared) (σ:St) (H:Hp) (xs:List V) (us:List Value) (Q:VK),Inv X pins σ H s→Vals xs us→r xs H Q →
  wpAny (model X.prog X.w) X.A (call f us) (EP X pins σ Q) X.xe s
def TruR (X:Cx)(r:V→Hp→(Bool→Hp→Prop)→Prop):Prop :=
 ∀ (pins:List (Addr×Obj)) (s:Shared) (σ:St) (H:Hp) (x:V) (v:Value) (Q:Bool→Hp→Prop),Inv X pins σ H s→RelV x v→r x H Q →
  wpAny (model X.prog X.w) X.A (truthy v) (TP X pins σ Q) X.xe s
def tOp (r:R2)(ta tb:TE):TE:=fun σ H Q=>ta σ H fun x H1=>tb σ H1 fun y H2=>r x y H2 Q
def tUn (r:V→Hp→VK→Prop)(ta:TE):TE:=fun σ H Q=>ta σ H fun x H1=>r x H1 Q
def rI (C:Int→Int→Prop)(g:Int→Int→V):R2:=fun x y H Q=>∃ i j,x=.int i∧y=.int j∧C i j∧Q (g i j) H
def rI0 (g:Int→Int→V):R2:=fun x y H Q=>∃ i j,x=.int i∧y=.int j∧Q (g i j) H
def rU (g:Int→V):V→Hp→VK→Prop:=fun x H Q=>∃ i,x=.int i∧Q (g i) H
section
variable {X:Cx} {a b c:Expr} {ta tb tc:TE} {pos:Pos}
theorem Ev (ha:PE X a ta)(hb:PE X b tb){pins:List (Addr×Obj)}{s:Shared}{σ:St}{H:Hp}{R:V→V→Hp→Prop}(I:Inv X pins σ H s)
  (h:ta σ H fun x H1=>tb σ H1 fun y H2=>R x y H2) {Q:Value→Shared→Prop} {f:Value→Value→Sem Value}
  (hf:∀ v u s2 x y H2,Inv X pins σ H2 s2→RelV x v→RelV y u→R x y H2→wpAny (model X.prog X.w) X.A (f v u) Q X.xe s2) :
  wpAny (model X.prog X.w) X.A (eval a X.env) (fun v s₁=>wpAny (model X.prog X.w) X.A (eval b X.env) (fun u s₂=>wpAny (model X.prog X.w) X.A (f v u) Q X.xe s₂) X.xe s₁) X.xe s:=by
 refine thn (ha pins s σ H _ I h) fun v s1 ⟨x,H1,I1,r1,q1⟩=>?_
 refine thn (hb pins s1 σ H1 _ I1 q1) fun u s2 ⟨y,H2,I2,r2,q2⟩=>?_
 exact hf v u s2 x y H2 I2 r1 r2 q2
theorem Ew {op:Operator}{r:R2}(ho:OpR X (binaryOp op) r)(ha:PE X a ta)(hb:PE X b tb):PE X (.BinOp a op b pos) (tOp r ta tb):=by
 intro pins s σ H Q I h
 exact wpAny_BinOp (Ev ha hb I h fun v u s2 x y H2 I2 rx ry q=>ho pins s2 σ H2 x y v u Q I2 rx ry q)
theorem Ex {op:UnaryOp}{r:V→Hp→VK→Prop}(ho:UnR X (unaryOp op) r)(ha:PE X a ta):PE X (.UnaryOp op a pos) (tUn r ta):=by
 intro pins s σ H Q I h
 exact UnaryOp_ (thn (ha pins s σ H _ I h) fun v s1 ⟨x,H1,I1,r1,q1⟩=>ho pins s1 σ H1 x v Q I1 r1 q1)
theorem opI {f:Value→Value→Sem Value}{C:Int→Int→Prop}{g:Int→Int→Int}
  (rule:∀ (i j:Int) (t u:Tok) (s:Shared) (Q:Value→Shared→Prop) (E:Value→Shared→Prop),C i j→Q (.int (g i j) s.toks) { s with toks:=s.toks+1 }→wpAny (model X.prog X.w) X.A (f (.int i t) (.int j u)) Q E s) :
  OpR X f (rI C fun i j=>.int (g i j)):=by
 intro pins s σ H x y v u Q I rx ry h
 obtain ⟨i,j,rfl,rfl,hc,q⟩:=h
 obtain ⟨t,rfl⟩:=rx
 obtain ⟨t',rfl⟩:=ry
 exact rule i j t t' s _ _ hc ⟨.int (g i j),H,I.tok _,⟨_,rfl⟩,q⟩
theorem Fj {f:Value→Value→Sem Value}{g:Int→Int→Int}
  (rule:∀ (i j:Int) (t u:Tok) (s:Shared) (Q:Value→Shared→Prop) (E:Value→Shared→Prop),Q (.int (g i j) s.toks) { s with toks:=s.toks+1 }→wpAny (model X.prog X.w) X.A (f (.int i t) (.int j u)) Q E s) :
  OpR X f (rI0 fun i j=>.int (g i j)):=by
 intro pins s σ H x y v u Q I rx ry h
 obtain ⟨i,j,rfl,rfl,q⟩:=h
 obtain ⟨t,rfl⟩:=rx
 obtain ⟨t',rfl⟩:=ry
 exact rule i j t t' s _ _ ⟨.int (g i j),H,I.tok _,⟨_,rfl⟩,q⟩
theorem Ey {f:Value→Value→Sem Value}{g:Int→Int→Bool}
  (rule:∀ (i j:Int) (t u:Tok) (s:Shared) (Q:Value→Shared→Prop) (E:Value→Shared→Prop),Q (.bool (g i j)) s→wpAny (model X.prog X.w) X.A (f (.int i t) (.int j u)) Q E s) :
  OpR X f (rI0 fun i j=>.bl (g i j)):=by
 intro pins s σ H x y v u Q I rx ry h
 obtain ⟨i,j,rfl,rfl,q⟩:=h
 obtain ⟨t,rfl⟩:=rx
 obtain ⟨t',rfl⟩:=ry
 exact rule i j t t' s _ _ ⟨.bl (g i j),H,I,rfl,q⟩
def uW (i j:Int):Prop:=0 < j∧j < 1073741824
def BM (i j:Int):Prop:=0≤j∧j≤1000000∧i.natAbs < 2 ^ 64
def CMul (i j:Int):Prop:=(-(2 ^ 64) < i∧i < 2 ^ 64)∨(-(2 ^ 64) < j∧j < 2 ^ 64)
theorem CMul.ok {i j:Int}(h:CMul i j):IntMulOk i j:=by
 rcases h with ⟨h1,h2⟩ | ⟨h1,h2⟩
 ·exact .of_left (intBits_le_64 h1 h2)
 ·exact .of_right (intBits_le_64 h1 h2)
theorem BN:OpR X (binaryOp .Add) (rI0 fun i j=>.int (i+j)):=Fj fun _ _ _ _ _ _ _ q=>add_int q
theorem BP:OpR X (binaryOp .Sub) (rI0 fun i j=>.int (i - j)):=Fj fun _ _ _ _ _ _ _ q=>sub_int q
theorem BQ:OpR X (binaryOp .Mult) (rI CMul fun i j=>.int (i * j)):=opI fun _ _ _ _ _ _ _ hc q=>mul_int q hc.ok
theorem yD:OpR X (binaryOp .FloorDiv) (rI uW fun i j=>.int (i / j)):=opI fun i j _ _ _ _ _ hc q=>by
 have h1:(0:Int) < j:=hc.1
 have h2:j < 1073741824:=hc.2
 exact floordiv_int (by nofun) (by rw [Int.fdiv_eq_ediv_of_nonneg i (by nofun)]; exact q) (.inl (PyProof.noPylong_small (by nofun)))
theorem BR:OpR X (binaryOp .Mod) (rI (fun _ j=>0 < j) fun i j=>.int (i % j)):=opI fun i j _ _ _ _ _ hc q=>by
 have h1:(0:Int) < j:=hc
 exact mod_int' (by nofun) (by rw [Int.fmod_eq_emod_of_nonneg i (by nofun)]; exact q)
theorem BU:OpR X (binaryOp .Pow) (rI BM fun i j=>.int (i ^ j.toNat)):=opI fun _ _ _ _ _ _ _ hc q=>pow_int_small hc.1 hc.2.1 hc.2.2 q
theorem unI {f:Value→Sem Value}{g:Int→Int}
  (rule:∀ (i:Int) (t:Tok) (s:Shared) (Q:Value→Shared→Prop) (E:Value→Shared→Prop),Q (.int (g i) s.toks) { s with toks:=s.toks+1 }→wpAny (model X.prog X.w) X.A (f (.int i t)) Q E s) :
  UnR X f (rU fun i=>.int (g i)):=by
 intro pins s σ H x v Q I rx h
 obtain ⟨i,rfl,q⟩:=h
 obtain ⟨t,rfl⟩:=rx
 exact rule i t s _ _ ⟨.int (g i),H,I.tok _,⟨_,rfl⟩,q⟩
theorem BV:UnR X (unaryOp .USub) (rU fun i=>.int (-i)):=unI fun _ _ _ _ _ q=>neg_int q
end
def Fk:V→V→Bool
 | .non,.non=>true | .non,.int _=>true | .int _,.non=>true | .non,.bl _=>true | .bl _,.non=>true | .non,.str _=>true | .str _,.non=>true
 | .int _,.int _=>true | .bl _,.bl _=>true | .str _,.str _=>true | .byt _,.byt _=>true
 | .int _,.str _=>true | .str _,.int _=>true | .bl _,.str _=>true | .str _,.bl _=>true
 | _,_=>false
def rEq:R2:=fun x y H Q=>Fk x y=true∧Q (.bl (decide (x=y))) H
def rNe:R2:=fun x y H Q=>Fk x y=true∧Q (.bl (!decide (x=y))) H
theorem qL {i j:Int}:decide (V.int i=V.int j)=(i == j):=by
 rw [Bool.eq_iff_iff,decide_eq_true_iff,beq_iff_eq]
 exact ⟨fun h=>by cases h; rfl,fun h=>by rw [h]⟩
theorem xt {i j:Bool}:decide (V.bl i=V.bl j)=(i == j):=by
 rw [Bool.eq_iff_iff,decide_eq_true_iff,beq_iff_eq]
 exact ⟨fun h=>by cases h; rfl,fun h=>by rw [h]⟩
theorem qM {i j:Str}:decide (V.str i=V.str j)=(i == j):=by
 rw [Bool.eq_iff_iff,decide_eq_true_iff,beq_iff_eq]
 exact ⟨fun h=>by cases h; rfl,fun h=>by rw [h]⟩
theorem qO {i j:Array UInt8}:decide (V.byt i=V.byt j)=(i.toList == j.toList):=by
 rw [Bool.eq_iff_iff,decide_eq_true_iff,beq_iff_eq]
 exact ⟨fun h=>by cases h; rfl,fun h=>by rw [Array.toList_inj.mp h]⟩
section
variable {X:Cx} {a b c:Expr} {ta tb tc:TE} {pos:Pos}
theorem bW {pins:List (Addr×Obj)}{σ:St}{H:Hp}{s:Shared}{Q:VK}{k k':Bool}(I:Inv X pins σ H s)(q:Q (.bl k) H)(e:k=k'):EP X pins σ Q (.bool k') s:=by
 subst e
 exact ⟨.bl k,H,I,rfl,q⟩
theorem Ez:OpR X (compareOp .Eq) rEq:=by
 intro pins s σ H x y v u Q I rx ry h
 obtain ⟨hs,q⟩:=h
 cases x with
 | non =>
  cases rx
  cases y with
  | non=>cases ry; exact PySem.EqNone.eq_none_none (bW I q (by simp))
  | bl j=>cases ry; exact PySem.EqNone.eq_none_bool (bW I q (by simp))
  | int j=>obtain ⟨t',rfl⟩:=ry; exact PySem.EqNone.eq_none_int (bW I q (by simp))
  | str j=>obtain ⟨t',rfl⟩:=ry; exact PySem.EqNone.eq_none_str (bW I q (by simp))
  | _=>exact absurd (show false=true from hs) Bool.false_ne_true
 | bl i =>
  cases rx
  cases y with
  | non=>cases ry; exact PySem.EqNone.eq_bool_none (bW I q (by simp))
  | bl j=>cases ry; exact eq_bool (bW I q xt)
  | str j=>obtain ⟨t',rfl⟩:=ry; exact PySem.EqMixed.eq_bool_str (bW I q (by simp))
  | _=>exact absurd (show false=true from hs) Bool.false_ne_true
 | int i =>
  obtain ⟨t,rfl⟩:=rx
  cases y with
  | non=>cases ry; exact PySem.EqNone.eq_int_none (bW I q (by simp))
  | int j=>obtain ⟨t',rfl⟩:=ry; exact eq_int (bW I q qL)
  | str j=>obtain ⟨t',rfl⟩:=ry; exact PySem.EqMixed.eq_int_str (bW I q (by simp))
  | _=>exact absurd (show false=true from hs) Bool.false_ne_true
 | str i =>
  obtain ⟨t,rfl⟩:=rx
  cases y with
  | non=>cases ry; exact PySem.EqNone.eq_str_none (bW I q (by simp))
  | bl j=>cases ry; exact PySem.EqMixed.eq_str_bool (bW I q (by simp))
  | int j=>obtain ⟨t',rfl⟩:=ry; exact PySem.EqMixed.eq_str_int (bW I q (by simp))
  | str j=>obtain ⟨t',rfl⟩:=ry; exact eq_str (bW I q qM)
  | _=>exact absurd (show false=true from hs) Bool.false_ne_true
 | byt i =>
  obtain ⟨t,rfl⟩:=rx
  cases y with
  | byt j=>obtain ⟨t',rfl⟩:=ry; exact PySem.W.eq_bytes (bW I q qO)
  | _=>exact absurd (show false=true from hs) Bool.false_ne_true
 | _=>cases y <;> exact absurd (show false=true from hs) Bool.false_ne_true
theorem EA:OpR X (compareOp .NotEq) rNe:=by
 intro pins s σ H x y v u Q I rx ry h
 obtain ⟨hs,q⟩:=h
 cases x with
 | non =>
  cases rx
  cases y with
  | non=>cases ry; exact PySem.EqNone.ne_none_none (bW I q (by simp))
  | bl j=>cases ry; exact PySem.EqNone.ne_none_bool (bW I q (by simp))
  | int j=>obtain ⟨t',rfl⟩:=ry; exact PySem.EqNone.ne_none_int (bW I q (by simp))
  | str j=>obtain ⟨t',rfl⟩:=ry; exact PySem.EqNone.ne_none_str (bW I q (by simp))
  | _=>exact absurd (show false=true from hs) Bool.false_ne_true
 | bl i =>
  cases rx
  cases y with
  | non=>cases ry; exact PySem.EqNone.ne_bool_none (bW I q (by simp))
  | bl j=>cases ry; exact ne_bool (bW I q (congrArg not xt))
  | str j=>obtain ⟨t',rfl⟩:=ry; exact PySem.EqMixed.ne_bool_str (bW I q (by simp))
  | _=>exact absurd (show false=true from hs) Bool.false_ne_true
 | int i =>
  obtain ⟨t,rfl⟩:=rx
  cases y with
  | non=>cases ry; exact PySem.EqNone.ne_int_none (bW I q (by simp))
  | int j=>obtain ⟨t',rfl⟩:=ry; exact ne_int (bW I q (congrArg not qL))
  | str j=>obtain ⟨t',rfl⟩:=ry; exact PySem.EqMixed.ne_int_str (bW I q (by simp))
  | _=>exact absurd (show false=true from hs) Bool.false_ne_true
 | str i =>
  obtain ⟨t,rfl⟩:=rx
  cases y with
  | non=>cases ry; exact PySem.EqNone.ne_str_none (bW I q (by simp))
  | bl j=>cases ry; exact PySem.EqMixed.ne_str_bool (bW I q (by simp))
  | int j=>obtain ⟨t',rfl⟩:=ry; exact PySem.EqMixed.ne_str_int (bW I q (by simp))
  | str j=>obtain ⟨t',rfl⟩:=ry; exact ne_str (bW I q (congrArg not qM))
  | _=>exact absurd (show false=true from hs) Bool.false_ne_true
 | byt i =>
  obtain ⟨t,rfl⟩:=rx
  cases y with
  | byt j=>obtain ⟨t',rfl⟩:=ry; exact PySem.W.ne_bytes (bW I q (congrArg not qO))
  | _=>exact absurd (show false=true from hs) Bool.false_ne_true
 | _=>cases y <;> exact absurd (show false=true from hs) Bool.false_ne_true
theorem EB:OpR X (compareOp .Lt) (rI0 fun i j=>.bl (decide (i < j))):=Ey fun _ _ _ _ _ _ _ q=>lt_int q
theorem EC:OpR X (compareOp .LtE) (rI0 fun i j=>.bl (decide (i≤j))):=Ey fun _ _ _ _ _ _ _ q=>le_int q
theorem ED:OpR X (compareOp .Gt) (rI0 fun i j=>.bl (decide (j < i))):=Ey fun _ _ _ _ _ _ _ q=>gt_int q
theorem qP:OpR X (compareOp .In) (fun x y H Q=>∃ i j,x=.str i∧y=.str j∧Q (.bl (!(Builtin.Str.occurrences j i 0 j.length 1).isEmpty)) H):=by
 intro pins s σ H x y v u Q I rx ry h
 obtain ⟨i,j,rfl,rfl,q⟩:=h
 obtain ⟨t,rfl⟩:=rx
 obtain ⟨t',rfl⟩:=ry
 exact in_str (bW I q rfl)
theorem OpR.or {f:Value→Value→Sem Value}{r r':R2}(h:OpR X f r)(h':OpR X f r'):OpR X f (fun x y H Q=>r x y H Q∨r' x y H Q):=by
 intro pins s σ H x y v u Q I rx ry q
 rcases q with q | q
 ·exact h pins s σ H x y v u Q I rx ry q
 ·exact h' pins s σ H x y v u Q I rx ry q
theorem BX (b:Expr){op:CmpOp}(h:autoParam (op≠.In) L2.aD._auto_1)(h2:autoParam (op≠.NotIn) L2.aD._auto_1):behindInMarks op b=false:=by
 have e1:(op == CmpOp.In)=false:=by cases op <;> first | rfl | exact absurd rfl h
 have e2:(op == CmpOp.NotIn)=false:=by cases op <;> first | rfl | exact absurd rfl h2
 cases b
 case Set k elts z=>exact Bool.and_eq_false_iff.mpr (.inl (Bool.and_eq_false_iff.mpr (.inr (Bool.or_eq_false_iff.mpr ⟨e1,e2⟩))))
 all_goals rfl
theorem yF {op:CmpOp}{r:R2}(ho:OpR X (compareOp op) r)(ha:PE X a ta)(hb:PE X b tb)(hm:behindInMarks op b=false):PE X (.Compare a [op] [b] pos) (tOp r ta tb):=by
 intro pins s σ H Q I h
 exact wpAny_Compare1 (Ev ha hb I h fun v u s2 x y H2 I2 rx ry q=>ho pins s2 σ H2 x y v u Q I2 rx ry q) hm
def m3 (t:TE):TT:=fun σ H Q=>t σ H fun x H'=>∃ k,x=.bl k∧Q k H'
theorem yG {op:CmpOp}{r:R2}(ho:OpR X (compareOp op) r)(ha:PE X a ta)(hb:PE X b tb)(hm:behindInMarks op b=false):PT X (.Compare a [op] [b] pos) (m3 (tOp r ta tb)):=by
 intro pins s σ H Q I h
 refine wpAny_isTrue_Compare1 (thn (ha pins s σ H _ I h) fun v s1 ⟨x,H1,I1,r1,q1⟩=>thn (hb pins s1 σ H1 _ I1 q1) fun u s2 ⟨y,H2,I2,r2,q2⟩ =>
  thn (ho pins s2 σ H2 x y v u _ I2 r1 r2 q2) fun c s3 ⟨z,H3,I3,r3,k,e,q3⟩=>?_) hm
 subst e
 cases r3
 exact wpAny_truthy_bool ⟨H3,I3,q3⟩
def lA (r r':R2)(ta tb tc:TE):TE:=fun σ H Q=>ta σ H fun x H1=>tb σ H1 fun y H2=>r x y H2 fun z H3=>∃ k,z=.bl k ∧
 (if k=true then tc σ H3 fun w' H4=>r' y w' H4 Q else Q (.bl false) H3)
theorem uX {op op':CmpOp}{r r':R2}(ho:OpR X (compareOp op) r)(ho':OpR X (compareOp op') r')(ha:PE X a ta)(hb:PE X b tb)(hc:PE X c tc)
  (hm:lastMarks [op,op'] [b,c]=false:=by with_unfolding_all rfl):PE X (.Compare a [op,op'] [b,c] pos) (lA r r' ta tb tc):=by
 intro pins s σ H Q I h
 refine Compare_chain (thn (ha pins s σ H _ I h) fun v s1 ⟨x,H1,I1,r1,q1⟩=>chain_link (thn (hb pins s1 σ H1 _ I1 q1) fun u s2 ⟨y,H2,I2,r2,q2⟩ =>
  thn (ho pins s2 σ H2 x y v u _ I2 r1 r2 q2) fun d s3 ⟨z,H3,I3,r3,k,e,q3⟩=>?_)) hm
 subst e
 cases r3
 refine wpAny_truthy_bool ?_
 cases k with
 | false=>exact ite_ff ⟨.bl false,H3,I3,rfl,q3⟩
 | true=>exact ite_tt (chain_last (thn (hc pins s3 σ H3 _ I3 q3) fun w' s4 ⟨z',H4,I4,r4,q4⟩=>ho' pins s4 σ H4 y z' u w' Q I4 r2 r4 q4))
theorem uY {op op':CmpOp}{r r':R2}(ho:OpR X (compareOp op) r)(ho':OpR X (compareOp op') r')(ha:PE X a ta)(hb:PE X b tb)(hc:PE X c tc)
  (hm:lastMarks [op,op'] [b,c]=false:=by with_unfolding_all rfl):PT X (.Compare a [op,op'] [b,c] pos) (m3 (lA r r' ta tb tc)):=by
 intro pins s σ H Q I h
 refine isTrue_chain (thn (ha pins s σ H _ I h) fun v s1 ⟨x,H1,I1,r1,q1⟩=>test_link (thn (hb pins s1 σ H1 _ I1 q1) fun u s2 ⟨y,H2,I2,r2,q2⟩ =>
  thn (ho pins s2 σ H2 x y v u _ I2 r1 r2 q2) fun d s3 ⟨z,H3,I3,r3,k,e,q3⟩=>?_)) hm
 subst e
 cases r3
 refine wpAny_truthy_bool ?_
 cases k with
 | false =>
  obtain ⟨k',e',q'⟩:=q3
  cases e'
  exact ite_ff ⟨H3,I3,q'⟩
 | true =>
  refine ite_tt (test_last (thn (hc pins s3 σ H3 _ I3 q3) fun w' s4 ⟨z',H4,I4,r4,q4⟩=>thn (ho' pins s4 σ H4 y z' u w' _ I4 r2 r4 q4) fun d' s5 ⟨z2,H5,I5,r5,k2,e2,q5⟩=>?_))
  subst e2
  cases r5
  exact wpAny_truthy_bool ⟨H5,I5,q5⟩
def EE (K:PySem.W.Frag)(x:V)(H:Hp)(k:Bool):Prop :=
 match x with
 | .non=>k=false
 | .bl b=>k=b
 | .int i=>k=(i != 0)
 | .str y=>y.length≤sizeLine∧k=((y.length:Int) != 0)
 | .byt y=>y.size≤sizeLine∧k=((y.size:Int) != 0)
 | .ref p=>(∃ xs,SqL K H p xs∧k=!xs.isEmpty)∨(∃ xs,SqT K H p xs∧k=!xs.isEmpty)∨∃ kvs,H p=some (.dK kvs)∧k=!kvs.isEmpty
 | _=>False
theorem pF {κ:Type}{kvs:List (κ×V)}{vs:List (κ×Value)}(r:KV kvs vs):(!vs.isEmpty)=!kvs.isEmpty:=by
 cases r <;> rfl
theorem jM {xs:List V}{its:List Value}(r:Vals xs its):(!its.toArray.isEmpty)=!xs.isEmpty:=by
 cases r <;> simp
theorem iF:(sizeLine:Nat) < 2 ^ 63:=by rw [sizeLine_eq]; decide
theorem BY:TruR X (fun x H Q=>∃ k,EE X.K x H k∧Q k H):=by
 intro pins s σ H x v Q I rx h
 obtain ⟨k,e,q⟩:=h
 have hl:=iF
 have hs:sizeLine=16777216:=sizeLine_eq
 cases x with
 | non =>
  cases rx
  have e':k=false:=e
  subst e'
  exact truthy_none ⟨H,I,q⟩
 | bl b =>
  cases rx
  have e':k=b:=e
  subst e'
  exact wpAny_truthy_bool ⟨H,I,q⟩
 | int i =>
  obtain ⟨t,rfl⟩:=rx
  have e':k=(i != 0):=e
  subst e'
  exact PySem.P.truthy_int ⟨H,I,q⟩
 | str y =>
  obtain ⟨t,rfl⟩:=rx
  obtain ⟨hy,e'⟩:y.length≤sizeLine∧k=((y.length:Int) != 0):=e
  subst e'
  exact PySem.P.truthy_str (by nofun) ⟨H,I.tok _,q⟩
 | byt y =>
  obtain ⟨t,rfl⟩:=rx
  obtain ⟨hy,e'⟩:y.size≤sizeLine∧k=((y.size:Int) != 0):=e
  subst e'
  exact PySem.W.truthy_bytes (by nofun) ⟨H,I.tok _,q⟩
 | ref p =>
  cases rx
  have e':(∃ xs,SqL X.K H p xs∧k=!xs.isEmpty)∨(∃ xs,SqT X.K H p xs∧k=!xs.isEmpty)∨∃ kvs,H p=some (.dK kvs)∧k=!kvs.isEmpty:=e
  rcases e' with ⟨xs,hx,e'⟩ | ⟨xs,hx,e'⟩ | ⟨kvs,hx,e'⟩
  ·subst e'
   obtain ⟨its,r,pl,hz⟩:=I.list hx
   have hlen:=r.length
   exact wpAny_truthy_list pl.isList (by simp only [List.size_toArray]; nofun) ⟨H,I.tok _,by rw [jM r]; exact q⟩
  ·subst e'
   obtain ⟨its,r,pl,hz⟩:=I.tuple hx
   have hlen:=r.length
   exact truthy_tuple pl (by simp only [List.size_toArray]; nofun) ⟨H,I.tok _,by rw [jM r]; exact q⟩
  ·subst e'
   obtain ⟨hz,hS,vs,r,m⟩:kvs.length≤sizeLine∧(p == sysModules)=false∧∃ vs,KV kvs vs∧s.heap.DictOf (cI X.prog X.w) p vs:=I.hok p _ hx
   have hlen:kvs.length=vs.length:=Paired.length r
   exact wpAny_truthy_dict hS m (by nofun) ⟨H,I.tok _,by rw [pF r]; exact q⟩
 | _=>exact (show False from e).elim
theorem pG:OpR X (binaryOp .Add) (fun x y H Q=>∃ i j,x=.str i∧y=.str j∧i.length+j.length≤sizeLine∧Q (.str (i++j)) H):=by
 intro pins s σ H x y v u Q I rx ry h
 obtain ⟨i,j,rfl,rfl,hz,q⟩:=h
 obtain ⟨t,rfl⟩:=rx
 obtain ⟨t',rfl⟩:=ry
 exact add_str (fun t' tk=>⟨.str (i++j),H,I.tok _,⟨_,rfl⟩,q⟩) hz
theorem eU {x:V}{us:List Value}(r:Vals [x] us):∃ u,us=[u]∧RelV x u:=by
 cases r with
 | cons r1 r2=>cases r2; exact ⟨_,rfl,r1⟩
theorem yH {x y:V}{us:List Value}(r:Vals [x,y] us):∃ u w',us=[u,w']∧RelV x u∧RelV y w':=by
 cases r with
 | cons r1 r2 =>
  cases r2 with
  | cons r3 r4=>cases r4; exact ⟨_,_,rfl,r1,r3⟩
theorem qQ (hc:X.calm=true):CallR X (.builtin "max") (fun xs H Q=>∃ i j,xs=[.int i,.int j]∧Q (.int (if j > i then j else i)) H):=by
 intro pins s σ H xs us Q I r h
 obtain ⟨i,j,rfl,q⟩:=h
 obtain ⟨u,w',rfl,⟨t,rfl⟩,⟨t',rfl⟩⟩:=yH r
 refine max_two_ints (I.ok.hd hc) fun h' tk k=>⟨_,H,I.kept k,?_,q⟩
 by_cases hj:j > i
 ·rw [if_pos hj,if_pos hj]; exact ⟨_,rfl⟩
 ·rw [if_neg hj,if_neg hj]; exact ⟨_,rfl⟩
theorem qR (hc:X.calm=true):CallR X (.builtin "min") (fun xs H Q=>∃ i j,xs=[.int i,.int j]∧Q (.int (if j < i then j else i)) H):=by
 intro pins s σ H xs us Q I r h
 obtain ⟨i,j,rfl,q⟩:=h
 obtain ⟨u,w',rfl,⟨t,rfl⟩,⟨t',rfl⟩⟩:=yH r
 refine min_two_ints (I.ok.hd hc) fun h' tk k=>⟨_,H,I.kept k,?_,q⟩
 by_cases hj:j < i
 ·rw [if_pos hj,if_pos hj]; exact ⟨_,rfl⟩
 ·rw [if_neg hj,if_neg hj]; exact ⟨_,rfl⟩
end
end L2
namespace L2
open PySem PySem.Spec PyProof.Rows
structure ObjM (h:Heap)(x dx C:Addr)(mA:Str→Option Value):Prop where
 obj:h.get? x=some (PySem.W.instObj C dx)
 ns:h.Ns1 dx mA
 ne:dx≠x
theorem qS {h:Heap}{dx:Addr}{mA:Str→Option Value}(n:h.Ns1 dx mA):∃ od,h.get? dx=some od∧∀ name,PySem.W.lookIn name od=some (mA name):=by
 obtain ⟨o,es,ep,ho,hd,hk,_,hm⟩:=n
 refine ⟨o,ho,fun name=>?_⟩
 have e:=hm name
 unfold nsFind findBy at e
 rw [← Array.find?_toList] at e
 unfold PySem.W.lookIn
 rw [hd]
 dsimp only
 split
 ·rename_i y q
  rw [q] at e
  exact congrArg some e
 ·rename_i q
  rw [q] at e
  have a:es.toList.any (·.refKey)=false:=by
   rw [List.any_eq_false]
   intro y hy
   obtain ⟨z,t,hkey⟩:=hk y (Array.mem_toList_iff.mp hy)
   simp [DictEntry.refKey,hkey]
  have a':¬ es.toList.any (·.refKey)=true:=by rw [a]; exact Bool.false_ne_true
  rw [if_neg a']
  exact congrArg some e
theorem ObjM.look {h:Heap}{x dx C:Addr}{mA:Str→Option Value}(I:ObjM h x dx C mA):∃ od,PySem.W.InstAt h x (PySem.W.instObj C dx) C (some od)∧∀ name,PySem.W.lookIn name od=some (mA name) :=
 let ⟨od,ho,hl⟩:=qS I.ns
 ⟨od,⟨I.obj,rfl,rfl,ho⟩,hl⟩
section
variable {prog:Program} {w:World} {A:Around} {E:Value→Shared→Prop} {s:Shared} {K:PySem.W.Frag} {x dx C f:Addr} {mA:Str→Option Value} {name:Str} {v:Value}
end
theorem RelO.some_of {v:V}{o:Option Value}(r:RelO (some v) o):∃ u,o=some u∧RelV v u:=by
 cases o with
 | none=>exact (show False from r).elim
 | some u=>exact ⟨u,rfl,r⟩
section
variable {P:Program} {w:World} {H H':Hp} {h h':Heap} {a C dx:Addr} {fs fs':List (Str×V)}
theorem yI (hok:HOk P w H h)(e:H a=some (.ins C dx fs)):∃ mA,ObjM h a dx C mA∧(∀ f,RelO (fs.lookup f) (mA f))∧PySem.Within mA (fs.map (·.1))∧fs.length≤1000∧H dx=some (.own a):=by
 obtain ⟨d,z,ne,ob,mA,n,r,q⟩:=(show ObjOk P w H h a (.ins C dx fs) from hok a _ e)
 exact ⟨mA,⟨ob,n,ne⟩,r,q,z,d⟩
end
structure Cls (K:PySem.W.Frag)(C:Addr):Prop where
 pg:PySem.W.plainGet K C Str.empty=true
 hd:PySem.W.hasDictIn K C=true
 po:PySem.W.plainOver K C=true
 sa:PySem.W.findIn K (.ref C) "__setattr__" = some (some (.builtin "object.__setattr__"))
theorem Cls.get {K:PySem.W.Frag}{C:Addr}(c:Cls K C)(f:Str):PySem.W.plainGet K C f=true:=c.pg
section
variable {X:Cx} {pins:List (Addr×Obj)} {σ:St} {H:Hp} {s:Shared} {a C dx:Addr} {fs:List (Str×V)} {f:Str} {v:V} {A:Around} {E:Value→Shared→Prop}
end
section
variable {X:Cx} {o e value:Expr} {f:Str} {pos pos' tpos:Pos} {ta tv:TE}
end
section
variable {X:Cx} {pins:List (Addr×Obj)} {σ:St} {H:Hp} {s:Shared} {A:Around} {E:Value→Shared→Prop} {Q:Value→Shared→Prop} {c:Value} {b:Bool}
inductive TyOf (K:PySem.W.Frag)(H:Hp):V→Value→Prop where
 | non:TyOf K H .non (.type "NoneType")
 | bl (x:Bool):TyOf K H (.bl x) (.type "bool")
 | int (i:Int):TyOf K H (.int i) (.type "int")
 | str (x:Str):TyOf K H (.str x) (.type "str")
 | flt (x:UInt64):TyOf K H (.flt x) (.type "float")
 | lst {a:Addr} {xs:List V} (e:H a=some (.lst xs)):TyOf K H (.ref a) (.type "list")
 | frz {a:Addr} {o:Obj} {xs:List V} (e:H a=some (.frz o (.lst xs))):TyOf K H (.ref a) (.type "list")
 | tup {a:Addr} {xs:List V} (e:H a=some (.tup xs)):TyOf K H (.ref a) (.type "tuple")
 | dK {a:Addr} {kvs:List (Key×V)} (e:H a=some (.dK kvs)):TyOf K H (.ref a) (.type "dict")
 | dT {a:Addr} {kvs:List (List Key×V)} (e:H a=some (.dT kvs)):TyOf K H (.ref a) (.type "dict")
 | ins {a C dx:Addr} {fs:List (Str×V)} (e:H a=some (.ins C dx fs)) (cl:Cls K C) (ha:PySem.W.findIn K (.ref C) "__class__" = some (some (.builtin "object.__class__")))
   (hn:PySem.W.specialIn K (.builtin "object.__class__") "__get__" = some (some (.builtin "getset_descriptor.__get__"))) (htk:PySem.W.takesIn K (.builtin "object.__class__")=some true)
   (hm:PySem.W.mroIn K C (.type "object")=some true):TyOf K H (.ref a) (.ref C)
theorem gp {x:V}{u t:Value}(I:Inv X pins σ H s)(rx:RelV x u)(ty:TyOf X.K H x t)(e:PySem.W.kitOne X.K t c=some b)(h:∀ tk,Q (.bool b) { s with toks:=tk }) :
  wpAny (model X.prog X.w) A (call (.builtin "isinstance") [u,c]) Q E s:=by
 cases ty with
 | non=>cases (show u=Value.none from rx); exact PySem.W.kia_one PySem.W.kitx_none I.kIn True.intro e (fun z=>nomatch z) h
 | bl y=>cases (show u=Value.bool y from rx); exact PySem.W.kia_one PySem.W.kitx_bool I.kIn True.intro e (fun z=>nomatch z) h
 | int i=>obtain ⟨t,q⟩:=(show ∃ t,u=Value.int i t from rx); cases q; exact PySem.W.kia_one PySem.W.kitx_int I.kIn True.intro e (fun z=>nomatch z) h
 | str y=>obtain ⟨t,q⟩:=(show ∃ t,u=Value.str y t from rx); cases q; exact PySem.W.kia_one PySem.W.kitx_str I.kIn True.intro e (fun z=>nomatch z) h
 | flt y=>obtain ⟨t,q⟩:=(show ∃ t,u=Value.float y t from rx); cases q; exact PySem.W.kia_one PySem.W.kitx_float I.kIn True.intro e (fun z=>nomatch z) h
 | @lst a xs ea =>
  cases (show u=Value.ref a from rx)
  obtain ⟨_,_,n,_,h1⟩:=(show ObjOk X.prog X.w H s.heap a (.lst xs) from I.hok a _ ea)
  exact PySem.W.kia_one PySem.W.kitx_list I.kIn ⟨_,h1,rfl⟩ e (fun z=>nomatch z) h
 | @frz a ob xs ea =>
  cases (show u=Value.ref a from rx)
  obtain ⟨_,_,_,n,_,h1⟩:=(show ObjOk X.prog X.w H s.heap a (.frz ob (.lst xs)) from I.hok a _ ea)
  exact PySem.W.kia_one PySem.W.kitx_list I.kIn ⟨_,h1,rfl⟩ e (fun z=>nomatch z) h
 | @tup a xs ea =>
  cases (show u=Value.ref a from rx)
  obtain ⟨_,_,_,p⟩:=(show ObjOk X.prog X.w H s.heap a (.tup xs) from I.hok a _ ea)
  obtain ⟨o,h1,h2,_⟩:=p
  exact PySem.W.kia_one PySem.W.kitx_tuple I.kIn ⟨o,h1,h2⟩ e (fun z=>nomatch z) h
 | @dK a kvs ea =>
  cases (show u=Value.ref a from rx)
  obtain ⟨_,_,vs,_,p⟩:=(show ObjOk X.prog X.w H s.heap a (.dK kvs) from I.hok a _ ea)
  obtain ⟨o,es,ep,h1,h2,_⟩:=p
  exact PySem.W.kia_one PySem.W.kitx_dict I.kIn ⟨o,h1,h2.1⟩ e (fun z=>nomatch z) h
 | @dT a kvs ea =>
  cases (show u=Value.ref a from rx)
  obtain ⟨_,_,xs,_,o,es,ep,h1,h2,_⟩:=(show ObjOk X.prog X.w H s.heap a (.dT kvs) from I.hok a _ ea)
  exact PySem.W.kia_one PySem.W.kitx_dict I.kIn ⟨o,h1,h2.1⟩ e (fun z=>nomatch z) h
 | @ins a C dx fs ea cl ha hn htk hm =>
  cases (show u=Value.ref a from rx)
  obtain ⟨mA,O,_⟩:=yI I.hok ea
  obtain ⟨od,J,_⟩:=O.look
  exact PySem.W.kia_one (PySem.W.kitx_own (cl.get _) cl.hd ha hn htk hm) I.kIn J e (fun z=>nomatch z) h
end
end L2
namespace L2
open PySem PySem.Spec PyProof.Rows
structure Room (k:Nat)(A:Around):Prop where
 hd:A.handled=none
 dp:A.depth+3 * k+5 < recursionLimit
 un:A.units+16 * k+200 < cLine
 gd:A.guards=some []
theorem Room.mono {j k:Nat}{A:Around}(r:Room k A)(h:j≤k):Room j A:=⟨r.hd,by have:=r.dp; nofun,by have:=r.un; nofun,r.gd⟩
theorem Room.deeper {k:Nat}{A:Around}(r:Room (k+1) A)(env:Env):Room k (A.deeper env) :=
 ⟨r.hd,by have:=r.dp; show A.depth+1+3 * k+5 < _; nofun,by have:=r.un; show A.units+3+16 * k+200 < _; nofun,r.gd⟩
theorem Room.depth {k:Nat}{A:Around}(r:Room k A):A.depth < recursionLimit:=by have:=r.dp; nofun
theorem Room.units {k:Nat}{A:Around}(r:Room k A):A.units+64 < cLine:=by have:=r.un; nofun
def m5:TA:=fun _ H Q=>Q [] H
def fT (ta:TE)(tr:TA):TA:=fun σ H Q=>ta σ H fun x H1=>tr σ H1 fun xs H2=>Q (x::xs) H2
section
variable {X:Cx} {e:Expr} {es:List Expr} {te:TE} {t:TA} {pos:Pos}
theorem xu:PA X [] m5:=fun _ _ _ _ H Q I h=>Calls.spliced_nil ⟨[],H,I,.nil,h⟩
theorem qT (ha:PE X e te)(hr:PA X es t)(hs:autoParam (starEach (e::es) X.env=(false,eval e X.env)::starEach es X.env) L2.aR._auto_1):PA X (e::es) (fT te t):=by
 intro pos pins s σ H Q I h
 rw [hs]
 show wpAny _ _ (spliced ((false,eval e X.env)::backTo pos (starEach es X.env))) _ _ s
 refine Calls.spliced_cons (thn (ha pins s σ H _ I h) fun u s1 ⟨x,H1,I1,r1,q1⟩=>?_)
 exact thn (hr pos pins s1 σ H1 _ I1 q1) fun us s2 ⟨xs,H2,I2,r2,q2⟩=>⟨x::xs,H2,I2,.cons r1 r2,q2⟩
def D5 (t:TA):TE:=fun σ H Q=>t σ H fun xs H1=>xs.length≤sizeLine∧∀ p,H1 p=none→Q (.ref p) (upd H1 p (.tup xs))
def EG (t:TA):TE:=fun σ H Q=>t σ H fun xs H1=>xs.length≤sizeLine∧∀ p,H1 p=none→Q (.ref p) (upd H1 p (.lst xs))
theorem BZ {x1}(h:PA X es t):PE X (.Tuple es x1 pos) (D5 t):=by
 intro pins s σ H Q I hq
 refine wpAny_Tuple_spliced (thn (h pos pins s σ H _ I hq) fun us s1 ⟨xs,H1,I1,r,z,q⟩=>⟨by rw [← r.length]; exact z,?_⟩)
 have hf:H1 s1.heap.objs.size=none:=I1.hok.fresh (Nat.le_refl _)
 refine ⟨.ref s1.heap.objs.size,upd H1 s1.heap.objs.size (.tup xs),I1.laid (t':=s1.toks) (fun b u e=>Heap.get?_push_of_some _ e) (Nat.le_refl _) ?_,rfl,q _ hf⟩
 exact ⟨z,us,r,⟨_,Heap.get?_push_size _ rfl,rfl,_,rfl⟩⟩
theorem B5 (h:PA X es t):PE X (.List es pos) (EG t):=by
 intro pins s σ H Q I hq
 refine wpAny_List_spliced (thn (h pos pins s σ H _ I hq) fun us s1 ⟨xs,H1,I1,r,z,q⟩=>⟨by rw [← r.length]; exact z,?_⟩)
 have hf:H1 s1.heap.objs.size=none:=I1.hok.fresh (Nat.le_refl _)
 refine ⟨.ref s1.heap.objs.size,upd H1 s1.heap.objs.size (.lst xs),I1.laid (t':=s1.toks) (fun b u e=>Heap.get?_push_of_some _ e) (Nat.le_refl _) ?_,rfl,q _ hf⟩
 exact ⟨z,us,0,r,Heap.get?_push_size _ rfl⟩
end
abbrev Sp:=List V→Hp→VK→XK→Prop
abbrev CXT:=List Env→Hp→Shared→XK→Value→Shared→Prop
structure Env0 (P:Program)(w:World)(K:PySem.W.Frag)(mg:Str→Option Value)(base:Heap)(A:Around)(outer:List Env)(s:Shared)(H:Hp):Prop where
 frames:A.frames=some outer
 mod:Mod K mg base
 bs:∀ b o,base.get? b=some o→s.heap.get? b=some o∧H b=none
 bsz:base.objs.size≤s.heap.objs.size
 funs:s.heap.FunFrames base outer
 frf:∀ b ∈ frs outer,H b=none
 hok:HOk P w H s.heap
 bare:AllBare s.gens
def CE (outer:List Env)(P:Program)(w:World)(H:Hp)(s:Shared)(Q:VK)(u:Value)(s':Shared):Prop :=
 ∃ v H',s'.os=s.os∧AllBare s'.gens∧Un (frs outer) [] H H' s.heap s'.heap∧HOk P w H' s'.heap∧RelV v u∧Q v H'
def CR (CX:CXT)(outer:List Env)(P:Program)(w:World)(H:Hp)(s:Shared)(Q:VK)(E:XK)(r:Result)(s':Shared):Prop :=
 match r with
 | .ok (.ret u)=>CE outer P w H s Q u s'
 | .ok _=>False
 | .error e=>CX outer H s E e s'
structure FnOk (P:Program)(w:World)(K:PySem.W.Frag)(mg:Str→Option Value)(base:Heap)(CX:CXT)(k:Nat)(f:Addr)(fd:FuncData)(ps:List Str)(sp:Sp):Prop where
 len:∀ vs H Q E,sp vs H Q E→vs.length=ps.length
 run:∀ (A:Around) (outer:List Env) (s:Shared) (H:Hp) (args:Args) (us:List Value) (vs:List V) (Q:VK) (E:XK),Room k A→Env0 P w K mg base A outer s H→BindsTo s fd args (ps.zip us)→Vals vs us→sp vs H Q E →
  codeAny (model P w) A (.call (.ref f) args) (CR CX outer P w H s Q E) s
theorem FnOk.imp {P:Program}{w:World}{K:PySem.W.Frag}{mg:Str→Option Value}{base:Heap}{CX:CXT}{k:Nat}{f:Addr}{fd:FuncData}{ps:List Str}{sp sp':Sp}(F:FnOk P w K mg base CX k f fd ps sp)
  (h:∀ vs H Q E,sp' vs H Q E→sp vs H Q E):FnOk P w K mg base CX k f fd ps sp' :=
 ⟨fun vs H Q E q=>F.len vs H Q E (h _ _ _ _ q),fun A outer s H args us vs Q E hr he hb hv hs=>F.run A outer s H args us vs Q E hr he hb hv (h _ _ _ _ hs)⟩
section
variable {X:Cx} {pins:List (Addr×Obj)} {σ:St} {H:Hp} {s s':Shared}
theorem Inv.env0 (I:Inv X pins σ H s):Env0 X.prog X.w X.K X.mg X.base X.A X.stack s H :=
 ⟨I.ok.frames,I.ok.mod,I.bs,Nat.le_trans I.ok.bsz I.sz,I.stack,I.stkFree,I.hok,I.bare⟩
theorem Inv.after {Q:VK}{u:Value}(I:Inv X pins σ H s)(h:CE X.stack X.prog X.w H s Q u s'):EP X pins σ Q u s':=by
 obtain ⟨v,H',os,bare,un,hok,r,q⟩:=h
 obtain ⟨hh,g,d,t,os'⟩:=s'
 obtain rfl:os'=s.os:=os
 exact ⟨v,H',I.call (h':=hh) (g':=g) (d':=d) (t':=t) (ch:=[]) un hok bare (fun b z=>absurd z (by simp)),r,q⟩
end
def ku (sp:Sp)(dvs:List V)(E:XK)(t:TA):TE:=fun σ H Q=>t σ H fun vs H1=>sp (vs++dvs) H1 Q E
def Binds (K:PySem.W.Frag)(fd:FuncData)(ps:List Str)(ds:List Value):Prop :=
 ∀ (s:Shared) (us:List Value),K.In s.heap→(us++ds).length=ps.length→BindsTo s fd ⟨us,[]⟩ (ps.zip (us++ds))
theorem Binds.all {K:PySem.W.Frag}{fd:FuncData}{ps:List Str}(h:∀ us:List Value,us.length=ps.length→bindArgs fd ⟨us,[]⟩=pure (ps.zip us)):Binds K fd ps []:=fun s us _ hl=>by
 rw [List.append_nil] at hl ⊢
 exact .of_eq (h us hl)
def jN (CX:CXT)(X:Cx)(E:XK):Prop:=∀ (pins:List (Addr×Obj)) (σ:St) (H:Hp) (s:Shared) (e:Value) (s':Shared),Inv X pins σ H s→CX X.stack H s E e s'→X.xe e s'
section
variable {X:Cx} {CX:CXT} {k:Nat} {f C:Addr} {fd:FuncData} {ps:List Str} {sp:Sp} {dvs:List V} {ds:List Value} {E:XK} {x m:Str} {p pos apos:Pos} {e o:Expr} {es:List Expr} {ta:TE} {t:TA}
theorem B6 {pins:List (Addr×Obj)}{σ:St}{H:Hp}{s:Shared}{Q:VK}{us:List Value}{vs:List V}(F:FnOk X.prog X.w X.K X.mg X.base CX k f fd ps sp)(hr:Room k X.A)(hb:Binds X.K fd ps ds)(hd:Vals dvs ds)(hx:jN CX X E)
  (I:Inv X pins σ H s) (r:Vals vs us) (h:sp (vs++dvs) H Q E):wpAny (model X.prog X.w) X.A (call (.ref f) us) (EP X pins σ Q) X.xe s:=by
 have r2:Vals (vs++dvs) (us++ds):=r.append hd
 have hl:(us++ds).length=ps.length:=by rw [← r2.length]; exact F.len _ _ _ _ h
 refine wpAny_call (codeAny_mono (F.run X.A X.stack s H ⟨us,[]⟩ (us++ds) (vs++dvs) Q E hr I.env0 (hb s us I.kIn hl) r2 h) fun r s' hq=>?_)
 cases r with
 | error e=>exact hx pins σ H s e s' I hq
 | ok fl =>
  cases fl with
  | ret u=>exact I.after hq
  | next=>exact False.elim hq
  | brk=>exact False.elim hq
  | cont=>exact False.elim hq
theorem qU (F:FnOk X.prog X.w X.K X.mg X.base CX k f fd ps sp)(hr:Room k X.A)(hg:Gl X x)(hm:X.mg x=some (.ref f))(hk:PySem.W.keepIn X.K (.ref f)=true)(hb:Binds X.K fd ps ds)(hd:Vals dvs ds)(hx:jN CX X E)
  (ha:PA X (e::es) t) (hdb:autoParam ((x == ("__debug__" : Str))=false) L2.aD._auto_1) (he:autoParam (starEach (e::es) X.env=(false,eval e X.env)::starEach es X.env) L2.aR._auto_1) (hpl:autoParam ((backTo pos (starEach es X.env)).any (·.1)=false) L2.aR._auto_1) :
  PE X (.Call (.Name x p) (e::es) [] pos) (ku sp dvs E t):=by
 intro pins s σ H Q I h
 refine wpAny_Call_Name_kw (iE I hg hm ?_ hdb)
 refine PySem.W.callWith_K (h₀:=X.base) I.ok.mod.kin hk (thn (ha pos pins s σ H _ I h) fun us s1 ⟨vs,H1,I1,r,q⟩=>⟨I1.kIn,?_⟩) he hpl
 exact B6 F hr hb hd hx I1 r q
end
section
variable {X:Cx} {CX:CXT} {k:Nat} {f C:Addr} {fd:FuncData} {ps ks:List Str} {sp:Sp} {E:XK} {x m:Str} {p pos apos kpos:Pos} {e o:Expr} {es:List Expr} {kws:List Keyword} {te ta:TE} {t tk:TA} {nm:Option Str}
variable {g:List Value→List Value→List Value} {gV:List V→List V→List V}
end
structure FnScope (N P:List Str)(sc:Scope):Prop where
 kind:sc.kind=.function
 co:sc.isCoroutine=false
 gen:sc.isGenerator=false
 nd:N.Nodup
 pre:N.take P.length=P
 par:∀ x ∈ P,sc.names.lookup x=some .local∨sc.names.lookup x=some .cell
 nofree:∀ y ∈ sc.names,y.2≠.free
theorem lB {kindOf:Str→Option NameKind}{x:Str}:∀ {binds:List (Str×Value)} {m:Str→Option Value},(∀ v,(x,v) ∉ binds)→bindL kindOf binds m x=m x
 | [],_,_=>rfl
 | (n,v)::r,m,h=>by
  unfold bindL
  rw [lB fun w hw=>h w (List.mem_cons_of_mem _ hw)]
  split
  ·have:x≠n:=by rintro rfl; exact h v List.mem_cons_self
   simp [this]
  ·rfl
theorem lD {kindOf:Str→Option NameKind}{x:Str}:∀ {binds:List (Str×Value)} {m:Str→Option Value},(∀ v,(x,v) ∉ binds)→bindC kindOf binds m x=m x
 | [],_,_=>rfl
 | (n,v)::r,m,h=>by
  unfold bindC
  rw [lD fun w hw=>h w (List.mem_cons_of_mem _ hw)]
  split
  ·rfl
  ·have:x≠n:=by rintro rfl; exact h v List.mem_cons_self
   simp [this]
theorem lE {kindOf:Str→Option NameKind}{x:Str}{v:Value}:∀ {P:List Str} {vs:List Value} {i:Nat} {m:Str→Option Value},P.Nodup→P[i]?=some x→vs[i]?=some v→kindOf x=some .local →
  bindL kindOf (P.zip vs) m x=some v
 | [],_,_,_,_,h,_,_=>by simp at h
 | _::_,[],_,_,_,_,h,_=>by simp at h
 | p::P,w::vs,0,m,nd,h1,h2,hk=>by
  simp at h1 h2; subst h1; subst h2
  show bindL kindOf ((p,w)::P.zip vs) m p=_
  unfold bindL
  rw [lB fun v hv=>(List.nodup_cons.mp nd).1 (List.of_mem_zip hv).1,if_pos hk]
  simp
 | p::P,w::vs,i+1,m,nd,h1,h2,hk=>by
  show bindL kindOf ((p,w)::P.zip vs) m x=_
  unfold bindL
  exact lE (i:=i) (List.nodup_cons.mp nd).2 (by first|exact List.mem_singleton.mp h1|simpa using h1) (by first|exact List.mem_singleton.mp h2|simpa using h2) hk
theorem lF {kindOf:Str→Option NameKind}{x:Str}{v:Value}:∀ {P:List Str} {vs:List Value} {i:Nat} {m:Str→Option Value},P.Nodup→P[i]?=some x→vs[i]?=some v→kindOf x≠some .local →
  bindC kindOf (P.zip vs) m x=some v
 | [],_,_,_,_,h,_,_=>by simp at h
 | _::_,[],_,_,_,_,h,_=>by simp at h
 | p::P,w::vs,0,m,nd,h1,h2,hk=>by
  simp at h1 h2; subst h1; subst h2
  show bindC kindOf ((p,w)::P.zip vs) m p=_
  unfold bindC
  rw [lD fun v hv=>(List.nodup_cons.mp nd).1 (List.of_mem_zip hv).1,if_neg hk]
  simp
 | p::P,w::vs,i+1,m,nd,h1,h2,hk=>by
  show bindC kindOf ((p,w)::P.zip vs) m x=_
  unfold bindC
  exact lF (i:=i) (List.nodup_cons.mp nd).2 (by first|exact List.mem_singleton.mp h1|simpa using h1) (by first|exact List.mem_singleton.mp h2|simpa using h2) hk
def eE (N:List Str)(vs:List V):St:=vs.map some++List.replicate (N.length - vs.length) none
def fF (CX:CXT)(P:Program)(w:World)(K:PySem.W.Frag)(mg:Str→Option Value)(base:Heap)(N:List Str)(qual:Str)(scope:Scope)(f:Addr)(cd:Value)(A:Around)(outer:List Env)(s:Shared)(H:Hp)(E:XK):Cx where
 prog:=P
 w:=w
 K:=K
 mg:=mg
 base:=base
 A:=A.deeper (envOfC qual scope s.heap.objs.size f cd)
 N:=N
 s₀:=s
 H₀:=H
 env:=envOfC qual scope s.heap.objs.size f cd
 outer:=outer
 stack:=envOfC qual scope s.heap.objs.size f cd::outer
 ex:=[]
 calm:=true
 fn:=fun _=>true
 pn:=[]
 xe:=fun e s'=>wpAny (model P w) (A.deeper (envOfC qual scope s.heap.objs.size f cd)) (leaving (envOfC qual scope s.heap.objs.size f cd) e) (fun _ s''=>CX outer H s E e s'') (fun e' s''=>CX outer H s E e' s'') s'
theorem nW {sc:Scope}{n:Nat}{x:Str}(h:sc.names.lookup x=some .cell):∃ c,(cellsFrom n sc.names []).lookup x=some c:=by
 have q:=PySem.W.cellsFrom_some sc.names n [] (.inl h)
 exact Option.isSome_iff_exists.mp q
theorem qV {CX:CXT}{P:Program}{w:World}{K:PySem.W.Frag}{mg:Str→Option Value}{base:Heap}{N ps:List Str}{qual:Str}{scope:Scope}{f:Addr}{cd:Value}{A:Around}{outer:List Env}{s s1:Shared}{H:Hp}{E:XK}{us:List Value}{vs:List V}
  (S:FnScope N ps scope) (hd:A.handled=none) (e0:Env0 P w K mg base A outer s H) (hl:vs.length=ps.length) (r:Vals vs us)
  (x:InCallC s s.heap.objs.size (bindL (envOfC qual scope s.heap.objs.size f cd).kindOf (ps.zip us) fun _=>none) (cellsFrom (s.heap.objs.size+1) scope.names []) (bindC (envOfC qual scope s.heap.objs.size f cd).kindOf (ps.zip us) fun _=>none) s1) :
  Inv (fF CX P w K mg base N qual scope f cd A outer s H E) [] (eE N vs) H s1:=by
 have hpl:ps.length≤N.length:=by have:=congrArg List.length S.pre; rw [List.length_take] at this; nofun
 obtain ⟨h1,tk,rfl,hk⟩:=x.done
 have noA:∀ b:Addr,b ∉ (fF CX P w K mg base N qual scope f cd A outer s H E).ex:=fun b z=>absurd (show b ∈ ([]:List Addr) from z) (by simp)
 refine ⟨⟨e0.mod,S.kind,rfl,rfl,Nat.le_refl _,fun y z c h1 h2=>?_,fun y hy=>?_,fun y c _ h=>?_,fun _=>hd,Around.frames_deeper e0.frames,.inr ⟨rfl,rfl⟩,fun b z=>absurd z (noA b),e0.bs,e0.bsz,fun b _ _=>noA b,fun b z=>absurd z (noA b),e0.funs,e0.frf⟩,
  rfl,e0.bare,Un.kept hk,⟨_,x.toInCall.ns,fun i y v h1 h2 h3=>?_⟩,fun y c h=>⟨_,x.cell y c h⟩,e0.hok.fresh (Nat.le_refl _),fun y c h=>?_,fun p hp=>absurd (show p ∈ ([]:List (Addr×Obj)) from hp) (by simp),e0.hok.kept hk,?_⟩
 ·exact name_of_addr x.apart (PySem.mem_of_lookup h1) (PySem.mem_of_lookup h2)
 ·have hy:scope.names.lookup y=some .cell∨scope.names.lookup y=some .free:=hy
  rcases hy with hy | hy
  ·exact nW hy
  ·exact absurd rfl (S.nofree _ (PySem.mem_of_lookup hy))
 ·exact Nat.le_of_lt (x.above y c (PySem.mem_of_lookup h))
 ·have hi:i < vs.length:=by
   unfold eE at h2
   by_cases hi:i < vs.length
   ·exact hi
   ·rw [List.getElem?_append_right (by first|exact List.mem_singleton.mp hi|simpa using hi)] at h2
    rw [List.getElem?_replicate] at h2
    split at h2 <;> cases h2
  have ha:vs[i]?=some v:=by
   unfold eE at h2
   rw [List.getElem?_append_left (by first|exact List.mem_singleton.mp hi|simpa using hi),List.getElem?_map] at h2
   cases e:vs[i]? with
   | none=>rw [e] at h2; cases h2
   | some a=>rw [e] at h2; cases h2; rfl
  obtain ⟨u,hu,rv⟩:=r.get ha
  have hp:ps[i]?=some y:=by
   rw [← S.pre,List.getElem?_take_of_lt (by nofun)]; exact h1
  have ndP:ps.Nodup:=by rw [← S.pre]; exact S.nd.sublist (List.take_sublist _ _)
  refine ⟨u,rv,?_⟩
  rcases S.par y (List.mem_of_getElem? hp) with k | k
  ·exact .inl ⟨k,lE ndP hp hu k⟩
  ·obtain ⟨c,e⟩:=nW (n:=s.heap.objs.size+1) k
   refine .inr ⟨.inl k,c,e,?_⟩
   have q:=x.cell y c e
   rw [lF ndP hp hu (by show scope.names.lookup y≠_; rw [k]; decide)] at q
   exact q
 ·exact e0.hok.fresh (Nat.le_of_lt (x.above y c (PySem.mem_of_lookup h)))
 ·unfold eE
  show _=N.length
  rw [List.length_append,List.length_map,List.length_replicate]
  nofun
theorem B7 {CX:CXT}{P:Program}{w:World}{K:PySem.W.Frag}{mg:Str→Option Value}{base:Heap}{k:Nat}{f:Addr}{name qual:Str}{params:Arguments}{body:List Stmt}{scope:Scope}{dV kV doc pm cdv ct oc:Value}{an od:Option Addr}
  {osl:Array (Option Value)} {N ps:List Str} {sp:Sp} (lk:K.lookup f=some ⟨oc,od,.func (PySem.W.fnOf name qual params body scope dV kV doc pm an cdv ct),osl⟩) (hcd:PySem.W.codeIn K cdv qual=true) (S:FnScope N ps scope)
  (len:∀ vs H Q E,sp vs H Q E→vs.length=ps.length)
  (hbody:∀ (A:Around) (outer:List Env) (s:Shared) (H:Hp) (vs:List V) (Q:VK) (E:XK),Room k (A.deeper (envOfC qual scope s.heap.objs.size f cdv))→sp vs H Q E →
   ∃ t,PSs (fF CX P w K mg base N qual scope f cdv A outer s H E) body t∧t { nx:=fun _ H'=>Q .non H',rt:=Q } (eE N vs) H) :
  FnOk P w K mg base CX (k+1) f (PySem.W.fnOf name qual params body scope dV kV doc pm an cdv ct) ps sp:=by
 refine ⟨len,fun A outer s H args us vs Q E hr e0 hb r hsp=>?_⟩
 have hl:=len _ _ _ _ hsp
 have KX:K.In s.heap:=e0.mod.kin.keeps fun b o e=>(e0.bs b o e).1
 have lim:s.heap.NoLimit:=e0.mod.nolimit.keeps fun b o e=>(e0.bs b o e).1
 have hkind:∀ y ∈ ps.zip us,scope.names.lookup y.1=some .local∨(scope.names.lookup y.1=some .cell∧((cellsFrom (s.heap.objs.size+1) scope.names []).lookup y.1).isSome=true):=fun ⟨n,v⟩ hy=>by
  rcases S.par n (List.of_mem_zip hy).1 with q | q
  ·exact .inl q
  ·exact .inr ⟨q,PySem.W.cellsFrom_some _ _ _ (.inl q)⟩
 refine codeAny_call_function hr.depth (KX _ _ lk) rfl S.co S.gen rfl (PySem.W.codeRec_of KX hcd) (hb _ _ _ _ ?_)
 refine wpAny_newFunctionEnv_cells S.kind hkind fun env he s1 x=>?_
 subst he
 refine ⟨lim.keeps x.toInCall.keep,codeAny_func ?_⟩
 obtain ⟨t,ht,hq⟩:=hbody A outer s H vs Q E (hr.deeper _) hsp
 have I:Inv (fF CX P w K mg base N qual scope f cdv A outer s H E) [] (eE N vs) H s1:=qV S hr.hd e0 hl r x
 refine wpAny_mono (ht [] s1 (eE N vs) H _ I hq) (fun fl s' hs=>?_) fun e s' hs=>hs
 have fin:∀ {σ':St} {H':Hp} {v:V} {u:Value},Inv (fF CX P w K mg base N qual scope f cdv A outer s H E) [] σ' H' s'→RelV v u→Q v H'→CE outer P w H s Q u s' :=
  fun {σ' H' v u} J rv q=>⟨v,H',J.os,J.bare,J.base,J.hok,rv,q⟩
 cases fl with
 | ret u =>
  obtain ⟨v,σ',H',J,rv,q⟩:=hs
  exact fin J rv q
 | next =>
  obtain ⟨σ',H',J,q⟩:=hs
  exact fin (v:=V.non) (u:=Value.none) J rfl q
 | brk =>
  obtain ⟨_,_,_,q⟩:=hs
  exact False.elim q
 | cont =>
  obtain ⟨_,_,_,q⟩:=hs
  exact False.elim q
end L2
namespace L2
open PySem PySem.Spec PyProof.Rows
section
variable {X:Cx} {x:Str} {p pos:Pos} {e:Expr} {es:List Expr} {t:TA} {id T:String} {r:List V→Hp→VK→Prop}
def tCB (r:List V→Hp→VK→Prop)(t:TA):TE:=fun σ H Q=>t σ H fun vs H1=>r vs H1 Q
theorem uZ (hc:CallR X (.builtin id) r) (hg:Gl X x) (hm:X.mg x=none) (hv:bootBuiltins x=some (.builtin id)) (ha:PA X (e::es) t) (hn:autoParam (x ≠ "__name__") L2.aD._auto_1) (hdb:autoParam ((x == ("__debug__" : Str))=false) L2.aD._auto_1)
  (he:autoParam (starEach (e::es) X.env=(false,eval e X.env)::starEach es X.env) L2.aR._auto_1) (hpl:autoParam ((backTo pos (starEach es X.env)).any (·.1)=false) L2.aR._auto_1):PE X (.Call (.Name x p) (e::es) [] pos) (tCB r t):=by
 intro pins s σ H Q I h
 refine wpAny_Call_Name_kw (lz I hg hm hv ?_ hn hdb)
 exact PyProof.Rows.callWith_builtin1 (thn (ha pos pins s σ H _ I h) fun us s1 ⟨vs,H1,I1,r1,q1⟩=>hc pins s1 σ H1 vs us Q I1 r1 q1) he hpl
theorem qW (hc:CallR X (.type T) r) (hg:Gl X x) (hm:X.mg x=none) (hv:bootBuiltins x=some (.type T)) (ha:PA X (e::es) t) (hn:autoParam (x ≠ "__name__") L2.aD._auto_1) (hdb:autoParam ((x == ("__debug__" : Str))=false) L2.aD._auto_1)
  (he:autoParam (starEach (e::es) X.env=(false,eval e X.env)::starEach es X.env) L2.aR._auto_1) (hpl:autoParam ((backTo pos (starEach es X.env)).any (·.1)=false) L2.aR._auto_1):PE X (.Call (.Name x p) (e::es) [] pos) (tCB r t):=by
 intro pins s σ H Q I h
 refine wpAny_Call_Name_kw (lz I hg hm hv ?_ hn hdb)
 exact PyProof.Rows.callWith_type1 (thn (ha pos pins s σ H _ I h) fun us s1 ⟨vs,H1,I1,r1,q1⟩=>hc pins s1 σ H1 vs us Q I1 r1 q1) he hpl
end
end L2
namespace HT
open PySem PyProof.Rows
section
open PySem.SeqAt
open PySem.AutoSeq1 (wpAny_loadPart')
open PySem.MeetsSeq PySem.MeetsSeq2 PySem.MeetsSeq3
end
section
variable {prog:Program} {w:World} {A:Around} {E:Value→Shared→Prop} {s:Shared}
theorem cat_tup {t b:Addr}{vs ws:List Value}{Q:Value→Shared→Prop}(ht:IsTup s.heap t vs.toArray)(hb:IsTup s.heap b ws.toArray)(hv:vs≠[])
  (h1:ws=[]→Q (.ref t) s) (h2:ws≠[]→Q (.ref s.heap.objs.size) { s with heap:=s.heap.push { cls:=.type "tuple", data:=.seq (vs++ws).toArray } })
  (hsz:vs.length+ws.length≤sizeLine):wpAny (model prog w) A (binaryOp .Add (.ref t) (.ref b)) Q E s:=by
 obtain ⟨⟨cls,dd,data,sl⟩,ho,hc,n,hd⟩:=id ht
 obtain ⟨⟨cls2,dd2,data2,sl2⟩,ho2,hc2,n2,hd2⟩:=id hb
 simp only at hc hd hc2 hd2
 subst hc hd hc2 hd2
 have e:vs.toArray++ws.toArray=(vs++ws).toArray:=by simp
 by_cases hw:ws=[]
 ·exact concat_meets ⟨_,ho,rfl⟩ ⟨_,ho2,rfl⟩ noFill_tuple_add seq_tuple_add PySem.F.slot_tuple_add PySem.F.entry_tuple_add (PySem.F.args_tuple_add_2 _ _)
   (tuple_addW1 t b vs.toArray ws.toArray n n2 dd dd2 sl sl2 (by first|exact List.mem_singleton.mp hv|simpa using hv) (by simp [hw])) ⟨ho,ho2,h1 hw⟩
 ·refine concat_meets ⟨_,ho,rfl⟩ ⟨_,ho2,rfl⟩ noFill_tuple_add seq_tuple_add PySem.F.slot_tuple_add PySem.F.entry_tuple_add (PySem.F.args_tuple_add_2 _ _)
   (tuple_addW2 t b vs.toArray ws.toArray n n2 dd dd2 sl sl2 (by first|exact List.mem_singleton.mp hv|simpa using hv) (by first|exact List.mem_singleton.mp hw|simpa using hw) (by rw [List.size_toArray,List.size_toArray]; exact hsz)) ⟨ho,ho2,?_⟩
  rw [e]
  exact h2 hw
def sIx (n d:Nat):Option Int→Nat
 | none=>d
 | some v=>if v < 0 then (v+(n:Int)).toNat else min v.toNat n
theorem sIx_none (n d:Nat):sIx n d none=d:=rfl
theorem sIx_nat (n d k:Nat):sIx n d (some (k:Int))=min k n:=by
 show (if (k:Int) < 0 then ((k:Int)+(n:Int)).toNat else min (k:Int).toNat n)=min k n
 rw [if_neg (by nofun),Int.toNat_natCast]
theorem sIx_le (n d:Nat)(hd:d≤n)(o:Option Int):sIx n d o≤n:=by
 cases o with
 | none=>exact hd
 | some v =>
  show (if v < 0 then (v+(n:Int)).toNat else min v.toNat n)≤n
  by_cases hv:v < 0
  ·rw [if_pos hv]; nofun
  ·rw [if_neg hv]; exact Nat.min_le_right _ _
theorem clip_eq (v:Int)(n d:Nat):(if v < 0 then max (v+(n:Int)) 0 else min v (n:Int))=((sIx n d (some v):Nat):Int):=by
 show (if v < 0 then max (v+(n:Int)) 0 else min v (n:Int))=(((if v < 0 then (v+(n:Int)).toNat else min v.toNat n):Nat):Int)
 by_cases hv:v < 0
 ·simp only [if_pos hv]; nofun
 ·simp only [if_neg hv]; nofun
theorem pH (lo hi:Option Int)(n:Nat):Builtin.Slice.sliceAdjust lo hi 1 (n:Int)=(((sIx n 0 lo:Nat):Int),((sIx n n hi:Nat):Int)):=by
 have h1:¬ ((1:Int) < 0):=by nofun
 unfold Builtin.Slice.sliceAdjust
 simp only [h1,if_false]
 refine Prod.ext ?_ ?_
 ·cases lo with
  | none=>rfl
  | some v=>exact clip_eq v n 0
 ·cases hi with
  | none=>rfl
  | some v=>exact clip_eq v n n
theorem pJ (i j:Nat):Builtin.Slice.slicePlaces (i:Int) (j:Int) 1=j - i:=by
 unfold Builtin.Slice.slicePlaces
 have h1:(1:Int) > 0:=by nofun
 simp only [h1,if_true,Int.ediv_one]
 split <;> nofun
theorem jO {v:Value}{o:Option Int}{Q:Option Int→Shared→Prop}(p:IsPart v o)(h:Q o s):wpAny (model prog w) A (Builtin.Slice.slicePartIndex v) Q E s:=by
 cases p with
 | none=>exact slicePart_none h
 | int i t=>exact slicePart_int h
theorem eN {sl:Addr}{vl vu:Value}{lo hi:Option Int}{n:Nat}{Q:Int×Int×Nat→Shared→Prop}(hs:s.heap.IsSliceOf sl vl vu .none)(pl:IsPart vl lo)(pu:IsPart vu hi)
  (h:Q (((sIx n 0 lo:Nat):Int),1,sIx n n hi - sIx n 0 lo) s):wpAny (model prog w) A (Builtin.Slice.sliceApplied (.ref sl) (pure (n:Int))) Q E s:=by
 obtain ⟨os,hos,hcs,hds⟩:=id hs
 unfold Builtin.Slice.sliceApplied Builtin.Slice.sliceFields
 refine wpAny_bind (wpAny_bind (wpAny_field hos hds (x:=vl) rfl (wpAny_bind (wpAny_field hos hds (x:=vu) rfl (wpAny_bind (wpAny_field hos hds (x:=.none) rfl (wpAny_pure ?_)))))))
 refine wpAny_bind (slicePart_none ?_)
 show wpAny _ _ (if ((1:Int) == 0)=true then _ else _) _ _ s
 rw [if_neg (by decide)]
 refine wpAny_bind (jO pl (wpAny_bind (jO pu (wpAny_bind (wpAny_pure ?_)))))
 show wpAny _ _ (match Builtin.Slice.sliceAdjust lo hi 1 (n:Int) with | (lo,hi)=>pure (lo,(1:Int),Builtin.Slice.slicePlaces lo hi 1)) _ _ s
 rw [pH lo hi n]
 show wpAny _ _ (pure (((sIx n 0 lo:Nat):Int),(1:Int),Builtin.Slice.slicePlaces ((sIx n 0 lo:Nat):Int) ((sIx n n hi:Nat):Int) 1)) _ _ s
 rw [pJ]
 exact wpAny_pure h
theorem u0 (xs:Array Value)(i k:Nat):((List.range k).filterMap fun (m:Nat)=>xs[((i:Int)+(m:Int) * 1).toNat]?).toArray=((xs.toList.drop i).take k).toArray:=by
 have e:(fun (m:Nat)=>xs[((i:Int)+(m:Int) * 1).toNat]?)=fun m=>xs[i+m]?:=by
  funext m
  have:((i:Int)+(m:Int) * 1).toNat=i+m:=by nofun
  rw [this]
 rw [e]
 have:=pick_run xs i k
 rw [List.filterMap_map] at this
 have e2:((fun x=>xs[x]?) ∘ fun x=>i+x)=fun m=>xs[i+m]?:=rfl
 rw [e2] at this
 rw [this]
theorem getItem_tuple_cut {t sl:Addr}{items:Array Value}{vl vu:Value}{lo hi:Option Int}{Q:Value→Shared→Prop}(ht:IsTup s.heap t items)(hs:s.heap.IsSliceOf sl vl vu .none)(pl:IsPart vl lo)(pu:IsPart vu hi)
  (hw:¬ (sIx items.size 0 lo=0∧sIx items.size items.size hi=items.size))
  (h:Q (.ref s.heap.objs.size) { s with heap:=s.heap.push { cls:=.type "tuple", data:=.seq ((items.toList.drop (sIx items.size 0 lo)).take (sIx items.size items.size hi - sIx items.size 0 lo)).toArray } })
  (hsz:items.size≤sizeLine):wpAny (model prog w) A (getItem (.ref t) (.ref sl)) Q E s:=by
 have htake:sizeOk (.seq ((items.toList.drop (sIx items.size 0 lo)).take (sIx items.size items.size hi - sIx items.size 0 lo)).toArray):=by
  show ((items.toList.drop (sIx items.size 0 lo)).take (sIx items.size items.size hi - sIx items.size 0 lo)).toArray.size≤sizeLine
  rw [List.size_toArray,List.length_take,List.length_drop,Array.length_toList]
  omega
 have hj:sIx items.size items.size hi≤items.size:=sIx_le _ _ (Nat.le_refl _) hi
 obtain ⟨os,hos,hcs,hds⟩:=id hs
 have hTs:s.TypeIs (.ref sl) "slice" := ⟨os,hos,hcs⟩
 unfold getItem
 try with_reducible refine wpAny_holding ?_
 first | refine wpAny_bind (wpAny_pure ?_) | skip
 refine wpAny_bind (wpAny_sequenceKey ht.typeIs (by decide) ?_)
 refine wpAny_bind (wpAny_callSpecial?_slot (name:=Str.ofString "__getitem__") ht.typeIs PyProof.Rows.slot_tuple_getitem
  (wpAny_call_entry PyProof.Rows.slot_tuple_getitem ht.typeIs entry_tuple_getitem ?_ (args_tuple_getitem _ _)))
 show wpAny _ _ (Builtin.Tuple.tupleItemsOf (.ref t) >>= _) _ _ s
 refine wpAny_bind (tupleItemsOf_ ht ?_)
 refine wpAny_bind (wpAny_typeOf hTs ?_)
 rw [if_pos (by decide)]
 refine wpAny_bind (eN hs pl pu ?_)
 have hno:¬ ((((sIx items.size 0 lo:Nat):Int) == 0 && (1:Int) == 1 && (sIx items.size items.size hi - sIx items.size 0 lo) == items.size)=true):=by
  intro q
  rw [Bool.and_eq_true,Bool.and_eq_true] at q
  have q1:((sIx items.size 0 lo:Nat):Int)=0:=eq_of_beq q.1.1
  have q2:sIx items.size items.size hi - sIx items.size 0 lo=items.size:=eq_of_beq q.2
  exact hw ⟨by omega,by omega⟩
 show wpAny _ _ (if (((sIx items.size 0 lo:Nat):Int) == 0 && (1:Int) == 1 && (sIx items.size items.size hi - sIx items.size 0 lo) == items.size)=true then _ else _) _ _ s
 rw [if_neg hno,u0]
 first
  | exact wpAny_bind (m:=Builtin.Tuple.tupleExact _) (wpAny_newObj_type (wpAny_pure ⟨_,rfl,wpAny_pure h⟩) htake)
  | exact wpAny_bind (m:=Builtin.Tuple.tupleExact _) (wpAny_newObj_type (wpAny_bind (wpAny_pure (wpAny_pure ⟨_,rfl,wpAny_pure h⟩))) htake)
  | exact wpAny_bind (wpAny_bind (m:=Builtin.Tuple.tupleExact _) (wpAny_newObj_type (wpAny_pure (wpAny_pure ⟨_,rfl,wpAny_pure h⟩)) htake))
  | exact wpAny_bind (wpAny_bind (m:=Builtin.Tuple.tupleExact _) (wpAny_newObj_type (wpAny_pure ⟨_,rfl,wpAny_pure h⟩) htake))
end
end HT
namespace L2
open PySem PySem.Spec PyProof.Rows
abbrev TO:=St→Hp→(Option Int→Hp→Prop)→Prop
def PO (X:Cx)(e:Option Expr)(t:TO):Prop :=
 ∀ (pins:List (Addr×Obj)) (s:Shared) (σ:St) (H:Hp) (Q:Option Int→Hp→Prop),Inv X pins σ H s→t σ H Q →
  wpAny (model X.prog X.w) X.A (evalPart e X.env) (fun u s'=>∃ o H',Inv X pins σ H' s'∧IsPart u o∧Q o H') X.xe s
def m6:TO:=fun _ H Q=>Q none H
def yJ (t:TE):TO:=fun σ H Q=>t σ H fun x H1=>∃ i,x=.int i∧Q (some i) H1
section
variable {X:Cx} {e:Expr} {te:TE} {lo hi:Option Expr} {tl th:TO} {pos p2:Pos}
theorem yL:PO X none m6:=by
 intro pins s σ H Q I h
 rw [evalPart_none]
 exact wpAny_pure ⟨none,H,I,.none,h⟩
theorem yM (h:PE X e te):PO X (some e) (yJ te):=by
 intro pins s σ H Q I hw
 rw [evalPart_some]
 refine thn (h pins s σ H _ I hw) fun u s1 ⟨x,H1,I1,r1,q1⟩=>?_
 obtain ⟨i,rfl,q⟩:=q1
 obtain ⟨t,rfl⟩:=r1
 exact ⟨some i,H1,I1,.int i t,q⟩
def SlR (X:Cx)(r:V→Option Int→Option Int→Hp→VK→Prop):Prop :=
 ∀ (pins:List (Addr×Obj)) (s:Shared) (σ:St) (H:Hp) (x:V) (v vl vu:Value) (lo hi:Option Int) (sl:Addr) (Q:VK),Inv X pins σ H s→RelV x v→s.heap.IsSliceOf sl vl vu .none→IsPart vl lo→IsPart vu hi→r x lo hi H Q →
  ∃ T id,typeLookup (.type T) "__getitem__" = pure (some (.builtin id))∧s.TypeIs v T∧wpAny (model X.prog X.w) X.A (getItem v (.ref sl)) (EP X pins σ Q) X.xe s
theorem SlR.or {r r':V→Option Int→Option Int→Hp→VK→Prop}(h:SlR X r)(h':SlR X r'):SlR X (fun x lo hi H Q=>r x lo hi H Q∨r' x lo hi H Q):=by
 intro pins s σ H x v vl vu lo hi sl Q I rx hs pl pu q
 rcases q with q | q
 ·exact h pins s σ H x v vl vu lo hi sl Q I rx hs pl pu q
 ·exact h' pins s σ H x v vl vu lo hi sl Q I rx hs pl pu q
def tSl (r:V→Option Int→Option Int→Hp→VK→Prop)(te:TE)(tl th:TO):TE:=fun σ H Q=>te σ H fun x H1=>tl σ H1 fun l H2=>th σ H2 fun u H3=>r x l u H3 Q
theorem nX {r:V→Option Int→Option Int→Hp→VK→Prop}(hr:SlR X r)(he:PE X e te)(hl:PO X lo tl)(hu:PO X hi th):PE X (.Subscript e (.Slice lo hi none p2) pos) (tSl r te tl th):=by
 intro pins s σ H Q I h
 refine Subscript_ (thn (he pins s σ H _ I h) fun v s1 ⟨x,H1,I1,r1,q1⟩=>?_)
 refine wpAny_Slice (thn (hl pins s1 σ H1 _ I1 q1) fun vl s2 ⟨l,H2,I2,pl,q2⟩=>thn (hu pins s2 σ H2 _ I2 q2) fun vu s3 ⟨u,H3,I3,pu,q3⟩=>?_)
 rw [evalPart_none]
 refine wpAny_pure ?_
 have I4:Inv X pins σ H3 { s3 with heap:=s3.heap.push { cls:=.type "slice", data:=.fields #[vl,vu,.none] } }:=I3.kept (t':=s3.toks) fun b ob q=>Heap.get?_push_of_some _ q
 obtain ⟨T,id,hT,ht,hg⟩:=hr pins { s3 with heap:=s3.heap.push { cls:=.type "slice", data:=.fields #[vl,vu,.none] } } σ H3 x v vl vu l u s3.heap.objs.size Q I4 r1 (Heap.IsSliceOf.new ..) pl pu q3
 show wpAny (model X.prog X.w) X.A (subscriptTail e (.Slice lo hi none p2) v (.ref s3.heap.objs.size)) (EP X pins σ Q) X.xe { s3 with heap:=s3.heap.push { cls:=.type "slice", data:=.fields #[vl,vu,.none] } }
 exact tail_any (ops:=[.ref s3.heap.objs.size,v]) ht hT hg (by with_unfolding_all rfl)
def Bj (xs:List V)(lo hi:Option Int):List V:=(xs.drop (HT.sIx xs.length 0 lo)).take (HT.sIx xs.length xs.length hi - HT.sIx xs.length 0 lo)
theorem iG (xs:List V)(lo hi:Option Int):(Bj xs lo hi).length≤xs.length:=by
 unfold Bj
 rw [List.length_take,List.length_drop]
 nofun
def Fl (K:PySem.W.Frag):V→Option Int→Option Int→Hp→VK→Prop:=fun x lo hi H Q=>∃ a xs,x=.ref a∧SqT K H a xs ∧
 ¬ (HT.sIx xs.length 0 lo=0∧HT.sIx xs.length xs.length hi=xs.length)∧∀ p,H p=none→Q (.ref p) (upd H p (.tup (Bj xs lo hi)))
theorem B8:SlR X (Fl X.K):=by
 intro pins s σ H x v vl vu lo hi sl Q I rx hs pl pu h
 obtain ⟨a,xs,rfl,hx,hw,q⟩:=h
 cases rx
 obtain ⟨its,r,ht,hz⟩:=I.tuple hx
 have hlen:its.toArray.size=xs.length:=by rw [List.size_toArray]; exact r.length.symm
 refine ⟨"tuple", _,PyProof.Rows.slot_tuple_getitem.lookup,ht.typeIs,?_⟩
 refine HT.getItem_tuple_cut ht hs pl pu (by rw [hlen]; exact hw) ?_ (by rw [hlen]; exact hz)
 rw [hlen]
 refine ⟨.ref s.heap.objs.size,_,I.laid (t':=s.toks) (o:=.tup (Bj xs lo hi)) (fun b ob q=>Heap.get?_push_of_some _ q) (Nat.le_refl _) ?_,rfl,q _ (I.hok.fresh (Nat.le_refl _))⟩
 exact ⟨Nat.le_trans (iG xs lo hi) hz,_,(r.drop (HT.sIx xs.length 0 lo)).take (HT.sIx xs.length xs.length hi - HT.sIx xs.length 0 lo),IsTup.new _ _⟩
def B9 (K:PySem.W.Frag):R2:=fun x y H Q=>∃ a b xs ys,x=.ref a∧y=.ref b∧SqT K H a xs∧SqT K H b ys∧xs≠[]∧xs.length+ys.length≤sizeLine ∧
 (ys=[]→Q (.ref a) H)∧(ys≠[]→∀ p,H p=none→Q (.ref p) (upd H p (.tup (xs++ys))))
theorem Vals.nil_iff {xs:List V}{us:List Value}(r:Vals xs us):us=[]↔xs=[]:=by
 cases r with
 | nil=>simp
 | cons _ _=>simp
theorem yN:OpR X (binaryOp .Add) (B9 X.K):=by
 intro pins s σ H x y v u Q I rx ry h
 obtain ⟨a,b,xs,ys,rfl,rfl,ha,hb,hx,hz,q1,q2⟩:=h
 cases rx
 cases ry
 obtain ⟨its,r1,p1,_⟩:=I.tuple ha
 obtain ⟨its2,r2,p2,_⟩:=I.tuple hb
 refine HT.cat_tup p1 p2 (fun z=>hx (r1.nil_iff.mp z)) (fun z=>⟨.ref a,H,I,rfl,q1 (r2.nil_iff.mp z)⟩) (fun z=>?_) (by rw [← r1.length,← r2.length]; exact hz)
 refine ⟨.ref s.heap.objs.size,_,I.laid (t':=s.toks) (o:=.tup (xs++ys)) (fun b ob q=>Heap.get?_push_of_some _ q) (Nat.le_refl _) ?_,rfl,q2 (fun w=>z (r2.nil_iff.mpr w)) _ (I.hok.fresh (Nat.le_refl _))⟩
 exact ⟨by rw [List.length_append]; exact hz,_,r1.append r2,IsTup.new _ _⟩
end
end L2
namespace L2
open PySem PySem.Spec PyProof.Rows
def ixN (n:Nat)(i:Int):Option Nat:=if 0≤i then (if i < n then some i.toNat else none) else if -(n:Int)≤i then some (i+n).toNat else none
def atI {α:Type}(xs:List α)(i:Int):Option α:=(ixN xs.length i).bind fun j=>xs[j]?
theorem qX {n:Nat}{i:Int}{j:Nat}(h:ixN n i=some j):seqIndex? i n=some j∧j < n∧-(n:Int)≤i∧i < n:=by
 unfold ixN at h
 by_cases h0:0≤i
 ·rw [if_pos h0] at h
  by_cases h1:i < n
  ·rw [if_pos h1] at h
   have e:i.toNat=j:=Option.some.inj h
   exact ⟨by rw [seqIndex_of h0 h1,e],by nofun,by nofun,h1⟩
  ·rw [if_neg h1] at h; cases h
 ·rw [if_neg h0] at h
  by_cases h1:-(n:Int)≤i
  ·rw [if_pos h1] at h
   have e:(i+n).toNat=j:=Option.some.inj h
   exact ⟨by rw [seqIndex_neg (by nofun) h1,e],by nofun,h1,by nofun⟩
  ·rw [if_neg h1] at h; cases h
theorem m7 {α:Type}{xs:List α}{i:Int}{v:α}(h:atI xs i=some v):∃ j,seqIndex? i xs.length=some j∧xs[j]?=some v∧j < xs.length∧-(xs.length:Int)≤i∧i < xs.length:=by
 unfold atI at h
 cases e:ixN xs.length i with
 | none=>rw [e] at h; cases h
 | some j =>
  rw [e] at h
  obtain ⟨h1,h2,h3,h4⟩:=qX e
  exact ⟨j,h1,h,h2,h3,h4⟩
theorem eX {α:Type}{xs:List α}{j:Nat}{v:α}(h:xs[j]?=some v):atI xs (j:Int)=some v:=by
 have hj:j < xs.length:=(List.getElem?_eq_some_iff.mp h).1
 have e:ixN xs.length (j:Int)=some j:=by
  unfold ixN
  rw [if_pos (by nofun),if_pos (by nofun)]; simp
 unfold atI; rw [e]; exact h
def yO (b:Expr):Prop:=∀ o i,subscripted b false o i=operate [o,i] (getItem o i)
def IxR (X:Cx)(r:R2):Prop :=
 ∀ (value slice:Expr) (pins:List (Addr×Obj)) (s:Shared) (σ:St) (H:Hp) (x y:V) (v u:Value) (Q:VK),Inv X pins σ H s→RelV x v→RelV y u→r x y H Q →
  subscripted slice false v u=operate [v,u] (getItem v u)→wpAny (model X.prog X.w) X.A (subscriptTail value slice v u) (EP X pins σ Q) X.xe s
def MtR (X:Cx)(id:String)(r:V→List V→Hp→VK→Prop):Prop :=
 ∀ (pins:List (Addr×Obj)) (s:Shared) (σ:St) (H:Hp) (x:V) (xs:List V) (v:Value) (us:List Value) (Q:VK),Inv X pins σ H s→RelV x v→Vals xs us→r x xs H Q →
  wpAny (model X.prog X.w) X.A (call (.builtin id) (v::us)) (EP X pins σ Q) X.xe s
section
variable {X:Cx} {a b:Expr} {ta tb:TE} {pos:Pos}
theorem IxR.or {r r':R2}(h:IxR X r)(h':IxR X r'):IxR X (fun x y H Q=>r x y H Q∨r' x y H Q):=by
 intro value slice pins s σ H x y v u Q I rx ry q hs
 rcases q with q | q
 ·exact h value slice pins s σ H x y v u Q I rx ry q hs
 ·exact h' value slice pins s σ H x y v u Q I rx ry q hs
theorem EH {r:R2}(hr:IxR X r)(ha:PE X a ta)(hb:PE X b tb)(hs:yO b):PE X (.Subscript a b pos) (tOp r ta tb):=by
 intro pins s σ H Q I h
 exact Subscript_ (Ev ha hb I h fun v u s2 x y H2 I2 rx ry q=>hr a b pins s2 σ H2 x y v u Q I2 rx ry q (hs _ _))
def Fm (K:PySem.W.Frag):R2:=fun x y H Q=>∃ p xs i v,x=.ref p∧y=.int i∧SqL K H p xs∧atI xs i=some v∧Q v H
def Fn (K:PySem.W.Frag):R2:=fun x y H Q=>∃ p xs i v,x=.ref p∧y=.int i∧SqT K H p xs∧atI xs i=some v∧Q v H
def Fo:R2:=fun x y H Q=>∃ z i c,x=.str z∧y=.int i∧z.length≤sizeLine∧atI z.cps.toList i=some c∧Q (.str ⟨#[c]⟩) H
theorem yQ:IxR X (Fm X.K):=by
 intro value slice pins s σ H x y v u Q I rx ry h hs
 obtain ⟨p,xs,i,z,rfl,rfl,hq,he,q⟩:=h
 cases rx
 obtain ⟨t,rfl⟩:=ry
 obtain ⟨its,r,pl,hz⟩:=I.list hq
 obtain ⟨j,h1,h2,h3,h4,h5⟩:=m7 he
 obtain ⟨w,ew,rw'⟩:=r.get h2
 have hl:=r.length
 have hn:=iF
 have fin:EP X pins σ Q w s:=⟨z,H,I,rw',q⟩
 by_cases h0:0≤i
 ·have hj:i.toNat=j:=by
   rw [seqIndex_of h0 h5] at h1
   exact Option.some.inj h1
  exact item_listR pl.isList h0 (by nofun) (by rw [hj]; simpa using ew) fin hs
 ·have hj:(i+(its.toArray.size:Int)).toNat=j:=by
   rw [seqIndex_neg (by nofun) h4] at h1
   rw [List.size_toArray,← hl]
   exact Option.some.inj h1
  exact subscriptTail_builtinR (x:=w) pl.isList.typeIs slot_list_getitem.lookup
   (wpAny_getItem_list_neg (Q:=fun r s'=>r=w∧EP X pins σ Q r s') pl.isList (by nofun) (by rw [List.size_toArray] <;> nofun) (by nofun) (by rw [hj]; simpa using ew) ⟨rfl,fin⟩) hs
theorem Ca:IxR X (Fn X.K):=by
 intro value slice pins s σ H x y v u Q I rx ry h hs
 obtain ⟨p,xs,i,z,rfl,rfl,hq,he,q⟩:=h
 cases rx
 obtain ⟨t,rfl⟩:=ry
 obtain ⟨its,r,pl,hz⟩:=I.tuple hq
 obtain ⟨j,h1,h2,h3,h4,h5⟩:=m7 he
 obtain ⟨w,ew,rw'⟩:=r.get h2
 have hl:=r.length
 have hn:=iF
 have fin:EP X pins σ Q w s:=⟨z,H,I,rw',q⟩
 exact subscriptTail_builtinR (x:=w) pl.typeIs slot_tuple_getitem.lookup
  (getItem_tuple (j:=j) (Q:=fun r s'=>r=w∧EP X pins σ Q r s') pl (by nofun) (by nofun) (by rw [List.size_toArray,← hl]; exact h1) (by first|exact List.mem_singleton.mp ew|simpa using ew) ⟨rfl,fin⟩) hs
theorem Cb:IxR X Fo:=by
 intro value slice pins s σ H x y v u Q I rx ry h hs
 obtain ⟨z,i,c,rfl,rfl,hz,he,q⟩:=h
 obtain ⟨t,rfl⟩:=rx
 obtain ⟨t',rfl⟩:=ry
 obtain ⟨j,h1,h2,h3,h4,h5⟩:=m7 he
 have hl:z.cps.toList.length=z.length:=by simp [Str.length]
 rw [hl] at h1 h4 h5
 have hn:=iF
 exact tail_any (typeIs_str s z t) slot_str_getitem.lookup (getItem_str (c:=c) (by
  have e1:decide (i < -(2 ^ 63:Int))=false:=decide_eq_false (by nofun)
  have e2:decide (i ≥ 2 ^ 63)=false:=decide_eq_false (by nofun)
  rw [e1,e2,Bool.or_false]) (by rw [h1]; simpa using h2) ⟨.str ⟨#[c]⟩,H,I.tok _,⟨_,rfl⟩,q⟩) hs
def rIx (K:PySem.W.Frag):R2:=fun x y H Q=>Fm K x y H Q∨Fn K x y H Q∨Fo x y H Q
theorem Cd:IxR X (rIx X.K):=yQ.or (Ca.or Cb)
theorem pK (its:List Value)(n j:Nat)(u:Value):Obj.mapSeq (·.setIfInBounds j u) { cls:=.type "list", data:=.seq its.toArray n }={ cls:=.type "list", data:=.seq (its.set j u).toArray n }:=by
 simp [Obj.mapSeq]
theorem Inv.lst {pins:List (Addr×Obj)}{σ:St}{H:Hp}{s:Shared}{p:Addr}{xs:List V}(I:Inv X pins σ H s)(h:H p=some (.lst xs)) :
  ∃ (its:List Value) (n:Nat),Vals xs its∧s.heap.get? p=some { cls:=.type "list", data:=.seq its.toArray n }∧xs.length≤sizeLine:=by
 obtain ⟨z,its,n,r,e⟩:=I.hok p _ h
 exact ⟨its,n,r,e,z⟩
theorem Inv.lstUpd {pins:List (Addr×Obj)}{σ:St}{H:Hp}{s:Shared}{p:Addr}{xs ys:List V}{its its':List Value}{n n':Nat}{f:Obj→Obj}(I:Inv X pins σ H s)(h:H p=some (.lst xs))
  (ho:s.heap.get? p=some { cls:=.type "list", data:=.seq its.toArray n }) (hf:f { cls:=.type "list", data:=.seq its.toArray n }={ cls:=.type "list", data:=.seq its'.toArray n' }) (r:Vals ys its') (hz:ys.length≤sizeLine) (t:Nat) :
  Inv X pins σ (upd H p (.lst ys)) { s with heap:=s.heap.update p f,toks:=t }:=by
 have e:(s.heap.update p f).get? p=some { cls:=.type "list", data:=.seq its'.toArray n' }:=by
  rw [Heap.get?_update_self f ho (by rw [hf] <;> rfl),hf]
 refine I.write (x:=p) (e:=p) (by rw [h]; trivial) (.inl rfl) (fun b u hb q=>(Heap.get?_update_other _ _ (Ne.symm hb)).trans q) ⟨_,e⟩ ?_
 exact ⟨hz,its',n',r,e⟩
def yR:V→V→V→Hp→(Hp→Prop)→Prop:=fun o i v H Q=>∃ p xs k j,o=.ref p∧i=.int k∧H p=some (.lst xs)∧ixN xs.length k=some j∧Q (upd H p (.lst (xs.set j v)))
theorem u3:Fi X yR:=by
 intro pins s σ H o i v ov iv u Q I ro ri rv h
 obtain ⟨p,xs,k,j,rfl,rfl,hp,hj,q⟩:=h
 cases ro
 obtain ⟨t,rfl⟩:=ri
 obtain ⟨its,n,r,ho,hz⟩:=I.lst hp
 obtain ⟨h1,h2,h3,h4⟩:=qX hj
 have hl:=r.length
 have hn:=iF
 have I':Inv X pins σ (upd H p (.lst (xs.set j v))) { s with heap:=s.heap.update p (Obj.mapSeq (·.setIfInBounds j u)) } :=
  I.lstUpd hp ho (pK its n j u) (r.set rv j) (by rw [List.length_set]; exact hz) s.toks
 by_cases h0:0≤k
 ·have hk:k.toNat=j:=by
   rw [seqIndex_of h0 h4] at h1
   exact Option.some.inj h1
  exact PySem.W.ki_setAt ho h0 (by nofun) (by rw [List.size_toArray,← hl]; exact h4) (by rw [hk]; exact ⟨_,I',q⟩)
 ·have hk:(k+(its.toArray.size:Int)).toNat=j:=by
   rw [seqIndex_neg (by nofun) h3] at h1
   rw [List.size_toArray,← hl]
   exact Option.some.inj h1
  exact PySem.W.ki_setBack ho (by nofun) (by rw [List.size_toArray,← hl]; exact h3) (by nofun) (by rw [hk]; exact ⟨_,I',q⟩)
theorem lG (lo hi:Option Int)(n:Nat):(sliceBounds lo hi none n).1=((HT.sIx n 0 lo:Nat):Int)∧(sliceBounds lo hi none n).2.1=((HT.sIx n n hi:Nat):Int)∧(sliceBounds lo hi none n).2.2=1:=by
 refine ⟨?_,?_,rfl⟩
 ·cases lo with
  | none=>simp [sliceBounds,HT.sIx]
  | some i =>
   simp only [sliceBounds,HT.sIx,Option.getD_none,show (1:Int) > 0 by decide,if_true]
   by_cases h:i < 0
   ·simp only [h,if_true] <;> nofun
   ·simp only [h,if_false] <;> nofun
 ·cases hi with
  | none=>simp [sliceBounds,HT.sIx]
  | some i =>
   simp only [sliceBounds,HT.sIx,Option.getD_none,show (1:Int) > 0 by decide,if_true]
   by_cases h:i < 0
   ·simp only [h,if_true] <;> nofun
   ·simp only [h,if_false] <;> nofun
theorem kw (its:List Value)(lo hi:Option Int):slicePick its.toArray lo hi none=((its.drop (HT.sIx its.length 0 lo)).take (HT.sIx its.length its.length hi - HT.sIx its.length 0 lo)).toArray:=by
 obtain ⟨h1,h2,h3⟩:=lG lo hi its.toArray.size
 unfold slicePick
 rw [h1,h2,h3]
 simp only [sliceRange_one,pick_run,List.size_toArray] <;> rfl
def Fp (K:PySem.W.Frag):V→Option Int→Option Int→Hp→VK→Prop:=fun x lo hi H Q=>∃ a xs,x=.ref a∧SqL K H a xs∧∀ p,H p=none→Q (.ref p) (upd H p (.lst (Bj xs lo hi)))
theorem yS:SlR X (Fp X.K):=by
 intro pins s σ H x v vl vu lo hi sl Q I rx hs pl pu h
 obtain ⟨a,xs,rfl,hx,q⟩:=h
 cases rx
 obtain ⟨its,r,ht,hz⟩:=I.list hx
 have hlen:=r.length
 refine ⟨"list", _,slot_list_getitem.lookup,ht.isList.typeIs,?_⟩
 refine wpAny_getItem_list_slice ht.isList hs pl pu .none (by simp) ?_ (by rw [List.size_toArray] <;> nofun)
 rw [kw,← hlen]
 refine ⟨.ref s.heap.objs.size,_,I.laid (t':=s.toks) (o:=.lst (Bj xs lo hi)) (fun b ob q=>Heap.get?_push_of_some _ q) (Nat.le_refl _) ?_,rfl,q _ (I.hok.fresh (Nat.le_refl _))⟩
 exact ⟨Nat.le_trans (iG xs lo hi) hz,_,0,(r.drop (HT.sIx xs.length 0 lo)).take (HT.sIx xs.length xs.length hi - HT.sIx xs.length 0 lo),Heap.get?_push_size _ rfl⟩
def iH:V→Bool
 | .non=>true
 | .bl _=>true
 | .int _=>true
 | .str _=>true
 | _=>false
def eqV:V→V→Bool
 | .non,.non=>true
 | .bl a,.bl b=>a == b
 | .bl a,.int b=>(if a then 1 else 0) == b
 | .int a,.bl b=>a == (if b then 1 else 0)
 | .int a,.int b=>a == b
 | .str a,.str b=>a == b
 | _,_=>false
theorem Ce {A:Around}{s:Shared}{y x:V}{u v:Value}(ry:RelV y u)(rx:RelV x v)(fy:iH y=true)(fx:iH x=true):SeqAt.EqAt A s u v (eqV y x):=by
 cases y with
 | non =>
  cases ry
  cases x with
  | non=>cases rx; exact SeqAt.EqAt.same _
  | bl b=>cases rx; exact SeqAt.EqAt.none_bool b
  | int b=>obtain ⟨t,rfl⟩:=rx; exact SeqAt.EqAt.none_int b t
  | str b=>obtain ⟨t,rfl⟩:=rx; exact SeqAt.EqAt.none_str b t
  | _=>exact absurd (show false=true from fx) Bool.false_ne_true
 | bl a =>
  cases ry
  cases x with
  | non=>cases rx; exact SeqAt.EqAt.bool_none a
  | bl b=>cases rx; exact SeqAt.EqAt.bool_bool a b
  | int b=>obtain ⟨t,rfl⟩:=rx; exact SeqAt.EqAt.bool_int a b t
  | str b=>obtain ⟨t,rfl⟩:=rx; exact SeqAt.EqAt.bool_str a b t
  | _=>exact absurd (show false=true from fx) Bool.false_ne_true
 | int a =>
  obtain ⟨t',rfl⟩:=ry
  cases x with
  | non=>cases rx; exact SeqAt.EqAt.int_none a t'
  | bl b=>cases rx; exact SeqAt.EqAt.int_bool a t' b
  | int b=>obtain ⟨t,rfl⟩:=rx; exact SeqAt.EqAt.int_int a t' b t
  | str b=>obtain ⟨t,rfl⟩:=rx; exact SeqAt.EqAt.int_str a t' b t
  | _=>exact absurd (show false=true from fx) Bool.false_ne_true
 | str a =>
  obtain ⟨t',rfl⟩:=ry
  cases x with
  | non=>cases rx; exact SeqAt.EqAt.str_none a t'
  | bl b=>cases rx; exact SeqAt.EqAt.str_bool a t' b
  | int b=>obtain ⟨t,rfl⟩:=rx; exact SeqAt.EqAt.str_int a t' b t
  | str b=>obtain ⟨t,rfl⟩:=rx; exact SeqAt.EqAt.str_str a t' b t
  | _=>exact absurd (show false=true from fx) Bool.false_ne_true
 | _=>exact absurd (show false=true from fy) Bool.false_ne_true
def eqU (x:V)(u:Value):Bool:=match u with
 | .none=>eqV .non x
 | .bool b=>eqV (.bl b) x
 | .int i _=>eqV (.int i) x
 | .str z _=>eqV (.str z) x
 | _=>false
theorem xv {x y:V}{u:Value}(r:RelV y u)(f:iH y=true):eqU x u=eqV y x:=by
 cases y with
 | non=>cases r; rfl
 | bl b=>cases r; rfl
 | int i=>obtain ⟨t,rfl⟩:=r; rfl
 | str z=>obtain ⟨t,rfl⟩:=r; rfl
 | _=>exact absurd (show false=true from f) Bool.false_ne_true
theorem m8 {x:V}:∀ {xs:List V} {us:List Value},Vals xs us→xs.all iH=true→us.any (eqU x)=xs.any fun y=>eqV y x
 | _,_,.nil,_=>rfl
 | y::xs,u::us,.cons r t,f=>by
  rw [List.all_cons,Bool.and_eq_true] at f
  rw [List.any_cons,List.any_cons,xv r f.1,m8 t f.2]
theorem kx {A:Around}{s:Shared}{x:V}{v:Value}(rx:RelV x v)(fx:iH x=true):∀ {xs:List V} {us:List Value},Vals xs us→xs.all iH=true→∀ u ∈ us,SeqAt.EqAt A s u v (eqU x u)
 | _,_,.nil,_=>fun u hu=>by cases hu
 | y::xs,u::us,.cons r t,f=>fun u' hu=>by
  rw [List.all_cons,Bool.and_eq_true] at f
  rcases List.mem_cons.mp hu with rfl | hu
  ·rw [xv r f.1]; exact Ce r rx f.1 fx
  ·exact kx rx fx t f.2 u' hu
def inV (x:V)(xs:List V):Bool:=xs.any fun y=>eqV y x
def rIn (K:PySem.W.Frag)(neg:Bool):R2:=fun x y H Q=>∃ p xs,y=.ref p∧(SqL K H p xs∨SqT K H p xs)∧iH x=true∧xs.all iH=true∧Q (.bl (if neg then !inV x xs else inV x xs)) H
theorem qY:OpR X (compareOp .In) (rIn X.K false):=by
 intro pins s σ H x y v u Q I rx ry h
 obtain ⟨p,xs,rfl,hq,fx,fs,q⟩:=h
 cases ry
 rcases hq with hq | hq
 ·obtain ⟨its,r,pl,hz⟩:=I.list hq
  refine SeqAt.in_listAt (eqU x) pl.isList (fun w hw=>kx rx fx r fs w (by first|exact List.mem_singleton.mp hw|simpa using hw)) ⟨.bl _,H,I,rfl,?_⟩
  rw [show its.toArray.any (eqU x)=its.any (eqU x) by simp,m8 r fs]
  exact q
 ·obtain ⟨its,r,pl,hz⟩:=I.tuple hq
  refine SeqAt.in_tupleAt (eqU x) pl (fun w hw=>kx rx fx r fs w (by first|exact List.mem_singleton.mp hw|simpa using hw)) ⟨.bl _,H,I,rfl,?_⟩
  rw [show its.toArray.any (eqU x)=its.any (eqU x) by simp,m8 r fs]
  exact q
theorem lH:CallR X (.builtin "len") (fun xs H Q=>∃ p ys,xs=[.ref p]∧(SqL X.K H p ys∨SqT X.K H p ys)∧Q (.int ys.length) H):=by
 intro pins s σ H xs us Q I r h
 obtain ⟨p,ys,rfl,hq,q⟩:=h
 obtain ⟨u,rfl,rx⟩:=eU r
 cases rx
 have hn:=iF
 rcases hq with hq | hq
 ·obtain ⟨its,r',pl,hz⟩:=I.list hq
  have hlen:=r'.length
  exact Calls.call_len_list pl.isList (by simp only [List.size_toArray] <;> nofun) ⟨.int ys.length,H,I.tok _,⟨s.toks+1,by rw [List.size_toArray,hlen]⟩,q⟩
 ·obtain ⟨its,r',pl,hz⟩:=I.tuple hq
  have hlen:=r'.length
  exact len_tuple pl (by simp only [List.size_toArray] <;> nofun) ⟨.int ys.length,H,I.tok _,⟨s.toks+1,by rw [List.size_toArray,hlen]⟩,q⟩
theorem lI:CallR X (.builtin "len") (fun xs H Q=>∃ z,xs=[.str z]∧z.length≤sizeLine∧Q (.int z.length) H):=by
 intro pins s σ H xs us Q I r h
 obtain ⟨z,rfl,hz,q⟩:=h
 obtain ⟨u,rfl,t,rfl⟩:=eU r
 have hn:=iF
 exact len_str (by nofun) ⟨.int z.length,H,I.tok _,⟨_,rfl⟩,q⟩
theorem CallR.or {f:Value}{r r':List V→Hp→VK→Prop}(h:CallR X f r)(h':CallR X f r'):CallR X f (fun xs H Q=>r xs H Q∨r' xs H Q):=by
 intro pins s σ H xs us Q I rs q
 rcases q with q | q
 ·exact h pins s σ H xs us Q I rs q
 ·exact h' pins s σ H xs us Q I rs q
theorem lJ:CallR X (.type "list") (fun xs H Q=>∃ p ys,xs=[.ref p]∧(SqL X.K H p ys∨SqT X.K H p ys)∧∀ l,H l=none→Q (.ref l) (upd H l (.lst ys))):=by
 intro pins s σ H xs us Q I r h
 obtain ⟨p,ys,rfl,hq,q⟩:=h
 obtain ⟨u,rfl,rx⟩:=eU r
 cases rx
 have fin:∀ (its:List Value),Vals ys its→ys.length≤sizeLine→∀ (h':Heap) (c':Nat),(∀ b o',s.heap.get? b=some o'→h'.get? b=some o') →
   h'.get? s.heap.objs.size=some { cls:=.type "list", dict:=none,data:=.seq its.toArray c',slots:=#[] }→EP X pins σ Q (.ref s.heap.objs.size) { s with heap:=h' }:=fun its r' hz h' c' kp e =>
  ⟨.ref s.heap.objs.size,_,I.laid (t':=s.toks) kp (Nat.le_refl _) (show ObjOk X.prog X.w _ h' _ (.lst ys) from ⟨hz,its,c',r',e⟩),rfl,q _ (I.hok.fresh (Nat.le_refl _))⟩
 rcases hq with hq | hq
 ·obtain ⟨its,r',pl,hz⟩:=I.list hq
  have hlen:=r'.length
  obtain ⟨o,ho,hc,n,hd⟩:=pl.isList
  exact call_list_seq p (.inl rfl) ho hc hd (fun h' c' kp e=>fin its r' hz h' c' kp e) (by simp only [List.size_toArray] <;> nofun)
 ·obtain ⟨its,r',pl,hz⟩:=I.tuple hq
  have hlen:=r'.length
  obtain ⟨o,ho,hc,n,hd⟩:=pl
  exact call_list_seq p (.inr rfl) ho hc hd (fun h' c' kp e=>fin its r' hz h' c' kp e) (by simp only [List.size_toArray] <;> nofun)
theorem ky:CallR X (.type "tuple") (fun xs H Q=>∃ p ys,xs=[.ref p]∧((SqL X.K H p ys∧∀ l,H l=none→Q (.ref l) (upd H l (.tup ys)))∨(SqT X.K H p ys∧Q (.ref p) H))):=by
 intro pins s σ H xs us Q I r h
 obtain ⟨p,ys,rfl,h⟩:=h
 obtain ⟨u,rfl,rx⟩:=eU r
 cases rx
 rcases h with ⟨hq,q⟩ | ⟨hq,q⟩
 ·obtain ⟨its,r',pl,hz⟩:=I.list hq
  have hlen:=r'.length
  refine call_tuple_list pl.isList (fun h' kp=>?_) (by simp only [List.size_toArray] <;> nofun)
  have I1:Inv X pins σ H { s with heap:=h' }:=I.kept (t':=s.toks) kp
  have I2:Inv X pins σ (upd H h'.objs.size (.tup ys)) { s with heap:=h'.push { cls:=.type "tuple", data:=.seq its.toArray } } :=
   I1.laid (t':=s.toks) (fun b o e=>Heap.get?_push_of_some _ e) (Nat.le_refl _) (show ObjOk X.prog X.w _ _ _ (.tup ys) from ⟨hz,its,r',IsTup.new _ _⟩)
  exact ⟨.ref h'.objs.size,_,I2,rfl,q _ (I1.hok.fresh (Nat.le_refl _))⟩
 ·obtain ⟨its,r',pl,hz⟩:=I.tuple hq
  exact call_tuple_same pl ⟨.ref p,H,I,rfl,q⟩
def tyV (K:PySem.W.Frag)(T:String)(x:V)(H:Hp):Prop:=match x with
 | .str _=>T = "str"
 | .int _=>T = "int"
 | .ref p=>(T = "list" ∧ ∃ xs,SqL K H p xs)∨(T = "tuple" ∧ ∃ o,K.lookup p=some o∧o.cls=.type "tuple" ∧ o.dict=none) ∨
   (T = "dict" ∧ ((∃ kvs,H p=some (.dK kvs))∨∃ kvs,H p=some (.dT kvs)))∨(T = "set" ∧ ∃ S n,H p=some (.set S n))
 | _=>False
theorem xw {pins:List (Addr×Obj)}{σ:St}{H:Hp}{s:Shared}{T:String}{x:V}{v:Value}(I:Inv X pins σ H s)(r:RelV x v)(ty:tyV X.K T x H) :
  s.TypeIs v T∧∀ a,v=.ref a→∃ ob,s.heap.get? a=some ob∧ob.dict=none:=by
 cases x with
 | str z =>
  obtain ⟨t,rfl⟩:=r
  cases (show T = "str" from ty)
  exact ⟨typeIs_str s z t,fun _ e=>nomatch e⟩
 | int i =>
  obtain ⟨t,rfl⟩:=r
  cases (show T = "int" from ty)
  exact ⟨typeIs_int s i t,fun _ e=>nomatch e⟩
 | ref p =>
  cases r
  rcases ty with ⟨rfl,xs,hq⟩ | ⟨rfl,o,hk,hc,hd⟩ | ⟨rfl,hk⟩ | ⟨rfl,S,n,hk⟩
  ·obtain ⟨its,_,pl,_⟩:=I.list hq
   refine ⟨pl.isList.typeIs,fun a e=>?_⟩
   cases e
   obtain ⟨o,n,e,c,hd,_⟩:=pl
   exact ⟨o,e,hd⟩
  ·refine ⟨⟨o,I.kIn p o hk,hc⟩,fun a e=>?_⟩
   cases e
   exact ⟨o,I.kIn _ o hk,hd⟩
  ·have z:∃ o,s.heap.get? p=some o∧o.ExactDict:=by
    rcases hk with ⟨kvs,hk⟩ | ⟨kvs,hk⟩
    ·obtain ⟨_,_,_,_,o,_,_,e,ex,_⟩:=I.hok p _ hk
     exact ⟨o,e,ex⟩
    ·obtain ⟨_,_,_,_,o,_,_,e,ex,_⟩:=I.hok p _ hk
     exact ⟨o,e,ex⟩
   obtain ⟨o,e,ex⟩:=z
   refine ⟨⟨o,e,ex.1⟩,fun a e2=>?_⟩
   cases e2
   exact ⟨o,e,ex.2.1⟩
  ·obtain ⟨o,_,_,_,e,ex,_⟩:=I.hok p _ hk
   refine ⟨⟨o,e,ex.1⟩,fun a e2=>?_⟩
   cases e2
   exact ⟨o,e,ex.2.1⟩
 | _=>exact False.elim ty
def D6 (K:PySem.W.Frag)(T:String)(r:V→List V→Hp→VK→Prop)(to:TE):TE:=fun σ H Q=>to σ H fun x H1=>tyV K T x H1∧r x [] H1 Q
def tBM (K:PySem.W.Frag)(T:String)(r:V→List V→Hp→VK→Prop)(to:TE)(t:TA):TE:=fun σ H Q=>to σ H fun x H1=>tyV K T x H1∧t σ H1 fun xs H2=>r x xs H2 Q
variable {o e:Expr} {es:List Expr} {to:TE} {t:TA} {name:Str} {apos cpos:Pos} {T id:String} {r:V→List V→Hp→VK→Prop}
theorem Cf (pa:PlainAttrs T) (slot:Slot T name id) (hty:typeOf (.builtin id)=pure (.type "method_descriptor")) (hm:MtR X id r) (ho:PE X o to)
  (hbase:autoParam (attributeBase o name X.env (eval o X.env)=eval o X.env) L2.aR._auto_1) (hline:autoParam ((apos.endLine == cpos.line)=true) L2.aR._auto_1):PE X (.Call (.Attribute o name apos) [] [] cpos) (D6 X.K T r to):=by
 intro pins s σ H Q I h
 refine wpAny_Call_method0_late hbase hline (thn (ho pins s σ H _ I h) fun v s1 ⟨x,H1,I1,r1,ty,q1⟩=>?_)
 obtain ⟨h1,h2⟩:=xw I1 r1 ty
 exact ⟨T,id,pa,slot,hty,h1,h2,Calls.callWith_builtin rfl (PySem.evalArgs_none (hm pins s1 σ H1 x [] v [] Q I1 r1 .nil q1))⟩
theorem EI (pa:PlainAttrs T) (slot:Slot T name id) (hty:typeOf (.builtin id)=pure (.type "method_descriptor")) (hm:MtR X id r) (ho:PE X o to) (ha:PA X (e::es) t)
  (hbase:autoParam (attributeBase o name X.env (eval o X.env)=eval o X.env) L2.aR._auto_1)
  (hfew:autoParam (((backTo cpos (starEach (e::es) X.env)).all (fun x=>!x.1) && (backToKw cpos (keywordEach [] X.env)).all (fun x=>x.1.isSome)
   && decide ((e::es).length+([]:List Keyword).length+(if ([]:List Keyword).isEmpty then 0 else 1) < 30))=true) L2.aR._auto_1)
  (hline:autoParam ((apos.endLine == cpos.line)=true) L2.aR._auto_1) (hs:autoParam (starEach (e::es) X.env=(false,eval e X.env)::starEach es X.env) L2.aR._auto_1) (hplain:autoParam ((backTo cpos (starEach es X.env)).any (·.1)=false) L2.aR._auto_1) :
  PE X (.Call (.Attribute o name apos) (e::es) [] cpos) (tBM X.K T r to t):=by
 intro pins s σ H Q I h
 refine wpAny_Call_method_late hbase hfew hline rfl (thn (ho pins s σ H _ I h) fun v s1 ⟨x,H1,I1,r1,ty,q1⟩=>?_)
 obtain ⟨h1,h2⟩:=xw I1 r1 ty
 refine ⟨T,id,pa,slot,hty,h1,h2,?_⟩
 have hA:=ha cpos pins s1 σ H1 _ I1 q1
 rw [hs] at hA ⊢
 refine Calls.callWith_builtin (by show (false || (backTo cpos (starEach es X.env)).any (·.1))=false; rw [hplain] <;> rfl) (Calls.evalArgs_plain ?_)
 exact thn hA fun us s2 ⟨vs,H2,I2,r2,q2⟩=>hm pins s2 σ H2 x vs v us Q I2 r1 r2 q2
/- xs.append(e),list.index on a module's tuple .. are MtR facts of 06m -/
end
end L2
namespace L2
open PySem PySem.Spec PyProof.Rows
def MtM (X:Cx)(id:String)(r:V→List V→Hp→VK→Prop):Prop :=
 ∀ (pins:List (Addr×Obj)) (s:Shared) (σ:St) (H:Hp) (x:V) (xs:List V) (v:Value) (us:List Value) (Q:VK),Inv X pins σ H s→RelV x v→Vals xs us→r x xs H Q →
  wpAny (model X.prog X.w) X.A (call (.builtin id) (v::us)) (EP X pins σ Q) X.xe s
theorem Vals.one {x:V}{us:List Value}(h:Vals [x] us):∃ u,us=[u]∧RelV x u:=by
 cases h with | cons r t=>cases t; exact ⟨_,rfl,r⟩
theorem Vals.reverse {xs:List V}{us:List Value}(h:Vals xs us):Vals xs.reverse us.reverse:=by
 induction h with
 | nil=>exact .nil
 | cons r t ih=>rw [List.reverse_cons,List.reverse_cons]; exact Vals.append ih (.cons r .nil)
section
variable {X:Cx} {pins:List (Addr×Obj)} {σ:St} {H:Hp} {s:Shared} {l b:Addr} {xs ys zs:List V}
theorem Inv.lset {its its':List Value}{n:Nat}{f:Array Value→Array Value}{t':Nat}(I:Inv X pins σ H s)(hH:H l=some (.lst xs))
  (e:s.heap.get? l=some { cls:=.type "list", data:=.seq its.toArray n }) (hf:f its.toArray=its'.toArray) (hv:Vals ys its') (hz:ys.length≤sizeLine) :
  Inv X pins σ (upd H l (.lst ys)) { s with heap:=s.heap.update l (Obj.mapSeq f),toks:=t' }:=by
 have q:=PySem.IsL.update e f
 rw [hf] at q
 refine I.write (x:=l) (e:=l) (by rw [hH]; exact trivial) (.inl rfl) (fun b' u hb hu=>(Heap.get?_update_other s.heap (Obj.mapSeq f) (Ne.symm hb)).trans hu) ⟨_,q⟩ ?_
 exact ⟨hz,its',_,hv,q⟩
theorem Inv.lnew {its:List Value}{t':Nat}(I:Inv X pins σ H s)(hv:Vals ys its)(hz:ys.length≤sizeLine) :
  Inv X pins σ (upd H s.heap.objs.size (.lst ys)) { s with heap:=s.heap.push { cls:=.type "list", data:=.seq its.toArray },toks:=t' } :=
 I.laid (fun _ _ q=>Heap.get?_push_of_some _ q) (Nat.le_refl _) ⟨hz,its,0,hv,Heap.get?_push_size _ rfl⟩
theorem Inv.fresh (I:Inv X pins σ H s):H s.heap.objs.size=none:=I.hok.fresh (Nat.le_refl _)
theorem Inv.lstM (I:Inv X pins σ H s)(hH:H l=some (.lst xs)):xs.length≤sizeLine∧∃ (its:List Value) (n:Nat),Vals xs its∧xs.length=its.length∧s.heap.get? l=some { cls:=.type "list", data:=.seq its.toArray n }:=by
 obtain ⟨z,its,n,r,e⟩:=I.hok l _ hH
 exact ⟨z,its,n,r,r.length,e⟩
end
section
variable {X:Cx}
def kz:V→List V→Hp→VK→Prop:=fun x vs H Q=>∃ l xs y,x=.ref l∧vs=[y]∧H l=some (.lst xs)∧xs.length < sizeLine∧Q .non (upd H l (.lst (xs++[y])))
theorem iI:MtM X "list.append" kz:=by
 intro pins s σ H x vs v us Q I rx rv h
 obtain ⟨l,xs,y,rfl,rfl,hH,hz,q⟩:=h
 cases rx
 obtain ⟨u,rfl,ru⟩:=rv.one
 obtain ⟨z,its,n,r,hl,e⟩:=I.lstM hH
 refine call_meets F.slot_list_append ⟨_,e,rfl⟩ F.entry_list_append (F.args_list_append_2 _ _) (PySem.list_append l its.toArray n u (by rw [List.size_toArray]; nofun)) ⟨e,?_⟩
 refine ⟨.non,_,I.lset (its':=its++[u]) hH e (by simp) (r.append (.cons ru .nil)) ?_,rfl,q⟩
 rw [List.length_append,List.length_singleton]
 nofun
end
section
variable {prog:Program} {w:World} {A:Around} {E:Value→Shared→Prop} {s:Shared}
end
section
variable {X:Cx}
end
end L2
namespace L2
open PySem PySem.Spec PyProof.Rows
section
variable {κ:Type} [DecidableEq κ]
def nY (kvs:List (κ×V))(k:κ):Option V:=(kvs.find? fun kv=>decide (kv.1=k)).map (·.2)
def nZ (kvs:List (κ×V))(k:κ)(v:V):List (κ×V) :=
 if (kvs.any fun kv=>decide (kv.1=k))=true then kvs.map (fun kv=>if kv.1=k then (kv.1,v) else kv) else kvs++[(k,v)]
theorem ij {p:κ×V}{r:List (κ×V)}{k:κ}(e:p.1=k):nY (p::r) k=some p.2:=by simp [nY,List.find?_cons,e]
theorem ik {p:κ×V}{r:List (κ×V)}{k:κ}(e:¬ p.1=k):nY (p::r) k=nY r k:=by simp [nY,List.find?_cons,e]
theorem kA (k:κ):∀ kvs:List (κ×V),(kvs.any fun kv=>decide (kv.1=k))=(nY kvs k).isSome
 | []=>rfl
 | p::r=>by
  rw [List.any_cons]
  by_cases e:p.1=k
  ·simp only [ij e,decide_eq_true e,Bool.true_or,Option.isSome_some]
  ·rw [ik e,decide_eq_false e,Bool.false_or]; exact kA k r
theorem iJ (kvs:List (κ×V))(k:κ)(v:V):(nZ kvs k v).length≤kvs.length+1:=by
 unfold nZ
 split
 ·rw [List.length_map]; nofun
 ·rw [List.length_append,List.length_cons,List.length_nil]; nofun
theorem RelO.isSome_eq {o:Option V}{u:Option Value}(r:RelO o u):o.isSome=u.isSome:=by
 cases o with
 | none=>cases u with
  | none=>rfl
  | some _=>exact (show False from r).elim
 | some _=>cases u with
  | none=>exact (show False from r).elim
  | some _=>rfl
theorem KV.val {kvs:List (κ×V)}{vs:List (κ×Value)}(r:KV kvs vs)(k:κ):RelO (nY kvs k) (valueAt vs k):=by
 unfold KV at r
 induction r with
 | nil=>exact True.intro
 | @cons p q ps qs h t ih =>
  obtain ⟨h1,h2⟩:=h
  by_cases e:p.1=k
  ·have e':q.1=k:=h1.symm.trans e
   have b:valueAt (q::qs) k=some q.2:=by simp [valueAt,List.find?_cons,e']
   rw [ij e,b]; exact h2
  ·have e':¬ q.1=k:=fun z=>e (h1.trans z)
   have b:valueAt (q::qs) k=valueAt qs k:=by simp [valueAt,List.find?_cons,e']
   rw [ik e,b]; exact ih
theorem KV.any {kvs:List (κ×V)}{vs:List (κ×Value)}(r:KV kvs vs)(k:κ):(kvs.any fun kv=>decide (kv.1=k))=vs.any fun kv=>decide (kv.1=k):=by
 unfold KV at r
 induction r with
 | nil=>rfl
 | cons h t ih=>rw [List.any_cons,List.any_cons,ih,h.1]
theorem KV.repl {kvs:List (κ×V)}{vs:List (κ×Value)}(r:KV kvs vs)(k:κ){y:V}{u:Value}(ry:RelV y u) :
  KV (kvs.map fun kv=>if kv.1=k then (kv.1,y) else kv) (vs.map fun kv=>if kv.1=k then (kv.1,u) else kv):=by
 unfold KV at r ⊢
 induction r with
 | nil=>exact .nil
 | @cons p q ps qs h t ih =>
  rw [List.map_cons,List.map_cons]
  refine .cons ?_ ih
  obtain ⟨h1,h2⟩:=h
  by_cases e:p.1=k
  ·rw [if_pos e,if_pos (h1.symm.trans e)]; exact ⟨h1,ry⟩
  ·rw [if_neg e,if_neg (fun z=>e (h1.trans z))]; exact ⟨h1,h2⟩
theorem KV.put {kvs:List (κ×V)}{vs:List (κ×Value)}(r:KV kvs vs)(k:κ){y:V}{u:Value}(ry:RelV y u):KV (nZ kvs k y) (stored vs k u):=by
 unfold nZ stored
 rw [r.any k]
 by_cases e:(vs.any fun kv=>decide (kv.1=k))=true
 ·rw [if_pos e,if_pos e]; exact r.repl k ry
 ·rw [if_neg e,if_neg e]; exact Paired.snoc r ⟨rfl,ry⟩
theorem KV.length {kvs:List (κ×V)}{vs:List (κ×Value)}(r:KV kvs vs):kvs.length=vs.length:=Paired.length r
end
theorem u4 {P:Program}{w:World}{k:Key}{u:Value}(r:RelV (kV k) u):(cI P w).is k u=true:=by
 cases k with
 | inl i=>obtain ⟨t,e⟩:=(show ∃ t,u=Value.int i t from r); subst e; exact mX P w i t
 | inr x=>obtain ⟨t,e⟩:=(show ∃ t,u=Value.str x t from r); subst e; exact mY P w x t
theorem lK {P:Program}{w:World}:∀ {ks:List Key} {us:List Value},Vals (ks.map kV) us→ItemsAre (cI P w) ks us
 | [],_,r=>by rw [List.map_nil] at r; cases r; exact .nil
 | k::ks,_,r=>by
  rw [List.map_cons] at r
  cases r with
  | cons h t=>exact .cons (u4 h) (lK t)
abbrev KT (H:Hp):List (List Key×V)→List (List Key×Addr×Value)→Prop:=Paired fun p q=>p.1=q.1∧H q.2.1=some (.tup (p.1.map kV))∧RelV p.2 q.2.2
theorem KT.val {H:Hp}{kvs:List (List Key×V)}{xs:List (List Key×Addr×Value)}(r:KT H kvs xs)(k:List Key):RelO (nY kvs k) ((atKey xs k).map (·.2)):=by
 induction r with
 | nil=>exact True.intro
 | @cons p q ps qs h t ih =>
  obtain ⟨h1,_,h2⟩:=h
  by_cases e:p.1=k
  ·have e':q.1=k:=h1.symm.trans e
   have b:atKey (q::qs) k=some q.2:=by simp [atKey,List.find?_cons,e']
   rw [ij e,b]; exact h2
  ·have e':¬ q.1=k:=fun z=>e (h1.trans z)
   have b:atKey (q::qs) k=atKey qs k:=by simp [atKey,List.find?_cons,e']
   rw [ik e,b]; exact ih
theorem KT.repl {H:Hp}{kvs:List (List Key×V)}{xs:List (List Key×Addr×Value)}(r:KT H kvs xs)(k:List Key){y:V}{u:Value}(ry:RelV y u) :
  KT H (kvs.map fun kv=>if kv.1=k then (kv.1,y) else kv) (xs.map (putAt k u)):=by
 induction r with
 | nil=>exact .nil
 | @cons p q ps qs h t ih =>
  rw [List.map_cons,List.map_cons]
  refine .cons ?_ ih
  obtain ⟨h1,h2,h3⟩:=h
  unfold putAt
  by_cases e:p.1=k
  ·rw [if_pos e,if_pos (h1.symm.trans e)]; exact ⟨h1,h2,ry⟩
  ·rw [if_neg e,if_neg (fun z=>e (h1.trans z))]; exact ⟨h1,h2,h3⟩
theorem KT.put {H:Hp}{kvs:List (List Key×V)}{xs:List (List Key×Addr×Value)}(r:KT H kvs xs)(k:List Key){b:Addr}{y:V}{u:Value}(hb:H b=some (.tup (k.map kV)))(ry:RelV y u) :
  KT H (nZ kvs k y) (storedH xs k b u):=by
 have e:(kvs.any fun kv=>decide (kv.1=k))=(atKey xs k).isSome:=by
  rw [kA,(r.val k).isSome_eq,Option.isSome_map]
 unfold nZ storedH
 rw [e]
 by_cases q:(atKey xs k).isSome=true
 ·rw [if_pos q,if_pos q]; exact r.repl k ry
 ·rw [if_neg q,if_neg q]; exact Paired.snoc r ⟨rfl,hb,ry⟩
theorem KT.keeps {H H':Hp}{kvs:List (List Key×V)}{xs:List (List Key×Addr×Value)}(r:KT H kvs xs)(ht:∀ b ys,H b=some (.tup ys)→H' b=some (.tup ys)):KT H' kvs xs :=
 Paired.mapP r fun _ _ z=>⟨z.1,ht _ _ z.2.1,z.2.2⟩
section
variable {P:Program} {w:World} {H:Hp} {h:Heap} {a:Addr}
theorem Cg {u:HO}(ok:HOk P w H h)(e:Rd H a u):ObjOk P w H h a u:=e.ok ok
theorem qZ {kvs:List (Key×V)}(ok:HOk P w H h)(e:Rd H a (.dK kvs)):kvs.length≤sizeLine∧(a == sysModules)=false∧∃ vs,KV kvs vs∧h.DictOf (cI P w) a vs :=
 show ObjOk P w H h a (.dK kvs) from Cg ok e
theorem EJ {kvs:List (Key×V)}(ok:HOk P w H h)(e:H a=some (.dK kvs)):kvs.length≤sizeLine∧(a == sysModules)=false∧∃ vs,KV kvs vs∧h.DictOf (cI P w) a vs:=qZ ok (.inl e)
theorem n4 {ks:List Key}(ok:HOk P w H h)(e:H a=some (.tup (ks.map kV))):(tupleKind (cI P w)).is h ks a:=by
 obtain ⟨_,its,r,o,h1,h2,n,h3⟩:=(show ObjOk P w H h a (.tup (ks.map kV)) from ok a _ e)
 exact ⟨o,its.toArray,n,h1,h2,h3,by simpa using lK r⟩
theorem u5 {kvs:List (List Key×V)}(ok:HOk P w H h)(e:Rd H a (.dT kvs)):kvs.length≤sizeLine∧(a == sysModules)=false ∧
  ∃ xs,KT H kvs xs∧h.DictOfH (tupleKind (cI P w)) a xs:=by
 obtain ⟨z,y,xs,r,o,es,ep,h1,h2,h3,h4,h5⟩:=(show ObjOk P w H h a (.dT kvs) from Cg ok e)
 refine ⟨z,y,xs,r,o,es,ep,h1,h2,h3,h4,fun x hx=>?_,h5⟩
 have all:∀ {l:List (List Key×V)} {m:List (List Key×Addr×Value)},KT H l m→∀ x ∈ m,(tupleKind (cI P w)).is h x.1 x.2.1:=by
  intro l m q
  induction q with
  | nil=>intro x hx; exact nomatch hx
  | @cons p q ps qs hq t ih =>
   intro x hx
   rcases List.mem_cons.mp hx with e | hx
   ·subst e
    exact n4 ok (by rw [← hq.1]; exact hq.2.1)
   ·exact ih x hx
 exact all r x hx
theorem EK {kvs:List (List Key×V)}(ok:HOk P w H h)(e:H a=some (.dT kvs)):kvs.length≤sizeLine∧(a == sysModules)=false ∧
  ∃ xs,KT H kvs xs∧h.DictOfH (tupleKind (cI P w)) a xs:=u5 ok (.inl e)
end
def DGet (H:Hp)(a:Addr)(y:V)(r:Option V):Prop :=
 (∃ kvs k,Rd H a (.dK kvs)∧y=kV k∧r=nY kvs k)∨∃ kvs k b,Rd H a (.dT kvs)∧y=.ref b∧H b=some (.tup (k.map kV))∧r=nY kvs k
def Fq (H:Hp)(a:Addr)(y v:V)(H':Hp):Prop :=
 (∃ kvs k,H a=some (.dK kvs)∧y=kV k∧kvs.length < sizeLine∧H'=upd H a (.dK (nZ kvs k v))) ∨
 ∃ kvs k b,H a=some (.dT kvs)∧y=.ref b∧H b=some (.tup (k.map kV))∧kvs.length < sizeLine∧H'=upd H a (.dT (nZ kvs k v))
section
variable {X:Cx} {pins:List (Addr×Obj)} {σ:St} {H:Hp} {s:Shared} {a:Addr} {y v:V} {u r:Value} {o:Option V} {A:Around} {E:Value→Shared→Prop}
theorem Inv.big (I:Inv X pins σ H s):sysModules < s.heap.objs.size:=by
 have h:mainGlobals < s.heap.objs.size:=(I.mod.glob.keeps I.bk).lt
 exact Nat.lt_trans (by decide) h
theorem ra {Q:Value→Shared→Prop}(hu:A.units+1 < cLine)(I:Inv X pins σ H s)(g:DGet H a y (some v))(ry:RelV y u)(h:∀ w' s',Inv X pins σ H s'→RelV v w'→Q w' s') :
  wpAny (model X.prog X.w) A (getItem (.ref a) u) Q E s:=by
 rcases g with ⟨kvs,k,e,ey,l⟩ | ⟨kvs,k,b,e,ey,eb,l⟩
 ·subst ey
  obtain ⟨z,hd,vs,rel,dd⟩:=qZ I.hok e
  obtain ⟨w',hw,rw'⟩:=RelO.some_of (v:=v) (o:=valueAt vs k) (by rw [l]; exact rel.val k)
  exact wpAny_getItem_of (u4 ry) dd.mapOf hw (h w' _ (I.tok _) rw')
 ·subst ey
  cases (show u=Value.ref b from ry)
  obtain ⟨z,hd,xs,rel,dd⟩:=u5 I.hok e
  obtain ⟨w',hw,rw'⟩:=RelO.some_of (v:=v) (o:=(atKey xs k).map (·.2)) (by rw [l]; exact rel.val k)
  obtain ⟨p,hp,hp2⟩:=Option.map_eq_some_iff.mp hw
  refine wpAny_getItem_heap (tupleKind_room_in1 hu) (n4 I.hok eb) dd hp ?_
  rw [hp2]
  exact h w' _ (I.tok _) rw'
theorem d_in {Q:Value→Shared→Prop}(hu:A.units+1 < cLine)(I:Inv X pins σ H s)(g:DGet H a y o)(ry:RelV y u)(h:∀ s',Inv X pins σ H s'→Q (.bool o.isSome) s') :
  wpAny (model X.prog X.w) A (compareOp .In u (.ref a)) Q E s:=by
 rcases g with ⟨kvs,k,e,ey,l⟩ | ⟨kvs,k,b,e,ey,eb,l⟩
 ·subst ey
  obtain ⟨z,hd,vs,rel,dd⟩:=qZ I.hok e
  refine wpAny_in_of (u4 ry) hd dd.mapOf ?_
  rw [← (rel.val k).isSome_eq,← l]
  exact h _ (I.tok _)
 ·subst ey
  cases (show u=Value.ref b from ry)
  obtain ⟨z,hd,xs,rel,dd⟩:=u5 I.hok e
  refine wpAny_in_heap (tupleKind_room_in1 hu) (n4 I.hok eb) hd dd ?_
  have q:=(rel.val k).isSome_eq
  rw [Option.isSome_map] at q
  rw [← q,← l]
  exact h _ (I.tok _)
theorem rb {h':Heap}{t':Nat}{ob:HO}(I:Inv X pins σ H s)(mu:Mut (H a))(hs:Heap.SameBut a s.heap h')(he:∃ q,h'.get? a=some q)(new:ObjOk X.prog X.w (upd H a ob) h' a ob) :
  Inv X pins σ (upd H a ob) { s with heap:=h',toks:=t' } :=
 I.write (x:=a) (e:=a) mu (.inl rfl) (fun b q hb z=>(hs.2 b hb).trans z) he new
theorem Ci {P:Program}{w:World}{H':Hp}{h':Heap}{kvs:List (Key×V)}{vs:List (Key×Value)}(z:kvs.length≤sizeLine)(hd:(a == sysModules)=false)(rel:KV kvs vs)(dd:h'.DictOf (cI P w) a vs) :
  ObjOk P w H' h' a (.dK kvs):=⟨z,hd,vs,rel,dd⟩
theorem rc {H':Hp}{Q:Unit→Shared→Prop}(hu:A.units+1 < cLine)(I:Inv X pins σ H s)(g:Fq H a y v H')(ry:RelV y u)(rv:RelV v r)(h:∀ s',Inv X pins σ H' s'→Q () s') :
  wpAny (model X.prog X.w) A (setItem (.ref a) u r) Q E s:=by
 rcases g with ⟨kvs,k,e,ey,l,eH⟩ | ⟨kvs,k,b,e,ey,eb,l,eH⟩
 ·subst ey eH
  obtain ⟨z,hd,vs,rel,dd⟩:=EJ I.hok e
  have hz:vs.length≤sizeLine:=by rw [← rel.length]; exact z
  have hl:(nZ kvs k v).length≤sizeLine:=by have:=iJ kvs k v; nofun
  refine wpAny_setItem_pairs (hsz:=hz) (u4 ry) dd fun h' dd' hs=>h _ ?_
  have he:∃ q,h'.get? a=some q:=let ⟨q,_,_,hq,_⟩:=dd'; ⟨q,hq⟩
  exact rb I (by rw [e]; exact True.intro) hs he (Ci hl hd (rel.put k rv) dd')
 ·subst ey eH
  cases (show u=Value.ref b from ry)
  obtain ⟨z,hd,xs,rel,dd⟩:=EK I.hok e
  have hz:xs.length≤sizeLine:=by rw [← Paired.length rel]; exact z
  have hl:(nZ kvs k v).length≤sizeLine:=by have:=iJ kvs k v; nofun
  refine wpAny_setItem_heap (hsz:=hz) (tupleKind_room_in1 hu) (n4 I.hok eb) dd fun h' dd' hs=>h _ ?_
  obtain ⟨q,es,ep,hq,h2,h3,h4,_,h5⟩:=dd'
  refine rb I (by rw [e]; exact True.intro) hs ⟨q,hq⟩ ⟨hl,hd,_,(rel.put k eb rv).keeps fun c ys ec=>?_,q,es,ep,hq,h2,h3,h4,h5⟩
  rw [bN (Ej ec e (fun z=>nomatch z))]
  exact ec
end
section
variable {X:Cx} {pins:List (Addr×Obj)} {σ:St} {H:Hp} {s:Shared} {a:Addr} {kvs:List (Key×V)} {k:Key} {u:Value} {A:Around} {E:Value→Shared→Prop}
theorem EL {Q:Value→Shared→Prop}(I:Inv X pins σ H s)(e:Rd H a (.dK kvs))(h:∀ t s',Inv X pins σ H s'→Q (.int kvs.length t) s'):wpAny (model X.prog X.w) A (call (.builtin "len") [.ref a]) Q E s:=by
 obtain ⟨z,hd,vs,rel,dd⟩:=qZ I.hok e
 refine call_len_dict hd dd (by rw [← rel.length]; rw [sizeLine_eq] at z; nofun) ?_
 rw [← rel.length]
 exact h _ _ (I.tok _)
end
theorem m9 {X:Cx}{pins:List (Addr×Obj)}{σ:St}{H:Hp}{s:Shared}{a:Addr}{y:V}{o:Option V}(I:Inv X pins σ H s)(g:DGet H a y o):s.TypeIs (.ref a) "dict" := by
 rcases g with ⟨kvs,k,e,_,_⟩ | ⟨kvs,k,b,e,_,_,_⟩
 ·obtain ⟨_,_,vs,_,dd⟩:=qZ I.hok e
  exact dd.typeIs
 ·obtain ⟨_,_,xs,_,dd⟩:=u5 I.hok e
  exact dd.typeIs
def yT (td ty tv:TE):TS:=fun D σ H=>tv σ H fun v H1=>td σ H1 fun x H2=>ty σ H2 fun y H3=>∃ a H4,x=.ref a∧Fq H3 a y v H4∧D.nx σ H4
section
variable {X:Cx} {o i e value:Expr} {pos pos' tpos:Pos} {td ty tv:TE}
theorem yU (hu:X.A.units+1 < cLine)(ho:PE X o td)(hi:PE X i ty)(hv:PE X value tv)(hs:swapsWith value (some (.Subscript o i pos')) pos.line X.env=pure false) :
  PS X (.Assign [.Subscript o i pos'] value pos) (yT td ty tv):=by
 intro pins s σ H D I h
 refine wpAny_Assign_Subscript (thn (hv pins s σ H _ I h) fun r s1 ⟨v,H1,I1,rv,q1⟩=>thn (ho pins s1 σ H1 _ I1 q1) fun u s2 ⟨x,H2,I2,rx,q2⟩=>thn (hi pins s2 σ H2 _ I2 q2) fun iv s3 ⟨y,H3,I3,ry,a,H4,ex,g,q3⟩=>?_) hs
 subst ex
 obtain rfl:u=Value.ref a:=rx
 exact rc hu I3 g ry rv fun s4 I4=>⟨σ,H4,I4,q3⟩
end
theorem u6 {P:Program}{w:World}{H:Hp}(h:Heap)(hb:sysModules < h.objs.size):ObjOk P w H (h.push { cls:=.type "dict", data:=.dict #[] }) h.objs.size (.dK []) :=
 ⟨Nat.zero_le _,beq_eq_false_iff_ne.mpr (Ne.symm (Nat.ne_of_lt hb)),[],.nil,Heap.DictOf.new h⟩
def re:TE:=fun _ H Q=>∀ p,H p=none→Q (.ref p) (upd H p (.dK []))
section
variable {X:Cx} {pos:Pos}
theorem u7:PE X (.Dict [] [] pos) re:=fun pins s σ H Q I h =>
 wpAny_Dict_empty ⟨.ref s.heap.objs.size,_,I.laid (a:=s.heap.objs.size) (o:=.dK []) (t':=s.toks) (fun _ _ q=>Heap.get?_push_of_some _ q) (Nat.le_refl _) (u6 s.heap I.big),rfl,h _ (I.hok.fresh (Nat.le_refl _))⟩
end
section
variable {X:Cx} {pins:List (Addr×Obj)} {σ:St} {H:Hp} {s:Shared} {a:Addr} {y d:V} {u r:Value} {o:Option V} {A:Around} {E:Value→Shared→Prop}
end
section
variable {X:Cx} {o e f:Expr} {apos cpos:Pos} {td ty tx:TE}
end
section
variable {X:Cx} {pins:List (Addr×Obj)} {σ:St} {H:Hp} {s:Shared} {a:Addr} {kvs:List (Key×V)} {A:Around} {E:Value→Shared→Prop}
end
section
variable {X:Cx} {pins:List (Addr×Obj)} {σ:St} {H:Hp} {s:Shared} {a:Addr} {y:V} {u:Value} {A:Around} {E:Value→Shared→Prop}
end
end L2
namespace Att
open PySem PySem.W PySem.Calls PyProof.Rows
theorem iK {P:Params}{h:Heap}:∀ (ns:List Int) (vs:List Value),WellAll P h vs (ns.map WData.int)→IntsAre vs ns:=by
 intro ns
 induction ns with
 | nil =>
  intro vs w
  rw [List.map_nil] at w
  cases w
  exact .nil
 | cons n ns ih =>
  intro vs w
  rw [List.map_cons] at w
  cases w with
  | cons a b =>
   cases a
   exact .cons _ _ (ih _ b)
theorem rf {l:OpenLaw}{n:Nat}(hn:l.most=some n){P:Params}{h:Heap}{args:List WData}{vals:List Value}
  (hpre:l.row.toRowW.claim.pre args=true) (hwl:WellAll P h vals args) :
  ∃ a vs ns,vals=[Value.ref a]∧args=[WData.list (ns.map WData.int)]∧h.get? a=some { cls:=.type "list", data:=.seq vs.toArray }∧IntsAre vs ns∧ns.length≤n:=by
 have hsh:WShape.hasAll [] args [.list .int]=true:=(pre_splitW hpre).1
 have hc:l.pre.holds [] { args:=args }=true:=(pre_splitW hpre).2
 obtain ⟨d,r,rfl,h1,h2⟩:=hasAllW_cons hsh
 obtain rfl:=hasAllW_nil h2
 obtain ⟨xs,rfl,h3⟩:=hasW_list h1
 obtain ⟨ns,rfl⟩:=items_int h3
 have hlen:ns.length≤n:=by
  unfold OpenLaw.pre at hc
  have h4:(WTm.not (.lt (.lit (.int (n:Int))) (.len (.arg 0)))).holds [] { args:=[.list (ns.map .int)] }=true:=by
   have h4:=(holds_andW hc).1
   rw [hn] at h4
   exact h4
  have h5:=condW_of h4 (w_not (w_lt w_lit (w_len_list (w_arg rfl))))
  rw [List.length_map] at h5
  refine Nat.le_of_not_lt fun q=>?_
  have q':(n:Int) < ((ns.length:Nat):Int):=by nofun
  first
   | (rw [decide_eq_true q'] at h5; exact absurd h5 (by decide))
   | (simp at h5; nofun)
 cases hwl with
 | cons w1 w2 =>
  cases w2
  cases w1 with
  | list ho hall=>exact ⟨_,_,ns,rfl,rfl,ho,iK ns _ hall,hlen⟩
theorem rg (l:OpenLaw)(args:List WData):l.row.toRowW.claim.post args (.bool true) args=true :=
 postW_of (r:=l.row.toRowW) (X:=(true == true))
  (show WShape.has [] (.bool true) .bool=true by first | rfl | decide | simp [WShape.has,WShape.arms,WShape.armsAll])
  (show (WTm.eq .res (.lit (.bool true))).value [] { args:=args,res:=some (.bool true),after:=args }=some (.bool (true == true)) from w_eq_bool (w_res rfl) w_lit) rfl
theorem attach_call {l:OpenLaw}{n:Nat}{q:Program}{loose:List Str}{XP:(Str→Option Value)→Heap→Prop}{YP:World→Heap→Prop}{d:DefRec}
  (hn:l.most=some n) (hdf:d.params.defaults=[])
  (call:∀ (w:World) (s₀ s₁:Shared) (mg mb:Str→Option Value) (fa:Addr) (o:Obj) (pm cd doc:Value) (a:Addr) (vs:List Value) (ns:List Int),
   Ground q loose [] XP w s₀ mg mb s₁.heap→YP w s₁.heap →
   s₁.heap.get? fa=some o→o.data=.func (docDef d.name d.params d.body d.scope pm cd doc)→s₁.heap.CodeRec cd d.name→mg d.name=some (.ref fa) →
   s₁.heap.get? a=some { cls:=.type "list", data:=.seq vs.toArray }→IntsAre vs ns→ns.length≤n→s₁.gens=#[] →
   codeAny (model l.prog w) callerA (.call (.ref fa) ⟨[.ref a],[]⟩) (fun r s'=>r=.ok (.ret (.bool true))∧OldK s₁.heap s'.heap∧s'.os=s₁.os∧AllBare s'.gens) s₁) :
  WalkO q loose XP YP l.row.toRowW d [] (fun f vs=>PySem.call f vs):=by
 intro w s₀ s₁ mg mb G Y fa o pm cd doc dV kV ho hd hcd hD hmg hg args vals as hpre hlay hrd hwl hlo
 obtain rfl:dV=.none:=Dflts.none hD hdf
 obtain rfl:kV=.none:=Dflts.noKw hD
 obtain ⟨a,vs,ns,rfl,rfl,hobj,hints,hlen⟩:=rf hn hpre hwl
 refine enter_call (codeAny_mono (call w s₀ s₁ mg mb fa o pm cd doc a vs ns G Y ho (fd_plain hd) hcd hmg hobj hints hlen hg) fun r s' hq=>?_)
 obtain ⟨rfl,h2,h3,h4⟩:=hq
 exact ⟨.inl ⟨.bool true,.bool true,[],rfl,fun _=>rfl,.bool true,rg l _,fun _=>⟨List.Pairwise.nil,fun _ hm=>(nomatch hm)⟩⟩,h2,h3,h4⟩
section
variable {prog:Program} {w:World} {A:Around} {E:Value→Shared→Prop} {s:Shared} {K:Frag}
def rh (h:Heap):Heap:={ h with objs:=#[] }
theorem noObjs_get (h:Heap)(b:Addr):(rh h).get? b=none:=by
 cases e:(rh h).get? b with
 | none=>rfl
 | some o=>exact absurd (Heap.lt_size e) (Nat.not_lt_zero _)
theorem fr_all {h:Heap}{L:Addr}{m:Str→Option Value}(n:h.Ns L m):Fr (rh h) L h m :=
 ⟨n,fun b o e=>(by rw [noObjs_get] at e; cases e),Nat.zero_le _⟩
end
end Att
namespace L2
open PySem PySem.Spec PyProof.Rows
theorem lL:∀ {vs:List Value} {ns:List Int},IntsAre vs ns→Vals (ns.map V.int) vs
 | _,_,.nil=>.nil
 | _,_,.cons n t h=>.cons ⟨t,rfl⟩ (lL h)
def EM (H:Hp):Prop:=∀ b,H b=none∨∃ o xs,H b=some (.frz o (.lst xs))
theorem u8 {P:Program}{w:World}{K:PySem.W.Frag}{mg mb:Str→Option Value}{CX:CXT}{k:Nat}{fa a:Addr}{fd:FuncData}{x:Str}{sp:Sp}{s₁:Shared}{vs:List Value}{ns:List Int}
  (KX:K.In s₁.heap) (hns:s₁.heap.Ns mainGlobals mg) (hb:s₁.heap.Ns builtinsNs mb) (hbb:∀ x:Str,x ≠ "__name__" → mb x=bootBuiltins x) (hlim:s₁.heap.NoLimit) (hg:s₁.gens=#[])
  (ha:s₁.heap.get? a=some { cls:=.type "list", data:=.seq vs.toArray }) (hi:IntsAre vs ns) (hl:ns.length≤sizeLine) (hr:Room k callerA)
  (F:∀ base:Heap,K.In base→base.Ns mainGlobals mg→FnOk P w K mg base CX k fa fd [x] sp) (hbind:∀ (s:Shared) (u:Value),BindsTo s fd ⟨[u],[]⟩ [(x,u)])
  (hsp:∀ H:Hp,EM H→SqL K H a (ns.map V.int)→sp [.ref a] H (fun v _=>v=.bl true) fun _ _ _=>False)
  (hCX:∀ H e s',CX [] H s₁ (fun _ _ _=>False) e s'→False) :
  codeAny (model P w) callerA (.call (.ref fa) ⟨[.ref a],[]⟩) (fun r s'=>r=.ok (.ret (.bool true))∧OldK s₁.heap s'.heap∧s'.os=s₁.os∧AllBare s'.gens) s₁:=by
 have rv:=lL hi
 have lenV:=hi.length
 -- from an abstract heap in which nothing but the script may be tracked
 have core:∀ H:Hp,EM H→SqL K H a (ns.map V.int)→HOk P w H s₁.heap→(∀ b,H b≠none→b=a)→(H a≠none→K.lookup a=none) →
   codeAny (model P w) callerA (.call (.ref fa) ⟨[.ref a],[]⟩) (fun r s'=>r=.ok (.ret (.bool true))∧OldK s₁.heap s'.heap∧s'.os=s₁.os∧AllBare s'.gens) s₁:=by
  intro H hO hS hok hA hK
  have base_of:∀ {b:Addr} {o:Obj},s₁.heap.get? b=some o→H b=none→(uP s₁.heap H).get? b=some o:=fun e n=>uQ e n
  have noA:∀ {b:Addr} {o:Obj} {es:Array DictEntry} {ep:Nat},s₁.heap.get? b=some o→o.data=.dict es ep→H b=none:=fun {b o es ep} e d=>by
   cases q:H b with
   | none=>rfl
   | some u =>
    have e':b=a:=hA b (by rw [q]; simp)
    subst e'
    rw [ha] at e; cases e
    have d':Data.seq vs.toArray _=Data.dict es ep:=d
    cases d'
  have nsK:∀ {b:Addr} {m:Str→Option Value},s₁.heap.Ns b m→(uP s₁.heap H).Ns b m:=fun {b m} ⟨o,es,ep,e,d,r⟩=>⟨o,es,ep,base_of e (noA e d),d,r⟩
  have hKb:K.In (uP s₁.heap H):=fun b o e=>base_of (KX b o e) (by
   cases q:H b with
   | none=>rfl
   | some u =>
    have e':b=a:=hA b (by rw [q]; simp)
    subst e'
    rw [hK (by rw [q]; simp)] at e; cases e)
  have hM:Mod K mg (uP s₁.heap H):=⟨hKb,nsK hns,⟨mb,nsK hb,hbb⟩,let ⟨mc,h1,h2⟩:=hlim; ⟨mc,nsK h1,h2⟩⟩
  have e0:Env0 P w K mg (uP s₁.heap H) callerA [] s₁ H:=⟨rfl,hM,fun b o e=>yk e,Nat.le_of_eq (qE _ _),trivial,fun b hb=>absurd (show b ∈ ([]:List Addr) from hb) (by simp),hok,.of_eq hg⟩
  refine codeAny_mono ((F _ hKb (nsK hns)).run callerA [] s₁ H ⟨[.ref a],[]⟩ [.ref a] [.ref a] _ _ hr e0 (hbind s₁ (.ref a)) (.cons rfl .nil) (hsp H hO hS)) fun r s' h=>?_
  cases r with
  | error e=>exact (hCX H e s' h).elim
  | ok fl =>
   cases fl with
   | next=>exact False.elim h
   | brk=>exact False.elim h
   | cont=>exact False.elim h
   | ret u =>
    obtain ⟨v,H',os,bare,un,hok',r',q⟩:=h
    have q':v=.bl true:=q
    subst q'
    obtain rfl:u=Value.bool true:=r'
    refine ⟨rfl,OldK.of_keep fun b o e=>?_,os,bare⟩
    cases q:H b with
    | none=>exact un.keep b o e q (by intro z; exact absurd (show b ∈ ([]:List Addr) from z) (by simp)) (by simp)
    | some u =>
     rcases hO b with z | ⟨ob,xs,z⟩
     ·rw [q] at z; cases z
     ·have z2:=un.frzs b ob _ z
      obtain ⟨e1,_⟩:=hok b _ z
      obtain ⟨e2,_⟩:=hok' b _ z2
      rw [e] at e1; cases e1
      exact e2
 cases hk:K.lookup a with
 | some o =>
  -- the script is one of the module's own objects
  have e:=KX a o hk
  rw [ha] at e
  cases e
  refine core (fun _=>none) (fun _=>.inl rfl) (.inr ⟨_,vs.toArray,_,hk,rfl,rfl,rfl,by rw [List.size_toArray,lenV]; exact hl,by first|exact List.mem_singleton.mp rv|simpa using rv⟩) (fun b u z=>by have z':(none:Option HO)=some u:=z; cases z') (fun b z=>absurd rfl z) fun z=>absurd rfl z
 | none =>
  refine core (fun b=>if b=a then some (.frz { cls:=.type "list", data:=.seq vs.toArray } (.lst (ns.map V.int))) else none) (fun b=>?_) (.inl (.inr ⟨{ cls:=.type "list", data:=.seq vs.toArray },if_pos rfl⟩)) (fun b u z=>?_) (fun b z=>?_) fun _=>hk
  ·by_cases hb:b=a
   ·exact .inr ⟨_,_,if_pos hb⟩
   ·exact .inl (if_neg hb)
  ·by_cases hb:b=a
   ·have z':=(if_pos hb).symm.trans z
    cases z'
    subst hb
    exact ⟨ha,by rw [List.length_map]; exact hl,vs,_,rv,ha⟩
   ·have z':=(if_neg hb).symm.trans z
    cases z'
  ·by_cases hb:b=a
   ·exact hb
   ·exact absurd (if_neg hb) z
end L2
namespace L2
open PySem PySem.Spec PyProof.Rows
theorem walk_of {l:PySem.W.OpenLaw}{n k:Nat}{q:Program}{loose:List Str}{XP:(Str→Option Value)→Heap→Prop}{YP:World→Heap→Prop}{d:DefRec}{K:Params→PySem.W.Frag}{CX:World→CXT}{sp:World→Sp}{x:Str}
  (hn:l.most=some n) (hn2:n≤sizeLine) (hdf:d.params.defaults=[]) (hr:Room k callerA)
  (hY:∀ (w:World) (h:Heap),YP w h→(K w.params).In h)
  (F:∀ (w:World) (mg:Str→Option Value) (fa:Addr) (h:Heap),(K w.params).In h→h.Ns mainGlobals mg→mg d.name=some (.ref fa) →
   ∃ fd:FuncData,(∀ (s:Shared) (u:Value),BindsTo s fd ⟨[u],[]⟩ [(x,u)]) ∧
    ∀ base:Heap,(K w.params).In base→base.Ns mainGlobals mg→FnOk l.prog w (K w.params) mg base (CX w) k fa fd [x] (sp w))
  (hsp:∀ (w:World) (H:Hp) (a:Addr) (ns:List Int),ns.length≤n→EM H→SqL (K w.params) H a (ns.map V.int)→sp w [.ref a] H (fun v _=>v=.bl true) fun _ _ _=>False)
  (hCX:∀ (w:World) (H:Hp) (s:Shared) (e:Value) (s':Shared),CX w [] H s (fun _ _ _=>False) e s'→False) :
  PySem.W.WalkO q loose XP YP l.row.toRowW d [] (fun f vs=>PySem.call f vs):=by
 refine Att.attach_call hn hdf fun w s₀ s₁ mg mb fa o pm cd doc a vs ns G Y ho hd hcd hmg hobj hints hlen hg=>?_
 have KX:=hY w _ Y
 obtain ⟨fd,hb,hF⟩:=F w mg fa _ KX G.T.g hmg
 exact u8 KX G.T.g G.T.b G.T.builtins G.T.nolimit hg hobj hints (Nat.le_trans hlen hn2) hr hF hb (fun H hO hS=>hsp w H a ns hlen hO hS) fun H e s'=>hCX w H s₁ e s'
end L2
namespace L2
open PySem PySem.Spec PyProof.Rows
def bj (s:Stmt):Arguments:=match s with
 | .FunctionDef _ a _ _ _ _ _ _ _ _=>a
 | _=>{ posonlyargs:=[],args:=[],vararg:=none,kwonlyargs:=[],kw_defaults:=[],kwarg:=none,defaults:=[] }
def aY (s:Stmt):List Stmt:=match s with
 | .FunctionDef _ _ b _ _ _ _ _ _ _=>b
 | _=>[]
def ai (s:Stmt):Scope:=match s with
 | .FunctionDef _ _ _ _ _ _ sc _ _ _=>sc
 | _=>{ kind:=.function,names:=[],isGenerator:=false,isCoroutine:=false }
abbrev CX0:CXT:=fun _ _ _ _ _ _=>False
abbrev E0:XK:=fun _ _ _=>False
theorem EN {X:Cx}:jN CX0 X E0:=fun _ _ _ _ _ _ _ h=>h.elim
structure Fun (K:PySem.W.Frag)(x qual:Str)(st:Stmt)(f:Addr)(fd:FuncData):Prop where
 ex:∃ (oc:Value) (od:Option Addr) (kV doc pm:Value) (an:Option Addr) (cdv ct:Value) (osl:Array (Option Value)),
  fd=PySem.W.fnOf x qual (bj st) (aY st) (ai st) .none kV doc pm an cdv ct∧K.lookup f=some ⟨oc,od,.func fd,osl⟩∧PySem.W.codeIn K cdv qual=true
 kp:PySem.W.keepIn K (.ref f)=true
section
variable {P:Program} {w:World} {K:PySem.W.Frag} {mg:Str→Option Value} {base:Heap}
theorem Fun.ok {x qual:Str}{st:Stmt}{f:Addr}{fd:FuncData}{N ps:List Str}{k:Nat}{sp:Sp}(F:Fun K x qual st f fd)(S:FnScope N ps (ai st))(len:∀ vs H Q E,sp vs H Q E→vs.length=ps.length)
  (hbody:∀ (cdv:Value) (A:Around) (outer:List Env) (s:Shared) (H:Hp) (vs:List V) (Q:VK) (E:XK),Room k (A.deeper (envOfC qual (ai st) s.heap.objs.size f cdv))→sp vs H Q E →
   ∃ t,PSs (fF CX0 P w K mg base N qual (ai st) f cdv A outer s H E).nox (aY st) t∧t { nx:=fun _ H'=>Q .non H',rt:=Q } (eE N vs) H):FnOk P w K mg base CX0 (k+1) f fd ps sp:=by
 obtain ⟨oc,od,kV,doc,pm,an,cdv,ct,osl,rfl,lk,hcd⟩:=F.ex
 refine B7 lk hcd S len fun A outer s H vs Q E hr hsp=>?_
 obtain ⟨t,h,q⟩:=hbody cdv A outer s H vs Q E hr hsp
 exact ⟨t,h.nox,q⟩
theorem Fun.binds {x qual:Str}{st:Stmt}{f:Addr}{fd:FuncData}{ps:List Str}(F:Fun K x qual st f fd)
  (h:∀ (kV doc pm:Value) (an:Option Addr) (cdv ct:Value) (us:List Value),us.length=ps.length→bindArgs (PySem.W.fnOf x qual (bj st) (aY st) (ai st) .none kV doc pm an cdv ct) ⟨us,[]⟩=pure (ps.zip us)):Binds K fd ps []:=by
 obtain ⟨oc,od,kV,doc,pm,an,cdv,ct,osl,rfl,lk,hcd⟩:=F.ex
 exact .all (h kV doc pm an cdv ct)
theorem cv {x qual:Str}{st:Stmt}{f:Addr}{oc:Value}{od an:Option Addr}{osl:Array (Option Value)}{kV doc pm cdv ct:Value}(l:K.lookup f=some ⟨oc,od,.func (PySem.W.fnOf x qual (bj st) (aY st) (ai st) .none kV doc pm an cdv ct),osl⟩)
  (c:PySem.W.codeIn K cdv qual=true) (k:PySem.W.keepIn K (.ref f)=true):Fun K x qual st f (PySem.W.fnOf x qual (bj st) (aY st) (ai st) .none kV doc pm an cdv ct):=⟨⟨oc,od,kV,doc,pm,an,cdv,ct,osl,rfl,l,c⟩,k⟩
end
theorem EO {A:Around}{k:Nat}(hr:Room k A):A.units+1 < cLine:=Nat.lt_of_le_of_lt (Nat.add_le_add_left (by decide:1≤64) _) hr.units
section
variable {X:Cx}
end
def Same (H H':Hp):Prop:=∀ b o,H b=some o→H' b=some o
theorem Same.refl (H:Hp):Same H H:=fun _ _ h=>h
theorem Same.trans {H H1 H2:Hp}(a:Same H H1)(b:Same H1 H2):Same H H2:=fun c o h=>b c o (a c o h)
theorem Same.free {H H':Hp}(e:Same H H'){l:Addr}(h:H' l=Option.none):H l=Option.none:=by
 cases q:H l with
 | none=>rfl
 | some o =>
  rw [e l o q] at h
  cases h
theorem Same.seq {K:PySem.W.Frag}{H H':Hp}{a:Addr}{xs:List V}(e:Same H H')(h:SqL K H a xs):SqL K H' a xs:=by
 rcases h with (h | ⟨o,h⟩) | h
 ·exact .inl (.inl (e _ _ h))
 ·exact .inl (.inr ⟨o,e _ _ h⟩)
 ·exact .inr h
section
variable {κ:Type} [DecidableEq κ]
end
end L2
namespace L2
open PySem PySem.Spec PyProof.Rows
section
variable {prog:Program} {w:World} {A:Around} {E:Value→Shared→Prop} {R:Result→Shared→Prop} {s:Shared}
theorem lM {elt target iter:Expr}{ifs:List Expr}{scope:Scope}{pos:Pos}{it acc:Value}{env:Env}(I:Nat→Shared→Prop)
  (turn:∀ n s,I n s→wpAny (model prog w) A (pyNext it) (fun r s₁=>match r with
   | none=>R (.ok .next) s₁
   | some v=>wpAny (model prog w) A (letOwnedTupleGo target it v) (fun _ s₁'=>wpAny (model prog w) A (assign target env v) (fun _ s₂ =>
     wpAny (model prog w) A (forIn ifs true fun c r=>if r=true then do let ok ← isTrue c env (eval c env); pure (ForInStep.yield ok) else pure (ForInStep.yield r)) (fun ok s₃ =>
      if ok=true then wpAny (model prog w) A (eval elt env) (fun x s₄ =>
       wpAny (model prog w) A (call (.builtin "list.append") [acc,x]) (fun _ s₅=>∃ m,m < n∧I m s₅) (fun _ _=>False) s₄) (fun _ _=>False) s₃
      else ∃ m,m < n∧I m s₃) (fun _ _=>False) s₂) (fun _ _=>False) s₁') (fun _ _=>False) s₁) (fun _ _=>False) s)
  (n:Nat) (h:I n s) :
  codeAny (model prog w) A (.compLoop (.ListComp elt [⟨target,iter,ifs,0⟩] scope pos) 0 it acc env) R s:=by
 refine codeAny_loop rfl I (fun n s hI=>?_) n h
 show wpAny _ A ((compTurn (.ListComp elt [⟨target,iter,ifs,0⟩] scope pos) 0 it acc env).onRaise (fun x=>do noteFrame x env; theTreesLotGoes x)) _ _ s
 refine wpAny_noted ?_
 rw [compTurn_list]
 refine wpAny_bind (wpAny_standAt (wpAny_bind (wpAny_mono (turn n s hI) (fun r s₁ h₁=>?_) fun _ _ h'=>h'.elim)))
 cases r with
 | none=>exact wpAny_pure h₁
 | some v =>
  refine wpAny_bind (wpAny_mono h₁ (fun _ s₁' h₁'=>?_) fun _ _ h'=>h'.elim)
  refine wpAny_bind (wpAny_mono h₁' (fun _ s₂ h₂=>wpAny_bind (wpAny_mono h₂ (fun ok s₃ h₃=>?_) fun _ _ h'=>h'.elim)) fun _ _ h'=>h'.elim)
  cases ok with
  | false=>exact wpAny_pure ⟨rfl,h₃⟩
  | true =>
   exact wpAny_bind (wpAny_bind (wpAny_mono h₃ (fun x s₄ h₄=>wpAny_bind (wpAny_mono h₄ (fun _ s₅ h₅=>wpAny_pure (wpAny_pure ⟨rfl,h₅⟩)) fun _ _ h'=>h'.elim)) fun _ _ h'=>h'.elim))
end
def yV (X:Cx)(ifs:List Expr)(t:TT):Prop :=
 ∀ (pins:List (Addr×Obj)) (s:Shared) (σ:St) (H:Hp) (Q:Bool→Hp→Prop),Inv X pins σ H s→t σ H Q →
  wpAny (model X.prog X.w) X.A (forIn ifs true fun c r=>if r=true then do let ok ← isTrue c X.env (eval c X.env); pure (ForInStep.yield ok) else pure (ForInStep.yield r)) (TP X pins σ Q) X.xe s
def EQ:TT:=fun _ H Q=>Q true H
theorem yY {X:Cx}:yV X [] EQ:=fun _ _ _ H _ I h=>wpAny_tests_nil ⟨H,I,h⟩
def bR (X:Cx)(N:List Str)(scope:Scope)(cl:List (Str×Addr))(C:Addr)(s:Shared)(H:Hp)(fp:List Addr):Cx :=
 { X with N:=N,s₀:=s,H₀:=H,env:=compEnvC scope cl C X.env,outer:=X.stack,ex:=fp,fn:=fun _=>false,pn:=[],xe:=fun _ _=>False }
def lN (σ:St)(ixs:List Nat):St:=ixs.map fun i=>(σ[i]?).getD none
structure CompScope (X:Cx)(T F:List Str)(ixs:List Nat)(scope:Scope):Prop where
 kind:scope.kind=.function
 nocell:∀ y ∈ scope.names,y.2≠.cell
 names:∀ y ∈ scope.names,y.2=.local→scope.names.lookup y.1=some .local
 cap:∀ (j:Nat) (i:Nat) (x:Str),ixs[j]?=some i→F[j]?=some x→X.N[i]?=some x∧scope.names.lookup x=some .free
 len:ixs.length=F.length
 out:∀ y ∈ scope.names,y.2=.free→X.env.scope.names.lookup y.1=some .cell∨X.env.scope.names.lookup y.1=some .free
def aZ (env:Env):List (Str×NameKind)→List (Str×Addr)→List (Str×Addr)
 | [],cs=>cs
 | (n,k)::r,cs=>if k == .free then aZ env r ((n,(env.cells.lookup n).getD 0)::cs) else aZ env r cs
theorem gq {env:Env}{scope:Scope}(h:∀ y ∈ scope.names,y.2=.free→∃ c,env.cells.lookup y.1=some c):closureFor scope env=pure (aZ env scope.names []):=by
 unfold closureFor
 have gen:∀ (l:List (Str×NameKind)) (cs:List (Str×Addr)),(∀ y ∈ l,y.2=.free→∃ c,env.cells.lookup y.1=some c) →
   (do
    let mut cs:=cs
    for (name,kind) in l do
     if kind == .free then cs:=(name,← cellOf env name)::cs
    return cs:Sem (List (Str×Addr)))=pure (aZ env l cs):=by
  intro l
  induction l with
  | nil=>intro cs _; rfl
  | cons p r ih =>
   intro cs hl
   obtain ⟨n,k⟩:=p
   have hr:=fun y hy=>hl y (List.mem_cons_of_mem _ hy)
   by_cases hk:k=.free
   ·obtain ⟨c,hc⟩:=hl (n,k) List.mem_cons_self hk
    have hc:env.cells.lookup n=some c:=hc
    have e:=ih ((n,(env.cells.lookup n).getD 0)::cs) hr
    subst hk
    simp only [aZ,List.forIn_cons,hc,cellOf] at e ⊢
    simpa using e
   ·have e:=ih cs hr
    have hk':(k == NameKind.free)=false:=by first|exact List.mem_singleton.mp hk|simpa using hk
    simp only [aZ,List.forIn_cons,hk',if_neg Bool.false_ne_true] at e ⊢
    simpa using e
 exact gen scope.names [] h
theorem eF {env:Env}:∀ {l:List (Str×NameKind)} {cs:List (Str×Addr)} {x:Str} {c:Addr},(∀ y ∈ l,y.2=.free→∃ c,env.cells.lookup y.1=some c)→(∀ x c,cs.lookup x=some c→env.cells.lookup x=some c) →
  (aZ env l cs).lookup x=some c→env.cells.lookup x=some c
 | [],cs,x,c,_,hc,h=>hc x c h
 | (n,k)::r,cs,x,c,hl,hc,h=>by
  have hr:=fun y hy=>hl y (List.mem_cons_of_mem _ hy)
  unfold aZ at h
  split at h
  ·rename_i hk
   have hk':k=.free:=by first|exact List.mem_singleton.mp hk|simpa using hk
   obtain ⟨c0,h0⟩:=hl (n,k) List.mem_cons_self hk'
   have h0:env.cells.lookup n=some c0:=h0
   refine eF hr (fun x' c' h'=>?_) h
   rw [List.lookup_cons] at h'
   split at h'
   ·rename_i e
    have e:x'=n:=by first|exact List.mem_singleton.mp e|simpa using e
    subst e
    rw [h0] at h' ⊢
    simpa using h'
   ·exact hc x' c' h'
  ·exact eF hr hc h
theorem fG {env:Env}:∀ {l:List (Str×NameKind)} {cs:List (Str×Addr)} {x:Str},((x,NameKind.free) ∈ l∨∃ c,cs.lookup x=some c)→∃ c,(aZ env l cs).lookup x=some c
 | [],cs,x,h=>by
  rcases h with h | h
  ·cases h
  ·exact h
 | (n,k)::r,cs,x,h=>by
  unfold aZ
  split
  ·rename_i hk
   have hk':k=.free:=by first|exact List.mem_singleton.mp hk|simpa using hk
   refine fG ?_
   rcases h with h | h
   ·rcases List.mem_cons.mp h with e | h
    ·have e:x=n:=by injection e
     subst e
     exact .inr ⟨(env.cells.lookup x).getD 0,by rw [List.lookup_cons]; simp⟩
    ·exact .inl h
   ·obtain ⟨c,h⟩:=h
    refine .inr ?_
    rw [List.lookup_cons]
    split
    ·exact ⟨_,rfl⟩
    ·exact ⟨c,h⟩
  ·rename_i hk
   refine fG ?_
   rcases h with h | h
   ·rcases List.mem_cons.mp h with e | h
    ·have e:NameKind.free=k:=by injection e
     subst e
     simp at hk
    ·exact .inl h
   ·exact .inr h
theorem eG {env:Env}:∀ {names:List (Str×NameKind)} {x:Str} {q:NameKind},
  (names.map fun (n,k)=>if (k == NameKind.free && env.scope.kind == .function && env.kindOf n == some .cell) then (n,NameKind.cell) else (n,k)).lookup x=some q →
  names.lookup x=some q∨(q=.cell∧names.lookup x=some .free)
 | [],_,_,h=>by simp at h
 | (n,k)::r,x,q,h=>by
  have ih:=@eG env r x q
  rw [List.map_cons] at h
  dsimp only at h
  by_cases hc:(k == NameKind.free && env.scope.kind == .function && env.kindOf n == some .cell)=true
  ·rw [if_pos hc,List.lookup_cons] at h
   rw [List.lookup_cons]
   cases hx:x == n with
   | true =>
    rw [hx] at h
    have hk:k=.free:=by
     simp only [Bool.and_eq_true] at hc
     simpa using hc.1.1
    exact .inr ⟨(Option.some.inj h).symm,by rw [hk]⟩
   | false=>rw [hx] at h; exact ih h
  ·rw [if_neg hc,List.lookup_cons] at h
   rw [List.lookup_cons]
   cases hx:x == n with
   | true=>rw [hx] at h; exact .inl h
   | false=>rw [hx] at h; exact ih h
theorem hJ {env:Env}:∀ {names:List (Str×NameKind)} {x:Str},names.lookup x=some .free →
  (names.map fun (n,k)=>if (k == NameKind.free && env.scope.kind == .function && env.kindOf n == some .cell) then (n,NameKind.cell) else (n,k)).lookup x=some .cell ∨
  (names.map fun (n,k)=>if (k == NameKind.free && env.scope.kind == .function && env.kindOf n == some .cell) then (n,NameKind.cell) else (n,k)).lookup x=some .free
 | [],_,h=>by simp at h
 | (n,k)::r,x,h=>by
  have ih:=@hJ env r x
  rw [List.map_cons]
  dsimp only
  rw [List.lookup_cons] at h
  by_cases hc:(k == NameKind.free && env.scope.kind == .function && env.kindOf n == some .cell)=true
  ·rw [if_pos hc,List.lookup_cons]
   cases hx:x == n with
   | true=>exact .inl rfl
   | false=>rw [hx] at h; exact ih h
  ·rw [if_neg hc,List.lookup_cons]
   cases hx:x == n with
   | true=>rw [hx] at h; exact .inr h
   | false=>rw [hx] at h; exact ih h
def ie (no:Nat)(ixs:List Nat)(wi:TI)(g:TG)(tc:TT)(te:TE):TE:=fun σ H Q=>wi σ H fun J H1=>∀ D,H1 D=none→∃ W:Nat→Nat→List V→St→Hp→Prop,
 (∃ m,W 0 m [] (List.replicate no none++lN σ ixs) (upd H1 D (.lst [])))∧∀ i m acc σ' H',W i m acc σ' H' →
  (J.stop i H'∧Q (.ref D) H') ∨
  (J.go i H'∧∃ N:List V→St→Hp→Prop,(∀ acc' σ2 H2,N acc' σ2 H2→∃ m',m' < m∧W (i+1) m' acc' σ2 H2) ∧
   ∀ x H2,J.yld i H' x H2→g x σ' H2 fun σ3 H3=>tc σ3 H3 fun b H4=>if b=true then te σ3 H4 fun y H5=>H5 D=some (.lst acc)∧acc.length < sizeLine∧N (acc++[y]) σ3 (upd H5 D (.lst (acc++[y]))) else N acc σ3 H4)
section
variable {X:Cx} {pins:List (Addr×Obj)} {σ:St} {H:Hp} {s:Shared} {T F:List Str} {ixs:List Nat} {scope:Scope} {fp:List Addr}
theorem yZ (I:Inv X pins σ H s)(S:CompScope X T F ixs scope)(hfp:∀ b ∈ fp,nU X pins H b)(hfo:∀ b ∈ fp,∃ o,s.heap.get? b=some o) :
  (bR X (T++F) scope (aZ X.env scope.names []) s.heap.objs.size s H fp).Ok:=by
 have hall:∀ y ∈ scope.names,y.2=.free→∃ c,X.env.cells.lookup y.1=some c:=fun y hy hf=>by
  rcases S.out y hy hf with e | e
  ·exact I.ok.has _ (.inl e)
  ·exact I.ok.has _ (.inr e)
 have hcl:∀ x c,(aZ X.env scope.names []).lookup x=some c→X.env.cells.lookup x=some c:=fun x c h=>eF hall (fun _ _ z=>by simp at z) h
 refine ⟨I.ok.mod,S.kind,I.ok.glob,I.ok.blt,Nat.le_refl _,fun x y c h1 h2=>I.ok.inj x y c (hcl x c h1) (hcl y c h2),fun x hx=>?_,fun _ _ z=>(nomatch z),I.ok.hd,I.ok.frames,.inl rfl,fun b hb=>⟨?_,fun x c e=>?_⟩,I.bs,Nat.le_trans I.ok.bsz I.sz,fun b o e hb=>?_,fun b hb hz=>?_,I.stack,I.stkFree⟩
 ·have hx:(relabel scope X.env).names.lookup x=some .cell∨(relabel scope X.env).names.lookup x=some .free:=hx
  have hf:scope.names.lookup x=some .free:=by
   rcases hx with hx | hx
   ·rcases eG hx with q | ⟨_,q⟩
    ·exact absurd rfl (S.nocell _ (PySem.mem_of_lookup q))
    ·exact q
   ·rcases eG hx with q | ⟨z,_⟩
    ·exact q
    ·cases z
  exact fG (.inl (PySem.mem_of_lookup hf))
 ·obtain ⟨o,ho⟩:=hfo b hb
  exact Nat.ne_of_lt (Heap.lt_size ho)
 ·exact (hfp b hb).2.2.2.2.1 x c (hcl x c e)
 ·rcases (hfp b hb).2.2.2.1 with z | z
  ·exact I.ok.noex b o e z
  ·exact absurd (Nat.lt_of_lt_of_le (Heap.lt_size e) (Nat.le_trans I.ok.bsz z)) (Nat.lt_irrefl _)
 ·rcases List.mem_cons.mp (I.stkSub b hz) with e | z
  ·exact (hfp b hb).2.1 e
  ·exact (hfp b hb).2.2.1 z
theorem rj {σ:St}{ixs:List Nat}{j:Nat}{v:V}(h:(lN σ ixs)[j]?=some (some v)):∃ i,ixs[j]?=some i∧σ[i]?=some (some v):=by
 unfold lN at h
 rw [List.getElem?_map] at h
 cases e:ixs[j]? with
 | none=>rw [e] at h; cases h
 | some i =>
  rw [e] at h
  refine ⟨i,rfl,?_⟩
  have h:(σ[i]?).getD none=some v:=Option.some.inj h
  cases q:σ[i]? with
  | none=>rw [q] at h; cases h
  | some u=>rw [q] at h; exact congrArg some h
theorem n5 (I:Inv X pins σ H s)(S:CompScope X T F ixs scope)(hfp:∀ b ∈ fp,nU X pins H b)(hfo:∀ b ∈ fp,∃ o,s.heap.get? b=some o){h':Heap}{t':Nat}{m:Str→Option Value}
  (hk:∀ b o,s.heap.get? b=some o→h'.get? b=some o) (hn:h'.Ns s.heap.objs.size m) :
  Inv (bR X (T++F) scope (aZ X.env scope.names []) s.heap.objs.size s H fp) [] (List.replicate T.length none++lN σ ixs) H { s with heap:=h',toks:=t' }:=by
 have ok:=yZ I S hfp hfo
 have hall:∀ y ∈ scope.names,y.2=.free→∃ c,X.env.cells.lookup y.1=some c:=fun y hy hf=>by
  rcases S.out y hy hf with e | e
  ·exact I.ok.has _ (.inl e)
  ·exact I.ok.has _ (.inr e)
 have hcl:∀ x c,(aZ X.env scope.names []).lookup x=some c→X.env.cells.lookup x=some c:=fun x c h=>eF hall (fun _ _ z=>by simp at z) h
 have cellK:∀ c v,s.heap.IsCell c v→h'.IsCell c v:=fun c v ⟨o,ho,hd⟩=>⟨o,hk c o ho,hd⟩
 refine ⟨ok,rfl,I.bare,Un.kept hk,⟨m,hn,fun j x v e1 e2 e3=>?_⟩,fun x c e=>?_,I.hok.fresh (Nat.le_refl _),fun x c e=>I.freeC x c (hcl x c e),fun p hp=>absurd (show p ∈ ([]:List (Addr×Obj)) from hp) (by simp),I.hok.kept hk,?_⟩
 ·have hj:T.length≤j:=by
   refine Nat.le_of_not_lt fun hj=>?_
   rw [List.getElem?_append_left (by first|exact List.mem_singleton.mp hj|simpa using hj),List.getElem?_replicate] at e2
   split at e2 <;> cases e2
  rw [List.getElem?_append_right (by first|exact List.mem_singleton.mp hj|simpa using hj),List.length_replicate] at e2
  have e1:(T++F)[j]?=some x:=e1
  rw [List.getElem?_append_right hj] at e1
  obtain ⟨i,hi,hv⟩:=rj e2
  obtain ⟨hN,hf⟩:=S.cap _ i x hi e1
  obtain ⟨m0,hn0,hl⟩:=I.loc
  have hm:=PySem.mem_of_lookup hf
  have hvis:X.env.scope.names.lookup x=some .cell∨X.env.scope.names.lookup x=some .free:=S.out _ hm rfl
  obtain ⟨u,ru,lk⟩:=hl i x v hN hv (hvis.elim (fun z=>.inr (.inl z)) fun z=>.inr (.inr z))
  refine ⟨u,ru,?_⟩
  rcases lk with ⟨kl,_⟩ | ⟨_,c,hc,hcell⟩
  ·have kl:X.env.scope.names.lookup x=some .local:=kl
   rcases hvis with z | z
   ·rw [kl] at z; cases z
   ·rw [kl] at z; cases z
  ·obtain ⟨c',hc'⟩:=fG (env:=X.env) (cs:=[]) (.inl hm)
   have e:c'=c:=by
    have:=hcl x c' hc'
    rw [hc] at this
    exact (Option.some.inj this).symm
   subst e
   exact .inr ⟨hJ hf,c',hc',cellK c' _ hcell⟩
 ·obtain ⟨v,q⟩:=I.cell x c (hcl x c e)
  exact ⟨v,cellK c v q⟩
 ·show _=(T++F).length
  rw [List.length_append,List.length_replicate,List.length_append,lN,List.length_map,S.len]
theorem n6 {elt tg iter:Expr}{ifs:List Expr}{pos pos':Pos}{wi:TI}{g:TG}{tc:TT}{te:TE}(hc:X.calm=true)(S:CompScope X T F ixs scope)
  (hi:PI X tg iter wi)
  (hg:∀ C s H fp,PG (bR X (T++F) scope (aZ X.env scope.names []) C s H fp) tg g)
  (ht:∀ C s H fp,yV (bR X (T++F) scope (aZ X.env scope.names []) C s H fp) ifs tc)
  (he:∀ C s H fp,PE (bR X (T++F) scope (aZ X.env scope.names []) C s H fp) elt te)
  (hs:∀ x,foldedSetIterable iter X.env x=pure x) {use:Option (Value→Sem Unit)} {QQ:Value→Shared→Prop} {pins:List (Addr×Obj)} {s:Shared} {σ:St} {H:Hp} {Q:VK} (I:Inv X pins σ H s) (h:ie T.length ixs wi g tc te σ H Q)
  (fine:∀ (D C:Addr) (H5:Hp) (s6:Shared) (f:Flow),(∃ m,s6.heap.Ns C m)→H5 C=none→C≠X.env.locals→(∀ x c,X.env.cells.lookup x=some c→c≠C)→X.s₀.heap.objs.size≤C→(∀ p ∈ X.pn++pins,p.1≠C) →
   (∀ h7,Heap.SameBut C s6.heap h7→Inv X pins σ H5 { s6 with heap:=h7 })→Q (.ref D) H5→compPost (model X.prog X.w) X.A X.xe use QQ (.ref D) C (.ok f) s6) :
  wpAny (model X.prog X.w) X.A (comprehension (.ListComp elt [⟨tg,iter,ifs,0⟩] scope pos) scope X.env pos' (newList []) false (eval iter X.env) use) QQ X.xe s:=by
 have hall:∀ y ∈ scope.names,y.2=.free→∃ c,X.env.cells.lookup y.1=some c:=fun y hy hf=>by
  rcases S.out y hy hf with e | e
  ·exact I.ok.has _ (.inl e)
  ·exact I.ok.has _ (.inr e)
 refine wpAny_comprehension_free (use:=use) (cl:=aZ X.env scope.names []) rfl hs (gq hall) S.kind S.names (thn (hi pins s σ H _ I h) fun v s1 h1=>thn h1 fun itv s2 h2=>?_)
 obtain ⟨it,fp,tn,J,H2,e,I2,TT,st2,f2,q2⟩:=h2
 subst e
 refine wpAny_newObj_type ?_
 -- the list is laid
 have I3:Inv X pins σ (upd H2 s2.heap.objs.size (.lst [])) { s2 with heap:=s2.heap.push { cls:=.type "list", dict:=none,data:=.seq ([]:List Value).toArray } } :=
  I2.laid (t':=s2.toks) (fun b u q=>Heap.get?_push_of_some _ q) (Nat.le_refl _) ⟨Nat.zero_le _,[],0,.nil,Heap.get?_push_size _ rfl⟩
 have hD:H2 s2.heap.objs.size=none:=I2.hok.fresh (Nat.le_refl _)
 have hfo:∀ b ∈ fp,∃ o,s2.heap.get? b=some o:=fun b hb=>let ⟨o,e,_⟩:=TT.obj _ _ st2 b hb; ⟨o,e⟩
 have neD:∀ b ∈ fp,b≠s2.heap.objs.size:=fun b hb=>by obtain ⟨o,e⟩:=hfo b hb; exact Nat.ne_of_lt (Heap.lt_size e)
 have f3:∀ b ∈ fp,nU X pins (upd H2 s2.heap.objs.size (.lst [])) b:=fun b hb=>by
  obtain ⟨a1,a2⟩:=f2 b hb
  exact ⟨by rw [bN (neD b hb)]; exact a1,a2⟩
 obtain ⟨W,⟨m0,w0⟩,turn⟩:=q2 s2.heap.objs.size hD
 generalize hs3:({ s2 with heap:=s2.heap.push { cls:=.type "list", dict:=none,data:=.seq ([]:List Value).toArray } }:Shared)=s3 at I3 ⊢
 generalize hH3:upd H2 s2.heap.objs.size (.lst [])=H3 at I3 f3 w0
 have hfo3:∀ b ∈ fp,∃ o,s3.heap.get? b=some o:=fun b hb=>by
  obtain ⟨o,e⟩:=hfo b hb
  rw [← hs3]
  exact ⟨o,Heap.get?_push_of_some _ e⟩
 have st3:tn 0 s3.heap:=TT.keep _ _ _ st2 fun b hb o e=>by rw [← hs3]; exact Heap.get?_push_of_some _ e
 refine wpAny_newFunctionEnv S.nocell (by intro y hy; simp at hy) (fun h4 hns4 hsb4=>?_) S.kind
 have old:∀ b o,s3.heap.get? b=some o→h4.get? b=some o:=fun b o e=>hsb4.extBut b o (Nat.ne_of_lt (Heap.lt_size e)) (Heap.get?_push_of_some _ e)
 have J4:=n5 I3 S f3 hfo3 (t':=s3.toks+([]:List (Str×Value)).length) old hns4
 generalize hs4:({ s3 with heap:=h4,toks:=s3.toks+([]:List (Str×Value)).length }:Shared)=s4 at J4 ⊢
 have st4:tn 0 s4.heap:=by rw [← hs4]; exact TT.keep _ _ _ st3 fun b hb o e=>old b o e
 have hg':=hg s3.heap.objs.size s3 H3 fp
 have ht':=ht s3.heap.objs.size s3 H3 fp
 have he':=he s3.heap.objs.size s3 H3 fp
 generalize hY:bR X (T++F) scope (aZ X.env scope.names []) s3.heap.objs.size s3 H3 fp=Y at J4 hg' ht' he'
 have yA:Y.A=X.A:=by rw [← hY]; rfl
 have yP:Y.prog=X.prog:=by rw [← hY]; rfl
 have yW:Y.w=X.w:=by rw [← hY]; rfl
 have yK:Y.K=X.K:=by rw [← hY]; rfl
 have yC:Y.calm=true:=by rw [← hY]; exact hc
 have yE:Y.env=compEnvC scope (aZ X.env scope.names []) s3.heap.objs.size X.env:=by rw [← hY]; rfl
 have yX:Y.xe=fun _ _=>False:=by rw [← hY]; rfl
 have fY:∀ {H':Hp},(∀ b ∈ fp,H' b=none)→∀ b ∈ fp,nU Y [] H' b:=fun hn b hb=>by
  have k:=J4.ok
  rw [← hY] at k ⊢
  exact ⟨hn b hb,(k.exf b hb).1,k.exfs b hb,.inl hb,(k.exf b hb).2,fun p hp=>absurd (show p ∈ ([]:List (Addr×Obj)) from hp) (by simp)⟩
 have loop:codeAny (model X.prog X.w) X.A (.compLoop (.ListComp elt [⟨tg,iter,ifs,0⟩] scope pos) 0 (.ref it) (.ref s2.heap.objs.size) (compEnvC scope (aZ X.env scope.names []) s3.heap.objs.size X.env))
   (compPost (model X.prog X.w) X.A X.xe use QQ (.ref s2.heap.objs.size) s3.heap.objs.size) s4:=by
  refine lM (fun n s'=>∃ i acc σ' H',Inv Y [] σ' H' s'∧tn i s'.heap∧(∀ b ∈ fp,H' b=none)∧W i n acc σ' H') ?_ m0 ⟨0,[],_,H3,J4,st4,fun b hb=>(f3 b hb).1,w0⟩
  rintro n s5 ⟨i,acc,σ5,H5,J5,st5,fr5,w5⟩
  rcases turn i n acc σ5 H5 w5 with ⟨stop,qn⟩ | ⟨go,N,hN,step⟩
  ·have fin:=TT.done Y yP yW yK yC i [] s5 σ5 H5 (fun _ _=>False) J5 (fY fr5) st5 stop
   rw [yA] at fin
   refine thn fin fun r s6 ⟨hr,J6⟩=>?_
   subst hr
   -- the block is left
   obtain ⟨m,hm,_⟩:=id J6.loc
   have hm:s6.heap.Ns s3.heap.objs.size m:=by rw [yE] at hm; exact hm
   have hb6:=J6.base
   have hos:=J6.os
   have hfree:=J6.free
   have hbare:=J6.bare
   have hok6:HOk X.prog X.w H5 s6.heap:=by have:=J6.hok; rw [yP,yW] at this; exact this
   rw [yE] at hfree
   have hfree:H5 s3.heap.objs.size=none:=hfree
   rw [← hY] at hb6 hos
   have hb6:Un (frs X.stack) fp H3 H5 s3.heap s6.heap:=hb6
   have hos:s6.os=s3.os:=hos
   have ltC:∀ b o,s3.heap.get? b=some o→b≠s3.heap.objs.size:=fun b o e=>Nat.ne_of_lt (Heap.lt_size e)
   refine fine _ _ H5 s6 _ ⟨m,hm⟩ hfree ?hl ?hcl I3.sz ?hpn (fun h7 hsb7=>?_) qn
   case hl=>exact fun z=>Nat.lt_irrefl _ (z ▸ I3.lt)
   case hcl=>exact fun x c e z=>by obtain ⟨v,o,ho,_⟩:=I3.cell x c e; exact ltC c o ho z
   case hpn=>exact fun p hp z=>ltC p.1 p.2 (I3.pin p hp).1 z
   have same:∀ b,b < s3.heap.objs.size→h7.get? b=s6.heap.get? b:=fun b hb=>hsb7.2 b (Nat.ne_of_lt hb)
   have hok7:HOk X.prog X.w H5 h7:=fun b o e=>by
    refine (hok6 b o e).stay (fun c w' hc q=>(hsb7.2 c ?_).trans q) (fun _ q=>q) fun _ _ q=>q
    rintro rfl
    rcases hc with z | z
    ·rw [← z,hfree] at e; cases e
    ·rw [hfree] at z; cases z
   have un7:Un (frs X.stack) fp H3 H5 s3.heap h7 :=
    ⟨fun b o e n hb hx=>(same b (Heap.lt_size e)).trans (hb6.keep b o e n hb hx),fun b o e n hb hx=>by
     obtain ⟨sl,q⟩:=hb6.slot b o e n hb hx
     exact ⟨sl,(same b (Heap.lt_size e)).trans q⟩,hb6.free,fun b o e hx=>by
     obtain ⟨o',q⟩:=hb6.there b o e hx
     exact ⟨o',(same b (Heap.lt_size e)).trans q⟩,hb6.tups,hb6.frzs,hb6.tbls⟩
   exact I3.call' (s':={ s6 with heap:=h7 }) hos un7 hok7 hbare fun b hb=>by
    obtain ⟨_,a2,a3,a4,a5,a6⟩:=f3 b hb
    exact ⟨a4,a2,a5,a6⟩
  ·have nx:=TT.item Y yP yW yK yC i [] s5 σ5 H5 (fun _ _=>False) J5 (fY fr5) st5 go
   rw [yA] at nx
   refine thn nx fun r s6 ⟨u,hr,h6⟩=>?_
   subst hr
   refine thn h6 fun _ s7 ⟨x,H7,J7,r7,y7,st7,fr7⟩=>?_
   have J7':=J7.pinned (fY fr7) (TT.obj _ _ st7)
   have asg:=hg' _ s7 σ5 H7 x u _ J7' r7 (step x H7 y7)
   rw [yA,yP,yW,yE,yX] at asg
   refine thn asg fun _ s8 ⟨σ8,H8,J8,q8⟩=>?_
   have tst:=ht' _ s8 σ8 H8 _ J8 q8
   rw [yA,yP,yW,yE,yX] at tst
   refine thn tst fun b s9 ⟨H9,J9,q9⟩=>?_
   have again:∀ {s':Shared} {acc':List V} {σ':St} {H':Hp},Inv Y ([]++g8 fp s7.heap) σ' H' s'→N acc' σ' H'→∃ m,m < n∧∃ i acc σ' H',Inv Y [] σ' H' s'∧tn i s'.heap∧(∀ b ∈ fp,H' b=none)∧W i m acc σ' H':=fun {s' acc' σ' H'} K7 n7=>by
    obtain ⟨m',hm,w7⟩:=hN acc' σ' H' n7
    refine ⟨m',hm,i+1,acc',σ',H',K7.unpinned,TT.keep _ _ _ st7 fun b hb o e=>(K7.pin (b,o) (List.mem_append_right _ (List.mem_append_right _ (dM hb e)))).1,fun b hb=>?_,w7⟩
    obtain ⟨o,e,d⟩:=TT.obj _ _ st7 b hb
    exact (K7.pin (b,o) (List.mem_append_right _ (List.mem_append_right _ (dM hb e)))).2.1
   cases b with
   | false =>
    rw [if_neg Bool.false_ne_true] at q9 ⊢
    exact again J9 q9
   | true =>
    rw [if_pos rfl] at q9 ⊢
    have elv:=he' _ s9 σ8 H9 _ J9 q9
    rw [yA,yP,yW,yE,yX] at elv
    refine thn elv fun u10 s10 ⟨y,H10,J10,r10,q10⟩=>?_
    obtain ⟨hl,hz,qN⟩:=q10
    have app:=iI (X:=Y) ([]++g8 fp s7.heap) s10 σ8 H10 (.ref s2.heap.objs.size) [y] (.ref s2.heap.objs.size) [u10] (fun _ H'=>N (acc++[y]) σ8 H') J10 rfl (.cons r10 .nil) ⟨_,acc,y,rfl,rfl,hl,hz,qN⟩
    rw [yA,yP,yW,yX] at app
    exact thn app fun _ s11 ⟨_,H11,J11,_,q11⟩=>again J11 q11
 exact codeAny_compStart_list loop (TT.self _ 0 _ _ _ st4 loop)
theorem y0 {elt tg iter:Expr}{ifs:List Expr}{pos:Pos}{wi:TI}{g:TG}{tc:TT}{te:TE}(hc:X.calm=true)(S:CompScope X T F ixs scope)
  (hi:PI X tg iter wi)
  (hg:∀ C s H fp,PG (bR X (T++F) scope (aZ X.env scope.names []) C s H fp) tg g)
  (ht:∀ C s H fp,yV (bR X (T++F) scope (aZ X.env scope.names []) C s H fp) ifs tc)
  (he:∀ C s H fp,PE (bR X (T++F) scope (aZ X.env scope.names []) C s H fp) elt te)
  (hs:autoParam (∀ x,foldedSetIterable iter X.env x=pure x) L2.aI._auto_1) :
  PE X (.ListComp elt [⟨tg,iter,ifs,0⟩] scope pos) (ie T.length ixs wi g tc te):=by
 intro pins s σ H Q I h
 rw [eval_ListComp]
 exact n6 hc S hi hg ht he hs I h fun D C H5 s6 f ⟨m,hm⟩ _ _ _ _ _ inv q=>⟨m,hm,fun h7 k=>⟨.ref D,H5,inv h7 k,rfl,q⟩⟩
theorem y1 {i:Nat}{y:Str}{elt tg iter:Expr}{ifs:List Expr}{pos py spos:Pos}{wi:TI}{g:TG}{tc:TT}{te:TE}(hc:X.calm=true)(S:CompScope X T F ixs scope)
  (hi:PI X tg iter wi)
  (hg:∀ C s H fp,PG (bR X (T++F) scope (aZ X.env scope.names []) C s H fp) tg g)
  (ht:∀ C s H fp,yV (bR X (T++F) scope (aZ X.env scope.names []) C s H fp) ifs tc)
  (he:∀ C s H fp,PE (bR X (T++F) scope (aZ X.env scope.names []) C s H fp) elt te)
  (hs:∀ x,foldedSetIterable iter X.env x=pure x) (hN:X.N.Nodup) (hix:X.N[i]?=some y) (hx:Loc X.env.scope y)
  (hsw:swapsWith (.ListComp elt [⟨tg,iter,ifs,0⟩] scope pos) (some (.Name y py)) spos.line X.env=pure true) (hf:X.fn y=true∨X.env.scope.names.lookup y=some .local) :
  PS X (.Assign [.Name y py] (.ListComp elt [⟨tg,iter,ifs,0⟩] scope pos) spos) (qA (ie T.length ixs wi g tc te) (ic i)):=by
 intro pins s σ H D I h
 rw [exec_Assign_Name_used _ _ _ _ hsw]
 refine wpAny_bind (wpAny_standAt (wpAny_bind ?_))
 show wpAny _ X.A (do let _ ← comprehension (.ListComp elt [⟨tg,iter,ifs,0⟩] scope pos) scope X.env _ (newList []) false (eval iter X.env) (some (assign (.Name y py) X.env))) _ _ s
 refine wpAny_bind (thn (n6 (use:=some (assign (.Name y py) X.env)) (QQ:=fun _ s'=>SP X pins D .next s') hc S hi hg ht he hs I h fun D' C H5 s6 f ⟨m,hm⟩ fC lC cC zC pC inv q=>?_) fun _ s' hq=>wpAny_pure (wpAny_pure hq))
 have I6:Inv X pins σ H5 s6:=inv s6.heap (Heap.SameBut.refl _ _)
 refine wpAny_assign_Name (iD I6 hN hix hx (show RelV (.ref D') (.ref D') from rfl) (fun s7 I7 ⟨a,sb,ha⟩=>?_) hf)
 have aC:C≠a:=by
  rcases ha with rfl | ha
  ·exact lC
  ·exact fun z=>cC y a ha z.symm
 refine ⟨m,hm.sameBut sb aC,fun h8 k8=>⟨_,H5,?_,q⟩⟩
 exact I7.turned (t':=s7.toks) (fun b o hb e=>(k8.2 b hb).trans e) fC lC (.inr zC) cC pC
end
end L2
namespace L2
open PySem PySem.Spec PyProof.Rows
def Its (z:Str):It:=⟨fun i _=>i < z.cps.size,fun i H x H'=>H'=H∧∃ c,z.cps.toList[i]?=some c∧x=.str ⟨#[c]⟩,fun i _=>i=z.cps.size⟩
theorem n8 {P:Program} {w:World} {K:PySem.W.Frag} {tg:Expr} (nm:String) (hnm:["enumerate", "zip", "dict_itemiterator", "dict_reverseitemiterator", "odict_iterator", "itertools.zip_longest", "itertools.pairwise"].contains nm=false) (it:Addr) (z:Str) (t:Tok)
  (W:∀ A:Around,A.handled=none→Walks P w A it [it] [it] z.cps.size (SignAt z) (fun i h=>h.IsStrIter it nm z t i))
  (hself:∀ (A:Around) (i:Nat) (s:Shared) (Q:Value→Shared→Prop) (E:Value→Shared→Prop),s.heap.IsStrIter it nm z t i→Q (.ref it) s→wpAny (model P w) A (pyIter (.ref it)) Q E s):Turn P w K tg (Its z) [it] it (fun i h=>h.IsStrIter it nm z t i) where
 mem:=by simp
 obj:=fun i h st b hb=>by
  have e:b=it:=by first|exact List.mem_singleton.mp hb|simpa using hb
  subst e
  obtain ⟨o,e,c,d⟩:=st
  exact ⟨o,e,fun v q=>by rw [d] at q; cases q⟩
 keep:=fun i h h' st k=>by
  obtain ⟨o,e,r⟩:=st
  exact ⟨o,k it (by simp) o e,r⟩
 item:=by
  intro X hP hw hK hc i pins s σ H E I hf st hg
  subst hP hw hK
  obtain ⟨f0,f1,f2,f3,f4,f5⟩:=hf it (by simp)
  refine (W X.A (I.ok.hd hc)).item i s _ _ hg st fun v h' tk hv st' kk=>?_
  obtain ⟨c,u,hcx,rfl⟩:=hv
  have I1:Inv X pins σ H { s with heap:=h',toks:=tk }:=I.turned (fun b o hb e=>kk b o (by first|exact List.mem_singleton.mp hb|simpa using hb) e) f0 f1 f3 f4 f5
  obtain ⟨o,e,cl,d⟩:=id st'
  exact ⟨_,rfl,uV (s:={ s with heap:=h',toks:=tk }) e cl d hnm ⟨.str ⟨#[c]⟩,H,I1,⟨u,rfl⟩,⟨rfl,c,by first|exact List.mem_singleton.mp hcx|simpa using hcx,rfl⟩,st',fun b hb=>(hf b hb).1⟩⟩
 done:=by
  intro X hP hw hK hc i pins s σ H E I hf st hg
  subst hP hw hK
  obtain ⟨f0,f1,f2,f3,f4,f5⟩:=hf it (by simp)
  have hg:i=z.cps.size:=hg
  subst hg
  exact (W X.A (I.ok.hd hc)).done s _ _ st fun h' tk kk=>⟨rfl,I.turned (fun b o hb e=>kk b o (by first|exact List.mem_singleton.mp hb|simpa using hb) e) f0 f1 f3 f4 f5⟩
 self:=fun A i s Q E st h=>hself A i s Q E st h
def ER (tl:TE):TI:=fun σ H R=>tl σ H fun x H1=>∃ z,x=.str z∧R (Its z) H1
theorem Cj {X:Cx}{tg l:Expr}{tl:TE}(hl:PE X l tl):PI X tg l (ER tl):=by
 intro pins s σ H R I h
 refine thn (hl pins s σ H _ I h) fun v s1 ⟨x,H1,I1,r1,q1⟩=>?_
 obtain ⟨z,e,q⟩:=q1
 subst e
 obtain ⟨t,rfl⟩:=r1
 have fp:∀ b ∈ [s1.heap.objs.size],nU X pins H1 b:=fun b hb=>by
  have e:b=s1.heap.objs.size:=by first|exact List.mem_singleton.mp hb|simpa using hb
  subst e
  exact I1.fpOk (Nat.le_refl _) (I1.hok.fresh (Nat.le_refl _))
 cases ha:z.cps.all (· < 128)
 ·exact wpAny_pyIter_wide ha ⟨s1.heap.objs.size,[s1.heap.objs.size],_,_,H1,rfl,I1.kept (t':=s1.toks) fun b o e=>Heap.get?_push_of_some _ e,n8 "str_iterator" (by decide) _ z t (fun A hA=>Walks.strWide hA _ z t) (fun _ _ _ _ _ st h=>wpAny_pyIter_striter_wide st h),⟨_,Heap.get?_push_size _ rfl,rfl,rfl⟩,fp,q⟩
 ·exact wpAny_pyIter_ascii ha ⟨s1.heap.objs.size,[s1.heap.objs.size],_,_,H1,rfl,I1.kept (t':=s1.toks) fun b o e=>Heap.get?_push_of_some _ e,n8 "str_ascii_iterator" (by decide) _ z t (fun A hA=>Walks.strAscii hA _ z t) (fun _ _ _ _ _ st h=>wpAny_pyIter_striter_ascii st h),⟨_,Heap.get?_push_size _ rfl,rfl,rfl⟩,fp,q⟩
section
variable {no:Nat} {ixs:List Nat} {g:TG} {tc:TT} {te:TE} {σ:St} {H:Hp} {Q:VK} {D:Addr}
end
section
variable {X:Cx}
def isT (t T:String):Bool:=t == T || (t == "bool" && T == "int")
def okT (T:String):Prop:=T = "str" ∨ T = "int" ∨ T = "bool" ∨ T = "list" ∨ T = "tuple" ∨ T = "dict" ∨ T = "NoneType"
theorem Ck {K:PySem.W.Frag}{t T:String}(ht:okT t)(hT:okT T):PySem.W.kitOne K (.type t) (.type T)=some (isT t T):=by
 rcases ht with rfl | rfl | rfl | rfl | rfl | rfl | rfl <;> rcases hT with rfl | rfl | rfl | rfl | rfl | rfl | rfl <;> rfl
theorem na {P:Program}{w:World}{A:Around}(bs:List Bool):TruthOf P w A (fun i v=>∃ b,bs[i]?=some b∧v=Value.bool b) (fun i=>bs.getD i false):=by
 intro i v s Q E hP hQ
 obtain ⟨b,hb,rfl⟩:=hP
 have e:bs.getD i false=b:=by rw [List.getD_eq_getElem?_getD,hb]; rfl
 exact wpAny_truthy_bool (by rw [← e]; exact hQ)
theorem rk {bs:List Bool}:(List.range bs.length).all (fun i=>bs.getD i false)=bs.all id:=by
 rw [Bool.eq_iff_iff,List.all_eq_true,List.all_eq_true]
 constructor
 ·intro h b hb
  obtain ⟨i,hi,e⟩:=List.mem_iff_getElem.mp hb
  have:=h i (List.mem_range.mpr hi)
  rw [List.getD_eq_getElem?_getD,List.getElem?_eq_getElem hi,e] at this
  exact this
 ·intro h i hi
  have hi:=List.mem_range.mp hi
  rw [List.getD_eq_getElem?_getD,List.getElem?_eq_getElem hi]
  exact h _ (List.getElem_mem hi)
theorem u9 {bs:List Bool}:∀ {us:List Value},Vals (bs.map V.bl) us→us.length=bs.length∧∀ (i:Nat) (v:Value),us[i]?=some v→∃ b,bs[i]?=some b∧v=Value.bool b:=by
 intro us r
 have hl:=r.length
 rw [List.length_map] at hl
 refine ⟨hl.symm,fun i v h=>?_⟩
 have hi:i < us.length:=(List.getElem?_eq_some_iff.mp h).1
 have hib:i < bs.length:=by nofun
 obtain ⟨u,hu,ru⟩:=r.get (i:=i) (x:=.bl bs[i]) (by simp [hib])
 rw [h] at hu
 cases hu
 exact ⟨bs[i],by simp [hib],ru⟩
theorem pL {pins:List (Addr×Obj)}{s:Shared}{σ:St}{H:Hp}{p:Addr}{bs:List Bool}(I:Inv X pins σ H s)(hq:SqL X.K H p (bs.map V.bl))(A:Around)(hA:A.handled=none){E:Value→Shared→Prop}{Q:VK}{r:Bool}
  (fn:(List Nat)→(Nat→Bool)→Bool) (hr:fn (List.range bs.length) (fun i=>bs.getD i false)=r) (q:Q (.bl r) H) :
  wpAny (model X.prog X.w) A (pyIter (.ref p)) (fun it s₂=>∃ I fp wr n P St tr,it=.ref I∧Walks X.prog X.w A I fp wr n P St∧St 0 s₂.heap∧TruthOf X.prog X.w A P tr ∧
   ∀ h' tk,(∀ b o,b ∉ wr→s₂.heap.get? b=some o→h'.get? b=some o)→EP X pins σ Q (.bool (fn (List.range n) tr)) { s₂ with heap:=h',toks:=tk }) E s:=by
 obtain ⟨its,rv,pl,hz⟩:=I.list hq
 obtain ⟨hl,hat⟩:=u9 rv
 refine wpAny_pyIter_list pl.isList ?_
 have ne:p≠s.heap.objs.size:=by
  obtain ⟨o,ho,_⟩:=pl.isList
  exact Nat.ne_of_lt (Heap.lt_size ho)
 have hW:=Walks.list (prog:=X.prog) (w:=X.w) hA s.heap.objs.size p ne its.toArray
 have hW2:Walks X.prog X.w A s.heap.objs.size [s.heap.objs.size,p] [s.heap.objs.size] bs.length (fun i v=>∃ b,bs[i]?=some b∧v=Value.bool b) (fun i h=>h.IsListIter s.heap.objs.size p i∧h.IsList p its.toArray):=by
  have e:its.toArray.size=bs.length:=by simp [hl]
  rw [e] at hW
  exact { sub:=hW.sub,frame:=hW.frame,item:=fun i s Q E hi st hQ=>hW.item i s Q E hi st fun v h' tk hv=>hQ v h' tk (hat i v (by first|exact List.mem_singleton.mp hv|simpa using hv)),done:=hW.done,self:=hW.self }
 refine ⟨s.heap.objs.size,_,_,_,_,_,_,rfl,hW2,⟨⟨_,Heap.get?_push_size _ rfl,rfl,rfl⟩,?_⟩,na bs,fun h' tk kk=>?_⟩
 ·obtain ⟨o,ho,r⟩:=pl.isList
  exact ⟨o,Heap.get?_push_of_some _ ho,r⟩
 ·refine ⟨.bl r,H,I.kept (h':=h') (t':=tk) fun b o e=>kk b o ?_ (Heap.get?_push_of_some _ e),by rw [← hr]; rfl,q⟩
  intro z
  have z:b=s.heap.objs.size:=by first|exact List.mem_singleton.mp z|simpa using z
  exact absurd (Heap.lt_size e) (by rw [z]; exact Nat.lt_irrefl _)
theorem va (hc:X.calm=true):CallR X (.builtin "all") (fun xs H Q=>∃ (p:Addr) (bs:List Bool),xs=[.ref p]∧SqL X.K H p (bs.map V.bl)∧Q (.bl (bs.all id)) H):=by
 intro pins s σ H xs us Q I r h
 obtain ⟨p,bs,rfl,hq,q⟩:=h
 obtain ⟨u,rfl,ru⟩:=eU r
 cases ru
 exact call_all_walk (pL I hq X.A.in1 (I.ok.hd hc) (fun l f=>l.all f) rk q)
def pM (i j:Int):Prop:=0≤j∧j≤3∧i.natAbs < 2 ^ 1000
theorem y2:OpR X (binaryOp .Pow) (rI pM fun i j=>.int (i ^ j.toNat)):=opI fun i j _ _ _ _ _ hc q=>by
 refine pow_int hc.1 ?_ q
 have hb:Builtin.Int.intBits i≤1000:=intBits_le hc.2.2
 have h2:=hc.2.1
 have h1:(Builtin.Int.intBits i:Int) * j≤1000 * j:=Int.mul_le_mul_of_nonneg_right (by nofun) hc.1
 nofun
theorem pN:OpR X (compareOp .In) (fun x y H Q=>∃ (c:Nat) (j:Str),x=.str ⟨#[c]⟩∧y=.str j∧Q (.bl (decide (c ∈ j.cps.toList))) H):=by
 intro pins s σ H x y v u Q I rx ry h
 obtain ⟨c,j,rfl,rfl,q⟩:=h
 exact qP pins s σ H _ _ v u Q I rx ry ⟨_,j,rfl,rfl,by rw [PySem.StrLaws.found_one]; exact q⟩
theorem gF {x y:Str}(h:x.cps.toList=y.cps.toList):x=y:=by
 cases x with | mk a=>cases y with | mk b=>exact congrArg Str.mk (Array.toList_inj.mp h)
theorem eI (x:Str):x.length=x.cps.toList.length:=by simp [Str.length]
theorem dO (x y:Str):(x++y).cps.toList=x.cps.toList++y.cps.toList:=by
 show (x.cps++y.cps).toList=_
 simp
def dP {α:Type}(xs:List α)(lo hi:Option Int):List α:=(xs.drop (HT.sIx xs.length 0 lo)).take (HT.sIx xs.length xs.length hi - HT.sIx xs.length 0 lo)
theorem sliceRange_one (a b:Nat):sliceRange (a:Int) (b:Int) 1=(List.range (b - a)).map fun k=>a+k:=by
 unfold sliceRange
 simp only [show (1:Int) > 0 by decide,if_true]
 have e:(if (a:Int) < (b:Int) then ((b:Int) - (a:Int)+1 - 1) / 1 else 0).toNat=b - a:=by
  split <;> (try rw [Int.ediv_one]) <;> nofun
 rw [e]
 refine List.map_congr_left fun k _=>?_
 nofun
theorem pO (lo hi:Option Int)(n:Nat):Builtin.Str.strSliceIndices lo hi 1 n=(List.range (HT.sIx n n hi - HT.sIx n 0 lo)).map fun k=>HT.sIx n 0 lo+k:=by
 unfold Builtin.Str.strSliceIndices
 rw [← sliceRange_one]
 simp only [show (1:Int) > 0 by decide,if_true]
 congr 1
 ·cases lo with
  | none=>rfl
  | some v=>rw [← HT.clip_eq]; dsimp only; split <;> nofun
 ·cases hi with
  | none=>rfl
  | some v=>rw [← HT.clip_eq]; dsimp only; split <;> nofun
theorem jP {α:Type}(xs:List α)(a:Nat):∀ k:Nat,a+k≤xs.length→((List.range k).map fun j=>a+j).filterMap (fun i=>xs[i]?)=(xs.drop a).take k
 | 0,_=>by simp
 | k+1,h=>by
  have hk:a+k < xs.length:=by nofun
  rw [List.range_succ,List.map_append,List.filterMap_append,jP xs a k (by nofun),List.take_add_one]
  congr 1
  simp [List.getElem?_drop,hk]
theorem rl (x:Str)(lo hi:Option Int):(Txt.slice x lo hi).cps.toList=dP x.cps.toList lo hi:=by
 have hl:x.cps.toList.length=x.length:=by simp [Str.length]
 have h1:=HT.sIx_le x.length 0 (Nat.zero_le _) lo
 have h2:=HT.sIx_le x.length x.length (Nat.le_refl _) hi
 unfold Txt.slice dP
 rw [hl,pO]
 split
 ·rename_i hc
  simp only [beq_self_eq_true,Bool.true_and,List.length_map,List.length_range,beq_iff_eq] at hc
  have e1:HT.sIx x.length 0 lo=0:=by nofun
  have e2:HT.sIx x.length x.length hi=x.length:=by nofun
  rw [e1,e2,List.drop_zero,Nat.sub_zero,List.take_of_length_le (by nofun)]
 ·show (List.filterMap (fun i=>x.cps[i]?) _).toArray.toList=_
  have e:(fun i:Nat=>x.cps[i]?)=fun i:Nat=>x.cps.toList[i]?:=by funext i; simp
  rw [e]
  by_cases h:HT.sIx x.length 0 lo≤HT.sIx x.length x.length hi
  ·rw [jP x.cps.toList _ _ (by rw [hl]; nofun)]
  ·have e0:HT.sIx x.length x.length hi - HT.sIx x.length 0 lo=0:=by nofun
   rw [e0]
   simp
def Fs:V→Option Int→Option Int→Hp→VK→Prop:=fun x lo hi H Q=>∃ z,x=.str z∧z.length≤sizeLine∧∀ y:Str,y.cps.toList=dP z.cps.toList lo hi→Q (.str y) H
theorem Cl:SlR X Fs:=by
 intro pins s σ H x v vl vu lo hi sl Q I rx hs pl pu h
 obtain ⟨z,rfl,hz,q⟩:=h
 obtain ⟨t,rfl⟩:=rx
 refine ⟨"str", _,F.slot_str_getitem.lookup,typeIs_str _ _ _,?_⟩
 have fin:(Txt.slice z lo hi).length≤sizeLine∧∀ t' k,EP X pins σ Q (.str (Txt.slice z lo hi) t') { s with toks:=k } :=
  ⟨Nat.le_trans (Txt.slice_le z _ _) hz,fun t' k=>⟨.str _,H,I.tok k,⟨t',rfl⟩,q _ (rl z lo hi)⟩⟩
 obtain ⟨o,ho,hc,hd⟩:=hs
 cases pl with
 | none =>
  cases pu with
  | none=>exact wpAny_getItem_str_slice (l:=none) (u:=none) (st:=none) ⟨o,ho,hc,hd⟩ rfl (post_val_or_str fin)
  | int j uj=>exact wpAny_getItem_str_slice (l:=none) (u:=some (j,uj)) (st:=none) ⟨o,ho,hc,hd⟩ rfl (post_val_or_str fin)
 | int i ui =>
  cases pu with
  | none=>exact wpAny_getItem_str_slice (l:=some (i,ui)) (u:=none) (st:=none) ⟨o,ho,hc,hd⟩ rfl (post_val_or_str fin)
  | int j uj=>exact wpAny_getItem_str_slice (l:=some (i,ui)) (u:=some (j,uj)) (st:=none) ⟨o,ho,hc,hd⟩ rfl (post_val_or_str fin)
theorem rm:∀ {zs:List Str} {us:List Value},Vals (zs.map V.str) us→∃ l:List (Str×Tok),us=strValues l∧l.map (·.1)=zs
 | [],_,r=>by
  rw [List.map_nil] at r
  cases r
  exact ⟨[],rfl,rfl⟩
 | z::zs,_,r=>by
  rw [List.map_cons] at r
  cases r with
  | cons r1 r2 =>
   obtain ⟨t,rfl⟩:=r1
   obtain ⟨l,rfl,rfl⟩:=rm r2
   exact ⟨(z,t)::l,rfl,rfl⟩
def vb (K:PySem.W.Frag):V→List V→Hp→VK→Prop:=fun x vs H Q=>∃ (z:Str) (p:Addr) (zs:List Str),x=.str z∧vs=[.ref p]∧SqL K H p (zs.map V.str)∧(zs.map (·.length)).sum+zs.length * z.length≤16777216∧Q (.str (Builtin.Str.glued z zs)) H
theorem y3:MtR X "str.join" (vb X.K):=by
 intro pins s σ H x vs v us Q I rx rv h
 obtain ⟨z,p,zs,rfl,rfl,hq,hz,q⟩:=h
 obtain ⟨t,rfl⟩:=rx
 obtain ⟨u,rfl,ru⟩:=eU rv
 cases ru
 obtain ⟨its,r,pl,hl⟩:=I.list hq
 obtain ⟨l,rfl,e⟩:=rm r
 exact SC.join pl.isList e (joinOk_of hz) fun t' k=>⟨.str _,H,I.tok k,⟨t',rfl⟩,q⟩
theorem lO (zs:List Str):(Builtin.Str.glued Str.empty zs).cps.toList=(zs.map fun z=>z.cps.toList).flatten:=by
 unfold Builtin.Str.glued
 have gen:∀ (l:List Str) (a:Array Nat),(l.foldl (fun acc p=>acc++Str.empty.cps++p.cps) a).toList=a.toList++(l.map fun z=>z.cps.toList).flatten:=by
  intro l
  induction l with
  | nil=>intro a; simp
  | cons y l ih=>intro a; rw [List.foldl_cons,ih]; simp [Str.empty]
 rw [gen]
 cases zs with
 | nil=>simp [Str.empty]
 | cons y l=>simp
end
end L2
namespace L2
open PySem PySem.Spec PyProof.Rows
inductive DV where
 | non | bl (b:Bool) | int (i:Int) | str (x:Str) | lst (xs:List DV) | tup (xs:List DV)
mutual
inductive Deep (K:PySem.W.Frag)(H:Hp):V→DV→Prop where
 | non:Deep K H .non .non
 | bl (b:Bool):Deep K H (.bl b) (.bl b)
 | int (i:Int):Deep K H (.int i) (.int i)
 | str (x:Str):Deep K H (.str x) (.str x)
 | lst {a:Addr} {xs:List V} {ds:List DV}:SqL K H a xs→Deeps K H xs ds→Deep K H (.ref a) (.lst ds)
 | tup {a:Addr} {xs:List V} {ds:List DV}:SqT K H a xs→Deeps K H xs ds→Deep K H (.ref a) (.tup ds)
inductive Deeps (K:PySem.W.Frag)(H:Hp):List V→List DV→Prop where
 | nil:Deeps K H [] []
 | cons {x:V} {d:DV} {xs:List V} {ds:List DV}:Deep K H x d→Deeps K H xs ds→Deeps K H (x::xs) (d::ds)
end
mutual
def deq:DV→DV→Bool
 | .non,.non=>true
 | .bl a,.bl b=>a == b
 | .bl a,.int b=>(if a then 1 else 0) == b
 | .int a,.bl b=>a == (if b then 1 else 0)
 | .int a,.int b=>a == b
 | .str a,.str b=>a == b
 | .lst a,.lst b=>deqs a b
 | .tup a,.tup b=>deqs a b
 | _,_=>false
def deqs:List DV→List DV→Bool
 | [],[]=>true
 | a::r,b::s=>deq a b && deqs r s
 | _,_=>false
end
mutual
def dep:DV→Nat
 | .lst a=>deps a+1
 | .tup a=>deps a+1
 | _=>0
def deps:List DV→Nat
 | []=>0
 | a::r=>max (dep a) (deps r)
end
mutual
theorem n9:∀ d:DV,deq d d=true
 | .non=>rfl
 | .bl b=>beq_self_eq_true b
 | .int i=>beq_self_eq_true i
 | .str x=>beq_self_eq_true x
 | .lst xs=>deqs_refl xs
 | .tup xs=>deqs_refl xs
theorem deqs_refl:∀ ds:List DV,deqs ds ds=true
 | []=>rfl
 | d::ds=>Bool.and_eq_true_iff.mpr ⟨n9 d,deqs_refl ds⟩
end
theorem Deeps.length {K:PySem.W.Frag}{H:Hp}{xs:List V}{ds:List DV}(h:Deeps K H xs ds):xs.length=ds.length :=
 Deeps.rec (motive_1:=fun _ _ _=>True) (motive_2:=fun xs ds _=>xs.length=ds.length) trivial (fun _=>trivial) (fun _=>trivial) (fun _=>trivial) (fun _ _ _=>trivial) (fun _ _ _=>trivial) rfl (fun _ _ _ t=>congrArg (·+1) t) h
theorem Deeps.get {K:PySem.W.Frag}{H:Hp}:∀ {xs:List V} {ds:List DV} {i:Nat} {x:V},Deeps K H xs ds→xs[i]?=some x→∃ d,ds[i]?=some d∧Deep K H x d∧dep d≤deps ds
 | _,_,_,_,.nil,e=>by simp at e
 | _,_,0,_,.cons h _,e=>by
  simp at e; subst e
  exact ⟨_,rfl,h,by simp only [deps]; nofun⟩
 | _,_,i+1,x,.cons h t,e=>by
  obtain ⟨d,h1,h2,h3⟩:=Deeps.get (i:=i) (x:=x) t (by first|exact List.mem_singleton.mp e|simpa using e)
  exact ⟨d,by first|exact List.mem_singleton.mp h1|simpa using h1,h2,by simp only [deps]; nofun⟩
theorem jQ:∀ {ds es:List DV},ds.length=es.length→(List.range ds.length).all (fun j=>deq (ds.getD j .non) (es.getD j .non))=deqs ds es:=by
 intro ds
 induction ds with
 | nil=>intro es h; cases es with
  | nil=>rfl
  | cons _ _=>simp at h
 | cons d ds ih =>
  intro es h
  cases es with
  | nil=>simp at h
  | cons e es =>
   have h':ds.length=es.length:=by first|exact List.mem_singleton.mp h|simpa using h
   rw [List.length_cons,List.range_succ_eq_map,List.all_cons,List.all_map]
   exact congrArg (deq d e && ·) (ih h')
theorem kB:∀ {ds es:List DV},ds.length≠es.length→deqs ds es=false
 | [],[],h=>absurd rfl h
 | [],_::_,_=>rfl
 | _::_,[],_=>rfl
 | d::ds,e::es,h=>by
  have h':ds.length≠es.length:=by first|exact List.mem_singleton.mp h|simpa using h
  show (deq d e && deqs ds es)=false
  rw [kB h',Bool.and_false]
theorem vc {ds es:List DV}:((List.range (min ds.length es.length)).all (fun j=>deq (ds.getD j .non) (es.getD j .non)) && ds.length == es.length)=deqs ds es:=by
 by_cases h:ds.length=es.length
 ·rw [← jQ h,← h,Nat.min_self]
  simp
 ·rw [kB h]
  simp [h]
section
variable {X:Cx} {pins:List (Addr×Obj)} {σ:St} {H:Hp} {s:Shared}
theorem Inv.seq_inj (I:Inv X pins σ H s){a:Addr}{xs ys:List V}(h:SqL X.K H a xs)(h':SqT X.K H a ys):False:=by
 obtain ⟨its,_,p,_⟩:=I.list h
 obtain ⟨its',_,p',_⟩:=I.tuple h'
 obtain ⟨o,e,c,_⟩:=p.isList
 obtain ⟨o',e',c',_⟩:=p'
 rw [e] at e'
 cases e'
 rw [c] at c'
 injection c' with z
 exact absurd z (by decide)
theorem Deep.inj (I:Inv X pins σ H s){x:V}{d e:DV}(h:Deep X.K H x d):Deep X.K H x e→d=e:=by
 refine Deep.rec (motive_1:=fun x d _=>∀ e,Deep X.K H x e→d=e) (motive_2:=fun xs ds _=>∀ es,Deeps X.K H xs es→ds=es) ?_ ?_ ?_ ?_ (fun h _ t e h'=>?_) (fun h _ t e h'=>?_) ?_ (fun _ _ h t e h'=>?_) h e
 ·intro e h'; cases h'; rfl
 ·intro _ e h'; cases h'; rfl
 ·intro _ e h'; cases h'; rfl
 ·intro _ e h'; cases h'; rfl
 ·cases h' with
  | lst h2 t' =>
   have e:=I.list_inj h h2
   subst e
   rw [t _ t']
  | tup h2 _=>exact (I.seq_inj h h2).elim
 ·cases h' with
  | tup h2 t' =>
   have e:=I.tuple_inj h h2
   subst e
   rw [t _ t']
  | lst h2 _=>exact (I.seq_inj h2 h).elim
 ·intro e h'; cases h'; rfl
 ·cases h' with | cons h2 t2=>rw [h _ h2,t _ t2]
theorem Deeps.inj (I:Inv X pins σ H s){xs:List V}{ds es:List DV}(h:Deeps X.K H xs ds):Deeps X.K H xs es→ds=es :=
 Deeps.rec (motive_1:=fun _ _ _=>True) (motive_2:=fun xs ds _=>∀ es,Deeps X.K H xs es→ds=es) trivial (fun _=>trivial) (fun _=>trivial) (fun _=>trivial) (fun _ _ _=>trivial) (fun _ _ _=>trivial) (fun es h'=>by cases h'; rfl) (fun h _ _ t es h'=>by cases h' with | cons h2 t2=>rw [h.inj I h2,t _ t2]) h es
theorem lP (I:Inv X pins σ H s):∀ (n:Nat) (d e:DV) (x y:V) (u v:Value) (A:Around),dep d≤n→A.units+n < cLine→Deep X.K H x d→Deep X.K H y e→RelV x u→RelV y v →
  SeqAt.RcAt A s u v (deq d e)∧SeqAt.RcNeAt A s u v (!deq d e)∧SeqAt.EqAt A s u v (deq d e):=by
 intro n
 induction n with
 | zero =>
  intro d e x y u v A hd hu hx hy rx ry
  have hu0:A.units < cLine:=by nofun
  cases hx with
  | lst _ _=>simp only [dep] at hd; nofun
  | tup _ _=>simp only [dep] at hd; nofun
  | non =>
   cases rx
   cases hy with
   | non=>cases ry; exact ⟨SeqAt.RcAt.none_none,SeqAt.RcNeAt.none_none,SeqAt.EqAt.same _⟩
   | bl b=>cases ry; exact ⟨SeqAt.RcAt.none_bool b,SeqAt.RcNeAt.none_bool b,SeqAt.EqAt.none_bool b⟩
   | int b=>obtain ⟨t,rfl⟩:=ry; exact ⟨SeqAt.RcAt.none_int b t,SeqAt.RcNeAt.none_int b t,SeqAt.EqAt.none_int b t⟩
   | str b=>obtain ⟨t,rfl⟩:=ry; exact ⟨SeqAt.RcAt.none_str b t,SeqAt.RcNeAt.none_str b t,SeqAt.EqAt.none_str b t⟩
   | lst h _=>cases ry; obtain ⟨its,_,p,_⟩:=I.list h; exact ⟨SeqAt.RcAt.none_list p.isList hu0,SeqAt.RcNeAt.none_list p.isList hu0,SeqAt.EqAt.none_list p.isList hu0⟩
   | tup h _=>cases ry; obtain ⟨its,_,p,_⟩:=I.tuple h; exact ⟨SeqAt.RcAt.none_tuple p hu0,SeqAt.RcNeAt.none_tuple p hu0,SeqAt.EqAt.none_tuple p hu0⟩
  | bl a =>
   cases rx
   cases hy with
   | non=>cases ry; exact ⟨SeqAt.RcAt.bool_none a,SeqAt.RcNeAt.bool_none a,SeqAt.EqAt.bool_none a⟩
   | bl b=>cases ry; exact ⟨SeqAt.RcAt.bool_bool a b,SeqAt.RcNeAt.bool_bool a b,SeqAt.EqAt.bool_bool a b⟩
   | int b=>obtain ⟨t,rfl⟩:=ry; exact ⟨SeqAt.RcAt.bool_int a b t,SeqAt.RcNeAt.bool_int a b t,SeqAt.EqAt.bool_int a b t⟩
   | str b=>obtain ⟨t,rfl⟩:=ry; exact ⟨SeqAt.RcAt.bool_str a b t,SeqAt.RcNeAt.bool_str a b t,SeqAt.EqAt.bool_str a b t⟩
   | lst h _=>cases ry; obtain ⟨its,_,p,_⟩:=I.list h; exact ⟨SeqAt.RcAt.bool_list a p.isList hu0,SeqAt.RcNeAt.bool_list a p.isList hu0,SeqAt.EqAt.bool_list a p.isList hu0⟩
   | tup h _=>cases ry; obtain ⟨its,_,p,_⟩:=I.tuple h; exact ⟨SeqAt.RcAt.bool_tuple a p hu0,SeqAt.RcNeAt.bool_tuple a p hu0,SeqAt.EqAt.bool_tuple a p hu0⟩
  | int a =>
   obtain ⟨t',rfl⟩:=rx
   cases hy with
   | non=>cases ry; exact ⟨SeqAt.RcAt.int_none a t',SeqAt.RcNeAt.int_none a t',SeqAt.EqAt.int_none a t'⟩
   | bl b=>cases ry; exact ⟨SeqAt.RcAt.int_bool a t' b,SeqAt.RcNeAt.int_bool a t' b,SeqAt.EqAt.int_bool a t' b⟩
   | int b=>obtain ⟨t,rfl⟩:=ry; exact ⟨SeqAt.RcAt.int_int a t' b t,SeqAt.RcNeAt.int_int a t' b t,SeqAt.EqAt.int_int a t' b t⟩
   | str b=>obtain ⟨t,rfl⟩:=ry; exact ⟨SeqAt.RcAt.int_str a t' b t,SeqAt.RcNeAt.int_str a t' b t,SeqAt.EqAt.int_str a t' b t⟩
   | lst h _=>cases ry; obtain ⟨its,_,p,_⟩:=I.list h; exact ⟨SeqAt.RcAt.int_list a t' p.isList hu0,SeqAt.RcNeAt.int_list a t' p.isList hu0,SeqAt.EqAt.int_list a t' p.isList hu0⟩
   | tup h _=>cases ry; obtain ⟨its,_,p,_⟩:=I.tuple h; exact ⟨SeqAt.RcAt.int_tuple a t' p hu0,SeqAt.RcNeAt.int_tuple a t' p hu0,SeqAt.EqAt.int_tuple a t' p hu0⟩
  | str a =>
   obtain ⟨t',rfl⟩:=rx
   cases hy with
   | non=>cases ry; exact ⟨SeqAt.RcAt.str_none a t',SeqAt.RcNeAt.str_none a t',SeqAt.EqAt.str_none a t'⟩
   | bl b=>cases ry; exact ⟨SeqAt.RcAt.str_bool a t' b,SeqAt.RcNeAt.str_bool a t' b,SeqAt.EqAt.str_bool a t' b⟩
   | int b=>obtain ⟨t,rfl⟩:=ry; exact ⟨SeqAt.RcAt.str_int a t' b t,SeqAt.RcNeAt.str_int a t' b t,SeqAt.EqAt.str_int a t' b t⟩
   | str b=>obtain ⟨t,rfl⟩:=ry; exact ⟨SeqAt.RcAt.str_str a t' b t,SeqAt.RcNeAt.str_str a t' b t,SeqAt.EqAt.str_str a t' b t⟩
   | lst h _=>cases ry; obtain ⟨its,_,p,_⟩:=I.list h; exact ⟨SeqAt.RcAt.str_list a t' p.isList hu0,SeqAt.RcNeAt.str_list a t' p.isList hu0,SeqAt.EqAt.str_list a t' p.isList hu0⟩
   | tup h _=>cases ry; obtain ⟨its,_,p,_⟩:=I.tuple h; exact ⟨SeqAt.RcAt.str_tuple a t' p hu0,SeqAt.RcNeAt.str_tuple a t' p hu0,SeqAt.EqAt.str_tuple a t' p hu0⟩
 | succ n ih =>
  intro d e x y u v A hd hu hx hy rx ry
  have hu0:A.units < cLine:=by nofun
  have items:∀ {xs ys:List V} {ds es:List DV} {us vs:List Value},Deeps X.K H xs ds→Deeps X.K H ys es→deps ds≤n→Vals xs us→Vals ys vs→∀ j (h1:j < us.toArray.size) (h2:j < vs.toArray.size),SeqAt.EqAt A.in1 s us.toArray[j] vs.toArray[j] (deq (ds.getD j .non) (es.getD j .non)):=by
   intro xs ys ds es us vs hds hes hn rv rv' j h1 h2
   have h1':j < us.length:=by first|exact List.mem_singleton.mp h1|simpa using h1
   have h2':j < vs.length:=by first|exact List.mem_singleton.mp h2|simpa using h2
   have l1:=rv.length
   have l2:=rv'.length
   have ex:xs[j]?=some (xs[j]'(by nofun)):=List.getElem?_eq_getElem (by nofun)
   have ey:ys[j]?=some (ys[j]'(by nofun)):=List.getElem?_eq_getElem (by nofun)
   obtain ⟨d1,e1,p1,b1⟩:=hds.get ex
   obtain ⟨d2,e2,p2,b2⟩:=hes.get ey
   obtain ⟨u1,f1,r1⟩:=rv.get ex
   obtain ⟨u2,f2,r2⟩:=rv'.get ey
   have g1:us.toArray[j]=u1:=by
    have:us[j]?=some us[j]:=List.getElem?_eq_getElem h1'
    rw [f1] at this
    simpa using (Option.some.inj this).symm
   have g2:vs.toArray[j]=u2:=by
    have:vs[j]?=some vs[j]:=List.getElem?_eq_getElem h2'
    rw [f2] at this
    simpa using (Option.some.inj this).symm
   rw [g1,g2,List.getD_eq_getElem?_getD,List.getD_eq_getElem?_getD,e1,e2]
   exact (ih d1 d2 _ _ u1 u2 A.in1 (by nofun) (by show A.units+1+n < cLine; nofun) p1 p2 r1 r2).2.2
  by_cases h0:dep d≤0
  ·exact ih d e x y u v A (by nofun) (by nofun) hx hy rx ry
  cases hx with
  | non=>simp only [dep] at h0; nofun
  | bl _=>simp only [dep] at h0; nofun
  | int _=>simp only [dep] at h0; nofun
  | str _=>simp only [dep] at h0; nofun
  | @lst a xs ds h t =>
   cases rx
   simp only [dep] at hd
   obtain ⟨its,rv,p,hz⟩:=I.list h
   cases hy with
   | non=>cases ry; exact ⟨SeqAt.RcAt.list_none p.isList hu0,SeqAt.RcNeAt.list_none p.isList hu0,SeqAt.EqAt.list_none p.isList hu0⟩
   | bl b=>cases ry; exact ⟨SeqAt.RcAt.list_bool b p.isList hu0,SeqAt.RcNeAt.list_bool b p.isList hu0,SeqAt.EqAt.list_bool b p.isList hu0⟩
   | int b=>obtain ⟨t2,rfl⟩:=ry; exact ⟨SeqAt.RcAt.list_int b t2 p.isList hu0,SeqAt.RcNeAt.list_int b t2 p.isList hu0,SeqAt.EqAt.list_int b t2 p.isList hu0⟩
   | str b=>obtain ⟨t2,rfl⟩:=ry; exact ⟨SeqAt.RcAt.list_str b t2 p.isList hu0,SeqAt.RcNeAt.list_str b t2 p.isList hu0,SeqAt.EqAt.list_str b t2 p.isList hu0⟩
   | tup h' _ =>
    cases ry
    obtain ⟨its',_,p',_⟩:=I.tuple h'
    exact ⟨SeqAt.RcAt.list_tuple p.isList p' hu0,SeqAt.RcNeAt.list_tuple p.isList p' hu0,SeqAt.EqAt.list_tuple p.isList p' hu0⟩
   | @lst b ys es h' t' =>
    cases ry
    obtain ⟨its',rv',p',hz'⟩:=I.list h'
    have l1:=rv.length
    have l2:=rv'.length
    have l3:=t.length
    have l4:=t'.length
    have main:SeqAt.RcAt A s (.ref a) (.ref b) (deqs ds es)∧SeqAt.RcNeAt A s (.ref a) (.ref b) (!deqs ds es):=by
     by_cases hl:ds.length=es.length
     ·have e1:(List.range its.toArray.size).all (fun j=>deq (ds.getD j .non) (es.getD j .non))=deqs ds es:=by
       rw [← jQ hl,show its.toArray.size=ds.length by simp; nofun]
      rw [← e1]
      exact ⟨SeqAt.RcAt.lists p.isList p'.isList (by simp; nofun) hu0 (items t t' (by nofun) rv rv'),SeqAt.RcNeAt.lists p.isList p'.isList (by simp; nofun) hu0 (items t t' (by nofun) rv rv')⟩
     ·rw [kB hl]
      exact ⟨SeqAt.RcAt.lists_lengths p.isList p'.isList (by simp; nofun) hu0,SeqAt.RcNeAt.lists_lengths p.isList p'.isList (by simp; nofun) hu0⟩
    refine ⟨main.1,main.2,?_⟩
    show SeqAt.EqAt A s (.ref a) (.ref b) (deqs ds es)
    by_cases hab:a=b
    ·subst hab
     have ee:=I.list_inj h h'
     subst ee
     rw [Deeps.inj I t t',deqs_refl]
     exact SeqAt.EqAt.same _
    ·exact SeqAt.EqAt.of_refs hab main.1
  | @tup a xs ds h t =>
   cases rx
   simp only [dep] at hd
   obtain ⟨its,rv,p,hz⟩:=I.tuple h
   cases hy with
   | non=>cases ry; exact ⟨SeqAt.RcAt.tuple_none p hu0,SeqAt.RcNeAt.tuple_none p hu0,SeqAt.EqAt.tuple_none p hu0⟩
   | bl b=>cases ry; exact ⟨SeqAt.RcAt.tuple_bool b p hu0,SeqAt.RcNeAt.tuple_bool b p hu0,SeqAt.EqAt.tuple_bool b p hu0⟩
   | int b=>obtain ⟨t2,rfl⟩:=ry; exact ⟨SeqAt.RcAt.tuple_int b t2 p hu0,SeqAt.RcNeAt.tuple_int b t2 p hu0,SeqAt.EqAt.tuple_int b t2 p hu0⟩
   | str b=>obtain ⟨t2,rfl⟩:=ry; exact ⟨SeqAt.RcAt.tuple_str b t2 p hu0,SeqAt.RcNeAt.tuple_str b t2 p hu0,SeqAt.EqAt.tuple_str b t2 p hu0⟩
   | lst h' _ =>
    cases ry
    obtain ⟨its',_,p',_⟩:=I.list h'
    exact ⟨SeqAt.RcAt.tuple_list p p'.isList hu0,SeqAt.RcNeAt.tuple_list p p'.isList hu0,SeqAt.EqAt.tuple_list p p'.isList hu0⟩
   | @tup b ys es h' t' =>
    cases ry
    obtain ⟨its',rv',p',hz'⟩:=I.tuple h'
    have l1:=rv.length
    have l2:=rv'.length
    have l3:=t.length
    have l4:=t'.length
    have e1:((List.range (min its.toArray.size its'.toArray.size)).all (fun j=>deq (ds.getD j .non) (es.getD j .non)) && its.toArray.size == its'.toArray.size)=deqs ds es:=by
     rw [← vc,show its.toArray.size=ds.length by simp; nofun,show its'.toArray.size=es.length by simp; nofun]
    have main:SeqAt.RcAt A s (.ref a) (.ref b) (deqs ds es)∧SeqAt.RcNeAt A s (.ref a) (.ref b) (!deqs ds es):=by
     rw [← e1]
     exact ⟨SeqAt.RcAt.tuples p p' hu0 (items t t' (by nofun) rv rv'),SeqAt.RcNeAt.tuples p p' hu0 (items t t' (by nofun) rv rv')⟩
    refine ⟨main.1,main.2,?_⟩
    show SeqAt.EqAt A s (.ref a) (.ref b) (deqs ds es)
    by_cases hab:a=b
    ·subst hab
     have ee:=I.tuple_inj h h'
     subst ee
     rw [Deeps.inj I t t',deqs_refl]
     exact SeqAt.EqAt.same _
    ·exact SeqAt.EqAt.of_refs hab main.1
end
section
variable {X:Cx}
def Ft (K:PySem.W.Frag):R2:=fun x y H Q=>∃ d e,Deep K H x d∧Deep K H y e∧dep d≤40∧Q (.bl (deq d e)) H
def Fu (K:PySem.W.Frag):R2:=fun x y H Q=>∃ d e,Deep K H x d∧Deep K H y e∧dep d≤40∧Q (.bl (!deq d e)) H
theorem Cm (hu:X.A.units+64 < cLine):OpR X (compareOp .Eq) (Ft X.K):=by
 intro pins s σ H x y v u Q I rx ry h
 obtain ⟨d,e,hd,he,hn,q⟩:=h
 exact (lP I 40 d e x y v u X.A hn (by nofun) hd he rx ry).1 _ _ _ _ ⟨.bl _,H,I,rfl,q⟩
theorem Cn (hu:X.A.units+64 < cLine):OpR X (compareOp .NotEq) (Fu X.K):=by
 intro pins s σ H x y v u Q I rx ry h
 obtain ⟨d,e,hd,he,hn,q⟩:=h
 exact (lP I 40 d e x y v u X.A hn (by nofun) hd he rx ry).2.1 _ _ _ _ ⟨.bl _,H,I,rfl,q⟩
end
end L2
namespace L2
open PySem PySem.Spec PyProof.Rows
structure Own (P:Program)(w:World)(K:PySem.W.Frag)(mg:Str→Option Value)(base:Heap)(x:Str)(k:Nat)(ps:List Str)(sp:Sp):Prop where
 ex:∃ (f:Addr) (fd:FuncData),FnOk P w K mg base CX0 k f fd ps sp∧mg x=some (.ref f)∧PySem.W.keepIn K (.ref f)=true∧Binds K fd ps []
def Glo (mg:Str→Option Value)(x:Str)(v:V):Prop:=∃ u,mg x=some u∧RelV v u
section
variable {X:Cx}
theorem Co {x:Str}{k:Nat}{ps:List Str}{sp:Sp}{e:Expr}{es:List Expr}{t:TA}{p pos:Pos}(O:Own X.prog X.w X.K X.mg X.base x k ps sp)(hr:Room k X.A)(ha:PA X (e::es) t)(hg:autoParam (Gl X x) L2.aR._auto_1)
  (hdb:autoParam ((x == ("__debug__" : Str))=false) L2.aD._auto_1) (he:autoParam (starEach (e::es) X.env=(false,eval e X.env)::starEach es X.env) L2.aR._auto_1) (hpl:autoParam ((backTo pos (starEach es X.env)).any (·.1)=false) L2.aR._auto_1) :
  PE X (.Call (.Name x p) (e::es) [] pos) (ku sp [] E0 t):=by
 obtain ⟨f,fd,F,hm,hk,hb⟩:=O.ex
 exact qU F hr hg hm hk hb .nil EN ha hdb he hpl
theorem xx {x:Str} {v:V} {pos:Pos} (h:Glo X.mg x v) (hg:autoParam (Gl X x) L2.aR._auto_1) (hd:autoParam ((x == ("__debug__" : Str))=false) L2.aD._auto_1):PE X (.Name x pos) (tC v):=by
 obtain ⟨u,hm,r⟩:=h
 exact ym hg hm r hd
theorem ES {x:Str} {T:String} {pos:Pos} (hm:X.mg x=none) (hv:bootBuiltins x=some (.type T)) (hg:autoParam (Gl X x) L2.aR._auto_1) (hn:autoParam (x ≠ "__name__") L2.aD._auto_1) (hd:autoParam ((x == ("__debug__" : Str))=false) L2.aD._auto_1):PE X (.Name x pos) (tC (.ty T)) :=
 yn hg hm hv rfl hn hd
def Cp (K:PySem.W.Frag):V→Option Int→Option Int→Hp→VK→Prop:=fun x lo hi H Q=>Fs x lo hi H Q∨Fp K x lo hi H Q∨Fl K x lo hi H Q
theorem xy:SlR X (Cp X.K):=Cl.or (yS.or B8)
def D7 (K:PySem.W.Frag):List V→Hp→VK→Prop:=fun xs H Q=>(∃ z,xs=[.str z]∧z.length≤sizeLine∧Q (.int z.length) H)∨(∃ p ys,xs=[.ref p]∧(SqL K H p ys∨SqT K H p ys)∧Q (.int ys.length) H)∨(∃ a kvs,xs=[V.ref a]∧Rd H a (.dK kvs)∧Q (.int kvs.length) H)
theorem pP:CallR X (.builtin "len") (fun xs H Q=>∃ a kvs,xs=[V.ref a]∧Rd H a (.dK kvs)∧Q (.int kvs.length) H):=by
 intro pins s σ H xs us Q I r h
 obtain ⟨a,kvs,rfl,ha,q⟩:=h
 obtain ⟨u,rfl,ru⟩:=eU r
 cases ru
 exact EL I ha fun t s' I'=>⟨.int kvs.length,H,I',⟨t,rfl⟩,q⟩
theorem DGet.kR {H:Hp}{a:Addr}{kvs:List (Key×V)}{k:Key}(e:Rd H a (.dK kvs)):DGet H a (kV k) (nY kvs k):=.inl ⟨kvs,k,e,rfl,rfl⟩
theorem rn:CallR X (.builtin "len") (D7 X.K):=lI.or (lH.or pP)
def ET:List V→Hp→VK→Prop:=fun xs H Q=>∃ i j,xs=[.int i,.int j]∧Q (.int (if j > i then j else i)) H
def EU:List V→Hp→VK→Prop:=fun xs H Q=>∃ i j,xs=[.int i,.int j]∧Q (.int (if j < i then j else i)) H
theorem rp (hc:X.calm=true):CallR X (.builtin "max") ET:=qQ hc
theorem rq (hc:X.calm=true):CallR X (.builtin "min") EU:=qR hc
def D8 (K:PySem.W.Frag):List V→Hp→VK→Prop:=fun xs H Q=>∃ (p:Addr) (bs:List Bool),xs=[.ref p]∧SqL K H p (bs.map V.bl)∧Q (.bl (bs.all id)) H
theorem rz (hc:X.calm=true):CallR X (.builtin "all") (D8 X.K):=va hc
def rInS:R2:=fun x y H Q=>∃ (c:Nat) (j:Str),x=.str ⟨#[c]⟩∧y=.str j∧Q (.bl (decide (c ∈ j.cps.toList))) H
def Fv (K:PySem.W.Frag):R2:=fun x y H Q=>rInS x y H Q∨rIn K false x y H Q
theorem Cq:OpR X (compareOp .In) (Fv X.K):=OpR.or pN qY
end
section
variable {σ:St} {H:Hp} {Q:VK} {R:Bool→Hp→Prop} {QA:List V→Hp→Prop} {D:Ends} {K:PySem.W.Frag}
end
theorem dh {H:Hp}{p:Addr}{o:HO}(hp:H p=none):Same H (upd H p o):=fun b u h=>by rw [bN (bI h hp)]; exact h
theorem SqT.same {K:PySem.W.Frag}{H H':Hp}{a:Addr}{xs:List V}(h:SqT K H a xs)(e:Same H H'):SqT K H' a xs:=by
 rcases h with (h | ⟨o,h⟩) | h
 ·exact .inl (.inl (e _ _ h))
 ·exact .inl (.inr ⟨o,e _ _ h⟩)
 ·exact .inr h
end L2
namespace L2
open PySem PySem.Spec PyProof.Rows
def y4 (N:List Str)(names:List (Str×NameKind)):List Str→List Nat→Bool
 | [],[]=>true
 | x::F,i::ixs=>(N[i]? == some x) && (names.lookup x == some .free) && y4 N names F ixs
 | _,_=>false
theorem oa {N:List Str}{names:List (Str×NameKind)}:∀ {F:List Str} {ixs:List Nat},y4 N names F ixs=true→ixs.length=F.length ∧
  ∀ (j i:Nat) (x:Str),ixs[j]?=some i→F[j]?=some x→N[i]?=some x∧names.lookup x=some .free
 | [],[],_=>⟨rfl,fun j i x h=>by simp at h⟩
 | [],_::_,h=>(Bool.false_ne_true h).elim
 | _::_,[],h=>(Bool.false_ne_true h).elim
 | y::F,k::ixs,h=>by
  obtain ⟨h,h3⟩:=Bool.and_eq_true_iff.mp h
  obtain ⟨h1,h2⟩:=Bool.and_eq_true_iff.mp h
  replace h1:=eq_of_beq h1
  replace h2:=eq_of_beq h2
  obtain ⟨l,r⟩:=oa h3
  refine ⟨by rw [List.length_cons,List.length_cons,l],fun j i x a b=>?_⟩
  cases j with
  | zero =>
   simp at a b
   subst a b
   exact ⟨h1,h2⟩
  | succ j=>exact r j i x (by first|exact List.mem_singleton.mp a|simpa using a) (by first|exact List.mem_singleton.mp b|simpa using b)
def Fw (names out:List (Str×NameKind)):Bool:=names.all fun y=>(y.2 != .cell) && (y.2 != .local || names.lookup y.1 == some .local) && (y.2 != .free || out.lookup y.1 == some .cell || out.lookup y.1 == some .free)
theorem CompScope.of {X:Cx}{T F:List Str}{ixs:List Nat}{scope:Scope}(kind:scope.kind=.function)(h1:y4 X.N scope.names F ixs=true)(h2:Fw scope.names X.env.scope.names=true):CompScope X T F ixs scope:=by
 obtain ⟨l,c⟩:=oa h1
 unfold Fw at h2
 rw [List.all_eq_true] at h2
 refine ⟨kind,fun y hy=>?_,fun y hy e=>?_,fun j i x=>c j i x,l,fun y hy e=>?_⟩
 ·have:=h2 y hy
  simp only [Bool.and_eq_true] at this
  simpa using this.1.1
 ·have:=h2 y hy
  simp only [Bool.and_eq_true] at this
  have q:=this.1.2
  rw [e] at q
  simpa using q
 ·have:=h2 y hy
  simp only [Bool.and_eq_true] at this
  have q:=this.2
  rw [e] at q
  simpa using q
section
variable {X:Cx}
def D9 (K:PySem.W.Frag):R2:=fun x y H Q=>rEq x y H Q∨Ft K x y H Q
def Ea (K:PySem.W.Frag):R2:=fun x y H Q=>rNe x y H Q∨Fu K x y H Q
theorem Cr (hu:X.A.units+64 < cLine):OpR X (compareOp .Eq) (D9 X.K):=Ez.or (Cm hu)
theorem Cs (hu:X.A.units+64 < cLine):OpR X (compareOp .NotEq) (Ea X.K):=EA.or (Cn hu)
end
end L2
namespace L2
open PySem
theorem cS:bootBuiltins "len" = some (.builtin "len"):=by decide +kernel
theorem xz:bootBuiltins "max" = some (.builtin "max"):=by decide +kernel
theorem xA:bootBuiltins "min" = some (.builtin "min"):=by decide +kernel
theorem bM:bootBuiltins "isinstance" = some (.builtin "isinstance"):=by decide +kernel
theorem jR:bootBuiltins "all" = some (.builtin "all"):=by decide +kernel
theorem lQ:bootBuiltins "sorted" = some (.builtin "sorted"):=by decide +kernel
theorem iL:bootBuiltins "str" = some (.type "str"):=by decide +kernel
theorem nc:bootBuiltins "list" = some (.type "list"):=by decide +kernel
theorem gr:bootBuiltins "tuple" = some (.type "tuple"):=by decide +kernel
theorem Cu:bootBuiltins "set" = some (.type "set"):=by decide +kernel
end L2
namespace L2
open PySem
theorem xB {α:Type}{xs:List α}{i:Int}(h0:0≤i)(h:i < xs.length):∃ c,atI xs i=some c∧c ∈ xs:=by
 obtain ⟨k,rfl⟩:=Int.eq_ofNat_of_zero_le h0
 have hk:k < xs.length:=by nofun
 exact ⟨xs[k],eX (List.getElem?_eq_getElem hk),List.getElem_mem hk⟩
theorem og {α:Type}{xs:List α}{lo hi:Option Int}{c:α}(h:c ∈ dP xs lo hi):c ∈ xs:=List.mem_of_mem_drop (List.mem_of_mem_take h)
theorem kC {α:Type}(xs:List α)(lo hi:Option Int):(dP xs lo hi).length≤xs.length:=by
 unfold dP
 rw [List.length_take,List.length_drop]
 nofun
theorem ng {α:Type}(xs:List α)(k:Nat):dP xs none (some (k:Int))=xs.take k:=by
 unfold dP
 rw [HT.sIx_none,HT.sIx_nat,Nat.sub_zero,List.drop_zero]
 by_cases h:k≤xs.length
 ·rw [Nat.min_eq_left h]
 ·rw [Nat.min_eq_right (by nofun),List.take_of_length_le (Nat.le_refl _),List.take_of_length_le (by nofun)]
theorem iM {α:Type}(xs:List α)(k:Nat):dP xs (some (k:Int)) none=xs.drop k:=by
 unfold dP
 rw [HT.sIx_none,HT.sIx_nat]
 by_cases h:k≤xs.length
 ·rw [Nat.min_eq_left h,List.take_of_length_le (by rw [List.length_drop]; nofun)]
 ·rw [Nat.min_eq_right (by nofun),List.drop_of_length_le (Nat.le_refl _),List.drop_of_length_le (by nofun)]
  simp
theorem nh {z:Str}{l:List Nat}(h:z.cps.toList=l):z.length=l.length:=by rw [← h]; simp [Str.length]
end L2
namespace L2
open PySem PySem.Spec PyProof.Rows
section
variable {X:Cx}
theorem Cv (K:PySem.W.Frag)(hu:X.A.units+64 < cLine)(h:autoParam (X.K=K) L2.aR._auto_1):OpR X (compareOp .Eq) (D9 K):=by subst h; exact Cr hu
theorem Cw (K:PySem.W.Frag)(hu:X.A.units+64 < cLine)(h:autoParam (X.K=K) L2.aR._auto_1):OpR X (compareOp .NotEq) (Ea K):=by subst h; exact Cs hu
theorem y9 (K:PySem.W.Frag)(h:autoParam (X.K=K) L2.aR._auto_1):SlR X (Cp K):=by subst h; exact xy
theorem rA (K:PySem.W.Frag)(h:autoParam (X.K=K) L2.aR._auto_1):CallR X (.builtin "len") (D7 K):=by subst h; exact rn
theorem rB (K:PySem.W.Frag)(hc:X.calm=true)(h:autoParam (X.K=K) L2.aR._auto_1):CallR X (.builtin "all") (D8 K):=by subst h; exact rz hc
theorem vd (K:PySem.W.Frag)(h:autoParam (X.K=K) L2.aR._auto_1):MtR X "str.join" (vb K):=by subst h; exact y3
theorem Cy {o e:Expr} {es:List Expr} {to:TE} {t:TA} {name:Str} {apos cpos:Pos} {T id:String} {r:V→List V→Hp→VK→Prop} (K:PySem.W.Frag) (pa:PlainAttrs T) (slot:Slot T name id) (hty:typeOf (.builtin id)=pure (.type "method_descriptor")) (hm:MtR X id r) (ho:PE X o to) (ha:PA X (e::es) t)
  (hK:autoParam (X.K=K) L2.aR._auto_1) (hbase:autoParam (attributeBase o name X.env (eval o X.env)=eval o X.env) L2.aR._auto_1)
  (hfew:autoParam (((backTo cpos (starEach (e::es) X.env)).all (fun x=>!x.1) && (backToKw cpos (keywordEach [] X.env)).all (fun x=>x.1.isSome)
   && decide ((e::es).length+([]:List Keyword).length+(if ([]:List Keyword).isEmpty then 0 else 1) < 30))=true) L2.aR._auto_1)
  (hline:autoParam ((apos.endLine == cpos.line)=true) L2.aR._auto_1) (hs:autoParam (starEach (e::es) X.env=(false,eval e X.env)::starEach es X.env) L2.aR._auto_1) (hplain:autoParam ((backTo cpos (starEach es X.env)).any (·.1)=false) L2.aR._auto_1) :
  PE X (.Call (.Attribute o name apos) (e::es) [] cpos) (tBM K T r to t):=by subst hK; exact EI pa slot hty hm ho ha hbase hfew hline hs hplain
theorem za {o:Expr} {to:TE} {name:Str} {apos cpos:Pos} {T id:String} {r:V→List V→Hp→VK→Prop} (K:PySem.W.Frag) (pa:PlainAttrs T) (slot:Slot T name id) (hty:typeOf (.builtin id)=pure (.type "method_descriptor")) (hm:MtR X id r) (ho:PE X o to)
  (hK:autoParam (X.K=K) L2.aR._auto_1) (hbase:autoParam (attributeBase o name X.env (eval o X.env)=eval o X.env) L2.aR._auto_1) (hline:autoParam ((apos.endLine == cpos.line)=true) L2.aR._auto_1):PE X (.Call (.Attribute o name apos) [] [] cpos) (D6 K T r to):=by subst hK; exact Cf pa slot hty hm ho hbase hline
theorem zb {es:List Expr}{k:Nat}{t:TGs}{n:Nat}{pos:Pos}(K:PySem.W.Frag)(hc:X.calm=true)(h:PGs X es t)(hK:autoParam (X.K=K) L2.aR._auto_1)
  (hn:autoParam ((assignEach es X.env).length=n) L2.aR._auto_1) (hst:autoParam ((assignEach es X.env).findIdx? (·.1)=none) L2.aR._auto_1):PG X (.Tuple es k pos) (D3 K n t):=by subst hK; exact BF hc h hn hst
theorem ve {tg l:Expr}{tl:TE}(K:PySem.W.Frag)(hl:PE X l tl)(hK:autoParam (X.K=K) L2.aR._auto_1):PI X tg l (pE K tl):=by subst hK; exact yy hl
theorem zc {tg l:Expr}{tl:TE}(K:PySem.W.Frag)(hl:PE X l tl)(hK:autoParam (X.K=K) L2.aR._auto_1):PI X tg l (D4 K tl):=by subst hK; exact BK hl
end
end L2
namespace L2
open PySem
end L2
namespace L2
theorem il {α:Type}:∀ zs:List α,(zs.map fun _=>1).sum=zs.length
 | []=>rfl
 | z::zs=>by rw [List.map_cons,List.sum_cons,il zs,List.length_cons]; nofun
end L2
namespace L2
open PySem PySem.Spec PyProof.Rows
end L2
namespace L2
open PySem PySem.Spec PyProof.Rows
def cO:Expr→Bool
 | .Starred _ _=>false
 | _=>true
theorem cw {e:Expr}{es:List Expr}{env:Env}(h:cO e=true):starEach (e::es) env=(false,eval e env)::starEach es env:=by
 cases e <;> first | rfl | (cases h)
theorem et {es:List Expr}{env:Env}{pos:Pos}(h:es.all cO=true):(backTo pos (starEach es env)).any (·.1)=false:=by
 induction es with
 | nil=>rfl
 | cons e es ih =>
  rw [List.all_cons,Bool.and_eq_true] at h
  rw [cw h.1]
  have:=ih h.2
  simpa [backTo] using this
section
variable {X:Cx}
theorem pa_c {e:Expr}{es:List Expr}{te:TE}{t:TA}(ha:PE X e te)(hr:PA X es t)(hn:autoParam (cO e=true) L2.aR._auto_1):PA X (e::es) (fT te t):=qT ha hr (cw hn)
theorem zd {x:Str}{k:Nat}{ps:List Str}{sp:Sp}{e:Expr}{es:List Expr}{t:TA}{p pos:Pos}(O:Own X.prog X.w X.K X.mg X.base x k ps sp)(hr:Room k X.A)(ha:PA X (e::es) t)(hg:autoParam (Gl X x) L2.aR._auto_1)(hn:autoParam ((e::es).all cO=true) L2.aR._auto_1)
  (hdb:autoParam ((x == ("__debug__" : Str))=false) L2.aD._auto_1):PE X (.Call (.Name x p) (e::es) [] pos) (ku sp [] E0 t):=by
 have h:=hn
 rw [List.all_cons,Bool.and_eq_true] at h
 exact Co O hr ha hg hdb (cw h.1) (et h.2)
theorem rC {x:Str} {p pos:Pos} {e:Expr} {es:List Expr} {t:TA} {id:String} {r:List V→Hp→VK→Prop} (hc:CallR X (.builtin id) r) (hm:X.mg x=none) (hv:bootBuiltins x=some (.builtin id)) (ha:PA X (e::es) t) (hg:autoParam (Gl X x) L2.aR._auto_1) (hns:autoParam ((e::es).all cO=true) L2.aR._auto_1) (hn:autoParam (x ≠ "__name__") L2.aD._auto_1)
  (hdb:autoParam ((x == ("__debug__" : Str))=false) L2.aD._auto_1):PE X (.Call (.Name x p) (e::es) [] pos) (tCB r t):=by
 have h:=hns
 rw [List.all_cons,Bool.and_eq_true] at h
 exact uZ hc hg hm hv ha hn hdb (cw h.1) (et h.2)
theorem rD {x:Str} {p pos:Pos} {e:Expr} {es:List Expr} {t:TA} {T:String} {r:List V→Hp→VK→Prop} (hc:CallR X (.type T) r) (hm:X.mg x=none) (hv:bootBuiltins x=some (.type T)) (ha:PA X (e::es) t) (hg:autoParam (Gl X x) L2.aR._auto_1) (hns:autoParam ((e::es).all cO=true) L2.aR._auto_1) (hn:autoParam (x ≠ "__name__") L2.aD._auto_1)
  (hdb:autoParam ((x == ("__debug__" : Str))=false) L2.aD._auto_1):PE X (.Call (.Name x p) (e::es) [] pos) (tCB r t):=by
 have h:=hns
 rw [List.all_cons,Bool.and_eq_true] at h
 exact qW hc hg hm hv ha hn hdb (cw h.1) (et h.2)
end
end L2
namespace L2
open PySem PySem.Spec PyProof.Rows
structure BE (X:Cx)(e:Expr)(t:TE):Prop where h:PE X e t
structure BT (X:Cx)(e:Expr)(t:TT):Prop where h:PT X e t
structure BW (X:Cx)(e:Expr)(t:TT):Prop where h:PW X e t
structure BA (X:Cx)(es:List Expr)(t:TA):Prop where h:PA X es t
structure BS (X:Cx)(s:Stmt)(t:TS):Prop where h:PS X s t
structure BSs (X:Cx)(s:List Stmt)(t:TS):Prop where h:PSs X s t
structure BG (X:Cx)(e:Expr)(t:TG):Prop where h:PG X e t
structure BGs (X:Cx)(es:List Expr)(t:TGs):Prop where h:PGs X es t
structure BI (X:Cx)(tg e:Expr)(t:TI):Prop where h:PI X tg e t
structure BO (X:Cx)(e:Option Expr)(t:TO):Prop where h:PO X e t
structure BIf (X:Cx)(es:List Expr)(t:TT):Prop where h:yV X es t
structure BOp (X:Cx)(f:Value→Value→Sem Value)(r:R2):Prop where h:OpR X f r
structure BCall (X:Cx)(f:Value)(r:List V→Hp→VK→Prop):Prop where h:CallR X f r
structure BMt (X:Cx)(id:String)(r:V→List V→Hp→VK→Prop):Prop where h:MtR X id r
section
variable {X:Cx}
theorem cy (i:Nat) {x:Str} {pos:Pos} (hN:X.N[i]?=some x) (hv:Vis X.env.scope x) (hd:autoParam ((x == ("__debug__" : Str))=false) L2.aD._auto_1) (hcd:autoParam ((x == ("__classdict__" : Str))=false) L2.aD._auto_1):BE X (.Name x pos) (qz i):=⟨Br hN hv hd hcd⟩
theorem ad (i:Nat){x:Str}{pos:Pos}(hN:autoParam (X.N[i]?=some x) L2.aR._auto_1)(hv:autoParam (X.env.scope.names.lookup x=some .local) L2.aR._auto_1)(hd:autoParam ((x==("__debug__":Str))=false) L2.aD._auto_1)(hcd:autoParam ((x==("__classdict__":Str))=false) L2.aD._auto_1):BE X (.Name x pos) (qz i):=cy i hN (.inl hv) hd hcd
theorem ak {i j pos}:BE X (.Constant (.int i) j pos) (tC (.int i)):=⟨Bs⟩
theorem eY {b j pos}:BE X (.Constant (.bool b) j pos) (tC (.bl b)):=⟨Bt⟩
theorem xC {j pos}:BE X (.Constant .none j pos) (tC .non):=⟨Bu⟩
theorem aB {x j pos}:BE X (.Constant (.str x) j pos) (tC (.str x)):=⟨Bv⟩
theorem lR {x:Str} {v:V} {pos:Pos} (h:Glo X.mg x v) (hg:X.env.kindOf x=some .globalImplicit) (hd:autoParam ((x == ("__debug__" : Str))=false) L2.aD._auto_1):BE X (.Name x pos) (tC v):=⟨xx h hg hd⟩
theorem jA {x:Str} {T:String} {pos:Pos} (hm:X.mg x=none) (hv:bootBuiltins x=some (.type T)) (hg:X.env.kindOf x=some .globalImplicit) (hn:autoParam (x ≠ "__name__") L2.aD._auto_1) (hd:autoParam ((x == ("__debug__" : Str))=false) L2.aD._auto_1):BE X (.Name x pos) (tC (.ty T)):=⟨ES hm hv hg hn hd⟩
theorem bn {a b:Expr}{ta tb:TE}{pos:Pos}{op:Operator}{r:R2}(ho:BOp X (binaryOp op) r)(ha:BE X a ta)(hb:BE X b tb):BE X (.BinOp a op b pos) (tOp r ta tb):=⟨Ew ho.h ha.h hb.h⟩
theorem Cz {a:Expr}{ta:TE}{pos:Pos}(ha:BE X a ta):BE X (.UnaryOp .USub a pos) (tUn (rU fun i=>.int (-i)) ta):=⟨Ex BV ha.h⟩
theorem eO {op}{a:Expr}{t:TE}{pos:Pos}(h:BE X a t):BE X (.BoolOp op [a] pos) t:=⟨BB h.h⟩
theorem gt {a b:Expr}{rest:List Expr}{ta tb:TE}{pos:Pos}(ha:BE X a ta)(hb:BE X (.BoolOp .And (b::rest) pos) tb):BE X (.BoolOp .And (a::b::rest) pos) (yq ta tb):=⟨BC ha.h hb.h⟩
theorem CA {a b:Expr}{rest:List Expr}{ta tb:TE}{pos:Pos}(ha:BE X a ta)(hb:BE X (.BoolOp .Or (b::rest) pos) tb):BE X (.BoolOp .Or (a::b::rest) pos) (En ta tb):=⟨Eo ha.h hb.h⟩
theorem eP {a b:Expr}{ta tb:TE}{pos:Pos}{op:CmpOp}{r:R2}(ho:BOp X (compareOp op) r)(ha:BE X a ta)(hb:BE X b tb)(hm:behindInMarks op b=false):BE X (.Compare a [op] [b] pos) (tOp r ta tb):=⟨yF ho.h ha.h hb.h hm⟩
theorem oh {a b c:Expr}{ta tb tc:TE}{pos:Pos}{op op':CmpOp}{r r':R2}(ho:BOp X (compareOp op) r)(ho':BOp X (compareOp op') r')(ha:BE X a ta)(hb:BE X b tb)(hc:BE X c tc)(hm:lastMarks [op,op'] [b,c]=false):BE X (.Compare a [op,op'] [b,c] pos) (lA r r' ta tb tc):=⟨uX ho.h ho'.h ha.h hb.h hc.h hm⟩
theorem CB {a b c:Expr}{tA:TT}{ta tb:TE}{pos:Pos}(hc:BT X c tA)(ha:BE X a ta)(hb:BE X b tb):BE X (.IfExp c a b pos) (tIf tA ta tb):=⟨uR hc.h ha.h hb.h⟩
theorem aA {x:Str}{k:Nat}{ps:List Str}{sp:Sp}{e:Expr}{es:List Expr}{t:TA}{p pos:Pos}(O:Own X.prog X.w X.K X.mg X.base x k ps sp)(hr:Room k X.A)(ha:BA X (e::es) t)(hg:X.env.kindOf x=some .globalImplicit)(hn:(e::es).all cO=true)
  (hdb:autoParam ((x == ("__debug__" : Str))=false) L2.aD._auto_1):BE X (.Call (.Name x p) (e::es) [] pos) (ku sp [] E0 t):=⟨zd O hr ha.h hg hn hdb⟩
theorem ay {x:Str} {p pos:Pos} {e:Expr} {es:List Expr} {t:TA} {id:String} {r:List V→Hp→VK→Prop} (hc:BCall X (.builtin id) r) (hm:X.mg x=none) (hv:bootBuiltins x=some (.builtin id)) (ha:BA X (e::es) t) (hg:X.env.kindOf x=some .globalImplicit) (hns:(e::es).all cO=true) (hn:autoParam (x ≠ "__name__") L2.aD._auto_1)
  (hdb:autoParam ((x == ("__debug__" : Str))=false) L2.aD._auto_1):BE X (.Call (.Name x p) (e::es) [] pos) (tCB r t):=⟨rC hc.h hm hv ha.h hg hns hn hdb⟩
theorem fH {x:Str} {p pos:Pos} {e:Expr} {es:List Expr} {t:TA} {T:String} {r:List V→Hp→VK→Prop} (hc:BCall X (.type T) r) (hm:X.mg x=none) (hv:bootBuiltins x=some (.type T)) (ha:BA X (e::es) t) (hg:X.env.kindOf x=some .globalImplicit) (hns:(e::es).all cO=true) (hn:autoParam (x ≠ "__name__") L2.aD._auto_1)
  (hdb:autoParam ((x == ("__debug__" : Str))=false) L2.aD._auto_1):BE X (.Call (.Name x p) (e::es) [] pos) (tCB r t):=⟨rD hc.h hm hv ha.h hg hns hn hdb⟩
theorem vf {es:List Expr}{env:Env}{pos:Pos}(h:es.all cO=true)(hl:es.length < 29):((backTo pos (starEach es env)).all (fun x=>!x.1) && (backToKw pos (keywordEach [] env)).all (fun x=>x.1.isSome)
      && decide (es.length+([]:List Keyword).length+(if ([]:List Keyword).isEmpty then 0 else 1) < 30))=true:=by
  have h1:(backTo pos (starEach es env)).all (fun x=>!x.1)=true:=by
    clear hl
    induction es with
    | nil=>rfl
    | cons e es ih =>
      rw [List.all_cons,Bool.and_eq_true] at h
      rw [cw h.1]
      exact ih h.2
  rw [h1]
  exact decide_eq_true (Nat.lt_succ_of_lt hl)
theorem cn {o e:Expr} {es:List Expr} {to:TE} {t:TA} {name:Str} {apos cpos:Pos} {T id:String} {r:V→List V→Hp→VK→Prop} (K:PySem.W.Frag) (pa:PlainAttrs T) (slot:Slot T name id) (hty:typeOf (.builtin id)=pure (.type "method_descriptor")) (hm:BMt X id r) (ho:BE X o to) (ha:BA X (e::es) t)
  (hK:X.K=K) (hbase:attributeBase o name X.env (eval o X.env)=eval o X.env) (hn:(e::es).all cO=true) (hl:(e::es).length < 29) (hline:(apos.endLine == cpos.line)=true):BE X (.Call (.Attribute o name apos) (e::es) [] cpos) (tBM K T r to t):=by
 have h:=hn
 rw [List.all_cons,Bool.and_eq_true] at h
 exact ⟨Cy K pa slot hty hm.h ho.h ha.h hK hbase (vf hn hl) hline (cw h.1) (et h.2)⟩
theorem vg {o:Expr} {to:TE} {name:Str} {apos cpos:Pos} {T id:String} {r:V→List V→Hp→VK→Prop} (K:PySem.W.Frag) (pa:PlainAttrs T) (slot:Slot T name id) (hty:typeOf (.builtin id)=pure (.type "method_descriptor")) (hm:BMt X id r) (ho:BE X o to)
  (hK:X.K=K) (hbase:attributeBase o name X.env (eval o X.env)=eval o X.env) (hline:(apos.endLine == cpos.line)=true):BE X (.Call (.Attribute o name apos) [] [] cpos) (D6 K T r to):=⟨za K pa slot hty hm.h ho.h hK hbase hline⟩
theorem im {e:Expr}{te:TE}{lo hi:Option Expr}{tl th:TO}{pos p2:Pos}(K:PySem.W.Frag)(he:BE X e te)(hl:BO X lo tl)(hu:BO X hi th)(hK:X.K=K):BE X (.Subscript e (.Slice lo hi none p2) pos) (tSl (Cp K) te tl th):=⟨nX (y9 K hK) he.h hl.h hu.h⟩
theorem dQ {es:List Expr}{t:TA}{pos:Pos}(h:BA X es t):BE X (.List es pos) (EG t):=⟨B5 h.h⟩
theorem iN {es:List Expr}{t:TA}{x1}{pos:Pos}(h:BA X es t):BE X (.Tuple es x1 pos) (D5 t):=⟨BZ h.h⟩
theorem ze {pos:Pos}:BE X (.Dict [] [] pos) re:=⟨u7⟩
theorem d7 {T F:List Str}{ixs:List Nat}{scope:Scope}{elt tg iter:Expr}{ifs:List Expr}{pos:Pos}{wi:TI}{g:TG}{tc:TT}{te:TE}(hc:X.calm=true)(S:CompScope X T F ixs scope)(hi:BI X tg iter wi)
  (hg:∀ C s H fp,BG (bR X (T++F) scope (aZ X.env scope.names []) C s H fp) tg g) (ht:∀ C s H fp,BIf (bR X (T++F) scope (aZ X.env scope.names []) C s H fp) ifs tc) (he:∀ C s H fp,BE (bR X (T++F) scope (aZ X.env scope.names []) C s H fp) elt te)
  (hs:∀ x,foldedSetIterable iter X.env x=pure x):BE X (.ListComp elt [⟨tg,iter,ifs,0⟩] scope pos) (ie T.length ixs wi g tc te) :=
 ⟨y0 hc S hi.h (fun C s H fp=>(hg C s H fp).h) (fun C s H fp=>(ht C s H fp).h) (fun C s H fp=>(he C s H fp).h) hs⟩
theorem ae:BA X [] m5:=⟨xu⟩
theorem aw {e:Expr}{es:List Expr}{te:TE}{t:TA}(ha:BE X e te)(hr:BA X es t)(hn:cO e=true):BA X (e::es) (fT te t):=⟨pa_c ha.h hr.h hn⟩
theorem cq:BO X none m6:=⟨yL⟩
theorem bC {e:Expr}{te:TE}(h:BE X e te):BO X (some e) (yJ te):=⟨yM h.h⟩
theorem dH:BIf X [] EQ:=⟨yY⟩
theorem bP {a b:Expr}{ta tb:TE}{pos:Pos}{op:CmpOp}{r:R2}(ho:BOp X (compareOp op) r)(ha:BE X a ta)(hb:BE X b tb)(hm:behindInMarks op b=false):BT X (.Compare a [op] [b] pos) (m3 (tOp r ta tb)):=⟨yG ho.h ha.h hb.h hm⟩
theorem kD {a b c:Expr}{ta tb tc:TE}{pos:Pos}{op op':CmpOp}{r r':R2}(ho:BOp X (compareOp op) r)(ho':BOp X (compareOp op') r')(ha:BE X a ta)(hb:BE X b tb)(hc:BE X c tc)(hm:lastMarks [op,op'] [b,c]=false):BT X (.Compare a [op,op'] [b,c] pos) (m3 (lA r r' ta tb tc)):=⟨uY ho.h ho'.h ha.h hb.h hc.h hm⟩
theorem di {a:Expr}{tA:TT}{pos:Pos}(ha:BT X a tA):BT X (.UnaryOp .Not a pos) (El tA):=⟨Bz ha.h⟩
theorem xD {e:Expr}{t:TT}(h:BW X e t):BT X e t:=⟨h.h.pt⟩
theorem nk {a:Expr}{tA:TT}{pos:Pos}(ha:BT X a tA):BW X (.BoolOp .And [a] pos) tA:=⟨yo ha.h⟩
theorem lS {a:Expr}{tA:TT}{pos:Pos}(ha:BT X a tA):BW X (.BoolOp .Or [a] pos) tA:=⟨Bx ha.h⟩
theorem rE {a b:Expr}{rest:List Expr}{tA tB':TT}{pos:Pos}(ha:BT X a tA)(hb:BW X (.BoolOp .And (b::rest) pos) tB'):BW X (.BoolOp .And (a::b::rest) pos) (Ek tA tB'):=⟨By ha.h hb.h⟩
theorem rF {a b:Expr}{rest:List Expr}{tA tB':TT}{pos:Pos}(ha:BT X a tA)(hb:BW X (.BoolOp .Or (b::rest) pos) tB'):BW X (.BoolOp .Or (a::b::rest) pos) (tOr tA tB'):=⟨Em ha.h hb.h⟩
theorem cP {f:Expr}{as:List Expr}{ks:List Keyword}{pos:Pos}{t:TE}(h:BE X (.Call f as ks pos) t):BT X (.Call f as ks pos) (tB t):=⟨Bw h.h (by intro _; cases f <;> rfl)⟩
theorem bz {pos:Pos}{i:Nat}{x:Str}(hN:X.N.Nodup)(hi:X.N[i]?=some x)(hx:Loc X.env.scope x)(hf:X.fn x=true∨X.env.scope.names.lookup x=some .local):BG X (.Name x pos) (ic i):=⟨yv hN hi hx hf⟩
theorem iO:BGs X [] Es:=⟨yx⟩
theorem cK {e:Expr}{es:List Expr}{t:TG}{u:TGs}(h1:BG X e t)(h2:BGs X es u)(hs:(assignEach (e::es) X.env).map (·.2)=assign e X.env::(assignEach es X.env).map (·.2)):BGs X (e::es) (yw t u):=⟨uU h1.h h2.h hs⟩
theorem lT {es:List Expr}{k:Nat}{t:TGs}{n:Nat}{pos:Pos}(K:PySem.W.Frag)(hc:X.calm=true)(h:BGs X es t)(hK:X.K=K)(hn:(assignEach es X.env).length=n)(hst:(assignEach es X.env).findIdx? (·.1)=none):BG X (.Tuple es k pos) (D3 K n t):=⟨zb K hc h.h hK hn hst⟩
theorem rG {o i:Expr}{to ti:TE}{pos:Pos}(ho:BE X o to)(hi:BE X i ti)
  (ha:∀ v,assign (.Subscript o i pos) X.env v=(do
   let ov ← holding [v] (eval o X.env)
   let iv ← holding [v,ov] (eval i X.env)
   standAt pos
   holding [v,ov,iv] (setItem ov iv v)
   release [v,ov,iv] [])):BG X (.Subscript o i pos) (Et to ti yR):=⟨BH ho.h hi.h u3 ha⟩
theorem iP {tg l:Expr}{tl:TE}(K:PySem.W.Frag)(hl:BE X l tl)(hK:X.K=K):BI X tg l (pE K tl):=⟨ve K hl.h hK⟩
theorem CC {tg l:Expr}{tl:TE}(K:PySem.W.Frag)(hl:BE X l tl)(hK:X.K=K):BI X tg l (D4 K tl):=⟨zc K hl.h hK⟩
theorem xE {tg l:Expr}{tl:TE}(K:PySem.W.Frag)(hl:BE X l tl)(hK:X.K=K):BI X tg l (ER tl):=⟨Cj hl.h⟩
theorem dR {tg a:Expr} {ta:TA} {p pos:Pos} (hg:X.env.kindOf "range" = some .globalImplicit) (hm:X.mg "range" = none) (ha:BA X [a] ta) (hn:cO a=true):BI X tg (.Call (.Name "range" p) [a] [] pos) (yz ta):=⟨qI hg hm ha.h (cw hn)⟩
theorem lU {tg a b:Expr} {ta:TA} {p pos:Pos} (hg:X.env.kindOf "range" = some .globalImplicit) (hm:X.mg "range" = none) (ha:BA X [a,b] ta) (hn:cO a=true) (hn2:cO b=true):BI X tg (.Call (.Name "range" p) [a,b] [] pos) (yB ta) :=
 ⟨qJ hg hm ha.h (by rw [cw hn,cw hn2]; rfl) (by rw [cw hn2]; rfl)⟩
theorem aT:BSs X [] qF:=⟨yr⟩
theorem am {st:Stmt}{t:TS}(h:BS X st t):BSs X [st] t:=⟨mZ h.h⟩
theorem af {st:Stmt}{rest:List Stmt}{t u:TS}(h1:BS X st t)(h2:BSs X rest u):BSs X (st::rest) (Bg t u):=⟨uS h1.h h2.h⟩
theorem zf {e:Expr}{te:TE}{pos:Pos}(he:BE X e te)(hs:swapsWith e none pos.line X.env=pure false):BS X (.Expr e pos) (yt te):=⟨yu he.h hs⟩
theorem aN {e:Expr}{te:TE}{pos:Pos}(he:BE X e te):BS X (.Return (some e) pos) (Bh te):=⟨BD he.h⟩
theorem cm {c:Expr}{a b:List Stmt}{tc:TT}{t u:TS}{pos:Pos}(hc:BT X c tc)(ha:BSs X a t)(hb:BSs X b u):BS X (.If c a b pos) (Bi tc t u):=⟨Ep hc.h ha.h hb.h⟩
theorem aS {i:Nat}{x:Str}{e:Expr}{te:TE}{pos' pos:Pos}(hN:X.N.Nodup)(hi:X.N[i]?=some x)(hx:Loc X.env.scope x)(he:BE X e te)(hs:swapsWith e (some (.Name x pos')) pos.line X.env=pure false)(hf:X.fn x=true∨X.env.scope.names.lookup x=some .local) :
  BS X (.Assign [.Name x pos'] e pos) (qA te (ic i)):=⟨xr hN hi hx he.h hs hf⟩
theorem iQ {tg e:Expr}{te:TE}{g:TG}{pos:Pos}(he:BE X e te)(hg:BG X tg g)(hs:swapsWithSole [tg] e pos.line X.env=pure false)(hw:swappedStores [tg] e X.env=pure none)(h1:(assignEach [tg] X.env).map (·.2)=[assign tg X.env]):BS X (.Assign [tg] e pos) (qA te g):=⟨BJ he.h hg.h hs hw h1⟩
theorem lV {tg iter:Expr}{body:List Stmt}{wi:TI}{g:TG}{tb:TS}{pos:Pos}(hp:PassesOwn (model X.prog X.w) X.A X.env X.xe)(hc:X.calm=true)(hi:BI X tg iter wi)(hg:BG X tg g)(hb:BSs X body tb)(hs:∀ x,foldedSetIterable iter X.env x=pure x):BS X (.For tg iter body [] pos) (Eu wi g tb):=⟨BL hp hc hi.h hg.h hb.h hs⟩
theorem iR:BOp X (binaryOp .Sub) (rI0 fun i j=>.int (i - j)):=⟨BP⟩
theorem kE:BOp X (binaryOp .Mult) (rI CMul fun i j=>.int (i * j)):=⟨BQ⟩
theorem gu:BOp X (binaryOp .FloorDiv) (rI uW fun i j=>.int (i / j)):=⟨yD⟩
theorem iS:BOp X (binaryOp .Mod) (rI (fun _ j=>0 < j) fun i j=>.int (i % j)):=⟨BR⟩
theorem zg:BOp X (binaryOp .Pow) (rI BM fun i j=>.int (i ^ j.toNat)):=⟨BU⟩
theorem oi:BOp X (binaryOp .Pow) (rI pM fun i j=>.int (i ^ j.toNat)):=⟨y2⟩
theorem cg (K:PySem.W.Frag)(hu:X.A.units+64 < cLine)(h:X.K=K):BOp X (compareOp .Eq) (D9 K):=⟨Cv K hu h⟩
theorem oj (K:PySem.W.Frag)(hu:X.A.units+64 < cLine)(h:X.K=K):BOp X (compareOp .NotEq) (Ea K):=⟨Cw K hu h⟩
theorem cT (K:PySem.W.Frag)(h:X.K=K):BCall X (.builtin "len") (D7 K):=⟨rA K h⟩
theorem xF (hc:X.calm=true):BCall X (.builtin "max") ET:=⟨rp hc⟩
theorem xG (hc:X.calm=true):BCall X (.builtin "min") EU:=⟨rq hc⟩
theorem jS (K:PySem.W.Frag)(hc:X.calm=true)(h:X.K=K):BCall X (.builtin "all") (D8 K):=⟨rB K hc h⟩
theorem gG (K:PySem.W.Frag)(h:X.K=K):BMt X "str.join" (vb K):=⟨vd K h⟩
theorem rH (K:PySem.W.Frag)(h:X.K=K):BMt X "list.append" kz:=⟨iI⟩
end
theorem zi {b:Expr}{op:CmpOp}(h:op≠.In)(h2:op≠.NotIn):behindInMarks op b=false:=BX b h h2
theorem aP {b:Expr}{op:CmpOp}(h:autoParam (op≠.In) L2.aD._auto_1)(h2:autoParam (op≠.NotIn) L2.aD._auto_1):behindInMarks op b=false:=zi h h2
theorem Fun.okB {P:Program}{w:World}{K:PySem.W.Frag}{mg:Str→Option Value}{base:Heap}{x qual:Str}{st:Stmt}{f:Addr}{fd:FuncData}{N ps:List Str}{k:Nat}{sp:Sp}(F:Fun K x qual st f fd)(S:FnScope N ps (ai st))(len:∀ vs H Q E,sp vs H Q E→vs.length=ps.length)
  (hbody:∀ (cdv:Value) (A:Around) (outer:List Env) (s:Shared) (H:Hp) (vs:List V) (Q:VK) (E:XK),Room k (A.deeper (envOfC qual (ai st) s.heap.objs.size f cdv))→sp vs H Q E →
   ∃ t,BSs (fF CX0 P w K mg base N qual (ai st) f cdv A outer s H E).nox (aY st) t∧t { nx:=fun _ H'=>Q .non H',rt:=Q } (eE N vs) H):FnOk P w K mg base CX0 (k+1) f fd ps sp :=
 F.ok S len fun cdv A outer s H vs Q E hr h=>by
  obtain ⟨t,h1,h2⟩:=hbody cdv A outer s H vs Q E hr h
  exact ⟨t,h1.h,h2⟩
end L2
namespace L2
open PySem
end L2
set_option maxHeartbeats 4000000
namespace KS
open PySem PySem.Spec PyProof.Rows
def Ris (xs:Array Nat):Prop:=xs.toList.Pairwise (· < ·)
theorem Ris.lt {xs:Array Nat}(h:Ris xs){i j d:Nat}(hij:i < j)(hj:j < xs.size):xs.getD i d < xs.getD j d:=by
 have hi:i < xs.size:=Nat.lt_trans hij hj
 have q:=List.pairwise_iff_getElem.mp h i j (by first|exact List.mem_singleton.mp hi|simpa using hi) (by first|exact List.mem_singleton.mp hj|simpa using hj) hij
 rw [Array.getD_eq_getD_getElem?,Array.getD_eq_getD_getElem?,Array.getElem?_eq_getElem hi,Array.getElem?_eq_getElem hj]
 simpa using q
theorem kF {xs:Array Nat}{j:Nat}(h:Ris xs):∀ (fuel lo hi:Nat),lo≤hi→hi≤xs.size→hi - lo≤fuel→(∀ k,k < lo→xs.getD k j < j)→(∀ k,hi≤k→k < xs.size→j≤xs.getD k j) →
  SetTable.below.go xs j fuel lo hi≤xs.size∧(∀ k,k < SetTable.below.go xs j fuel lo hi→xs.getD k j < j)∧∀ k,SetTable.below.go xs j fuel lo hi≤k→k < xs.size→j≤xs.getD k j
 | 0,lo,hi,a,b,c,p,q=>by
  have e:hi=lo:=by nofun
  subst e
  exact ⟨b,p,q⟩
 | fuel+1,lo,hi,a,b,c,p,q=>by
  have e0:SetTable.below.go xs j (fuel+1) lo hi=if lo < hi then (if xs.getD ((lo+hi) / 2) j < j then SetTable.below.go xs j fuel ((lo+hi) / 2+1) hi else SetTable.below.go xs j fuel lo ((lo+hi) / 2)) else lo:=rfl
  rw [e0]
  by_cases hlt:lo < hi
  ·rw [if_pos hlt]
   have hm:(lo+hi) / 2 < hi:=by nofun
   by_cases hv:xs.getD ((lo+hi) / 2) j < j
   ·rw [if_pos hv]
    refine kF h fuel _ hi (by nofun) b (by nofun) (fun k hk=>?_) q
    by_cases e:k=(lo+hi) / 2
    ·rw [e]; exact hv
    ·exact Nat.lt_trans (h.lt (i:=k) (j:=(lo+hi) / 2) (by nofun) (by nofun)) hv
   ·rw [if_neg hv]
    refine kF h fuel lo _ (by nofun) (by nofun) (by nofun) p fun k hk hs=>?_
    by_cases e:k=(lo+hi) / 2
    ·rw [e]; nofun
    ·have:=h.lt (i:=(lo+hi) / 2) (j:=k) (d:=j) (by nofun) hs
     nofun
  ·rw [if_neg hlt]
   have e:hi=lo:=by nofun
   subst e
   exact ⟨b,p,q⟩
theorem gH {xs:Array Nat}(h:Ris xs)(j:Nat):SetTable.below xs j≤xs.size∧(∀ k,k < SetTable.below xs j→xs.getD k j < j)∧∀ k,SetTable.below xs j≤k→k < xs.size→j≤xs.getD k j :=
 kF h _ _ _ (Nat.zero_le _) (Nat.le_refl _) (by nofun) (fun k hk=>absurd hk (Nat.not_lt_zero _)) fun k hk hs=>absurd hs (by nofun)
theorem pQ {xs:Array Nat}(h:Ris xs):SetTable.below xs 0=0:=by
 obtain ⟨_,b,_⟩:=gH h 0
 by_cases e:SetTable.below xs 0=0
 ·exact e
 ·exact absurd (b 0 (by nofun)) (Nat.not_lt_zero _)
theorem pR {xs:Array Nat}(h:Ris xs){i p:Nat}(e:xs[i]?=some p):SetTable.below xs (p+1)=i+1:=by
 obtain ⟨hi,ep⟩:=Array.getElem?_eq_some_iff.mp e
 obtain ⟨a,b,c⟩:=gH h (p+1)
 have g:∀ d,xs.getD i d=p:=fun d=>by rw [Array.getD_eq_getD_getElem?,e]; rfl
 by_cases l:SetTable.below xs (p+1)≤i
 ·have:=c i l hi
  rw [g] at this
  nofun
 ·by_cases r:SetTable.below xs (p+1)=i+1
  ·exact r
  ·have h1:=b (i+1) (by nofun)
   have h2:=h.lt (i:=i) (j:=i+1) (d:=p+1) (by nofun) (by nofun)
   rw [g] at h2
   nofun
def NotIn (xs:Array Nat)(j:Nat):Prop:=xs[SetTable.below xs j]?≠some j
theorem pT {xs:Array Nat}(h:Ris xs){j:Nat}(n:NotIn xs j):Ris (SetTable.insertAt xs (SetTable.below xs j) j):=by
 obtain ⟨a,b,c⟩:=gH h j
 unfold NotIn at n
 generalize SetTable.below xs j=p at a b c n
 have e:(SetTable.insertAt xs p j).toList=xs.toList.take p++j::xs.toList.drop p:=by
  unfold SetTable.insertAt
  simp [Array.toList_extract,List.extract_eq_drop_take,Array.length_toList]
  exact List.take_of_length_le (by rw [List.length_drop,Array.length_toList]; exact Nat.le_refl _)
 have lo:∀ x ∈ xs.toList.take p,x < j:=by
  intro x hx
  obtain ⟨k,hk⟩:=List.mem_iff_getElem?.mp hx
  rw [List.getElem?_take] at hk
  split at hk
  ·rename_i hkp
   have:=b k hkp
   rw [Array.getD_eq_getD_getElem?,← Array.getElem?_toList,hk] at this
   exact this
  ·cases hk
 have hi:∀ x ∈ xs.toList.drop p,j < x:=by
  intro x hx
  obtain ⟨k,hk⟩:=List.mem_iff_getElem?.mp hx
  rw [List.getElem?_drop] at hk
  have hs:p+k < xs.size:=by
   have:=(List.getElem?_eq_some_iff.mp hk).1
   simpa using this
  have q:=c (p+k) (by nofun) hs
  rw [Array.getD_eq_getD_getElem?,← Array.getElem?_toList,hk] at q
  have q:j≤x:=q
  rcases Nat.lt_or_ge j x with z | z
  ·exact z
  ·have ex:x=j:=by nofun
   subst ex
   exfalso
   by_cases k0:k=0
   ·subst k0
    exact n (by rw [← Array.getElem?_toList]; exact hk)
   ·have g1:=h.lt (i:=p) (j:=p+k) (d:=x) (by nofun) hs
    have g2:=c p (Nat.le_refl _) (by nofun)
    have g3:xs.getD (p+k) x=x:=by rw [Array.getD_eq_getD_getElem?,← Array.getElem?_toList,hk]; rfl
    nofun
 unfold Ris
 rw [e]
 refine List.pairwise_append.mpr ⟨List.Pairwise.sublist (List.take_sublist p _) h,List.pairwise_cons.mpr ⟨hi,List.Pairwise.sublist (List.drop_sublist p _) h⟩,fun x hx y hy=>?_⟩
 rcases List.mem_cons.mp hy with rfl | hy
 ·exact lo x hx
 ·exact Nat.lt_trans (lo x hx) (hi y hy)
theorem lW (t:SetTable)(p:SetTable.Probe):(t.advance p).dummy=p.dummy:=by
 unfold SetTable.advance
 split
 ·rfl
 ·rfl
theorem gI {t:SetTable}{f:Nat→Int}{h:Int}:∀ (fuel:Nat) (p:SetTable.Probe) (j:Nat) (d:Option Nat),(∀ x,p.dummy=some x→NotIn t.place x)→SetTable.probe.go t f h fuel p=some (.empty j d)→NotIn t.place j∧∀ x,d=some x→NotIn t.place x
 | 0,p,j,d,_,e=>by unfold SetTable.probe.go at e; cases e
 | fuel+1,p,j,d,hp,e=>by
  unfold SetTable.probe.go at e
  have ns:∀ {s:SetTable.Slot},t.slot p.j=s→(∀ i,s≠.live i)→NotIn t.place p.j:=by
   intro s es hs hn
   unfold SetTable.slot at es
   dsimp only at es
   rw [if_pos (by rw [hn]; simp)] at es
   exact hs _ es.symm
  cases hsl:t.slot p.j with
  | empty =>
   rw [hsl] at e
   have e:=Option.some.inj e
   injection e with e1 e2
   subst e1 e2
   exact ⟨ns hsl (fun i z=>nomatch z),hp⟩
  | dummy =>
   rw [hsl] at e
   refine gI fuel _ j d (fun x hx=>?_) e
   rw [lW] at hx
   have hx:some p.j=some x:=hx
   injection hx with hx
   rw [← hx]
   exact ns hsl fun i z=>nomatch z
  | live i =>
   rw [hsl] at e
   dsimp only at e
   split at e
   ·cases e
   ·exact gI fuel _ j d (fun x hx=>hp x (by rw [lW] at hx; exact hx)) e
theorem pU {t:SetTable}{h:Int}{j:Nat}{b:Bool}(e:t.freeSlot h=some (j,b)):NotIn t.place j:=by
 unfold SetTable.freeSlot at e
 split at e
 ·rename_i j' d hp
  obtain ⟨h1,h2⟩:=gI _ _ _ _ (fun x hx=>by cases (show (none:Option Nat)=some x from hx)) hp
  have e:=Option.some.inj e
  have e1:d.getD j'=j:=congrArg Prod.fst e
  subst e1
  cases d with
  | none=>exact h1
  | some x=>exact h2 x rfl
 ·cases e
theorem zj (t:SetTable)(es:Array (Int×Value))(h:Int)(x:Value)(hr:t.plain=true→Ris t.place):(layNew t es h x).2.1.plain=true→Ris (layNew t es h x).2.1.place:=by
 unfold layNew
 split
 ·rename_i slot wd e
  dsimp only
  unfold SetTable.orStandIn
  split
  ·intro hp
   have hp:t.plain=true:=hp
   exact pT (hr hp) (pU e)
  ·exact fun z=>by cases z
 ·exact fun z=>by cases z
theorem vh {mask finger moves:Nat}{led plain:Bool}{hs:Array Int}{t:SetTable}{order:Array Nat}(h:SetTable.laid mask finger moves led plain hs=some (t,order)):Ris t.place:=by
 unfold SetTable.laid at h
 cases e:SetTable.layClean mask hs with
 | none=>rw [e] at h; cases h
 | some owner =>
  rw [e] at h
  have h':=Option.some.inj h
  rw [← congrArg (fun p=>p.1.place) h']
  dsimp only
  unfold Ris
  rw [List.toList_toArray,List.pairwise_map]
  refine List.Pairwise.filterMap _ (R:=(· < ·)) (fun a a' haa b hb b' hb'=>?_) List.pairwise_lt_range
  obtain ⟨y,_,rfl⟩:=Option.map_eq_some_iff.mp hb
  obtain ⟨y',_,rfl⟩:=Option.map_eq_some_iff.mp hb'
  exact haa
theorem rJ (t:SetTable)(es:Array (Int×Value))(wanted:Nat):(relayAll t es wanted).2.1.plain=true→Ris (relayAll t es wanted).2.1.place:=by
 unfold relayAll
 split
 ·rename_i t' order e
  dsimp only
  split
  ·exact fun _=>vh (show SetTable.laid _ _ _ t.led t.plain _=some (t',order) from e)
  ·exact fun z=>by cases z
 ·exact fun z=>by cases z
end KS
set_option maxHeartbeats 4000000
namespace KS
open PySem PySem.Spec PyProof.Rows
theorem zk (t:SetTable)(es:Array (Int×Value))(h:Int)(x:Value):(layNew t es h x).2.1.led=t.led∧((layNew t es h x).2.1.plain=true→t.plain=true):=by
 unfold layNew
 split
 ·dsimp only
  unfold SetTable.orStandIn
  split
  ·exact ⟨rfl,fun z=>z⟩
  ·exact ⟨rfl,fun z=>by cases z⟩
 ·exact ⟨rfl,fun z=>by cases z⟩
theorem vi {mask finger moves:Nat}{led plain:Bool}{hs:Array Int}{t:SetTable}{order:Array Nat}(h:SetTable.laid mask finger moves led plain hs=some (t,order)):t.led=led∧t.plain=plain:=by
 unfold SetTable.laid at h
 cases e:SetTable.layClean mask hs with
 | none=>rw [e] at h; cases h
 | some owner =>
  rw [e] at h
  have h':=Option.some.inj h
  exact ⟨(congrArg (fun p=>p.1.led) h').symm,(congrArg (fun p=>p.1.plain) h').symm⟩
theorem rK (t:SetTable)(es:Array (Int×Value))(wanted:Nat):(relayAll t es wanted).2.1.led=t.led∧((relayAll t es wanted).2.1.plain=true→t.plain=true):=by
 unfold relayAll
 split
 ·rename_i t' order e
  have q:=vi (show SetTable.laid _ _ _ t.led t.plain _=some (t',order) from e)
  dsimp only
  split
  ·exact ⟨q.1,fun z=>by rw [q.2] at z; exact z⟩
  ·exact ⟨rfl,fun z=>by cases z⟩
 ·exact ⟨rfl,fun z=>by cases z⟩
section
variable {prog:Program} {w:World} {K:Type} [DecidableEq K] (knd:KeyKind prog w K)
def SetZ (h:Heap)(a:Addr)(σ:List K)(L:Bool):Prop :=
 ∃ o es ep t,h.get? a=some o∧o.ExactSet∧o.data=.set es ep t∧ElemsOf knd es.toList∧(∀ k,k ∈ σ↔∃ e ∈ es.toList,knd.is k e.2=true)∧es.size < scanBound∧t.fits es.size=true∧es.size=σ.length∧σ.Nodup∧t.led=L∧(t.plain=true→Ris t.place)
def dedup1 (σ:List K)(k:K):List K:=if k ∈ σ then σ else σ++[k]
variable {knd} {A:Around} {E:Value→Shared→Prop} {s:Shared}
theorem nodup_snoc {σ:List K}{k:K}(h:σ.Nodup)(hk:k ∉ σ):(σ++[k]).Nodup:=by
 rw [List.nodup_append]
 refine ⟨h,by simp,fun x hx y hy e=>?_⟩
 have hy:y=k:=by first|exact List.mem_singleton.mp hy|simpa using hy
 rw [e,hy] at hx
 exact hk hx
theorem SetZ.at {h h':Heap}{a:Addr}{σ:List K}{L:Bool}(hS:SetZ knd h a σ L)(k:∀ o,h.get? a=some o→h'.get? a=some o):SetZ knd h' a σ L:=by
 obtain ⟨o,es,ep,t,ho,r⟩:=hS
 exact ⟨o,es,ep,t,k o ho,r⟩
theorem Fx {h:Heap}{a:Addr}{o:Obj}{es:Array (Int×Value)}{ep:Nat}{t:SetTable}(ho:h.get? a=some o)(hd:o.data=.set es ep t)(es':Array (Int×Value))(t':SetTable) :
  (h.update a (Obj.putSet es' t')).get? a=some { o with data:=.set es' (ep+1) t' }:=by
 have q:=Heap.get?_update_self (Obj.putSet es' t') ho (by rw [putSet_of es' t' hd]; rfl)
 rw [putSet_of es' t' hd] at q
 exact q
theorem zm {g:Bool→Sem Unit}(hg:∀ (b:Bool) (s₁:Shared) (Q':Unit→Shared→Prop),Q' () s₁→wpAny (model prog w) A (g b) Q' E s₁)
  {a:Addr} {o:Obj} {es:Array (Int×Value)} {ep:Nat} {t:SetTable} (ho:s.heap.get? a=some o) (hex:o.ExactSet) (hd:o.data=.set es ep t)
  {es1:Array (Int×Value)} {t2:SetTable} {τ:List K} {L:Bool} (hel:ElemsOf knd es1.toList) (hm:∀ k',k' ∈ τ↔∃ e ∈ es1.toList,knd.is k' e.2=true)
  (hb:es1.size < scanBound) (hf:t2.fits es1.size=true) (hn:es1.size=τ.length) (hnd:τ.Nodup) (hled:t2.led=L) (hpl:t2.plain=true→Ris t2.place) {wasDummy:Bool} {R:Option Bool→Shared→Prop}
  (h:∀ h',Heap.SameBut a s.heap h'→SetZ knd h' a τ L→R (some true) { s with heap:=h' }) :
  wpAny (model prog w) A (do
    storeSet a es1 t2
    if (!wasDummy && t2.tooFull)=true then do
      g (relayAll t2 es1 (SetTable.grown es1.size)).2.2
      storeSet a (relayAll t2 es1 (SetTable.grown es1.size)).1 (relayAll t2 es1 (SetTable.grown es1.size)).2.1
      pure (some true)
     else pure (some true)) R E s:=by
 refine wpAny_bind (wpAny_storeSet_of ho hd ?_ (fits_of_scanBound hb))
 have g1:=Fx ho hd es1 t2
 have b1:=Heap.SameBut.update s.heap a (Obj.putSet es1 t2)
 split
 ·have hp:=relayAll_perm t2 es1 (SetTable.grown es1.size)
  have hfr:=relayAll_fits t2 es1 (SetTable.grown es1.size)
  have hlr:=rK t2 es1 (SetTable.grown es1.size)
  have hrr:=rJ t2 es1 (SetTable.grown es1.size)
  generalize hR:relayAll t2 es1 (SetTable.grown es1.size)=Y at hp hfr hlr hrr ⊢
  obtain ⟨es2,t3,gave⟩:=Y
  dsimp only at hp hfr hlr hrr ⊢
  have z2:es2.size=es1.size:=by rw [← Array.length_toList,hp.length_eq,Array.length_toList]
  refine wpAny_bind (hg _ _ _ ?_)
  refine wpAny_bind (wpAny_storeSet_of g1 rfl ?_ (fits_of_scanBound (by rw [z2]; exact hb)))
  exact wpAny_pure (h _ (b1.trans (Heap.SameBut.update _ a _)) ⟨_,es2,_,t3,Fx g1 rfl es2 t3,hex,rfl,hel.perm hp,fun k'=>(hm k').trans ⟨fun ⟨e,he,q⟩=>⟨e,hp.mem_iff.mpr he,q⟩,fun ⟨e,he,q⟩=>⟨e,hp.mem_iff.mp he,q⟩⟩,
   by rw [z2]; exact hb,hfr,z2.trans hn,hnd,hlr.1.trans hled,hrr⟩)
 ·exact wpAny_pure (h _ b1 ⟨_,es1,_,t2,g1,hex,rfl,hel,hm,hb,hf,hn,hnd,hled,hpl⟩)
theorem addZ {a:Addr}{σ:List K}{L:Bool}{k:K}{x:Value}{Q:Bool→Shared→Prop}(hkey:knd.is k x=true)(hsc:x.scannable=true)(hS:SetZ knd s.heap a σ L)(hroom:σ.length+1 < scanBound)
  (h:∀ b h',Heap.SameBut a s.heap h'→SetZ knd h' a (dedup1 σ k) L→Q b { s with heap:=h' }):wpAny (model prog w) A (setAddHashed a x (knd.hash k)) Q E s:=by
 obtain ⟨o,es,ep,t,ho,hex,hd,hel,hm,hb,hf,hn,hnd,hled,hpl⟩:=id hS
 unfold setAddHashed setAddHashedIn
 refine wpAny_holding (wpAny_bind (wpAny_setState_of ho hd hf ?_))
 dsimp only
 rw [byScan_of hsc hb hel]
 simp only [↓reduceIte]
 unfold setAddByScan
 refine wpAny_bind ?_
 refine wpAny_bind (wpAny_rule ?_)
 refine wpAny_bind (wpAny_setScan_of hkey ho hd hf hel ?_)
 cases hr:List.findIdx? (fun e=>knd.is k e.2) es.toList with
 | some j =>
  dsimp only
  obtain ⟨hj,hpj,_⟩:=List.findIdx?_eq_some_iff_getElem.mp hr
  have hk:k ∈ σ:=(hm k).mpr ⟨es.toList[j],List.getElem_mem hj,hpj⟩
  refine wpAny_pure (wpAny_pure ?_)
  have q:=h false s.heap (Heap.SameBut.refl a s.heap) (by unfold dedup1; rw [if_pos hk]; exact hS)
  exact q
 | none =>
  dsimp only
  have hk:k ∉ σ:=fun z=>by
   obtain ⟨e,he,hp⟩:=(hm k).mp z
   have:=List.findIdx?_eq_none_iff.mp hr e he
   rw [hp] at this
   cases this
  have way:∀ (b:Bool) {s₁:Shared} {Q':Unit→Shared→Prop},Q' () s₁→wpAny (model prog w) A (match b with | true=>rule "set.scan.the-table-gave-way" | false=>pure ()) Q' E s₁:=fun b s₁ Q' hq=>by
   cases b
   ·exact wpAny_pure hq
   ·exact wpAny_rule hq
  have hp:=layNew_perm t es (knd.hash k) x
  have hfi:=layNew_fits t es (knd.hash k) x
  have hll:=zk t es (knd.hash k) x
  have hlr:=zj t es (knd.hash k) x hpl
  generalize hL:layNew t es (knd.hash k) x=Y at hp hfi hll hlr ⊢
  obtain ⟨es1,t1,wasDummy,gave⟩:=Y
  dsimp only at hp hfi hll hlr ⊢
  rw [Array.toList_push] at hp
  have z1:es1.size=es.size+1:=by rw [← Array.length_toList,hp.length_eq,List.length_append,Array.length_toList]; rfl
  have hel1:ElemsOf knd es1.toList:=(hel.push hkey hsc).perm hp
  have hm1:∀ k',k' ∈ σ++[k]↔∃ e ∈ es1.toList,knd.is k' e.2=true:=fun k'=>by
   rw [List.mem_append,hm k',List.mem_singleton]
   constructor
   ·rintro (⟨e,he,q⟩ | rfl)
    ·exact ⟨e,hp.mem_iff.mpr (List.mem_append_left _ he),q⟩
    ·exact ⟨_,hp.mem_iff.mpr (List.mem_append_right _ (List.mem_singleton.mpr rfl)),hkey⟩
   ·rintro ⟨e,he,q⟩
    rcases List.mem_append.mp (hp.mem_iff.mp he) with he | he
    ·exact .inl ⟨e,he,q⟩
    ·rw [List.mem_singleton] at he
     subst he
     exact .inr (knd.inj x k' k q hkey)
  refine wpAny_bind (way _ ?_)
  have fin:∀ h',Heap.SameBut a s.heap h'→SetZ knd h' a (σ++[k]) L→Q true { s with heap:=h' }:=fun h' b' z=>h true h' b' (by unfold dedup1; rw [if_neg hk]; exact z)
  have hn1:es1.size=(σ++[k]).length:=by rw [List.length_append,z1,hn]; rfl
  split
  ·refine wpAny_bind ?_
   rw [hashByValue_scannable 8 hsc]
   refine wpAny_pure ?_
   cases hpk:plainKind x with
   | false =>
    refine zm ?_ ho hex hd hel1 hm1 (by nofun) (by rw [if_neg (by decide)]; exact SetTable.fits_plain_off hfi) hn1 (nodup_snoc hnd hk) (L:=L) (by rw [if_neg (by decide)]; exact hll.1.trans hled) (by rw [if_neg (by decide)]; exact fun z=>nomatch z) ?_
    ·intro b s₁ Q' hq
     exact way b hq
    ·intro h' b' z
     dsimp only
     exact wpAny_pure (fin h' b' z)
   | true =>
    refine zm ?_ ho hex hd hel1 hm1 (by nofun) (by rw [if_pos rfl]; exact hfi) hn1 (nodup_snoc hnd hk) (L:=L) (by rw [if_pos rfl]; exact hll.1.trans hled) (by rw [if_pos rfl]; exact hlr) ?_
    ·intro b s₁ Q' hq
     exact way b hq
    ·intro h' b' z
     dsimp only
     exact wpAny_pure (fin h' b' z)
  ·rename_i hpf
   refine wpAny_bind (wpAny_pure ?_)
   simp only [↓reduceIte]
   refine zm ?_ ho hex hd hel1 hm1 (by nofun) hfi hn1 (nodup_snoc hnd hk) (L:=L) (hll.1.trans hled) hlr ?_
   ·intro b s₁ Q' hq
    exact way b hq
   ·intro h' b' z
    dsimp only
    exact wpAny_pure (fin h' b' z)
def metZ (val:Nat→K)(i:Nat):List K:=((List.range i).map val).foldl dedup1 []
theorem iT (val:Nat→K)(i:Nat):metZ val (i+1)=dedup1 (metZ val i) (val i):=by
 unfold metZ
 rw [List.range_succ,List.map_append,List.foldl_append]
 rfl
theorem metZ_len (val:Nat→K):∀ i,(metZ val i).length≤i
 | 0=>Nat.le_refl _
 | i+1=>by
  rw [iT]
  have ih:=metZ_len val i
  unfold dedup1
  split
  ·nofun
  ·rw [List.length_append,List.length_singleton]; nofun
theorem metZ_mem (val:Nat→K):∀ (i:Nat) (k:K),k ∈ metZ val i↔∃ j,j < i∧val j=k
 | 0,k=>by
  constructor
  ·intro h; cases h
  ·rintro ⟨j,hj,_⟩; nofun
 | i+1,k=>by
  have e:k ∈ metZ val (i+1)↔k ∈ metZ val i∨val i=k:=by
   rw [iT]
   unfold dedup1
   split
   ·rename_i h
    exact ⟨.inl,fun z=>z.elim id fun z=>z ▸ h⟩
   ·rw [List.mem_append,List.mem_singleton]
    exact ⟨fun z=>z.imp id Eq.symm,fun z=>z.imp id Eq.symm⟩
  rw [e,metZ_mem val i k]
  constructor
  ·rintro (⟨j,hj,q⟩ | q)
   ·exact ⟨j,by nofun,q⟩
   ·exact ⟨i,by nofun,q⟩
  ·rintro ⟨j,hj,q⟩
   by_cases z:j=i
   ·exact .inr (z ▸ q)
   ·exact .inl ⟨j,by nofun,q⟩
theorem zn {R:Result→Shared→Prop}{I:Addr}{fp wr:List Addr}{G:Array GenState→Array GenState→Prop}{n:Nat}{P:Nat→Value→Prop}{St:Nat→Shared→Prop}(W:WalksS prog w A.in1 I fp wr G n P St)(S:Addr)(hSf:S ∉ fp){L:Bool}
  (val:Nat→K) (hval:∀ i v,P i v→knd.is (val i) v=true∧v.scannable=true) (hb:n+1 < scanBound) :
  ∀ (k i:Nat) (s:Shared),n - i=k→i≤n→St i s→SetZ knd s.heap S (metZ val i) L →
   (∀ s',Moved (S::wr) G s s'→SetZ knd s'.heap S (metZ val n) L→R (.ok (.ret .none)) s') →
   codeAny (model prog w) A (.builtin "set.update.loop" ⟨[.ref S,.ref I],[]⟩) R s:=by
 have hSw:S ∉ wr:=fun h=>hSf (W.sub _ h)
 have hsub:∀ b ∈ wr,b ∈ S::wr:=fun b hb=>List.mem_cons_of_mem _ hb
 intro k
 induction k with
 | zero =>
  intro i s hk hi hst hS hR
  obtain rfl:i=n:=by nofun
  refine codeAny_builtin PyProof.Rows.F.entry_set_update_loop ?_
  rw [Around.under_plainId PyProof.Rows.F.plain_set_update_loop _]
  show wpAny _ A.in1 (pyNext (.ref I) >>= _) _ _ s
  refine wpAny_bind (W.done s _ _ hst fun s' hm=>?_)
  show wpAny _ A.in1 (ret Value.none) _ _ s'
  exact wpAny_pure (hR s' (hm.mono hsub) (hS.at fun o ho=>hm.heap S o hSw ho))
 | succ k ih =>
  intro i s hk hi hst hS hR
  have hlt:i < n:=by nofun
  refine codeAny_builtin PyProof.Rows.F.entry_set_update_loop ?_
  rw [Around.under_plainId PyProof.Rows.F.plain_set_update_loop _]
  show wpAny _ A.in1 (pyNext (.ref I) >>= _) _ _ s
  refine wpAny_bind (W.item i s _ _ hlt hst fun v s' hP hst' hm=>?_)
  obtain ⟨hv1,hv2⟩:=hval i v hP
  have hS':SetZ knd s'.heap S (metZ val i) L:=hS.at fun o ho=>hm.heap S o hSw ho
  show wpAny _ A.in1 (holding [v] (setAdd S v) >>= _) _ _ s'
  refine wpAny_bind (wpAny_holding ?_)
  unfold setAdd
  refine wpAny_holding ?_
  refine wpAny_bind (knd.pyHash (k:=val i) hv1 ?_)
  refine addZ (s:={ s' with toks:=s'.toks+1 }) hv1 hv2 hS' (by have:=metZ_len val i; nofun) fun b h' hsb hS2=>?_
  rw [← iT] at hS2
  refine wpAny_pure ⟨plainId_quiet PyProof.Rows.F.plain_set_update_loop _,ih (i+1) _ (by nofun) hlt (W.frame _ s' _ _ hst' (Nat.le_succ _) fun b hb o e=>?_) hS2 fun s'' hm'' hS''=>?_⟩
  ·rw [hsb.2 b (fun h:b=S=>hSf (by rw [← h]; exact hb))]; exact e
  ·refine hR s'' (Moved.trans W.gtrans ((hm.mono hsub).then_heap (Nat.le_succ _) fun b o hb e=>?_) hm'') hS''
   rw [hsb.2 b (fun h:b=S=>hb (by rw [h]; exact List.mem_cons_self))]; exact e
end
section
variable {prog:Program} {w:World} {A:Around} {E:Value→Shared→Prop} {s:Shared}
abbrev byText (w:World):Bool:=w.params.followText "set-order"
abbrev dl (w:World):Obj:={ cls:=.type "set", dict:=none,data:=.set #[] 0 (.fresh 0 0 (!byText w)) }
theorem zo (a:Value){Q₁:Value→Shared→Prop}(h:Q₁ (.ref s.heap.objs.size) { s with heap:=s.heap.push (dl w) }) :
  codeAny (model prog w) A (.call (.builtin "set.__new__") ⟨[.type "set", a],[]⟩) (wants Q₁ E) s:=by
 refine codeAny_of_tree ?_
 show wpAny _ A.in1 (do checkBuiltinCall "set.__new__" ⟨[.type "set", a],[]⟩; again (.builtin "set.__new__" ⟨[.type "set", a],[]⟩)) _ _ s
 refine wpAny_bind (wpAny_of_eq (F.newCall_set_1 a) (wpAny_pure ⟨plainId_quiet F.plain_set_new _,codeAny_builtin F.entry_set_new ?_⟩))
 rw [Around.under_plainId F.plain_set_new _]
 unfold Builtin.«set.__new__» Builtin.Frozenset.newClass
 have hsub:=sub_set_self
 obtain ⟨hp,g,d,tk,os⟩:=s
 dsimp only
 wp_walk
 refine wpAny_askSetting (wpAny_pure ?_)
 dsimp only
 simp only [newObj]
 refine wpAny_bind (wpAny_alloc (wpAny_pure ?_))
 exact wpAny_pure h
end
section
variable {prog:Program} {w:World} {K:Type} [DecidableEq K] {knd:KeyKind prog w K} {A:Around} {E:Value→Shared→Prop} {s:Shared}
theorem CD {h:Heap}{a:Addr}(ho:h.get? a=some (dl w)):SetZ knd h a [] (!byText w) :=
 ⟨_,#[],0,_,ho,⟨rfl,rfl,rfl⟩,rfl,fun e he=>by simp at he,fun k=>by simp,by decide,rfl,rfl,List.nodup_nil,rfl,fun _=>List.Pairwise.nil⟩
set_option maxRecDepth 100000 in
set_option maxHeartbeats 8000000 in
theorem set_of_list {l:Addr}{items:Array Value}{Q:Value→Shared→Prop}(hh:A.handled=none)(hl:s.heap.IsList l items)(val:Nat→K)
  (hval:∀ i v,items[i]?=some v→knd.is (val i) v=true∧v.scannable=true) (hb:items.size+1 < scanBound)
  (h:∀ (h':Heap) (tk:Nat),SetZ knd h' s.heap.objs.size (metZ val items.size) (!byText w)→(∀ b o,b < s.heap.objs.size→s.heap.get? b=some o→h'.get? b=some o)→Q (.ref s.heap.objs.size) { s with heap:=h',toks:=tk }) :
  wpAny (model prog w) A (call (.type "set") [.ref l]) Q E s:=by
 obtain ⟨c,tl,hmro⟩:=F.called_set.mro
 have hmade:=F.called_set.made
 have hsub:=F.called_set.sub
 refine wpAny_call (codeAny_of_tree ?_)
 show wpAny _ _ (callAny (.type "set") _) _ _ _
 refine wpAny_pure ⟨Code.quiet_builtin _ (by decide +kernel),codeAny_builtin F.entry_type_call ?_⟩
 rw [Around.under_plain (weight_type_call_type "set" [.ref l] []) rfl]
 have h1:=F.called_set.notType
 have h2:=F.called_set.canCreate
 have hct:=F.typeCall_set_1 (.ref l)
 repeat (any_goals (first | assumption | wp_step))
 refine codeAny_mono (zo (.ref l) (E:=E) (Q₁:=fun obj s₁=>obj=.ref s.heap.objs.size∧s₁={ s with heap:=s.heap.push (dl w) }) ⟨rfl,rfl⟩) fun r s₁ hr=>?_
 cases r with
 | error e=>exact hr
 | ok fl =>
  cases fl with
  | ret obj =>
   obtain ⟨rfl,rfl⟩:=hr
   have hS:(s.heap.push (dl w)).get? s.heap.objs.size=some (dl w):=Heap.get?_push_size _ rfl
   have hT:Shared.TypeIs { s with heap:=s.heap.push (dl w) } (.ref s.heap.objs.size) "set" := ⟨_,hS,rfl⟩
   have hli:=F.called_set.init.lookup
   have hbi:=F.called_set.init.bind (.ref s.heap.objs.size)
   repeat (any_goals (first | assumption | wp_step))
   refine codeAny_mono (codeAny_call_builtin (R:=wants (fun r s₂=>r=.none∧∃ h' tk,s₂={ s with heap:=h',toks:=tk } ∧
     SetZ knd h' s.heap.objs.size (metZ val items.size) (!byText w)∧(∀ b o,b < s.heap.objs.size→s.heap.get? b=some o→h'.get? b=some o)) E) F.called_set.init.plain F.entry_set_init (check_set_init_1 hT ?_)) fun r₂ s₂ hr₂=>?_
   ·obtain ⟨ol,hol,hcl,nl,hdl⟩:=hl
    obtain ⟨ocls,odict,odata,oslots⟩:=ol
    simp only at hcl hdl
    subst hcl; subst hdl
    have hol':(s.heap.push (dl w)).get? l=some { cls:=.type "list", dict:=odict,data:=.seq items nl,slots:=oslots }:=Heap.get?_push_of_some _ hol
    have hsls:=F.sub_list_set
    have hslf:=F.sub_list_frozenset
    have hne:(Value.type "list" == Value.type "dict")=false:=by decide
    have hl1:(s.heap.push (dl w)).IsList l items:=⟨_,hol',rfl,nl,rfl⟩
    unfold Builtin.«set.__init__» noKeywords Builtin.Frozenset.updateFrom
    generalize hPI:pyIter=PI
    wp_walk
    subst hPI
    refine wpAny_pyIter_list hl1 ?_
    refine wpAny_bind (wpAny_runValue ?_)
    have hlS:l < s.heap.objs.size:=Heap.lt_size hol
    have hh3:A.in1.in1.in1.handled=none:=by simp [hh]
    have hneI:l≠(s.heap.push (dl w)).objs.size:=by
     rw [Heap.size_push]; exact Nat.ne_of_lt (Nat.lt_succ_of_lt hlS)
    have hSf:s.heap.objs.size ∉ [(s.heap.push (dl w)).objs.size,l]:=by
     rw [Heap.size_push]; simp only [List.mem_cons,List.mem_singleton,List.not_mem_nil,or_false,not_or]
     exact ⟨Nat.ne_of_lt (Nat.lt_succ_self _),Nat.ne_of_gt hlS⟩
    refine zn (knd:=knd) ((Walks.list hh3 _ l hneI items).toS) s.heap.objs.size hSf val (fun i v hv=>hval i v hv) hb (items.size - 0) 0 _ (by nofun) (Nat.zero_le _)
     ⟨⟨_,Heap.get?_push_size _ rfl,rfl,rfl⟩,(hl1.push _)⟩ (CD (Heap.get?_push_of_some _ hS)) ?hR
    case hR =>
     intro s' hm hS'
     obtain ⟨h',g',d',tk',os'⟩:=s'
     have eg:g'=s.gens:=hm.gens
     have ed:d'=s.drawn:=hm.drawn
     have eo:os'=s.os:=hm.os
     subst eg; subst ed; subst eo
     show wpAny _ _ _ _ _ _
     refine wpAny_pure ?_
     show wpAny _ _ (ret Value.none) _ _ _
     refine wpAny_pure ⟨rfl,h',tk',rfl,hS',fun b o hb e=>?_⟩
     have hb1:b≠s.heap.objs.size:=Nat.ne_of_lt hb
     have hb2:b≠(s.heap.push (dl w)).objs.size:=by
      rw [Heap.size_push]; exact Nat.ne_of_lt (Nat.lt_succ_of_lt hb)
     exact hm.heap b o (by simp only [List.mem_cons,List.mem_singleton,List.not_mem_nil,or_false,not_or]; exact ⟨hb1,hb2⟩) (Heap.get?_push_of_some _ (Heap.get?_push_of_some _ e))
   ·cases r₂ with
    | error e=>exact hr₂
    | ok fl₂ =>
     cases fl₂ with
     | ret r =>
      obtain ⟨rfl,h',tk,rfl,hS',hk'⟩:=hr₂
      repeat (any_goals (first | assumption | wp_step))
      exact h _ _ hS' hk'
     | next=>exact hr₂.elim
     | brk=>exact hr₂.elim
     | cont=>exact hr₂.elim
  | next=>exact hr.elim
  | brk=>exact hr.elim
  | cont=>exact hr.elim
end
end KS
set_option maxHeartbeats 4000000
namespace KS
open PySem PySem.Spec PyProof.Rows
theorem jB:entryFor table "set.__iter__" = some Builtin.«frozenset.__iter__»:=entryFor_alias (id' := "frozenset.__iter__") (by kernel_rfl) rfl (by decide +kernel) (by kernel_rfl)
theorem kG (a:Value):argsOk "set.__iter__" ⟨[a],[]⟩:=by unfold argsOk; kernel_rfl
theorem fU:Slot "set_iterator" "__iter__" "set_iterator.__iter__" :=
 .of (owner := "set_iterator") (n := "__iter__") (by rw [typeLookup_type,builtinLookup_eq_fast]; kernel_rfl) (by decide +kernel) (by decide +kernel) (by decide +kernel)
  (by first | exact .inl (by decide +kernel) | exact .inr (by decide +kernel)) (by rw [isSubtype_type]; kernel_rfl)
theorem bA:Slot "set_iterator" "__next__" "set_iterator.__next__" :=
 .of (owner := "set_iterator") (n := "__next__") (by rw [typeLookup_type,builtinLookup_eq_fast]; kernel_rfl) (by decide +kernel) (by decide +kernel) (by decide +kernel)
  (by first | exact .inl (by decide +kernel) | exact .inr (by decide +kernel)) (by rw [isSubtype_type]; kernel_rfl)
theorem iU:entryFor table "set_iterator.__iter__" = some Builtin.«dict_keyiterator.__iter__»:=entryFor_alias (id' := "dict_keyiterator.__iter__") (by kernel_rfl) rfl (by decide +kernel) (by kernel_rfl)
theorem dm:entryFor table "set_iterator.__next__" = some Builtin.«set_iterator.__next__»:=entryFor_of_fast (by kernel_rfl)
theorem jC (a:Value):argsOk "set_iterator.__iter__" ⟨[a],[]⟩:=by unfold argsOk; kernel_rfl
theorem dG (a:Value):argsOk "set_iterator.__next__" ⟨[a],[]⟩:=by unfold argsOk; kernel_rfl
theorem gJ {α:Type}:∀ (l:List α) (i:Nat) (h:i < l.length),(l[i]::l.eraseIdx i).Perm l
 | [],_,h=>by simp at h
 | x::l,0,_=>.refl _
 | x::l,i+1,h=>by
  have h':i < l.length:=by first|exact List.mem_singleton.mp h|simpa using h
  show (l[i]::x::l.eraseIdx i).Perm (x::l)
  exact (List.Perm.swap x l[i] _).trans (List.Perm.cons x (gJ l i h'))
section
variable {prog:Program} {w:World} {A:Around} {E:Value→Shared→Prop} {s:Shared}
theorem lX {α:Type}{n:Nat}{k:Nat→Sem α}{Q:α→Shared→Prop}{M:Model}(hn:n≠0)(h:∀ i d',i < n→wpAny M A (k i) Q E { s with drawn:=d' }):wpAny M A (choose .order n >>= k) Q E s:=by
 intro Γ p hΓ
 refine ⟨hn,h _ _ (Nat.mod_lt _ (Nat.pos_of_ne_zero hn)) Γ p hΓ⟩
theorem jT {α:Type}{M:Model}:∀ (n:Nat) (xs:List α) (s:Shared) (Q:List α→Shared→Prop),xs.length=n→(∀ ys d',ys.Perm xs→Q ys { s with drawn:=d' })→wpAny M A (drawOrder n xs) Q E s
 | 0,xs,s,Q,hl,h=>by
  have e:xs=[]:=List.eq_nil_of_length_eq_zero hl
  subst e
  exact wpAny_pure (h [] s.drawn (.refl _))
 | n+1,[],s,Q,hl,h=>by simp at hl
 | n+1,x::xs,s,Q,hl,h=>by
  refine lX (by simp) fun i d1 hi=>?_
  have hx:(x::xs)[i]?=some (x::xs)[i]:=List.getElem?_eq_getElem hi
  rw [hx]
  dsimp only
  refine wpAny_bind (jT n ((x::xs).eraseIdx i) _ _ (by rw [List.length_eraseIdx_of_lt hi]; simpa using hl) fun ys d' hp=>wpAny_pure (h _ d' ?_))
  exact (List.Perm.cons _ hp).trans (gJ _ i hi)
end
end KS
set_option maxHeartbeats 4000000
namespace KS
open PySem PySem.Spec PyProof.Rows
section
variable {prog:Program} {w:World} {A:Around} {E:Value→Shared→Prop} {s:Shared}
abbrev d8 (first:Value)(i:Nat)(x:Value)(n ep:Nat):Obj:={ cls:=.type "set_iterator", dict:=none,data:=.fields #[first,.int (i:Int) 0,x,.int (n:Int) 0,.int (ep:Int) 0],slots:=#[] }
theorem rL {I:Addr}{Q:Option Value→Shared→Prop}(hh:A.handled=none)(hQ:∀ h',(∀ b o,s.heap.get? b=some o→h'.get? b=some o)→Q none { s with heap:=h' }){QQ:PySem.Fin→Shared→Prop} :
  wpAny (model prog w) A.in1 (do let e ← newExc (.type "StopIteration") []; raiseNew e:Sem PySem.Fin) QQ (fun e s'=>wpAny (model prog w) A (do if (← isInstance e (.type "StopIteration"))=true then pure none else throw e) Q E s') s:=by
 refine wpAny_bind ?_
 simp only [newExc,newTuple]
 refine wpAny_bind (wpAny_newObj_type ?_ (by size_fits))
 refine wpAny_bind (m:=firstArgMember _ _) (wpAny_of_eq (a:=Value.none) (by first | rfl | (simp only [firstArgMember]; rfl)) ?_)
 refine wpAny_newObj_type ?_ (by size_fits)
 simp only [raiseNew]
 refine wpAny_bind (wpAny_handled ?_)
 rw [show A.in1.handled=none from hh]
 refine wpAny_bind (wpAny_pure (wpAny_throw ?_))
 refine wpAny_bind (wpAny_isInstance (T := "StopIteration") (b:=true) ⟨_,Heap.get?_push_size _ rfl,rfl⟩ isSubtype_stop ?_)
 exact wpAny_pure (hQ _ fun b o e=>Heap.get?_push_of_some _ (Heap.get?_push_of_some _ e))
variable {I a:Addr} {o:Obj} {es:Array (Int×Value)} {ep i n f:Nat} {t:SetTable} {Q:Option Value→Shared→Prop}
theorem om {x:Value}{nx:Nat}(ho:s.heap.get? I=some (d8 (.int (f:Int) 0) i (.ref a) n ep))(ha:s.heap.get? a=some o)(hd:o.data=.set es ep t)(hf:t.fits es.size=true)(hn:n=es.size)
  (hs:∀ (E':Value→Shared→Prop) (Q':Option (Value×Nat)→Shared→Prop),Q' (some (x,nx)) s→wpAny (model prog w) A.in1 (setNext a f i ep) Q' E' s)
  (hQ:∀ h',h'.get? I=some (d8 (.int (nx:Int) 0) (i+1) (.ref a) n ep)→Heap.SameBut I s.heap h'→Q (some x) { s with heap:=h' }):wpAny (model prog w) A (pyNext (.ref I)) Q E s:=by
 have hT:s.TypeIs (.ref I) "set_iterator" := ⟨_,ho,rfl⟩
 subst hn
 unfold pyNext
 refine wpAny_bind (wpAny_attempt (wpAny_callSpecial?_slot (name:=Str.ofString "__next__") hT bA (wpAny_call_entry bA hT dm ?_ (dG _))))
 unfold Builtin.«set_iterator.__next__»
 refine wpAny_bind (m:=slotArgs "__next__" 0 _) (wpAny_pure ?_)
 try dsimp only
 refine wpAny_bind (wpAny_fieldsOf ho rfl ?_)
 try dsimp only
 refine wpAny_bind (wpAny_setEntries_of ha hd hf ?_)
 rw [if_neg (by simp)]
 try dsimp only
 simp only [Int.toNat_natCast]
 refine wpAny_bind (hs _ _ ?_)
 try dsimp only
 refine wpAny_bind (wpAny_setField_rec ho (by simp) fun h1 g1 b1=>?_)
 refine wpAny_bind (wpAny_setField_rec (s:={ s with heap:=h1 }) g1 (by simp) fun h2 g2 b2=>?_)
 refine wpAny_pure ⟨x,rfl,wpAny_pure (hQ h2 ?_ (b1.trans b2))⟩
 rw [g2]
 rfl
theorem oo (hh:A.handled=none)(ho:s.heap.get? I=some (d8 (.int (f:Int) 0) i (.ref a) n ep))(ha:s.heap.get? a=some o)(hd:o.data=.set es ep t)(hf:t.fits es.size=true)(hn:n=es.size)
  (hs:∀ (E':Value→Shared→Prop) (Q':Option (Value×Nat)→Shared→Prop),Q' none s→wpAny (model prog w) A.in1 (setNext a f i ep) Q' E' s)
  (hQ:∀ h',(∀ b ob,b≠I→s.heap.get? b=some ob→h'.get? b=some ob)→Q none { s with heap:=h' }):wpAny (model prog w) A (pyNext (.ref I)) Q E s:=by
 have hT:s.TypeIs (.ref I) "set_iterator" := ⟨_,ho,rfl⟩
 subst hn
 unfold pyNext
 refine wpAny_bind (wpAny_attempt (wpAny_callSpecial?_slot (name:=Str.ofString "__next__") hT bA (wpAny_call_entry bA hT dm ?_ (dG _))))
 unfold Builtin.«set_iterator.__next__»
 refine wpAny_bind (m:=slotArgs "__next__" 0 _) (wpAny_pure ?_)
 try dsimp only
 refine wpAny_bind (wpAny_fieldsOf ho rfl ?_)
 try dsimp only
 refine wpAny_bind (wpAny_setEntries_of ha hd hf ?_)
 rw [if_neg (by simp)]
 try dsimp only
 simp only [Int.toNat_natCast]
 refine wpAny_bind (hs _ _ ?_)
 try dsimp only
 refine wpAny_bind (wpAny_setField_rec ho (by simp) fun h1 g1 b1=>?_)
 exact rL (s:={ s with heap:=h1 }) (I:=I) hh fun h' k=>hQ h' fun b ob hb e=>k b ob ((b1.2 b hb).trans e)
theorem pV {x:Value}{hx:Int}{pl:Addr}{op:Obj}{pls:Array Value}{c place:Nat}(ho:s.heap.get? I=some (d8 (.ref pl) i (.ref a) n ep))(ha:s.heap.get? a=some o)(hd:o.data=.set es ep t)(hf:t.fits es.size=true)(hn:n=es.size)
  (hp:s.heap.get? pl=some op) (hpd:op.data=.seq pls c) (hpi:pls[i]?=some (.int (place:Int) 0)) (hx':es[place]?=some (hx,x))
  (hQ:∀ h',h'.get? I=some (d8 (.ref pl) (i+1) (.ref a) n ep)→Heap.SameBut I s.heap h'→Q (some x) { s with heap:=h' }):wpAny (model prog w) A (pyNext (.ref I)) Q E s:=by
 have hT:s.TypeIs (.ref I) "set_iterator" := ⟨_,ho,rfl⟩
 subst hn
 unfold pyNext
 refine wpAny_bind (wpAny_attempt (wpAny_callSpecial?_slot (name:=Str.ofString "__next__") hT bA (wpAny_call_entry bA hT dm ?_ (dG _))))
 unfold Builtin.«set_iterator.__next__»
 refine wpAny_bind (m:=slotArgs "__next__" 0 _) (wpAny_pure ?_)
 try dsimp only
 refine wpAny_bind (wpAny_fieldsOf ho rfl ?_)
 try dsimp only
 refine wpAny_bind (wpAny_setEntries_of ha hd hf ?_)
 rw [if_neg (by simp)]
 try dsimp only
 simp only [Int.toNat_natCast]
 refine wpAny_bind (m:=seqItems? _) ?_
 unfold seqItems?
 refine wpAny_bind (wpAny_load hp ?_)
 rw [hpd]
 refine wpAny_pure ?_
 dsimp only
 rw [hpi]
 dsimp only
 simp only [Int.toNat_natCast]
 refine wpAny_bind (m:=setNextDrawn _ _ _) ?_
 unfold setNextDrawn
 refine wpAny_bind (wpAny_setState_of ha hd hf ?_)
 dsimp only
 simp only [bne_self_eq_false,Bool.false_eq_true,if_false]
 rw [hx']
 refine wpAny_pure ?_
 refine wpAny_bind (wpAny_setField_rec ho (by simp) fun h1 g1 b1=>?_)
 refine wpAny_pure ⟨x,rfl,wpAny_pure (hQ h1 ?_ b1)⟩
 rw [g1]
 rfl
theorem pW {pl:Addr}{op:Obj}{pls:Array Value}{c:Nat}(hh:A.handled=none)(ho:s.heap.get? I=some (d8 (.ref pl) i (.ref a) n ep))(ha:s.heap.get? a=some o)(hd:o.data=.set es ep t)(hf:t.fits es.size=true)(hn:n=es.size)
  (hp:s.heap.get? pl=some op) (hpd:op.data=.seq pls c) (hpi:pls[i]?=none)
  (hQ:∀ h',(∀ b ob,b≠I→s.heap.get? b=some ob→h'.get? b=some ob)→Q none { s with heap:=h' }):wpAny (model prog w) A (pyNext (.ref I)) Q E s:=by
 have hT:s.TypeIs (.ref I) "set_iterator" := ⟨_,ho,rfl⟩
 subst hn
 unfold pyNext
 refine wpAny_bind (wpAny_attempt (wpAny_callSpecial?_slot (name:=Str.ofString "__next__") hT bA (wpAny_call_entry bA hT dm ?_ (dG _))))
 unfold Builtin.«set_iterator.__next__»
 refine wpAny_bind (m:=slotArgs "__next__" 0 _) (wpAny_pure ?_)
 try dsimp only
 refine wpAny_bind (wpAny_fieldsOf ho rfl ?_)
 try dsimp only
 refine wpAny_bind (wpAny_setEntries_of ha hd hf ?_)
 rw [if_neg (by simp)]
 try dsimp only
 simp only [Int.toNat_natCast]
 refine wpAny_bind (m:=seqItems? _) ?_
 unfold seqItems?
 refine wpAny_bind (wpAny_load hp ?_)
 rw [hpd]
 refine wpAny_pure ?_
 dsimp only
 rw [hpi]
 dsimp only
 refine wpAny_bind (wpAny_setField_rec ho (by simp) fun h1 g1 b1=>?_)
 refine wpAny_bind (wpAny_setField_rec (s:={ s with heap:=h1 }) g1 (by simp) fun h2 g2 b2=>?_)
 exact rL (s:={ s with heap:=h2 }) (I:=I) hh fun h' k=>hQ h' fun b ob hb e=>k b ob ((b2.2 b hb).trans ((b1.2 b hb).trans e))
theorem hU {slot g:Nat}{r:Option (Value×Nat)}{Q':Option (Value×Nat)→Shared→Prop}{A':Around}(hby:byText w=true)(ha:s.heap.get? a=some o)(hd:o.data=.set es ep t)(hf:t.fits es.size=true)
  (hr:((pickOrder (w.params.setOrder a ep) es)[g]?).map (fun e=>(e.2,slot))=r) (h:Q' r s):wpAny (model prog w) A' (setNext a slot g ep) Q' E s:=by
 unfold setNext
 refine wpAny_bind (wpAny_setState_of ha hd hf ?_)
 dsimp only
 unfold setsByText
 refine wpAny_bind (wpAny_bind (wpAny_askSetting (wpAny_pure ?_)))
 rw [show (model prog w).w.params.followText "set-order" = true from hby]
 simp only [bne_self_eq_false,Bool.false_eq_true,if_false,if_true]
 refine wpAny_bind (m:=setWalk a) ?_
 unfold setWalk
 refine wpAny_bind (wpAny_setState_of ha hd hf ?_)
 dsimp only
 unfold setsByText
 refine wpAny_bind (wpAny_bind (wpAny_askSetting (wpAny_pure ?_)))
 rw [show (model prog w).w.params.followText "set-order" = true from hby]
 simp only [if_true]
 refine wpAny_bind (wpAny_askSetting (wpAny_pure ?_))
 refine wpAny_pure ?_
 rw [← hr] at h
 exact h
theorem iV {slot g:Nat}{Q':Option (Value×Nat)→Shared→Prop}{A':Around}(hby:byText w=false)(ha:s.heap.get? a=some o)(hd:o.data=.set es ep t)(hf:t.fits es.size=true)(hdr:(!t.plain && decide (es.size > 1))=false)(hled:t.led=true)
  (h:Q' (match es[SetTable.below t.place slot]?,t.place[SetTable.below t.place slot]? with | some (_,x),some j=>some (x,j+1) | _,_=>none) s):wpAny (model prog w) A' (setNext a slot g ep) Q' E s:=by
 unfold setNext
 refine wpAny_bind (wpAny_setState_of ha hd hf ?_)
 dsimp only
 unfold setsByText
 refine wpAny_bind (wpAny_bind (wpAny_askSetting (wpAny_pure ?_)))
 rw [show (model prog w).w.params.followText "set-order" = false from hby]
 simp only [Bool.false_eq_true,if_false]
 show wpAny _ _ (if (!t.plain && decide (es.size > 1))=true then _ else _) _ _ _
 rw [hdr]
 simp only [Bool.false_eq_true,if_false]
 refine wpAny_bind ?_
 show wpAny _ _ (if (!t.led && !es.isEmpty)=true then _ else _) _ _ _
 rw [hled]
 simp only [Bool.not_true,Bool.false_and,Bool.false_eq_true,if_false]
 exact wpAny_pure (wpAny_pure h)
end
end KS
set_option maxHeartbeats 4000000
namespace KS
open PySem PySem.Spec PyProof.Rows
theorem rM {α:Type}(next:Nat→Nat):∀ (fuel k:Nat) (left:List α) (out:Array α),left.length≤fuel→(pickOrder.go next fuel k left out).toList.Perm (out.toList++left)
 | 0,k,left,out,h=>by
  have e:left=[]:=List.eq_nil_of_length_eq_zero (by nofun)
  subst e
  show out.toList.Perm (out.toList++[])
  rw [List.append_nil]
 | fuel+1,k,[],out,_=>by
  show out.toList.Perm (out.toList++[])
  rw [List.append_nil]
 | fuel+1,k,x::left,out,h=>by
  show (match (x::left)[next k % (x::left).length]? with
   | some y=>pickOrder.go next fuel (k+1) ((x::left).eraseIdx (next k % (x::left).length)) (out.push y)
   | none=>out).toList.Perm _
  have hi:next k % (x::left).length < (x::left).length:=Nat.mod_lt _ (by simp)
  rw [List.getElem?_eq_getElem hi]
  dsimp only
  refine (rM next fuel (k+1) _ _ (by rw [List.length_eraseIdx_of_lt hi]; simp at h ⊢; nofun)).trans ?_
  rw [Array.toList_push,List.append_assoc]
  exact List.Perm.append_left _ (gJ _ _ hi)
theorem eu {α:Type}(next:Nat→Nat)(xs:Array α):(pickOrder next xs).toList.Perm xs.toList:=by
 unfold pickOrder
 have q:=rM next xs.size 0 xs.toList #[] (by simp)
 simpa using q
theorem xH (es:Array (Int×Value)):∀ ys:List Nat,(∀ j ∈ ys,j < es.size)→ys.filterMap (fun j=>(es[j]?).map (·.2))=ys.map fun j=>((es[j]?).map (·.2)).getD Value.none
 | [],_=>rfl
 | j::ys,h=>by
  have hj:=h j List.mem_cons_self
  rw [List.filterMap_cons,Array.getElem?_eq_getElem hj]
  show es[j].2::ys.filterMap (fun j=>(es[j]?).map (·.2))=_
  rw [xH es ys fun i hi=>h i (List.mem_cons_of_mem _ hi),List.map_cons,Array.getElem?_eq_getElem hj]
  rfl
section
variable {prog:Program} {w:World} {A:Around} {E:Value→Shared→Prop} {s:Shared} {I a:Addr} {o:Obj} {es:Array (Int×Value)} {ep n:Nat} {t:SetTable}
theorem iW {i:Nat}{f x:Value}{Q:Value→Shared→Prop}(ho:s.heap.get? I=some (d8 f i x n ep))(h:Q (.ref I) s):wpAny (model prog w) A (pyIter (.ref I)) Q E s:=by
 have hT:s.TypeIs (.ref I) "set_iterator" := ⟨_,ho,rfl⟩
 refine wpAny_pyIter_slot hT fU (wpAny_call_entry fU hT iU ?_ (jC _))
 show wpAny _ _ (ret (.ref I)) _ _ s
 exact wpAny_pure ⟨_,rfl, "set_iterator", _,hT,bA.lookup,h⟩
theorem rN {h':Heap}(hs:Heap.SameBut I s.heap h'):Moved [I] Eq s { s with heap:=h' } :=
 ⟨fun b ob hb e=>(hs.2 b (fun z=>hb (by simp [z]))).trans e,rfl,rfl,rfl,Nat.le_refl _⟩
theorem rO {h':Heap}(hs:∀ b ob,b≠I→s.heap.get? b=some ob→h'.get? b=some ob):Moved [I] Eq s { s with heap:=h' } :=
 ⟨fun b ob hb e=>hs b ob (fun z=>hb (by simp [z])) e,rfl,rfl,rfl,Nat.le_refl _⟩
theorem pX (hh:A.handled=none)(hne:a≠I)(hd:o.data=.set es ep t)(hf:t.fits es.size=true)(hby:byText w=true) :
  WalksS prog w A I [I,a] [I] Eq es.size (fun i v=>((pickOrder (w.params.setOrder a ep) es).toList.map (·.2))[i]?=some v) (fun i s=>s.heap.get? I=some (d8 (.int ((0:Nat):Int) 0) i (.ref a) es.size ep)∧s.heap.get? a=some o) where
 sub:=fun b hb=>by simp at hb; simp [hb]
 grefl:=fun _=>rfl
 gtrans:=fun _ _ _ x y=>x.trans y
 frame:=fun i s h' tk st _ k=>⟨k I (by simp) _ st.1,k a (by simp) _ st.2⟩
 item:=fun i s Q E hi st hQ=>by
  have hl:(pickOrder (w.params.setOrder a ep) es).size=es.size:=by rw [← Array.length_toList,(eu _ es).length_eq,Array.length_toList]
  have hx:(pickOrder (w.params.setOrder a ep) es)[i]?=some ((pickOrder (w.params.setOrder a ep) es)[i]'(by nofun)):=Array.getElem?_eq_getElem _
  refine om (x:=((pickOrder (w.params.setOrder a ep) es)[i]'(by nofun)).2) (nx:=0) st.1 st.2 hd hf rfl (fun E' Q' q=>hU hby st.2 hd hf (by rw [hx]; rfl) q) fun h' g b=>hQ _ _ ?_ ⟨g,(b.2 a hne).trans st.2⟩ (rN b)
  rw [List.getElem?_map,Array.getElem?_toList,hx]
  rfl
 done:=fun s Q E st hQ=>by
  have hl:(pickOrder (w.params.setOrder a ep) es).size=es.size:=by rw [← Array.length_toList,(eu _ es).length_eq,Array.length_toList]
  refine oo hh st.1 st.2 hd hf rfl (fun E' Q' q=>hU hby st.2 hd hf (by rw [Array.getElem?_eq_none (by nofun)]; rfl) q) fun h' k=>hQ _ (rO k)
 self:=fun i s Q E st h=>iW st.1 h
theorem rP (hh:A.handled=none)(hne:a≠I)(hd:o.data=.set es ep t)(hf:t.fits es.size=true)(hby:byText w=false)(hdr:(!t.plain && decide (es.size > 1))=false)(hr:Ris t.place)(hled:t.led=true) :
  WalksS prog w A I [I,a] [I] Eq es.size (fun i v=>(es.toList.map (·.2))[i]?=some v) (fun i s=>(∃ f:Nat,SetTable.below t.place f=i∧s.heap.get? I=some (d8 (.int (f:Int) 0) i (.ref a) es.size ep))∧s.heap.get? a=some o) where
 sub:=fun b hb=>by simp at hb; simp [hb]
 grefl:=fun _=>rfl
 gtrans:=fun _ _ _ x y=>x.trans y
 frame:=fun i s h' tk st _ k=>by
  obtain ⟨⟨f,f0,g⟩,ga⟩:=st
  exact ⟨⟨f,f0,k I (by simp) _ g⟩,k a (by simp) _ ga⟩
 item:=fun i s Q E hi st hQ=>by
  obtain ⟨⟨f,f0,g⟩,ga⟩:=st
  have hsz:t.place.size=es.size:=by
   have hf':=hf
   simp only [SetTable.fits,Bool.and_eq_true,beq_iff_eq] at hf'
   exact hf'.1
  have hpl:t.place[i]?=some (t.place[i]'(by nofun)):=Array.getElem?_eq_getElem _
  have hes:es[i]?=some (es[i]'hi):=Array.getElem?_eq_getElem _
  refine om (x:=(es[i]'hi).2) (nx:=(t.place[i]'(by nofun))+1) g ga hd hf rfl (fun E' Q' q=>iV hby ga hd hf hdr hled (by rw [f0,hes,hpl]; exact q)) fun h' g' b=>hQ _ _ ?_ ⟨⟨_,pR hr hpl,g'⟩,(b.2 a hne).trans ga⟩ (rN b)
  rw [List.getElem?_map,Array.getElem?_toList,hes]
  rfl
 done:=fun s Q E st hQ=>by
  obtain ⟨⟨f,f0,g⟩,ga⟩:=st
  refine oo hh g ga hd hf rfl (fun E' Q' q=>iV hby ga hd hf hdr hled ?_) fun h' k=>hQ _ (rO k)
  have hbe:es[SetTable.below t.place f]?=none:=by rw [f0]; exact Array.getElem?_eq_none (Nat.le_refl _)
  rw [hbe]
  exact q
 self:=fun i s Q E st h=>by
  obtain ⟨⟨f,f0,g⟩,ga⟩:=st
  exact iW g h
theorem nq {pl:Addr}{op:Obj}{ys:List Nat}{c:Nat}(hh:A.handled=none)(hne:a≠I)(hnp:pl≠I)(hd:o.data=.set es ep t)(hf:t.fits es.size=true)(hpd:op.data=.seq (ys.map fun (i:Nat)=>Value.int (i:Int) 0).toArray c)(hys:ys.Perm (List.range es.size)) :
  WalksS prog w A I [I,a,pl] [I] Eq es.size (fun i v=>(ys.filterMap fun j=>(es[j]?).map (·.2))[i]?=some v) (fun i s=>s.heap.get? I=some (d8 (.ref pl) i (.ref a) es.size ep)∧s.heap.get? a=some o∧s.heap.get? pl=some op) where
 sub:=fun b hb=>by simp at hb; simp [hb]
 grefl:=fun _=>rfl
 gtrans:=fun _ _ _ x y=>x.trans y
 frame:=fun i s h' tk st _ k=>⟨k I (by simp) _ st.1,k a (by simp) _ st.2.1,k pl (by simp) _ st.2.2⟩
 item:=fun i s Q E hi st hQ=>by
  have hl:ys.length=es.size:=by rw [hys.length_eq,List.length_range]
  have hyi:ys[i]?=some (ys[i]'(by nofun)):=List.getElem?_eq_getElem _
  have hlt:ys[i]'(by nofun) < es.size:=List.mem_range.mp (hys.mem_iff.mp (List.getElem_mem _))
  have hes:es[ys[i]'(by nofun)]?=some es[ys[i]'(by nofun)]:=Array.getElem?_eq_getElem hlt
  refine pV (x:=es[ys[i]'(by nofun)].2) (hx:=es[ys[i]'(by nofun)].1) (place:=ys[i]'(by nofun)) st.1 st.2.1 hd hf rfl st.2.2 hpd (by rw [List.getElem?_toArray,List.getElem?_map,hyi]; rfl) hes fun h' g b=>hQ _ _ ?_ ⟨g,(b.2 a hne).trans st.2.1,(b.2 pl hnp).trans st.2.2⟩ (rN b)
  have all:=xH es ys fun j hj=>List.mem_range.mp (hys.mem_iff.mp hj)
  rw [all,List.getElem?_map,hyi]
  show some (((es[ys[i]'(by nofun)]?).map (·.2)).getD Value.none)=_
  rw [hes]
  rfl
 done:=fun s Q E st hQ=>by
  have hl:ys.length=es.size:=by rw [hys.length_eq,List.length_range]
  exact pW hh st.1 st.2.1 hd hf rfl st.2.2 hpd (by rw [List.getElem?_toArray,List.getElem?_eq_none (by rw [List.length_map]; nofun)]) fun h' k=>hQ _ (rO k)
 self:=fun i s Q E st h=>iW st.1 h
theorem vj {Q:Value→Shared→Prop}(ha:s.heap.get? a=some o)(hex:o.ExactSet)(hd:o.data=.set es ep t)(hf:t.fits es.size=true)(hb:es.size < scanBound)(hled:t.led=!byText w)(hpl:t.plain=true→Ris t.place)
  (h:∀ (I:Addr) (fp:List Addr) (St:Nat→Shared→Prop) (ord:List Value) (h':Heap) (d':Drawn),(∀ A':Around,A'.handled=none→WalksS prog w A' I fp [I] Eq es.size (fun i v=>ord[i]?=some v) St)→St 0 { s with heap:=h',drawn:=d' } →
   (∀ b ∈ fp,b < h'.objs.size)→I ∈ fp→a≠I→(∀ b ∈ fp,b=a∨s.heap.objs.size≤b)→ord.Perm (es.toList.map (·.2))→(∀ b ob,s.heap.get? b=some ob→h'.get? b=some ob)→Q (.ref I) { s with heap:=h',drawn:=d' }) :
  wpAny (model prog w) A (pyIter (.ref a)) Q E s:=by
 have hT:s.TypeIs (.ref a) "set" := ⟨o,ha,hex.1⟩
 refine wpAny_pyIter_slot hT F.slot_set_iter (wpAny_call_entry F.slot_set_iter hT jB ?_ (kG _))
 unfold Builtin.«frozenset.__iter__»
 refine wpAny_bind (m:=Builtin.Frozenset.slot0 "__iter__" _) (wpAny_pure ?_)
 refine wpAny_bind (m:=Builtin.Frozenset.sizeOf _) (wpAny_bind (wpAny_setEntries_of ha hd hf (wpAny_pure ?_)))
 have alt:a < s.heap.objs.size:=Heap.lt_size ha
 unfold setDrawn
 refine wpAny_bind (wpAny_bind (wpAny_setState_of ha hd hf ?_))
 dsimp only
 unfold setsByText
 refine wpAny_bind (wpAny_bind (wpAny_askSetting (wpAny_pure ?_)))
 refine wpAny_pure ?_
 show wpAny _ _ (if (!byText w && (!t.plain && decide (es.size > 1)))=true then _ else _) _ _ _
 have fin:∀ (first:Value) (h1:Heap) (d1:Drawn),(∀ b ob,s.heap.get? b=some ob→h1.get? b=some ob)→s.heap.objs.size≤h1.objs.size →
   (∀ (I:Addr),I=h1.objs.size→Q (.ref I) { s with heap:=h1.push (d8 first 0 (.ref a) es.size ep),drawn:=d1 }) →
   wpAny (model prog w) A.in1 (do
    let e ← setEpoch a
    let v ← newFields "set_iterator" [first,rawInt 0,Value.ref a,rawInt es.size,rawInt e]
    ret v) (fun fin s'=>∃ v,fin=Fin.done (Flow.ret v)∧∃ T' r,s'.TypeIs v T'∧typeLookup (Value.type T') (Str.ofString "__next__")=pure (some r)∧Q v s') E { s with heap:=h1,drawn:=d1 }:=by
  intro first h1 d1 k hz q
  refine wpAny_bind (wpAny_setEpoch_of (s:={ s with heap:=h1,drawn:=d1 }) (k a o ha) hd hf ?_)
  exact wpAny_bind (wpAny_newObj_type (wpAny_pure ⟨_,rfl, "set_iterator", _,⟨_,Heap.get?_push_size _ rfl,rfl⟩,bA.lookup,q _ rfl⟩))
 by_cases hdr:(!byText w && (!t.plain && decide (es.size > 1)))=true
 ·rw [if_pos hdr]
  refine wpAny_bind (jT es.size (List.range es.size) s _ (by simp) fun ys d' hp=>?_)
  refine wpAny_bind (wpAny_newTuple ?_ (by rw [List.length_map,hp.length_eq,List.length_range]; exact fits_of_scanBound hb))
  generalize hP:({ cls:=.type "tuple", data:=.seq (ys.map fun (i:Nat)=>rawInt (i:Int)).toArray }:Obj)=op
  have hz1:(s.heap.push op).objs.size=s.heap.objs.size+1:=Heap.size_push ..
  have hop:op.data=.seq (ys.map fun (i:Nat)=>Value.int (i:Int) 0).toArray 0:=by rw [← hP]; rfl
  refine fin _ (s.heap.push op) d' (fun b ob e=>Heap.get?_push_of_some _ e) (by rw [hz1]; exact Nat.le_succ _) fun I hI=>?_
  rw [hz1] at hI
  have hpI:s.heap.objs.size≠I:=by rw [hI]; exact Nat.ne_of_lt (Nat.lt_succ_self _)
  have haI:a≠I:=by rw [hI]; exact Nat.ne_of_lt (Nat.lt_succ_of_lt alt)
  have hz2:((s.heap.push op).push (d8 (.ref s.heap.objs.size) 0 (.ref a) es.size ep)).objs.size=s.heap.objs.size+2:=by rw [Heap.size_push,hz1]
  have q1:((s.heap.push op).push (d8 (.ref s.heap.objs.size) 0 (.ref a) es.size ep)).get? I=some (d8 (.ref s.heap.objs.size) 0 (.ref a) es.size ep):=by
   rw [hI,← hz1]
   exact Heap.get?_push_size _ rfl
  have q2:((s.heap.push op).push (d8 (.ref s.heap.objs.size) 0 (.ref a) es.size ep)).get? a=some o:=Heap.get?_push_of_some _ (Heap.get?_push_of_some _ ha)
  have q3:((s.heap.push op).push (d8 (.ref s.heap.objs.size) 0 (.ref a) es.size ep)).get? s.heap.objs.size=some op:=Heap.get?_push_of_some _ (Heap.get?_push_size s.heap (o:=op) (by rw [← hP]; rfl))
  have q4:∀ b ∈ [I,a,s.heap.objs.size],b < ((s.heap.push op).push (d8 (.ref s.heap.objs.size) 0 (.ref a) es.size ep)).objs.size:=by
   intro b hb
   rw [hz2]
   simp only [List.mem_cons,List.not_mem_nil,or_false] at hb
   rcases hb with rfl | rfl | rfl
   ·rw [hI]; exact Nat.lt_succ_self _
   ·exact Nat.lt_succ_of_lt (Nat.lt_succ_of_lt alt)
   ·exact Nat.lt_succ_of_lt (Nat.lt_succ_self _)
  have q6:∀ b ∈ [I,a,s.heap.objs.size],b=a∨s.heap.objs.size≤b:=by
   intro b hb
   simp only [List.mem_cons,List.not_mem_nil,or_false] at hb
   rcases hb with rfl | rfl | rfl
   ·exact .inr (by rw [hI]; exact Nat.le_succ _)
   ·exact .inl rfl
   ·exact .inr (Nat.le_refl _)
  have q5:(ys.filterMap fun j=>(es[j]?).map (·.2)).Perm (es.toList.map (·.2)):=by
   refine (hp.filterMap fun j=>(es[j]?).map (·.2)).trans ?_
   rw [← PySem.filterMap_getElem?_range es,List.map_filterMap]
  exact h I [I,a,s.heap.objs.size] _ (ys.filterMap fun j=>(es[j]?).map (·.2)) _ d' (fun A' hA=>nq (op:=op) hA haI hpI hd hf hop hp) ⟨q1,q2,q3⟩ q4 (by simp) haI q6 q5 (fun b ob e=>Heap.get?_push_of_some _ (Heap.get?_push_of_some _ e))
 ·rw [if_neg hdr]
  refine wpAny_bind (wpAny_pure ?_)
  refine fin _ s.heap s.drawn (fun b ob e=>e) (Nat.le_refl _) fun I hI=>?_
  have haI:a≠I:=by rw [hI]; exact Nat.ne_of_lt alt
  have hfp:∀ b ∈ [I,a],b < (s.heap.push (d8 (rawInt 0) 0 (.ref a) es.size ep)).objs.size:=by
   intro b hb
   rw [Heap.size_push]
   simp only [List.mem_cons,List.not_mem_nil,or_false] at hb
   rcases hb with rfl | rfl
   ·rw [hI]; exact Nat.lt_succ_self _
   ·exact Nat.lt_succ_of_lt alt
  have q1:(s.heap.push (d8 (rawInt 0) 0 (.ref a) es.size ep)).get? I=some (d8 (rawInt 0) 0 (.ref a) es.size ep):=by rw [hI]; exact Heap.get?_push_size _ rfl
  have q2:(s.heap.push (d8 (rawInt 0) 0 (.ref a) es.size ep)).get? a=some o:=Heap.get?_push_of_some _ ha
  have q6:∀ b ∈ [I,a],b=a∨s.heap.objs.size≤b:=by
   intro b hb
   simp only [List.mem_cons,List.not_mem_nil,or_false] at hb
   rcases hb with rfl | rfl
   ·exact .inr (by rw [hI]; exact Nat.le_refl _)
   ·exact .inl rfl
  cases hby:byText w with
  | true=>exact h I [I,a] _ ((pickOrder (w.params.setOrder a ep) es).toList.map (·.2)) _ s.drawn (fun A' hA=>pX hA haI hd hf hby) ⟨q1,q2⟩ hfp (by simp) haI q6 ((eu _ es).map _) (fun b ob e=>Heap.get?_push_of_some _ e)
  | false =>
   have hdr':(!t.plain && decide (es.size > 1))=false:=by
    rw [hby,Bool.not_false,Bool.true_and] at hdr
    exact Bool.eq_false_iff.mpr hdr
   have hr:Ris t.place:=by
    cases q:t.plain with
    | true=>exact hpl q
    | false =>
     rw [q,Bool.not_false,Bool.true_and] at hdr'
     have h1:¬ es.size > 1:=of_decide_eq_false hdr'
     have hsz:t.place.size=es.size:=by
      have hf':=hf
      simp only [SetTable.fits,Bool.and_eq_true,beq_iff_eq] at hf'
      exact hf'.1
     have hl:t.place.toList.length≤1:=by rw [Array.length_toList]; nofun
     unfold Ris
     match hq:t.place.toList,hl with
     | [],_=>exact .nil
     | [x],_=>exact List.pairwise_singleton _ _
   exact h I [I,a] _ (es.toList.map (·.2)) _ s.drawn (fun A' hA=>rP hA haI hd hf hby hdr' hr (by rw [hled,hby]; rfl)) ⟨⟨0,pQ hr,q1⟩,q2⟩ hfp (by simp) haI q6 (.refl _) (fun b ob e=>Heap.get?_push_of_some _ e)
end
end KS
set_option maxHeartbeats 4000000
namespace KS
open PySem PySem.Spec PyProof.Rows
section
variable {prog:Program} {w:World} {A:Around} {E:Value→Shared→Prop} {s:Shared} {a:Addr} {o:Obj} {es:Array (Int×Value)} {ep:Nat} {t:SetTable}
theorem vk {Q:Bool→Shared→Prop} (hT:s.TypeIs (.ref a) "set") (h:Q false s):wpAny (model prog w) A (Builtin.List.listLengthHint (.ref a)) Q E s:=by
 unfold Builtin.List.listLengthHint
 refine wpAny_bind (wpAny_specialOf hT F.slot_set_len.lookup ?_)
 generalize hid:("set.__len__" : String)=id0
 wp_delta
 rw [show splitId id0=some ("set", "__len__") from by subst hid; decide +kernel]
 subst hid
 refine wpAny_bind (wpAny_isInstance (b:=true) hT sub_set_self ?_)
 rw [if_neg (by decide)]
 show wpAny _ _ (if _=true then _ else _) _ _ _
 rw [if_pos (by decide +kernel)]
 refine wpAny_bind (wpAny_typeOf hT ?_)
 exact wpAny_pure h
theorem nr {Q:List Value→Shared→Prop}(hh:A.handled=none)(ha:s.heap.get? a=some o)(hex:o.ExactSet)(hd:o.data=.set es ep t)(hf:t.fits es.size=true)(hb:es.size < scanBound)(hled:t.led=!byText w)(hpl:t.plain=true→Ris t.place)
  (hQ:∀ (vs:List Value) (h':Heap) (d':Drawn) (tk:Nat),vs.Perm (es.toList.map (·.2))→s.heap.objs.size < h'.objs.size→(∀ b ob,s.heap.get? b=some ob→h'.get? b=some ob)→Q vs { s with heap:=h',drawn:=d',toks:=tk }) :
  wpAny (model prog w) A (collect (.ref a)) Q E s:=by
 have alt:a < s.heap.objs.size:=Heap.lt_size ha
 unfold collect
 refine wpAny_bind (wpAny_runValue (codeAny_builtin F.entry_proto_collect ?_))
 rw [Around.under_plainId F.plain_proto_collect _]
 show wpAny _ A.in1 (newList [] >>= fun l=>again (.builtin "list.__iadd__" ⟨[l,.ref a],[]⟩)) _ _ s
 refine wpAny_bind (wpAny_newObj_type ?_)
 refine wpAny_pure ⟨plainId_quiet F.plain_list_iadd _,codeAny_builtin F.entry_list_iadd ?_⟩
 rw [Around.under_plainId F.plain_list_iadd _]
 generalize hL:({ cls:=.type "list", dict:=none,data:=.seq ([]:List Value).toArray }:Obj)=ol
 have g1:(s.heap.push ol).get? s.heap.objs.size=some ol:=Heap.get?_push_size s.heap (o:=ol) (by rw [← hL]; rfl)
 have ga:(s.heap.push ol).get? a=some o:=Heap.get?_push_of_some _ ha
 have hT:Shared.TypeIs { s with heap:=s.heap.push ol } (.ref a) "set" := ⟨o,ga,hex.1⟩
 show wpAny _ A.in1 (Builtin.List.listExtendWith (.ref s.heap.objs.size) (.ref a) (.ref s.heap.objs.size)) _ _ _
 unfold Builtin.List.listExtendWith
 refine wpAny_bind (wpAny_typeOf hT ?_)
 have h1:Builtin.List.listSameRef (.ref s.heap.objs.size) (.ref a)=false:=by
  simp only [Builtin.List.listSameRef,beq_eq_false_iff_ne]
  exact (Nat.ne_of_lt alt).symm
 rw [if_neg (by rw [h1]; decide)]
 refine wpAny_bind (vj (s:={ s with heap:=s.heap.push ol }) ga hex hd hf hb hled hpl fun I fp St ord h2 d2 W st0 hfp hI haI hfq hord hk=>?_)
 refine wpAny_bind (wpAny_holding (vk ⟨o,hk a o ga,hex.1⟩ ?_))
 rw [if_pos (by decide)]
 refine wpAny_bind (wpAny_rule ?_)
 refine wpAny_bind ?_
 have g2:h2.get? s.heap.objs.size=some { cls:=.type "list", data:=.seq ([]:List Value).toArray }:=by rw [hL]; exact hk _ _ g1
 show wpAny _ A.in1 (updateSeq s.heap.objs.size (·.push .none) >>= fun _=>updateSeq s.heap.objs.size (·.pop)) _ _ _
 refine wpAny_bind (wpAny_updateSeq (s:={ s with heap:=h2,drawn:=d2 }) g2 rfl ?_)
 have g3:=Heap.get?_update_self (Obj.mapSeq (·.push Value.none)) g2 rfl
 refine wpAny_updateSeq g3 rfl ?_
 have g4:=Heap.get?_update_self (Obj.mapSeq (·.pop)) g3 rfl
 generalize hh3:(h2.update s.heap.objs.size (Obj.mapSeq (·.push Value.none))).update s.heap.objs.size (Obj.mapSeq (·.pop))=h3 at g4 ⊢
 have oth:∀ b ob,b≠s.heap.objs.size→h2.get? b=some ob→h3.get? b=some ob:=fun b ob hne e=>by
  rw [← hh3]
  exact (Heap.get?_update_other _ _ (Ne.symm hne)).trans ((Heap.get?_update_other _ _ (Ne.symm hne)).trans e)
 have hz:(s.heap.push ol).objs.size=s.heap.objs.size+1:=Heap.size_push ..
 have hSf:s.heap.objs.size ∉ fp:=fun hm=>by
  rcases hfq _ hm with z | z
  ·exact absurd z (Nat.ne_of_lt alt).symm
  ·have z:(s.heap.push ol).objs.size≤s.heap.objs.size:=z
   rw [hz] at z
   exact absurd z (Nat.not_succ_le_self _)
 have hIS:I≠s.heap.objs.size:=fun e=>hSf (e ▸ hI)
 have st1:=(W A.in1 hh).frame 0 _ h3 s.toks st0 (Nat.le_refl _) fun b hb ob e=>oth b ob (fun z=>hSf (z ▸ hb)) e
 have lt0:∀ b ob,s.heap.get? b=some ob→b≠s.heap.objs.size∧b≠I:=fun b ob e=>by
  refine ⟨Nat.ne_of_lt (Heap.lt_size e),fun z=>?_⟩
  rcases hfq _ hI with y | y
  ·exact haI y.symm
  ·have y:(s.heap.push ol).objs.size≤I:=y
   rw [hz,← z] at y
   exact absurd (Nat.lt_of_lt_of_le (Heap.lt_size e) (Nat.le_of_succ_le y)) (Nat.lt_irrefl _)
 refine wpAny_pure ⟨plainId_quiet F.plain_extend_loop _,codeAny_extend_loopS (W A.in1 hh) (fits_of_scanBound hb) _ hSf _ es.size 0 _ _ _ rfl (Nat.zero_le _) st1 g4 (ItemsOf.nil _) fun s' acc c' hm gS hacc=>?_⟩
 show wpAny _ A (load s.heap.objs.size >>= _) _ _ s'
 refine wpAny_bind (wpAny_load gS ?_)
 refine wpAny_pure ?_
 obtain ⟨h9,g9,d9,tk9,os9⟩:=s'
 have eg:g9=s.gens:=hm.gens.symm
 have ed:d9=d2:=hm.drawn
 have eo:os9=s.os:=hm.os
 subst eg ed eo
 have hl:ord.length=es.size:=by rw [hord.length_eq,List.length_map,Array.length_toList]
 have hv:acc.toList=ord:=by
  refine List.ext_getElem? fun j=>?_
  by_cases hj:j < acc.size
  ·have e1:acc[j]?=some acc[j]:=Array.getElem?_eq_getElem hj
   rw [Array.getElem?_toList,e1,hacc.2 j _ e1]
  ·have hj':es.size≤j:=by rw [hacc.1] at hj; nofun
   rw [Array.getElem?_toList,Array.getElem?_eq_none (by nofun),List.getElem?_eq_none (by nofun)]
 refine hQ _ h9 _ tk9 (by rw [hv]; exact hord) (Heap.lt_size gS) fun b ob e=>?_
 obtain ⟨n1,n2⟩:=lt0 b ob e
 exact hm.heap b ob (by simp [n1,n2]) (oth b ob n1 (hk b ob (Heap.get?_push_of_some _ e)))
end
end KS
set_option maxHeartbeats 4000000
namespace KS
open PySem PySem.Spec PyProof.Rows
theorem iX {α:Type}[DecidableEq α]:∀ (σ ss:List α),σ.Nodup→(∀ k ∈ σ,k ∈ ss)→ss.length=σ.length→ss.Perm σ
 | [],ss,_,_,hl=>by
  have:ss=[]:=List.eq_nil_of_length_eq_zero (by first|exact List.mem_singleton.mp hl|simpa using hl)
  subst this; exact .refl _
 | k::σ,ss,hn,hm,hl=>by
  have hk:k ∈ ss:=hm k (List.mem_cons_self ..)
  have hp:=List.perm_cons_erase hk
  have hn':=List.nodup_cons.mp hn
  have hlen:(ss.erase k).length=σ.length:=by
   have:=hp.length_eq
   simp only [List.length_cons] at this hl
   nofun
  refine hp.trans (.cons k (iX σ (ss.erase k) hn'.2 (fun j hj=>?_) hlen))
  have hne:j≠k:=fun e=>hn'.1 (e ▸ hj)
  exact (List.mem_erase_of_ne hne).mpr (hm j (List.mem_cons_of_mem _ hj))
theorem vm {x:Str}{v:Value}(h:Value.isStrOf x v=true):strOf v=x:=by
 obtain ⟨t,rfl⟩:=Value.isStrOf_shape h; rfl
section
variable {prog:Program} {w:World} {A:Around} {E:Value→Shared→Prop} {s:Shared}
theorem sorted_set {a:Addr}{σ:List Str}{Q:Value→Shared→Prop}(hh:A.handled=none)(hS:SetZ (PySem.strKind prog w) s.heap a σ (!byText w))(h64:σ.length < 64)
  (hQ:∀ (p:Addr) (out:List Value) (ss:List Str) (e:Nat) (h':Heap) (d':Drawn) (tk:Nat),s.heap.objs.size≤p→h'.get? p=some (seqObj "list" out.toArray e)→StrsAre out ss→ss.Perm σ→sortedS ss=true →
   (∀ b o,s.heap.get? b=some o→h'.get? b=some o)→Q (.ref p) { s with heap:=h',drawn:=d',toks:=tk }) :
  wpAny (model prog w) A (call (.builtin "sorted") [.ref a]) Q E s:=by
 obtain ⟨o,es,ep,t,ho,hex,hd,hE,hmem,hb,hf,hsz,hnd,hled,hpl⟩:=hS
 refine Calls.call_function_entry kind_sorted plain_sorted entry_sorted (args_sorted1 _) ?_
 unfold Builtin.«sorted»
 refine wpAny_bind (m:=checkCount "sorted" 1 1 _) (wpAny_pure ?_)
 refine wpAny_bind (nr (by first|exact List.mem_singleton.mp hh|simpa using hh) ho hex hd hf hb hled hpl fun vs h' d' tk hperm hlt hk=>?_)
 have hlen:vs.length=σ.length:=by rw [hperm.length_eq,List.length_map,Array.length_toList]; exact hsz
 refine wpAny_bind (wpAny_newList ?_ (hsz:=by rw [sizeLine_eq]; nofun))
 show wpAny _ _ _ _ _ { s with heap:=h'.push (seqObj "list" vs.toArray 0),drawn:=d',toks:=tk }
 have hoL:(h'.push (seqObj "list" vs.toArray 0)).get? h'.objs.size=some (seqObj "list" vs.toArray 0):=Heap.get?_push_size _ rfl
 have hstr:∀ v ∈ vs,∃ x t,v=.str x t:=fun v hv=>by
  have hv':=hperm.mem_iff.mp hv
  obtain ⟨e,he,rfl⟩:=List.mem_map.mp hv'
  obtain ⟨⟨k,hk,_⟩,_⟩:=hE e he
  obtain ⟨t,q⟩:=Value.isStrOf_shape hk
  exact ⟨k,t,q⟩
 have hSA:=strsAre_map vs hstr
 have hps:(vs.map strOf).Perm σ:=by
  refine iX σ _ hnd (fun k hk=>?_) (by rw [List.length_map,hlen])
  obtain ⟨e,he,hke⟩:=(hmem k).mp hk
  refine List.mem_map.mpr ⟨e.2,hperm.mem_iff.mpr (List.mem_map.mpr ⟨e,he,rfl⟩),vm hke⟩
 have hle:s.heap.objs.size≤h'.objs.size:=Nat.le_of_lt hlt
 refine wpAny_bind (wpAny_holding (wpAny_call_entry slot_list_sort ⟨_,hoL,rfl⟩ entry_list_sort (list_sort_treeK strKind_oneLt hoL hSA.keysOf (fun v₁ v₂ rest e=>keyKind_strs (by rw [← e]; exact hSA)) (by rw [hlen]; exact h64) fun st' a1 a2=>⟨_,rfl,?_⟩) (args_list_sort _)))
 obtain ⟨ss',b1,b2,b3⟩:=sorted_out_str hSA a1 a2
 obtain ⟨e',he'⟩:=sortedHeap_at (out:=(arrOf st').map (·.2)) hoL
 refine wpAny_pure ⟨_,rfl,hQ h'.objs.size ((arrOf st').map (·.2)).toList ss' e' _ d' tk hle (by rw [Array.toArray_toList]; exact he') b1 (b2.trans hps) b3 fun b ob hb=>?_⟩
 have hbl:b < h'.objs.size:=Nat.lt_of_lt_of_le (Heap.lt_size hb) hle
 rw [sortedHeap_old (Nat.ne_of_lt hbl) (by rw [size_push']; exact Nat.lt_succ_of_lt hbl)]
 exact Heap.get?_push_of_some _ (hk b ob hb)
end
end KS
set_option maxHeartbeats 4000000
namespace L2
open PySem PySem.Spec PyProof.Rows
theorem eZ {vs:List Value}{ss:List Str}(h:StrsAre vs ss):Vals (ss.map V.str) vs:=by
 induction h with
 | nil=>exact .nil
 | cons y t h ih=>exact .cons ⟨t,rfl⟩ ih
theorem e6:∀ {ss:List Str} {vs:List Value},Vals (ss.map V.str) vs→StrsAre vs ss
 | [],_,.nil=>.nil
 | s::ss,_,.cons ⟨t,e⟩ r=>by subst e; exact .cons s t (e6 r)
theorem xI:∀ {vs:List Value} {ss:List Str} {i:Nat} {v:Value},StrsAre vs ss→vs[i]?=some v→∃ t,v=.str (ss.getD i "") t
 | _,_,_,_,.nil,e=>by simp at e
 | _,_,0,_,.cons y t h,e=>by simp at e; exact ⟨t,by rw [← e]; rfl⟩
 | _,_,i+1,v,.cons y t h,e=>by
  obtain ⟨u,q⟩:=xI (i:=i) (v:=v) h (by first|exact List.mem_singleton.mp e|simpa using e)
  exact ⟨u,by first|exact List.mem_singleton.mp q|simpa using q⟩
theorem StrsAre.len:∀ {vs:List Value} {ss:List Str},StrsAre vs ss→vs.length=ss.length
 | _,_,.nil=>rfl
 | _,_,.cons _ _ h=>by simp [StrsAre.len h]
def CF (P:Program)(w:World)(q:Addr)(σ:List Str):HO:=.ext fun h=>KS.SetZ (PySem.strKind P w) h q σ (!KS.byText w)
section
variable {X:Cx}
theorem Inv.laidD {pins:List (Addr×Obj)}{σ:St}{H:Hp}{s:Shared}{h':Heap}{a:Addr}{o:HO}{t':Nat}{d':Drawn}(I:Inv X pins σ H s)(k:∀ b u,s.heap.get? b=some u→h'.get? b=some u)(hp:s.heap.objs.size≤a)(new:ObjOk X.prog X.w (upd H a o) h' a o) :
  Inv X pins σ (upd H a o) { s with heap:=h',drawn:=d',toks:=t' } :=
 I.call (ch:=[]) (g':=s.gens) (Un.laid k hp (I.hok.fresh hp)) (I.hok.laid k hp new) I.bare (fun _ z=>nomatch z)
def Eb (P:Program)(w:World)(K:PySem.W.Frag):List V→Hp→VK→Prop:=fun xs H Q=>∃ (p:Addr) (zs:List Str),xs=[.ref p]∧SqL K H p (zs.map .str)∧zs.length+1 < scanBound ∧
 ∀ q σ,H q=none→(∀ k,k ∈ σ↔k ∈ zs)→σ.Nodup→σ.length≤zs.length→Q (.ref q) (upd H q (CF P w q σ))
theorem rQ (hc:X.calm=true):CallR X (.type "set") (Eb X.prog X.w X.K):=by
 intro pins s σ H xs us Q I r h
 obtain ⟨p,zs,rfl,hq,hz,q⟩:=h
 obtain ⟨u,rfl,rx⟩:=eU r
 cases rx
 obtain ⟨its,r',pl,hz'⟩:=I.list hq
 have hS:=e6 r'
 have hlen:=StrsAre.len hS
 refine KS.set_of_list (knd:=PySem.strKind X.prog X.w) (I.ok.hd hc) pl.isList (fun i=>zs.getD i "") (fun i v e=>?_) (by simp only [List.size_toArray]; nofun) fun h' tk hZ hk=>?_
 ·obtain ⟨t,rfl⟩:=xI (i:=i) hS (by first|exact List.mem_singleton.mp e|simpa using e)
  exact ⟨ly _ t,rfl⟩
 ·have hmem:∀ k,k ∈ KS.metZ (fun i=>zs.getD i "") its.toArray.size↔k ∈ zs:=fun k=>by
   rw [KS.metZ_mem]
   simp only [List.size_toArray,hlen]
   constructor
   ·rintro ⟨j,hj,rfl⟩
    rw [List.getD,List.getElem?_eq_getElem hj]; exact List.getElem_mem hj
   ·intro hk
    obtain ⟨j,hj,e⟩:=List.getElem_of_mem hk
    exact ⟨j,hj,by rw [List.getD,List.getElem?_eq_getElem hj]; exact e⟩
  have hZ':=id hZ
  obtain ⟨o,es,ep,t,ho,_,_,_,_,_,_,_,hnd,_,_⟩:=hZ'
  refine ⟨.ref s.heap.objs.size,_,I.laid (t':=tk) (o:=CF X.prog X.w s.heap.objs.size (KS.metZ (fun i=>zs.getD i "") its.toArray.size)) (fun b o e=>hk b o (Heap.lt_size e) e) (Nat.le_refl _) ?_,rfl,q _ _ (I.hok.fresh (Nat.le_refl _)) hmem hnd ?_⟩
  ·exact ⟨hZ,⟨o,ho⟩,fun h1 h2 z k=>KS.SetZ.at z k⟩
  ·exact Nat.le_trans (KS.metZ_len _ _) (by simp only [List.size_toArray]; nofun)
def rR (P:Program)(w:World)(K:PySem.W.Frag):List V→Hp→VK→Prop:=fun xs H Q=>∃ (p:Addr) (σ:List Str),xs=[.ref p]∧(H p=some (CF P w p σ)∨SqL K H p (σ.map .str))∧σ.length < 64 ∧
 ∀ q ss,H q=none→ss.Perm σ→sortedS ss=true→Q (.ref q) (upd H q (.lst (ss.map .str)))
theorem lY (hc:X.calm=true):CallR X (.builtin "sorted") (rR X.prog X.w X.K):=by
 intro pins s σ H xs us Q I r h
 obtain ⟨p,τ,rfl,hq,hz,q⟩:=h
 obtain ⟨u,rfl,rx⟩:=eU r
 cases rx
 rcases hq with hq | hq
 ·obtain ⟨hS,_,_⟩:=I.hok p _ hq
  refine KS.sorted_set (I.ok.hd hc) hS hz fun q' out ss e h' d' tk hle hg hSA hp hs hk=>?_
  have hl:ss.length < 64:=by rw [hp.length_eq]; exact hz
  refine ⟨.ref q',_,I.laidD (t':=tk) (d':=d') (o:=.lst (ss.map .str)) hk hle ⟨?_,out,e,eZ hSA,hg⟩,rfl,q q' ss (I.hok.fresh hle) hp hs⟩
  rw [List.length_map,sizeLine_eq]; nofun
 ·obtain ⟨its,r',pl,hz'⟩:=I.list hq
  have hS:=e6 r'
  have hlen:=StrsAre.len hS
  refine sorted_strs pl.isList hS (by nofun) fun out ss h1 h2 h3=>?_
  obtain ⟨e,he⟩:=sortedAll_at s.heap its out
  have hl:ss.length < 64:=by rw [h2.length_eq]; exact hz
  refine ⟨.ref (s.heap.objs.size+1),_,I.laid (t':=s.toks) (o:=.lst (ss.map .str)) (fun b o e=>sortedAll_old e) (Nat.le_succ _) ⟨?_,out.toList,e,eZ h1,by rw [Array.toArray_toList]; exact he⟩,rfl,q _ ss (I.hok.fresh (Nat.le_succ _)) h2 h3⟩
  rw [List.length_map,sizeLine_eq]; nofun
theorem pY (hc:X.calm=true):CallR X (.type "list") (fun xs H Q=>∃ p kvs,xs=[.ref p]∧Rd H p (.dK kvs)∧∀ l,H l=none→Q (.ref l) (upd H l (.lst (kvs.map fun kv=>kV kv.1)))):=by
 intro pins s σ H xs us Q I r h
 obtain ⟨p,kvs,rfl,hq,q⟩:=h
 obtain ⟨u,rfl,rx⟩:=eU r
 cases rx
 obtain ⟨hz,hS,vs,rv,m⟩:kvs.length≤sizeLine∧(p == sysModules)=false∧∃ vs,KV kvs vs∧s.heap.DictOf (cI X.prog X.w) p vs:=hq.ok I.hok
 obtain ⟨ep,hat⟩:=m.dictAt
 have hl:kvs.length=vs.length:=Paired.length rv
 refine PySem.W.kdl_call (PySem.W.kdl_dict (knd:=cI X.prog X.w) (kvs:=vs) (ep:=ep) hS) (I.ok.hd hc) hat (by rw [← hl]; exact hz) fun h' tk acc' c' hk hD hacc=>?_
 have hv:Vals (kvs.map fun kv=>kV kv.1) acc'.toList:=by
  have hal:acc'.toList.length=kvs.length:=by rw [Array.length_toList,hacc.1,hl]
  have hget:∀ j v,acc'.toList[j]?=some v→∃ k x,vs[j]?=some (k,x)∧lx k v=true:=fun j v e=>hacc.2 j v (by rw [← Array.getElem?_toList]; exact e)
  clear hacc hD
  generalize acc'.toList=us at hal hget
  clear hat m hl hz q hq I
  induction rv generalizing us with
  | nil=>cases us with | nil=>exact .nil | cons a b=>simp at hal
  | cons h1 h2 ih =>
   cases us with
   | nil=>simp at hal
   | cons a b =>
    refine .cons ?_ (ih b (by first|exact List.mem_singleton.mp hal|simpa using hal) fun j v e=>by simpa using hget (j+1) v (by first|exact List.mem_singleton.mp e|simpa using e))
    obtain ⟨k,x,e1,e2⟩:=hget 0 a rfl
    simp only [List.getElem?_cons_zero,Option.some.injEq] at e1
    subst e1
    have e3:_=k:=h1.1
    show RelV (kV _) a
    rw [e3]
    rcases cc e2 with ⟨i,t,rfl,rfl⟩ | ⟨z,t,rfl,rfl⟩
    ·exact ⟨t,rfl⟩
    ·exact ⟨t,rfl⟩
 exact ⟨.ref s.heap.objs.size,_,I.laid (t':=tk) (o:=.lst (kvs.map fun kv=>kV kv.1)) hk (Nat.le_refl _) ⟨by rw [List.length_map]; exact hz,acc'.toList,c',hv,by rw [Array.toArray_toList]; exact hD⟩,rfl,q _ (I.hok.fresh (Nat.le_refl _))⟩
def rS (K:PySem.W.Frag):List V→Hp→VK→Prop:=fun xs H Q=>(∃ p ys,xs=[.ref p]∧(SqL K H p ys∨SqT K H p ys)∧∀ l,H l=none→Q (.ref l) (upd H l (.lst ys)))∨∃ p kvs,xs=[.ref p]∧Rd H p (.dK kvs)∧∀ l,H l=none→Q (.ref l) (upd H l (.lst (kvs.map fun kv=>kV kv.1)))
def rT (K:PySem.W.Frag):List V→Hp→VK→Prop:=fun xs H Q=>∃ p ys,xs=[.ref p]∧((SqL K H p ys∧∀ l,H l=none→Q (.ref l) (upd H l (.tup ys)))∨(SqT K H p ys∧Q (.ref p) H))
theorem rV (K:PySem.W.Frag)(hc:X.calm=true)(h:X.K=K):BCall X (.type "list") (rS K):=by subst h; exact ⟨lJ.or (pY hc)⟩
theorem kH (K:PySem.W.Frag)(h:X.K=K):BCall X (.type "tuple") (rT K):=by subst h; exact ⟨ky⟩
theorem CG (P:Program)(w:World)(K:PySem.W.Frag)(hc:X.calm=true)(hP:X.prog=P)(hw:X.w=w)(h:X.K=K):BCall X (.type "set") (Eb P w K):=by subst h hP hw; exact ⟨rQ hc⟩
theorem zq {o i value:Expr}{td ty tv:TE}{pos' pos:Pos}(hu:X.A.units+1 < cLine)(ho:BE X o td)(hi:BE X i ty)(hv:BE X value tv)(hs:swapsWith value (some (.Subscript o i pos')) pos.line X.env=pure false) :
  BS X (.Assign [.Subscript o i pos'] value pos) (yT td ty tv):=⟨yU hu ho.h hi.h hv.h hs⟩
theorem zr {T F:List Str}{ixs:List Nat}{scope:Scope}{i:Nat}{y:Str}{elt tg iter:Expr}{ifs:List Expr}{pos py spos:Pos}{wi:TI}{g:TG}{tc:TT}{te:TE}(hc:X.calm=true)(S:CompScope X T F ixs scope)(hi:BI X tg iter wi)
  (hg:∀ C s H fp,BG (bR X (T++F) scope (aZ X.env scope.names []) C s H fp) tg g) (ht:∀ C s H fp,BIf (bR X (T++F) scope (aZ X.env scope.names []) C s H fp) ifs tc) (he:∀ C s H fp,BE (bR X (T++F) scope (aZ X.env scope.names []) C s H fp) elt te)
  (hs:∀ x,foldedSetIterable iter X.env x=pure x) (hN:X.N.Nodup) (hix:X.N[i]?=some y) (hx:Loc X.env.scope y)
  (hsw:swapsWith (.ListComp elt [⟨tg,iter,ifs,0⟩] scope pos) (some (.Name y py)) spos.line X.env=pure true) (hf:X.fn y=true∨X.env.scope.names.lookup y=some .local) :
  BS X (.Assign [.Name y py] (.ListComp elt [⟨tg,iter,ifs,0⟩] scope pos) spos) (qA (ie T.length ixs wi g tc te) (ic i)) :=
 ⟨y1 hc S hi.h (fun C s H fp=>(hg C s H fp).h) (fun C s H fp=>(ht C s H fp).h) (fun C s H fp=>(he C s H fp).h) hs hN hix hx hsw hf⟩
theorem EV {α:Type}{x:α}{r:List α}:atI (x::r) (0:Int)=some x:=eX (j:=0) rfl
def Ec (K:PySem.W.Frag)(mg:Str→Option Value)(x:Str)(xs:List V):Prop:=∃ a,mg x=some (.ref a)∧∀ H,SqT K H a xs
theorem rW {K:PySem.W.Frag}{p:Addr}{ys:List V}{H:Hp}{Q:VK}(h:SqL K H p ys)(q:∀ l,H l=none→Q (.ref l) (upd H l (.lst ys))):rS K [.ref p] H Q:=.inl ⟨p,ys,rfl,.inl h,q⟩
theorem rX {K:PySem.W.Frag}{p:Addr}{ys:List V}{H:Hp}{Q:VK}(h:SqT K H p ys)(q:∀ l,H l=none→Q (.ref l) (upd H l (.lst ys))):rS K [.ref p] H Q:=.inl ⟨p,ys,rfl,.inr h,q⟩
theorem pZ {K:PySem.W.Frag}{p:Addr}{kvs:List (Key×V)}{H:Hp}{Q:VK}(h:Rd H p (.dK kvs))(q:∀ l,H l=none→Q (.ref l) (upd H l (.lst (kvs.map fun kv=>kV kv.1)))):rS K [.ref p] H Q:=.inr ⟨p,kvs,rfl,h,q⟩
theorem p5 {K:PySem.W.Frag}{p:Addr}{ys:List V}{H:Hp}{Q:VK}(h:SqL K H p ys)(q:∀ l,H l=none→Q (.ref l) (upd H l (.tup ys))):rT K [.ref p] H Q:=⟨p,ys,rfl,.inl ⟨h,q⟩⟩
theorem hV {zs:List Str}{z:Str}(h:zs.Nodup):(KS.dedup1 zs z).Nodup:=by
 unfold KS.dedup1
 split
 ·exact h
 ·rename_i hz; exact KS.nodup_snoc h hz
theorem jU {zs:List Str}{z y:Str}:y ∈ KS.dedup1 zs z↔y ∈ zs∨y=z:=by
 unfold KS.dedup1
 split
 ·rename_i hz
  exact ⟨.inl,fun h=>h.elim id fun e=>e ▸ hz⟩
 ·simp
theorem jV (zs:List Str)(z:Str):zs.length≤(KS.dedup1 zs z).length∧(KS.dedup1 zs z).length≤zs.length+1∧1≤(KS.dedup1 zs z).length:=by
 unfold KS.dedup1
 split
 ·rename_i hz
  exact ⟨Nat.le_refl _,Nat.le_succ _,List.length_pos_of_mem hz⟩
 ·simp
end
end L2
set_option maxHeartbeats 4000000
namespace L2
open PySem PySem.Spec PyProof.Rows
inductive D where
 | non | bl (b:Bool) | int (i:Int) | str (x:Str) | lst (xs:List D) | tup (xs:List D) | dct (ks:List Key) (xs:List D) | ty (T:String) | opq (a:Addr) (n:Nat)
def plKV:Key×V→Bool
 | (.inr z,.int i)=>decide (z.length≤20) && z.cps.toList.all (fun c=>decide (c < 16 ^ 8)) && decide (i.natAbs.log2 < 20) && decide ((PySem.PyData.shown (.int i)).length≤8)
 | _=>false
mutual
inductive Den (K:PySem.W.Frag)(F:Hp):V→D→Prop where
 | non:Den K F .non .non
 | bl (b:Bool):Den K F (.bl b) (.bl b)
 | int (i:Int):Den K F (.int i) (.int i)
 | str (x:Str):Den K F (.str x) (.str x)
 | ty (T:String):Den K F (.ty T) (.ty T)
 | lst {a:Addr} {xs:List V} {ds:List D}:SqL K F a xs→Dens K F xs ds→Den K F (.ref a) (.lst ds)
 | tup {a:Addr} {xs:List V} {ds:List D}:SqT K F a xs→Dens K F xs ds→Den K F (.ref a) (.tup ds)
 | dct {a:Addr} {ys:List (Key×V)} {ks:List Key} {ds:List D}:Rd F a (.dK ys)→ys.map (·.1)=ks→Dens K F (ys.map (·.2)) ds→Den K F (.ref a) (.dct ks ds)
 | opq {a:Addr} {ys:List (Key×V)} {n:Nat}:Rd F a (.dK ys)→ys.length=n→ys.all plKV=true→Den K F (.ref a) (.opq a n)
inductive Dens (K:PySem.W.Frag)(F:Hp):List V→List D→Prop where
 | nil:Dens K F [] []
 | cons {x:V} {d:D} {xs:List V} {ds:List D}:Den K F x d→Dens K F xs ds→Dens K F (x::xs) (d::ds)
end
theorem Same.rd {F F':Hp}{a:Addr}{u:HO}(e:Same F F')(h:Rd F a u):Rd F' a u:=h.elim (fun h=>.inl (e _ _ h)) fun ⟨o,h⟩=>.inr ⟨o,e _ _ h⟩
theorem Den.mono {K:PySem.W.Frag}{F F':Hp}(e:Same F F'){v:V}{d:D}(h:Den K F v d):Den K F' v d :=
 Den.rec (motive_1:=fun v d _=>Den K F' v d) (motive_2:=fun v d _=>Dens K F' v d) .non .bl .int .str .ty (fun h _ t=>.lst (e.seq h) t) (fun h _ t=>.tup (h.same e) t) (fun h k _ t=>.dct (e.rd h) k t) (fun h k p=>.opq (e.rd h) k p) .nil (fun _ _ h t=>.cons h t) h
theorem Dens.mono {K:PySem.W.Frag}{F F':Hp}(e:Same F F'){v:List V}{d:List D}(h:Dens K F v d):Dens K F' v d :=
 Dens.rec (motive_1:=fun _ _ _=>True) (motive_2:=fun v d _=>Dens K F' v d) trivial (fun _=>trivial) (fun _=>trivial) (fun _=>trivial) (fun _=>trivial) (fun _ _ _=>trivial) (fun _ _ _=>trivial) (fun _ _ _ _=>trivial) (fun _ _ _=>trivial) .nil (fun h _ _ t=>.cons (h.mono e) t) h
section
variable {K:PySem.W.Frag} {F H:Hp}
theorem Dens.length {xs:List V}{ds:List D}(h:Dens K F xs ds):xs.length=ds.length :=
 Dens.rec (motive_1:=fun _ _ _=>True) (motive_2:=fun xs ds _=>xs.length=ds.length) trivial (fun _=>trivial) (fun _=>trivial) (fun _=>trivial) (fun _=>trivial) (fun _ _ _=>trivial) (fun _ _ _=>trivial) (fun _ _ _ _=>trivial) (fun _ _ _=>trivial) rfl (fun _ _ _ t=>congrArg (·+1) t) h
theorem Dens.get:∀ {xs:List V} {ds:List D} {i:Nat} {d:D},Dens K F xs ds→ds[i]?=some d→∃ x,xs[i]?=some x∧Den K F x d
 | _,_,_,_,.nil,e=>by simp at e
 | _,_,0,_,.cons h _,e=>by simp at e; subst e; exact ⟨_,rfl,h⟩
 | _,_,i+1,d,.cons h t,e=>by
  obtain ⟨x,h1,h2⟩:=Dens.get (i:=i) (d:=d) t (by first|exact List.mem_singleton.mp e|simpa using e)
  exact ⟨x,by first|exact List.mem_singleton.mp h1|simpa using h1,h2⟩
theorem Dens.get':∀ {xs:List V} {ds:List D} {i:Nat} {x:V},Dens K F xs ds→xs[i]?=some x→∃ d,ds[i]?=some d∧Den K F x d
 | _,_,_,_,.nil,e=>by simp at e
 | _,_,0,_,.cons h _,e=>by simp at e; subst e; exact ⟨_,rfl,h⟩
 | _,_,i+1,d,.cons h t,e=>by
  obtain ⟨x,h1,h2⟩:=Dens.get' (i:=i) (x:=d) t (by first|exact List.mem_singleton.mp e|simpa using e)
  exact ⟨x,by first|exact List.mem_singleton.mp h1|simpa using h1,h2⟩
theorem Dens.append {xs ys:List V}{ds es:List D}(h:Dens K F xs ds)(s:Dens K F ys es):Dens K F (xs++ys) (ds++es) :=
 Dens.rec (motive_1:=fun _ _ _=>True) (motive_2:=fun xs ds _=>Dens K F (xs++ys) (ds++es)) trivial (fun _=>trivial) (fun _=>trivial) (fun _=>trivial) (fun _=>trivial) (fun _ _ _=>trivial) (fun _ _ _=>trivial) (fun _ _ _ _=>trivial) (fun _ _ _=>trivial) s (fun h _ _ t=>.cons h t) h
theorem Dens.take:∀ {xs:List V} {ds:List D} (n:Nat),Dens K F xs ds→Dens K F (xs.take n) (ds.take n)
 | _,_,0,_=>.nil
 | _,_,_+1,.nil=>.nil
 | _,_,n+1,.cons r t=>.cons r (Dens.take n t)
theorem Dens.drop:∀ {xs:List V} {ds:List D} (n:Nat),Dens K F xs ds→Dens K F (xs.drop n) (ds.drop n)
 | _,_,0,r=>r
 | _,_,_+1,.nil=>.nil
 | _,_,n+1,.cons r t=>Dens.drop n t
theorem Dens.set {x:V}{d:D}(r:Den K F x d):∀ {xs:List V} {ds:List D} (i:Nat),Dens K F xs ds→Dens K F (xs.set i x) (ds.set i d)
 | _,_,_,.nil=>.nil
 | _,_,0,.cons _ t=>.cons r t
 | _,_,i+1,.cons q t=>.cons q (Dens.set r i t)
theorem Dens.snoc {xs:List V}{ds:List D}{x:V}{d:D}(h:Dens K F xs ds)(q:Den K F x d):Dens K F (xs++[x]) (ds++[d]):=h.append (.cons q .nil)
theorem Dens.reverse:∀ {xs:List V} {ds:List D},Dens K F xs ds→Dens K F xs.reverse ds.reverse
 | _,_,.nil=>.nil
 | _,_,.cons r t=>by rw [List.reverse_cons,List.reverse_cons]; exact (Dens.reverse t).snoc r
theorem Dens.strs:∀ (zs:List Str),Dens K F (zs.map V.str) (zs.map D.str)
 | []=>.nil
 | z::zs=>.cons (.str z) (Dens.strs zs)
theorem Dens.ints:∀ (zs:List Int),Dens K F (zs.map V.int) (zs.map D.int)
 | []=>.nil
 | z::zs=>.cons (.int z) (Dens.ints zs)
theorem Den.str_eq {v:V}{z:Str}(h:Den K F v (.str z)):v=.str z:=by cases h; rfl
theorem Den.int_eq {v:V}{z:Int}(h:Den K F v (.int z)):v=.int z:=by cases h; rfl
theorem Den.bl_eq {v:V}{z:Bool}(h:Den K F v (.bl z)):v=.bl z:=by cases h; rfl
theorem Den.non_eq {v:V}(h:Den K F v .non):v=.non:=by cases h; rfl
theorem Dens.strs_eq:∀ {zs:List Str} {xs:List V},Dens K F xs (zs.map D.str)→xs=zs.map V.str
 | [],_,.nil=>rfl
 | z::zs,_,.cons h t=>by rw [h.str_eq,Dens.strs_eq t]; rfl
theorem Dens.bls_eq:∀ {zs:List Bool} {xs:List V},Dens K F xs (zs.map D.bl)→xs=zs.map V.bl
 | [],_,.nil=>rfl
 | z::zs,_,.cons h t=>by rw [h.bl_eq,Dens.bls_eq t]; rfl
end
mutual
def vn:D→DV
 | .non=>.non
 | .bl b=>.bl b
 | .int i=>.int i
 | .str x=>.str x
 | .lst xs=>.lst (toDVs xs)
 | .tup xs=>.tup (toDVs xs)
 | .dct _ _=>.non
 | .ty _=>.non
 | .opq _ _=>.non
def toDVs:List D→List DV
 | []=>[]
 | d::ds=>vn d::toDVs ds
end
mutual
def okD:D→Bool
 | .lst xs=>okDs xs
 | .tup xs=>okDs xs
 | .dct _ _=>false
 | .ty _=>false
 | .opq _ _=>false
 | _=>true
def okDs:List D→Bool
 | []=>true
 | d::ds=>okD d && okDs ds
end
theorem Den.deep {K:PySem.W.Frag}{H:Hp}{v:V}{d:D}(h:Den K H v d):okD d=true→Deep K H v (vn d) :=
 Den.rec (motive_1:=fun v d _=>okD d=true→Deep K H v (vn d)) (motive_2:=fun v d _=>okDs d=true→Deeps K H v (toDVs d)) (fun _=>.non) (fun b _=>.bl b) (fun b _=>.int b) (fun b _=>.str b) (fun _ o=>nomatch o) (fun h _ t o=>.lst h (t o)) (fun h _ t o=>.tup h (t o)) (fun _ _ _ _ o=>nomatch o) (fun _ _ _ o=>nomatch o) (fun _=>.nil) (fun _ _ h t o=>.cons (h (Bool.and_eq_true_iff.mp o).1) (t (Bool.and_eq_true_iff.mp o).2)) h
def dEq (d e:D):Bool:=deq (vn d) (vn e)
inductive OV where
 | fz (d:D) | fl (ds:List D) | fd (ks:List Key) (ds:List D)
inductive Ow (K:PySem.W.Frag)(F H:Hp):V→OV→List Addr→Prop where
 | fz {v:V} {d:D}:Den K F v d→Ow K F H v (.fz d) []
 | fl {a:Addr} {xs:List V} {ds:List D}:H a=some (.lst xs)→Dens K F xs ds→Ow K F H (.ref a) (.fl ds) [a]
 | fd {a:Addr} {ys:List (Key×V)} {ks:List Key} {ds:List D}:H a=some (.dK ys)→ys.map (·.1)=ks→Dens K F (ys.map (·.2)) ds→Ow K F H (.ref a) (.fd ks ds) [a]
inductive Ows (K:PySem.W.Frag)(F H:Hp):List V→List OV→List Addr→Prop where
 | nil:Ows K F H [] [] []
 | cons {x:V} {o:OV} {xs:List V} {os:List OV} {A B:List Addr}:Ow K F H x o A→Ows K F H xs os B→Ows K F H (x::xs) (o::os) (A++B)
theorem Ow.keep {K:PySem.W.Frag}{F F' H H':Hp}(e:Same F F'){v:V}{o:OV}{A:List Addr}(h:Ow K F H v o A)(k:∀ a u,a ∈ A→H a=some u→H' a=some u):Ow K F' H' v o A:=by
 cases h with
 | fz h=>exact .fz (h.mono e)
 | fl h t=>exact .fl (k _ _ (List.mem_cons_self ..) h) (t.mono e)
 | fd h q t=>exact .fd (k _ _ (List.mem_cons_self ..) h) q (t.mono e)
theorem Ow.live {K:PySem.W.Frag}{F H:Hp}{v:V}{o:OV}{A:List Addr}(h:Ow K F H v o A):∀ a ∈ A,∃ u,H a=some u:=by
 cases h with
 | fz h=>exact fun _ z=>nomatch z
 | fl h t=>exact fun b z=>⟨_,List.mem_singleton.mp z ▸ h⟩
 | fd h q t=>exact fun b z=>⟨_,List.mem_singleton.mp z ▸ h⟩
def xJ:OV→D
 | .fz d=>d
 | .fl ds=>.lst ds
 | .fd ks ds=>.dct ks ds
theorem Ow.freeze {K:PySem.W.Frag}{F F' H:Hp}(e:Same F F'){v:V}{o:OV}{A:List Addr}(h:Ow K F H v o A)(k:∀ a u,a ∈ A→H a=some u→F' a=some u):Den K F' v (xJ o):=by
 cases h with
 | fz h=>exact h.mono e
 | fl h t=>exact .lst (SqL.of (k _ _ (List.mem_cons_self ..) h)) (t.mono e)
 | fd h q t=>exact .dct (.inl (k _ _ (List.mem_cons_self ..) h)) q (t.mono e)
def flat:OV→Option D
 | .fz d=>some d
 | .fl ds=>some (.lst ds)
 | .fd ks ds=>some (.dct ks ds)
inductive Acc (K:PySem.W.Frag)(F H:Hp):V→D→Prop where
 | fz {v:V} {d:D}:Den K F v d→Acc K F H v d
 | lst {a:Addr} {xs:List V} {ds:List D}:H a=some (.lst xs)→Dens K F xs ds→Acc K F H (.ref a) (.lst ds)
 | dct {a:Addr} {ys:List (Key×V)} {ks:List Key} {ds:List D}:H a=some (.dK ys)→ys.map (·.1)=ks→Dens K F (ys.map (·.2)) ds→Acc K F H (.ref a) (.dct ks ds)
section
variable {K:PySem.W.Frag} {F H:Hp}
theorem Ow.acc {v:V}{o:OV}{A:List Addr}{d:D}(h:Ow K F H v o A)(e:flat o=some d):Acc K F H v d:=by
 cases h with
 | fz h=>simp only [flat,Option.some.injEq] at e; subst e; exact .fz h
 | fl h t=>simp only [flat,Option.some.injEq] at e; subst e; exact .lst h t
 | fd h q t=>simp only [flat,Option.some.injEq] at e; subst e; exact .dct h q t
theorem Acc.den {v:V}{d:D}(e:Same F H)(h:Acc K F H v d):Den K H v d:=by
 cases h with
 | fz h=>exact h.mono e
 | lst h t=>exact .lst (SqL.of h) (t.mono e)
 | dct h k t=>exact .dct (.inl h) k (t.mono e)
theorem Acc.asL {v:V}{ds:List D}(e:Same F H)(h:Acc K F H v (.lst ds)):∃ a xs,v=.ref a∧SqL K H a xs∧Dens K F xs ds:=by
 cases h with
 | fz h=>cases h with | lst h t=>exact ⟨_,_,rfl,e.seq h,t⟩
 | lst h t=>exact ⟨_,_,rfl,SqL.of h,t⟩
theorem Acc.asT {v:V}{ds:List D}(e:Same F H)(h:Acc K F H v (.tup ds)):∃ a xs,v=.ref a∧SqT K H a xs∧Dens K F xs ds:=by
 cases h with
 | fz h=>cases h with | tup h t=>exact ⟨_,_,rfl,h.same e,t⟩
theorem Acc.asD {v:V}{ks:List Key}{ds:List D}(e:Same F H)(h:Acc K F H v (.dct ks ds)):∃ a ys,v=.ref a∧Rd H a (.dK ys)∧ys.map (·.1)=ks∧Dens K F (ys.map (·.2)) ds:=by
 cases h with
 | fz h=>cases h with | dct h k t=>exact ⟨_,_,rfl,e.rd h,k,t⟩
 | dct h k t=>exact ⟨_,_,rfl,.inl h,k,t⟩
theorem Acc.str_eq {v:V}{z:Str}(h:Acc K F H v (.str z)):v=.str z:=by cases h with | fz h=>exact h.str_eq
theorem Acc.int_eq {v:V}{z:Int}(h:Acc K F H v (.int z)):v=.int z:=by cases h with | fz h=>exact h.int_eq
theorem Acc.bl_eq {v:V}{z:Bool}(h:Acc K F H v (.bl z)):v=.bl z:=by cases h with | fz h=>exact h.bl_eq
theorem Acc.non_eq {v:V}(h:Acc K F H v .non):v=.non:=by cases h with | fz h=>exact h.non_eq
theorem Acc.ty_eq {v:V}{T:String}(h:Acc K F H v (.ty T)):v=.ty T:=by cases h with | fz h=>cases h; rfl
end
abbrev FSt:=List (Option OV)
inductive Slots (K:PySem.W.Frag)(F H:Hp):St→FSt→List Addr→Prop where
 | nil:Slots K F H [] [] []
 | skip {x:Option V} {σ:St} {ρ:FSt} {A:List Addr}:Slots K F H σ ρ A→Slots K F H (x::σ) (none::ρ) A
 | has {v:V} {o:OV} {σ:St} {ρ:FSt} {A B:List Addr}:Ow K F H v o A→Slots K F H σ ρ B→Slots K F H (some v::σ) (some o::ρ) (A++B)
section
variable {K:PySem.W.Frag} {F F' H H':Hp}
theorem Slots.keep (e:Same F F'){σ:St}{ρ:FSt}{A:List Addr}(h:Slots K F H σ ρ A)(k:∀ a u,a ∈ A→H a=some u→H' a=some u):Slots K F' H' σ ρ A:=by
 induction h with
 | nil=>exact .nil
 | skip t ih=>exact .skip (ih k)
 | has h t ih=>exact .has (h.keep e fun a u ha=>k a u (List.mem_append_left _ ha)) (ih fun a u ha=>k a u (List.mem_append_right _ ha))
theorem Slots.live {σ:St}{ρ:FSt}{A:List Addr}(h:Slots K F H σ ρ A):∀ a ∈ A,∃ u,H a=some u:=by
 induction h with
 | nil=>exact fun _ z=>nomatch z
 | skip t ih=>exact ih
 | has h t ih=>exact fun b z=>(List.mem_append.mp z).elim (h.live b) (ih b)
theorem Slots.len {σ:St}{ρ:FSt}{A:List Addr}(h:Slots K F H σ ρ A):σ.length=ρ.length:=by
 induction h with
 | nil=>rfl
 | skip t ih=>exact congrArg (·+1) ih
 | has _ t ih=>exact congrArg (·+1) ih
theorem Slots.take {σ:St}{ρ:FSt}{A:List Addr}{i:Nat}{o:OV}(h:Slots K F H σ ρ A)(e:ρ[i]?=some (some o)):∃ v B A',σ[i]?=some (some v)∧Ow K F H v o B∧A.Perm (B++A')∧Slots K F H σ (ρ.set i none) A':=by
 induction h generalizing i with
 | nil=>cases e
 | skip t ih =>
  cases i with
  | zero=>cases e
  | succ i =>
   obtain ⟨v,B,A',h1,h2,h3,h4⟩:=ih (i:=i) e
   exact ⟨v,B,A',h1,h2,h3,.skip h4⟩
 | @has _ _ _ _ C _ h t ih =>
  cases i with
  | zero=>cases e; exact ⟨_,_,_,rfl,h,List.Perm.refl _,.skip t⟩
  | succ i =>
   obtain ⟨v,B,A',h1,h2,h3,h4⟩:=ih (i:=i) e
   exact ⟨v,B,C++A',h1,h2,(List.Perm.append_left C h3).trans (by rw [← List.append_assoc,← List.append_assoc]; exact List.Perm.append_right A' List.perm_append_comm),.has h h4⟩
theorem Slots.drop {σ:St}{ρ:FSt}{A:List Addr}(i:Nat)(x:Option V)(h:Slots K F H σ ρ A):∃ A' B,A.Perm (B++A')∧Slots K F H (σ.set i x) (ρ.set i none) A':=by
 induction h generalizing i with
 | nil=>exact ⟨[],[],List.Perm.refl _,.nil⟩
 | skip t ih =>
  cases i with
  | zero=>exact ⟨_,[],List.Perm.refl _,.skip t⟩
  | succ i =>
   obtain ⟨A',B,h1,h2⟩:=ih i
   exact ⟨A',B,h1,.skip h2⟩
 | @has _ _ _ _ C _ h t ih =>
  cases i with
  | zero=>exact ⟨_,_,List.Perm.refl _,.skip t⟩
  | succ i =>
   obtain ⟨A',B,h3,h4⟩:=ih i
   exact ⟨C++A',B,(List.Perm.append_left C h3).trans (by rw [← List.append_assoc,← List.append_assoc]; exact List.Perm.append_right A' List.perm_append_comm),.has h h4⟩
theorem Slots.put {σ:St}{ρ:FSt}{A B:List Addr}{i:Nat}{v:V}{o:OV}(s:Slots K F H σ ρ A)(e:ρ[i]?=some none)(hv:σ[i]?=some (some v))(h:Ow K F H v o B):∃ A',A'.Perm (B++A)∧Slots K F H σ (ρ.set i (some o)) A':=by
 induction s generalizing i with
 | nil=>cases e
 | skip t ih =>
  cases i with
  | zero=>cases hv; exact ⟨_,List.Perm.refl _,.has h t⟩
  | succ i =>
   obtain ⟨A',h1,h2⟩:=ih (i:=i) e hv
   exact ⟨A',h1,.skip h2⟩
 | @has _ _ _ _ C _ h' t ih =>
  cases i with
  | zero=>cases e
  | succ i =>
   obtain ⟨A',h1,h2⟩:=ih (i:=i) e hv
   exact ⟨C++A',(List.Perm.append_left C h1).trans (by rw [← List.append_assoc,← List.append_assoc]; exact List.Perm.append_right _ List.perm_append_comm),.has h' h2⟩
end
end L2
set_option maxHeartbeats 4000000
namespace L2
open PySem PySem.Spec PyProof.Rows
inductive RV where
 | ov (o:OV) | br (i:Nat)
structure Rel (K:PySem.W.Frag)(F Z H:Hp)(σ:St)(ρ:FSt)(A:List Addr):Prop where
 sl:Slots K F H σ ρ A
 nd:A.Nodup
 fr:∀ a ∈ A,F a=none∧Z a=none
 fh:Same F H
 zh:Same Z H
 dj:∀ a o,F a=some o→Z a=none
def RV1 (K:PySem.W.Frag)(F H:Hp)(σ:St)(v:V):RV→List Addr→Prop
 | .ov o,B=>Ow K F H v o B
 | .br i,B=>σ[i]?=some (some v)∧B=[]
structure Fresh (F Z:Hp)(A B:List Addr):Prop where
 nd:B.Nodup
 fr:∀ b ∈ B,F b=none∧Z b=none∧b ∉ A
theorem Fresh.nil {F Z:Hp}{A:List Addr}:Fresh F Z A []:=⟨List.nodup_nil,fun _ z=>nomatch z⟩
inductive RVL (K:PySem.W.Frag)(F H:Hp)(σ:St):List V→List RV→List Addr→Prop where
 | nil:RVL K F H σ [] [] []
 | cons {v:V} {r:RV} {vs:List V} {rs:List RV} {A B:List Addr}:RV1 K F H σ v r A→RVL K F H σ vs rs B→RVL K F H σ (v::vs) (r::rs) (A++B)
section
variable {K:PySem.W.Frag} {F F' Z H H':Hp} {σ:St} {ρ:FSt} {A:List Addr}
theorem RV1.keep {v:V}{r:RV}{B:List Addr}(h:RV1 K F H σ v r B)(e:Same F F')(k:∀ a u,a ∈ B→H a=some u→H' a=some u):RV1 K F' H' σ v r B:=by
 cases r with
 | ov o=>exact Ow.keep e h k
 | br i=>exact h
theorem RV1.live {v:V}{r:RV}{B:List Addr}(h:RV1 K F H σ v r B):∀ b ∈ B,∃ u,H b=some u:=by
 cases r with
 | ov o=>exact Ow.live h
 | br i=>intro b hb; rw [h.2] at hb; cases hb
theorem RVL.keep (e:Same F F'){v:List V}{r:List RV}{B:List Addr}(h:RVL K F H σ v r B)(k:∀ a u,a ∈ B→H a=some u→H' a=some u):RVL K F' H' σ v r B:=by
 induction h with
 | nil=>exact .nil
 | cons h t ih=>exact .cons (h.keep e fun a u ha=>k a u (List.mem_append_left _ ha)) (ih fun a u ha=>k a u (List.mem_append_right _ ha))
theorem mix (B:List Addr)(H Z:Hp):∃ G:Hp,(∀ b,b ∈ B→G b=H b)∧∀ b,b ∉ B→G b=Z b:=by
 classical
 exact ⟨fun b=>if b ∈ B then H b else Z b,fun b hb=>if_pos hb,fun b hb=>if_neg hb⟩
theorem Rel.hold {B:List Addr}(R:Rel K F Z H σ ρ A)(live:∀ b ∈ B,∃ u,H b=some u)(f:Fresh F Z A B):∃ Z',Same Z Z'∧Rel K F Z' H σ ρ A∧(∀ b ∈ B,∃ u,Z' b=some u) ∧
  ∀ F2 H2 ρ2 A2,Same F F2→Rel K F2 Z' H2 σ ρ2 A2→Rel K F2 Z H2 σ ρ2 A2∧Fresh F2 Z A2 B∧∀ b u,b ∈ B→H b=some u→H2 b=some u:=by
 obtain ⟨Z',hin,hout⟩:=mix B H Z
 refine ⟨Z',fun b o h=>?_,⟨R.sl,R.nd,fun a ha=>⟨(R.fr a ha).1,?_⟩,R.fh,fun b o h=>?_,fun a o h=>?_⟩,fun b hb=>?_,fun F2 H2 ρ2 A2 e2 R2=>?_⟩
 ·rw [hout b fun hb=>by rw [(f.fr b hb).2.1] at h; cases h]; exact h
 ·rw [hout a fun hb=>(f.fr a hb).2.2 ha]; exact (R.fr a ha).2
 ·by_cases hb:b ∈ B
  ·rw [hin b hb] at h; exact h
  ·rw [hout b hb] at h; exact R.zh b o h
 ·rw [hout a fun hb=>by rw [(f.fr a hb).1] at h; cases h]; exact R.dj a o h
 ·obtain ⟨u,hu⟩:=live b hb
  exact ⟨u,by rw [hin b hb]; exact hu⟩
 ·have sz:Same Z Z':=fun b o h=>by
   rw [hout b fun hb=>by rw [(f.fr b hb).2.1] at h; cases h]; exact h
  refine ⟨⟨R2.sl,R2.nd,fun a ha=>⟨(R2.fr a ha).1,sz.free (R2.fr a ha).2⟩,R2.fh,sz.trans R2.zh,fun a o h=>sz.free (R2.dj a o h)⟩,⟨f.nd,fun b hb=>?_⟩,fun b u hb hu=>?_⟩
  ·obtain ⟨u,hu⟩:=live b hb
   refine ⟨?_,(f.fr b hb).2.1,fun h=>?_⟩
   ·cases q:F2 b with
    | none=>rfl
    | some w =>
     have:=R2.dj b w q
     rw [hin b hb,hu] at this; cases this
   ·have:=(R2.fr b h).2
    rw [hin b hb,hu] at this; cases this
  ·exact R2.zh b u (by rw [hin b hb]; exact hu)
structure Pure (F H F' H':Hp):Prop where
 ff:Same F F'
 hh:Same H H'
 fh:Same F' H'
 nw:∀ a o,F' a=some o→F a=none→H a=none
theorem Pure.refl (e:Same F H):Pure F H F H:=⟨Same.refl _,Same.refl _,e,fun a o h n=>by rw [n] at h; cases h⟩
theorem Pure.new {p:Addr}{o:HO}(e:Same F H)(hp:H p=none):Pure F H F (upd H p o):=⟨Same.refl _,dh hp,e.trans (dh hp),fun a o h n=>by rw [n] at h; cases h⟩
theorem Pure.frz {p:Addr}{o:HO}(e:Same F H)(hp:H p=none):Pure F H (upd F p o) (upd H p o):=by
 have hf:F p=none:=e.free hp
 refine ⟨dh hf,dh hp,fun b u h=>?_,fun a u h n=>?_⟩
 ·by_cases hb:b=p
  ·subst hb; rw [bB] at h ⊢; exact h
  ·rw [bN hb] at h ⊢; exact e b u h
 ·by_cases hb:a=p
  ·subst hb; exact hp
  ·rw [bN hb,n] at h; cases h
theorem Pure.trans {F1 F2 H1 H2:Hp}(a:Pure F H F1 H1)(b:Pure F1 H1 F2 H2):Pure F H F2 H2:=⟨a.ff.trans b.ff,a.hh.trans b.hh,b.fh,fun c o h n=>by
 cases q:F1 c with
 | none=>exact a.hh.free (b.nw c o h q)
 | some u=>exact a.nw c u q n⟩
theorem Rel.step (R:Rel K F Z H σ ρ A)(p:Pure F H F' H'):Rel K F' Z H' σ ρ A:=by
 refine ⟨R.sl.keep p.ff fun a u _ h=>p.hh a u h,R.nd,fun a ha=>⟨?_,(R.fr a ha).2⟩,p.fh,R.zh.trans p.hh,fun a o h=>?_⟩
 ·cases q:F' a with
  | none=>rfl
  | some o =>
   have:=p.nw a o q (R.fr a ha).1
   obtain ⟨u,hu⟩:=R.sl.live a ha
   rw [hu] at this; cases this
 ·cases q:F a with
  | none=>exact R.zh.free (p.nw a o h q)
  | some u=>exact R.dj a u q
structure New (H F':Hp)(B:List Addr):Prop where
 nd:B.Nodup
 fr:∀ b ∈ B,H b=none∧F' b=none
theorem New.nil:New H F' []:=⟨List.nodup_nil,fun _ z=>nomatch z⟩
theorem New.one {p:Addr}(h:H p=none)(f:F' p=none):New H F' [p]:=⟨by simp,fun b hb=>by
 have:b=p:=by first|exact List.mem_singleton.mp hb|simpa using hb
 rw [this]; exact ⟨h,f⟩⟩
theorem Rel.fresh {B:List Addr}(R:Rel K F Z H σ ρ A)(n:New H F' B):Fresh F' Z A B:=⟨n.nd,fun b hb=>⟨(n.fr b hb).2,R.zh.free (n.fr b hb).1,fun ha=>by
 obtain ⟨u,hu⟩:=R.sl.live b ha
 rw [(n.fr b hb).1] at hu; cases hu⟩⟩
def CH:RV→FSt→Option (D×FSt)
 | .ov o,ρ=>some (xJ o,ρ)
 | .br i,ρ=>match ρ[i]? with
  | some (some o)=>some (xJ o,ρ.set i (some (.fz (xJ o))))
  | _=>none
def fzR:RV→FSt→Option (D×FSt)
 | .ov (.fz d),ρ=>some (d,ρ)
 | .ov (.fl ds),ρ=>some (.lst ds,ρ)
 | .ov (.fd ks ds),ρ=>some (.dct ks ds,ρ)
 | .br i,ρ=>match ρ[i]? with
  | some (some (.fz d))=>some (d,ρ)
  | some (some (.fl ds))=>some (.lst ds,ρ.set i (some (.fz (.lst ds))))
  | some (some (.fd ks ds))=>some (.dct ks ds,ρ.set i (some (.fz (.dct ks ds))))
  | _=>none
theorem CI {ρ:FSt}{i:Nat}{x:Option OV}(h:ρ[i]?=some x):ρ.set i x=ρ:=by
 apply List.ext_getElem?
 intro j
 by_cases hj:i=j
 ·subst hj
  rw [h,List.getElem?_set_self (List.getElem?_eq_some_iff.mp h).1]
 ·rw [List.getElem?_set_ne hj]
theorem CJ (r:RV)(ρ:FSt):fzR r ρ=CH r ρ:=by
 cases r with
 | ov o=>cases o <;> simp [fzR,CH,xJ]
 | br i =>
  simp only [fzR,CH]
  cases e:ρ[i]? with
  | none=>rfl
  | some x =>
   cases x with
   | none=>rfl
   | some o =>
    cases o with
    | fz d=>simp only [xJ]; rw [CI e]
    | fl ds=>simp [xJ]
    | fd ks ds=>simp [xJ]
def fzL:List RV→FSt→Option (List D×FSt)
 | [],ρ=>some ([],ρ)
 | r::rs,ρ=>match fzR r ρ with
  | some (d,ρ1)=>match fzL rs ρ1 with
   | some (ds,ρ2)=>some (d::ds,ρ2)
   | none=>none
  | none=>none
theorem Rel.grow {B:List Addr}(R:Rel K F Z H σ ρ A)(live:∀ b ∈ B,∃ u,H b=some u)(f:∀ b ∈ B,F b=none∧Z b=none∧b ∉ A):∃ F',Same F F'∧Rel K F' Z H σ ρ A∧(∀ a u,a ∈ B→H a=some u→F' a=some u)∧∀ a o,F' a=some o→F a=none→a ∈ B:=by
 obtain ⟨G,hin,hout⟩:=mix B H F
 have s:Same F G:=fun b o h=>by
  rw [hout b fun hb=>by rw [(f b hb).1] at h; cases h]; exact h
 refine ⟨G,s,⟨R.sl.keep s fun _ _ _ h=>h,R.nd,fun a ha=>⟨?_,(R.fr a ha).2⟩,fun b o h=>?_,R.zh,fun a o h=>?_⟩,fun a u ha h=>?_,fun a o h n=>?_⟩
 ·rw [hout a fun hb=>(f a hb).2.2 ha]; exact (R.fr a ha).1
 ·by_cases hb:b ∈ B
  ·rw [hin b hb] at h; exact h
  ·rw [hout b hb] at h; exact R.fh b o h
 ·by_cases hb:a ∈ B
  ·exact (f a hb).2.1
  ·rw [hout a hb] at h; exact R.dj a o h
 ·rw [hin a ha]; exact h
 ·by_cases hb:a ∈ B
  ·exact hb
  ·rw [hout a hb,n] at h; cases h
theorem dN {A B C:List Addr}(h:A.Perm (B++C))(n:A.Nodup):B.Nodup∧C.Nodup∧(∀ b ∈ B,b ∉ C):=by
 have:=h.nodup_iff.mp n
 rw [List.nodup_append] at this
 exact ⟨this.1,this.2.1,fun b hb hc=>this.2.2 b hb b hc rfl⟩
theorem Rel.takeI {i:Nat}{o:OV}(R:Rel K F Z H σ ρ A)(e:ρ[i]?=some (some o)):∃ v B A',σ[i]?=some (some v)∧Ow K F H v o B∧Rel K F Z H σ (ρ.set i none) A'∧Fresh F Z A' B∧A.Perm (B++A'):=by
 obtain ⟨v,B,A',h1,h2,h3,h4⟩:=R.sl.take e
 obtain ⟨n1,n2,n3⟩:=dN h3 R.nd
 have mA:∀ a ∈ A',a ∈ A:=fun a ha=>h3.mem_iff.mpr (List.mem_append.mpr (.inr ha))
 have mB:∀ a ∈ B,a ∈ A:=fun a ha=>h3.mem_iff.mpr (List.mem_append.mpr (.inl ha))
 exact ⟨v,B,A',h1,h2,⟨h4,n2,fun a ha=>R.fr a (mA a ha),R.fh,R.zh,R.dj⟩,⟨n1,fun b hb=>⟨(R.fr b (mB b hb)).1,(R.fr b (mB b hb)).2,n3 b hb⟩⟩,h3⟩
theorem kI {ρ:FSt}{i:Nat}{o:OV}(e:ρ[i]?=some (some o)):(ρ.set i none)[i]?=some none:=by
 have hi:i < ρ.length:=(List.getElem?_eq_some_iff.mp e).1
 simp [hi]
theorem Rel.putI {i:Nat}{o:OV}{v:V}{B:List Addr}(R:Rel K F Z H σ ρ A)(e:ρ[i]?=some none)(hv:σ[i]?=some (some v))(h:Ow K F H v o B)(f:Fresh F Z A B):∃ A',Rel K F Z H σ (ρ.set i (some o)) A'∧A'.Perm (B++A):=by
 obtain ⟨A',h1,h2⟩:=R.sl.put e hv h
 refine ⟨A',⟨h2,h1.nodup_iff.mpr ?_,fun a ha=>?_,R.fh,R.zh,R.dj⟩,h1⟩
 ·exact List.nodup_append.mpr ⟨f.nd,R.nd,fun a ha b hb z=>(f.fr a ha).2.2 (z ▸ hb)⟩
 ·rcases List.mem_append.mp (h1.mem_iff.mp ha) with q | q
  ·exact ⟨(f.fr a q).1,(f.fr a q).2.1⟩
  ·exact R.fr a q
theorem Rel.frz {v:V}{r:RV}{B:List Addr}{d:D}{ρ':FSt}(R:Rel K F Z H σ ρ A)(h:RV1 K F H σ v r B)(f:Fresh F Z A B)(e:fzR r ρ=some (d,ρ')) :
  ∃ F' A',Same F F'∧Rel K F' Z H σ ρ' A'∧Den K F' v d∧(∀ a o,F' a=some o→F a=none→a ∈ A∨a ∈ B)∧∀ a ∈ A',a ∈ A:=by
 rw [CJ] at e
 cases r with
 | ov o =>
  simp only [CH,Option.some.injEq,Prod.mk.injEq] at e
  obtain ⟨rfl,rfl⟩:=e
  obtain ⟨F',s,R',k,n⟩:=R.grow (Ow.live h) f.fr
  exact ⟨F',A,s,R',Ow.freeze s h k,fun a o h1 h2=>.inr (n a o h1 h2),fun _ z=>z⟩
 | br i =>
  simp only [CH] at e
  split at e
  ·rename_i o ho
   simp only [Option.some.injEq,Prod.mk.injEq] at e
   obtain ⟨rfl,rfl⟩:=e
   obtain ⟨v',B',A',h1,h2,R',f',pm⟩:=R.takeI ho
   have hv:v'=v:=Option.some.inj (Option.some.inj (h1.symm.trans h.1))
   subst hv
   obtain ⟨F',s,R2,k,n⟩:=R'.grow (Ow.live h2) f'.fr
   have dn:=Ow.freeze s h2 k
   obtain ⟨A3,R3,p3⟩:=R2.putI (kI ho) h1 (.fz dn) Fresh.nil
   rw [List.set_set] at R3
   refine ⟨F',A3,s,R3,dn,fun a o h1 h2=>.inl (pm.mem_iff.mpr (List.mem_append.mpr (.inl (n a o h1 h2)))),fun a ha=>?_⟩
   have:=p3.mem_iff.mp ha
   exact pm.mem_iff.mpr (List.mem_append.mpr (.inr (by first|exact List.mem_singleton.mp this|simpa using this)))
  ·cases e
theorem Rel.frzL:∀ {rs:List RV} {vs:List V} {B:List Addr} {ds:List D} {ρ ρ':FSt} {F:Hp} {A:List Addr},Rel K F Z H σ ρ A→RVL K F H σ vs rs B→Fresh F Z A B→fzL rs ρ=some (ds,ρ') →
  ∃ F' A',Same F F'∧Rel K F' Z H σ ρ' A'∧Dens K F' vs ds:=by
 intro rs
 induction rs with
 | nil =>
  intro vs B ds ρ ρ' F A R h f e
  simp only [fzL,Option.some.injEq,Prod.mk.injEq] at e
  obtain ⟨rfl,rfl⟩:=e
  cases h
  exact ⟨F,A,Same.refl _,R,.nil⟩
 | cons r rs ih =>
  intro vs B ds ρ ρ' F A R h f e
  cases h with
  | @cons v _ vs _ B1 B2 h t =>
   simp only [fzL] at e
   split at e
   ·rename_i d ρ1 e1
    split at e
    ·rename_i ds' ρ2 e2
     simp only [Option.some.injEq,Prod.mk.injEq] at e
     obtain ⟨rfl,rfl⟩:=e
     obtain ⟨n1,n2,n3⟩:=dN (List.Perm.refl (B1++B2)) f.nd
     obtain ⟨F1,A1,s1,R1,d1,w1,m1⟩:=R.frz h ⟨n1,fun b hb=>f.fr b (List.mem_append.mpr (.inl hb))⟩ e1
     obtain ⟨F2,A2,s2,R2,d2⟩:=ih R1 (t.keep s1 fun _ _ _ z=>z) ⟨n2,fun b hb=>by
      have fb:=f.fr b (List.mem_append.mpr (.inr hb))
      refine ⟨?_,fb.2.1,fun z=>fb.2.2 (m1 b z)⟩
      cases q:F1 b with
      | none=>rfl
      | some u =>
       rcases w1 b u q fb.1 with z | z
       ·exact absurd z fb.2.2
       ·exact absurd hb (n3 b z)⟩ e2
     exact ⟨F2,A2,s1.trans s2,R2,.cons (d1.mono s2) d2⟩
    ·cases e
   ·cases e
def look (ρ:FSt):RV→Option OV
 | .ov o=>some o
 | .br i=>match ρ[i]? with
  | some (some o)=>some o
  | _=>none
def jD (ρ:FSt):RV→Option D
 | .ov o=>flat o
 | .br i=>match ρ[i]? with
  | some (some o)=>flat o
  | _=>none
def jW (ρ:FSt):List RV→Option (List D)
 | []=>some []
 | r::rs=>match jD ρ r with
  | some d=>match jW ρ rs with
   | some ds=>some (d::ds)
   | none=>none
  | none=>none
theorem Rel.acc {v:V}{r:RV}{B:List Addr}{d:D}(R:Rel K F Z H σ ρ A)(h:RV1 K F H σ v r B)(e:jD ρ r=some d):Acc K F H v d:=by
 cases r with
 | ov o=>exact Ow.acc h e
 | br i =>
  simp only [jD] at e
  split at e
  ·rename_i o ho
   obtain ⟨v',B',A',h1,h2,_⟩:=R.takeI ho
   have hv:v'=v:=Option.some.inj (Option.some.inj (h1.symm.trans h.1))
   subst hv
   exact h2.acc e
  ·cases e
inductive Accs (K:PySem.W.Frag)(F H:Hp):List V→List D→Prop where
 | nil:Accs K F H [] []
 | cons {v:V} {d:D} {vs:List V} {ds:List D}:Acc K F H v d→Accs K F H vs ds→Accs K F H (v::vs) (d::ds)
theorem Rel.accs {rs:List RV}{vs:List V}{B:List Addr}{ds:List D}(R:Rel K F Z H σ ρ A)(h:RVL K F H σ vs rs B)(e:jW ρ rs=some ds):Accs K F H vs ds:=by
 induction h generalizing ds with
 | nil=>cases e; exact .nil
 | @cons v r vs rs A B h t ih =>
  unfold jW at e
  cases e1:jD ρ r with
  | none=>rw [e1] at e; cases e
  | some d =>
   cases e2:jW ρ rs with
   | none=>rw [e1,e2] at e; cases e
   | some ds' =>
    rw [e1,e2] at e
    cases e
    exact .cons (R.acc h e1) (ih e2)
end
end L2
set_option maxHeartbeats 4000000
namespace L2
open PySem PySem.Spec PyProof.Rows
abbrev FE:=FSt→(RV→FSt→Prop)→Prop
abbrev FT:=FSt→(Bool→FSt→Prop)→Prop
abbrev FA:=FSt→(List RV→FSt→Prop)→Prop
abbrev FO:=FSt→(Option Int→FSt→Prop)→Prop
def View (μ:List Nat)(τ σ:St):Prop:=∀ j i:Nat,μ[j]?=some i→τ[j]?=σ[i]?∧j < τ.length∧i < σ.length
theorem View.id {n:Nat}{σ:St}(hn:σ.length=n):View (List.range n) σ σ:=fun j i h=>by
 rw [List.getElem?_eq_some_iff] at h
 obtain ⟨h1,h2⟩:=h
 rw [List.getElem_range] at h2
 rw [List.length_range] at h1
 subst h2
 exact ⟨rfl,by nofun,by nofun⟩
structure EF (K:PySem.W.Frag)(μ:List Nat)(t:TE)(f:FE):Prop where
 h:∀ {F Z H:Hp} {τ σ:St} {ρ:FSt} {A:List Addr} {Q:VK} {P:RV→FSt→Prop},View μ τ σ→Rel K F Z H σ ρ A→f ρ P →
  (∀ r ρ' v F' H' A' B,P r ρ'→Same F F'→Rel K F' Z H' σ ρ' A'→RV1 K F' H' σ v r B→Fresh F' Z A' B→Q v H')→t τ H Q
structure TF (K:PySem.W.Frag)(μ:List Nat)(t:TT)(f:FT):Prop where
 h:∀ {F Z H:Hp} {τ σ:St} {ρ:FSt} {A:List Addr} {Q:Bool→Hp→Prop} {P:Bool→FSt→Prop},View μ τ σ→Rel K F Z H σ ρ A→f ρ P →
  (∀ b ρ' F' H' A',P b ρ'→Same F F'→Rel K F' Z H' σ ρ' A'→Q b H')→t τ H Q
structure AF (K:PySem.W.Frag)(μ:List Nat)(t:TA)(f:FA):Prop where
 h:∀ {F Z H:Hp} {τ σ:St} {ρ:FSt} {A:List Addr} {Q:List V→Hp→Prop} {P:List RV→FSt→Prop},View μ τ σ→Rel K F Z H σ ρ A→f ρ P →
  (∀ rs ρ' vs F' H' A' B,P rs ρ'→Same F F'→Rel K F' Z H' σ ρ' A'→RVL K F' H' σ vs rs B→Fresh F' Z A' B→Q vs H')→t τ H Q
structure OF (K:PySem.W.Frag)(μ:List Nat)(t:TO)(f:FO):Prop where
 h:∀ {F Z H:Hp} {τ σ:St} {ρ:FSt} {A:List Addr} {Q:Option Int→Hp→Prop} {P:Option Int→FSt→Prop},View μ τ σ→Rel K F Z H σ ρ A→f ρ P →
  (∀ x ρ' F' H' A',P x ρ'→Same F F'→Rel K F' Z H' σ ρ' A'→Q x H')→t τ H Q
def xK (K:PySem.W.Frag)(F H:Hp)(P:OV→Prop)(Q:VK):Prop:=∀ o v F' H' B,P o→Pure F H F' H'→Ow K F' H' v o B→New H F' B→Q v H'
structure OpF (K:PySem.W.Frag)(r:R2)(f:D→D→(OV→Prop)→Prop):Prop where
 h:∀ {F H:Hp} {x y:V} {d e:D} {Q:VK} {P:OV→Prop},Same F H→Acc K F H x d→Acc K F H y e→f d e P→xK K F H P Q→r x y H Q
structure CallF (K:PySem.W.Frag)(r:List V→Hp→VK→Prop)(f:List D→(OV→Prop)→Prop):Prop where
 h:∀ {F H:Hp} {xs:List V} {ds:List D} {Q:VK} {P:OV→Prop},Same F H→Accs K F H xs ds→f ds P→xK K F H P Q→r xs H Q
structure SlF (K:PySem.W.Frag)(r:V→Option Int→Option Int→Hp→VK→Prop)(f:D→Option Int→Option Int→(OV→Prop)→Prop):Prop where
 h:∀ {F H:Hp} {x:V} {d:D} {lo hi:Option Int} {Q:VK} {P:OV→Prop},Same F H→Acc K F H x d→f d lo hi P→xK K F H P Q→r x lo hi H Q
@[irreducible] def br (b:Bool)(A B:Prop):Prop:=if b=true then A else B
theorem iY {A B:Prop}(h:A):br true A B:=by unfold br; exact h
theorem jE {A B:Prop}(h:B):br false A B:=by unfold br; exact h
theorem qB {A B:Prop}(h:br true A B):A:=by unfold br at h; exact h
theorem qC {A B:Prop}(h:br false A B):B:=by unfold br at h; exact h
theorem bD {b:Bool}{A B:Prop}(c:Prop)(e:b=true↔c)(h1:c→A)(h2:¬ c→B):br b A B:=by
 cases b with
 | true=>exact iY (h1 (e.mp rfl))
 | false=>exact jE (h2 fun z=>nomatch e.mpr z)
def ao (i:Nat):FE:=fun ρ Q=>match ρ[i]? with
 | some (some (.fz d))=>Q (.ov (.fz d)) ρ
 | some (some _)=>Q (.br i) ρ
 | _=>False
def fC (d:D):FE:=fun ρ Q=>Q (.ov (.fz d)) ρ
def on2 (ρ:FSt)(r s:RV)(k:D→D→Prop):Prop:=match jD ρ r with
 | some d=>match jD ρ s with
  | some e=>k d e
  | none=>False
 | none=>False
def on1 (ρ:FSt)(r:RV)(k:D→Prop):Prop:=match jD ρ r with
 | some d=>k d
 | none=>False
def onL (ρ:FSt)(rs:List RV)(k:List D→Prop):Prop:=match jW ρ rs with
 | some d=>k d
 | none=>False
def onB (d:D)(k:Bool→Prop):Prop:=match d with
 | .bl b=>k b
 | _=>False
def fOp (f:D→D→(OV→Prop)→Prop)(fa fb:FE):FE:=fun ρ Q=>fa ρ fun r ρ1=>fb ρ1 fun s ρ2=>on2 ρ2 r s fun d e=>f d e fun o=>Q (.ov o) ρ2
def jF (fa fb:FE):FE:=fun ρ Q=>fa ρ fun r ρ1=>on1 ρ1 r fun d=>onB d fun c=>br c (fb ρ1 Q) (Q (.ov (.fz (.bl false))) ρ1)
def EW (fa fb:FE):FE:=fun ρ Q=>fa ρ fun r ρ1=>on1 ρ1 r fun d=>onB d fun c=>br c (Q (.ov (.fz (.bl true))) ρ1) (fb ρ1 Q)
def EX (fc:FT)(fa fb:FE):FE:=fun ρ Q=>fc ρ fun b ρ1=>br b (fa ρ1 Q) (fb ρ1 Q)
def jX (f f':D→D→(OV→Prop)→Prop)(fa fb fc:FE):FE:=fun ρ Q=>fa ρ fun r ρ1=>fb ρ1 fun s ρ2=>on2 ρ2 r s fun d e=>f d e fun o=>match o with
 | .fz (.bl k)=>br k (fc ρ2 fun t ρ3=>on2 ρ3 s t fun d' e'=>f' d' e' fun o=>Q (.ov o) ρ3) (Q (.ov (.fz (.bl false))) ρ2)
 | _=>False
def bJ (fa:FE):FT:=fun ρ Q=>fa ρ fun r ρ1=>on1 ρ1 r fun d=>onB d fun c=>Q c ρ1
def jY (ft:FT):FT:=fun ρ Q=>ft ρ fun c ρ1=>Q (!c) ρ1
def Ed (fa fb:FT):FT:=fun ρ Q=>fa ρ fun c ρ1=>br c (fb ρ1 Q) (Q false ρ1)
def fOr (fa fb:FT):FT:=fun ρ Q=>fa ρ fun c ρ1=>br c (Q true ρ1) (fb ρ1 Q)
def xL:D→Option Bool
 | .non=>some false
 | .bl b=>some b
 | .int i=>some (i != 0)
 | .str y=>if y.length≤sizeLine then some ((y.length:Int) != 0) else none
 | .lst xs=>some (!xs.isEmpty)
 | .tup xs=>some (!xs.isEmpty)
 | .dct _ _=>none
 | .ty _=>none
 | .opq _ _=>none
def nt:FT:=fun ρ Q=>Q true ρ
def aU:FA:=fun ρ Q=>Q [] ρ
def ag (fa:FE)(fr:FA):FA:=fun ρ Q=>fa ρ fun r ρ1=>fr ρ1 fun rs ρ2=>Q (r::rs) ρ2
def fCB (f:List D→(OV→Prop)→Prop)(fa:FA):FE:=fun ρ Q=>fa ρ fun rs ρ1=>onL ρ1 rs fun ds=>f ds fun o=>Q (.ov o) ρ1
def kJ (fa:FA):FE:=fun ρ Q=>fa ρ fun rs ρ1=>match fzL rs ρ1 with
 | some (ds,ρ2)=>ds.length≤sizeLine∧Q (.ov (.fl ds)) ρ2
 | none=>False
def vo (fa:FA):FE:=fun ρ Q=>fa ρ fun rs ρ1=>match fzL rs ρ1 with
 | some (ds,ρ2)=>ds.length≤sizeLine∧Q (.ov (.fz (.tup ds))) ρ2
 | none=>False
def cj:FO:=fun ρ Q=>Q none ρ
def dg (fa:FE):FO:=fun ρ Q=>fa ρ fun r ρ1=>on1 ρ1 r fun d=>match d with
 | .int i=>Q (some i) ρ1
 | _=>False
def fSl (f:D→Option Int→Option Int→(OV→Prop)→Prop)(fe:FE)(fl fh:FO):FE:=fun ρ Q=>fe ρ fun r ρ1=>fl ρ1 fun lo ρ2=>fh ρ2 fun hi ρ3=>on1 ρ3 r fun d=>f d lo hi fun o=>Q (.ov o) ρ3
def CK:FE:=fun ρ Q=>Q (.ov (.fd [] [])) ρ
section
variable {K:PySem.W.Frag} {μ:List Nat}
theorem dq {ρ:FSt}{r:RV}{k:D→Prop}(h:on1 ρ r k):∃ d,jD ρ r=some d∧k d:=by
 unfold on1 at h
 split at h
 ·exact ⟨_,by assumption,h⟩
 ·exact h.elim
theorem rY {ρ:FSt}{r s:RV}{k:D→D→Prop}(h:on2 ρ r s k):∃ d e,jD ρ r=some d∧jD ρ s=some e∧k d e:=by
 unfold on2 at h
 split at h
 ·split at h
  ·exact ⟨_,_,by assumption,by assumption,h⟩
  ·exact h.elim
 ·exact h.elim
theorem rZ {ρ:FSt}{r:List RV}{k:List D→Prop}(h:onL ρ r k):∃ d,jW ρ r=some d∧k d:=by
 unfold onL at h
 split at h
 ·exact ⟨_,by assumption,h⟩
 ·exact h.elim
theorem r8 {d:D}{k:Bool→Prop}(h:onB d k):∃ b,d=.bl b∧k b:=by
 unfold onB at h
 split at h
 ·exact ⟨_,rfl,h⟩
 ·exact h.elim
theorem cL {i j:Nat}(hj:μ[j]?=some i):EF K μ (qz j) (ao i):=⟨by
 intro F Z H τ σ ρ A Q P vw R h q
 unfold ao at h
 generalize e:ρ[i]?=o at h
 cases o with
 | none=>exact False.elim h
 | some o =>
  cases o with
  | none=>exact False.elim h
  | some o =>
   obtain ⟨v,B,A',h1,h2,h3,h4,h5⟩:=R.takeI e
   refine ⟨v,(vw j i hj).1.trans h1,?_⟩
   cases o with
   | fz d =>
    cases h2 with
    | fz dn=>exact q _ _ v F H A [] h (Same.refl _) R (.fz dn) Fresh.nil
   | _=>exact q _ _ v F H A [] h (Same.refl _) R ⟨h1,rfl⟩ Fresh.nil⟩
theorem CL {v:V}{d:D}(hd:∀ F,Den K F v d):EF K μ (tC v) (fC d):=⟨fun {F Z H τ σ ρ A Q P} vw R h q=>q _ _ v F H A [] h (Same.refl _) R (.fz (hd F)) Fresh.nil⟩
theorem aj {i:Int}:EF K μ (tC (.int i)) (fC (.int i)):=CL fun _=>.int i
theorem aJ {i:Str}:EF K μ (tC (.str i)) (fC (.str i)):=CL fun _=>.str i
theorem e7 {i:Bool}:EF K μ (tC (.bl i)) (fC (.bl i)):=CL fun _=>.bl i
theorem xM:EF K μ (tC .non) (fC .non):=CL fun _=>.non
theorem jG {T:String}:EF K μ (tC (.ty T)) (fC (.ty T)):=CL fun _=>.ty T
theorem Rel.after {F Z H:Hp}{σ:St}{ρ:FSt}{A:List Addr}{P:OV→Prop}{Q:VK}(R:Rel K F Z H σ ρ A)(q:∀ o v F' H' B,P o→Same F F'→Rel K F' Z H' σ ρ A→Ow K F' H' v o B→Fresh F' Z A B→Q v H'):xK K F H P Q :=
 fun o v F' H' B p pu ow nw=>q o v F' H' B p pu.ff (R.step pu) ow (R.fresh nw)
theorem aq {r:R2}{f:D→D→(OV→Prop)→Prop}{ta tb:TE}{fa fb:FE}(ho:OpF K r f)(ha:EF K μ ta fa)(hb:EF K μ tb fb):EF K μ (tOp r ta tb) (fOp f fa fb):=⟨by
 intro F Z H τ σ ρ A Q P vw R h q
 refine ha.h vw R h fun r1 ρ1 x F1 H1 A1 B1 h1 s1 R1 v1 f1=>?_
 obtain ⟨Z',sz,R1',zl,back⟩:=R1.hold v1.live f1
 refine hb.h vw R1' h1 fun r2 ρ2 y F2 H2 A2 B2 h2 s2 R2 v2 f2=>?_
 obtain ⟨R2',f1',k1⟩:=back _ _ _ _ s2 R2
 obtain ⟨d,e,e1,e2,h3⟩:=rY h2
 refine ho.h R2'.fh (R2'.acc (v1.keep s2 k1) e1) (R2'.acc v2 e2) h3 (R2'.after fun o v F3 H3 B p s3 R3 ow fr=>q _ _ _ _ _ _ _ p ((s1.trans s2).trans s3) R3 ow fr)⟩
theorem eJ {ta tb:TE}{fa fb:FE}(ha:EF K μ ta fa)(hb:EF K μ tb fb):EF K μ (yq ta tb) (jF fa fb):=⟨by
 intro F Z H τ σ ρ A Q P vw R h q
 refine ha.h vw R h fun r1 ρ1 x F1 H1 A1 B1 h1 s1 R1 v1 f1=>?_
 obtain ⟨d,e1,h2⟩:=dq h1
 obtain ⟨c,rfl,h3⟩:=r8 h2
 refine ⟨c,(R1.acc v1 e1).bl_eq,?_⟩
 cases c with
 | true=>exact hb.h vw R1 (qB h3) fun r2 ρ2 y F2 H2 A2 B2 h2 s2=>q _ _ _ _ _ _ _ h2 (s1.trans s2)
 | false=>exact q _ _ _ _ _ _ _ (qC h3) s1 R1 (.fz (.bl false)) Fresh.nil⟩
theorem xN {ta tb:TE}{fa fb:FE}(ha:EF K μ ta fa)(hb:EF K μ tb fb):EF K μ (En ta tb) (EW fa fb):=⟨by
 intro F Z H τ σ ρ A Q P vw R h q
 refine ha.h vw R h fun r1 ρ1 x F1 H1 A1 B1 h1 s1 R1 v1 f1=>?_
 obtain ⟨d,e1,h2⟩:=dq h1
 obtain ⟨c,rfl,h3⟩:=r8 h2
 refine ⟨c,(R1.acc v1 e1).bl_eq,?_⟩
 cases c with
 | false=>exact hb.h vw R1 (qC h3) fun r2 ρ2 y F2 H2 A2 B2 h2 s2=>q _ _ _ _ _ _ _ h2 (s1.trans s2)
 | true=>exact q _ _ _ _ _ _ _ (qB h3) s1 R1 (.fz (.bl true)) Fresh.nil⟩
theorem CM {tc:TT}{ta tb:TE}{fc:FT}{fa fb:FE}(hc:TF K μ tc fc)(ha:EF K μ ta fa)(hb:EF K μ tb fb):EF K μ (tIf tc ta tb) (EX fc fa fb):=⟨by
 intro F Z H τ σ ρ A Q P vw R h q
 refine hc.h vw R h fun b ρ1 F1 H1 A1 h1 s1 R1=>?_
 cases b with
 | true=>exact ha.h vw R1 (qB h1) fun r2 ρ2 y F2 H2 A2 B2 h2 s2=>q _ _ _ _ _ _ _ h2 (s1.trans s2)
 | false=>exact hb.h vw R1 (qC h1) fun r2 ρ2 y F2 H2 A2 B2 h2 s2=>q _ _ _ _ _ _ _ h2 (s1.trans s2)⟩
theorem gv {r r':R2}{f f':D→D→(OV→Prop)→Prop}{ta tb tc:TE}{fa fb fc:FE}(ho:OpF K r f)(ho':OpF K r' f')(ha:EF K μ ta fa)(hb:EF K μ tb fb)(hc:EF K μ tc fc):EF K μ (lA r r' ta tb tc) (jX f f' fa fb fc):=⟨by
 intro F Z H τ σ ρ A Q P vw R h q
 refine ha.h vw R h fun r1 ρ1 x F1 H1 A1 B1 h1 s1 R1 v1 f1=>?_
 obtain ⟨Z',sz,R1',zl,back⟩:=R1.hold v1.live f1
 refine hb.h vw R1' h1 fun r2 ρ2 y F2 H2 A2 B2 h2 s2 R2 v2 f2=>?_
 obtain ⟨R2',f1',k1⟩:=back _ _ _ _ s2 R2
 obtain ⟨d,e,e1,e2,h3⟩:=rY h2
 have f2':Fresh F2 Z A2 B2:=⟨f2.nd,fun b hb=>⟨(f2.fr b hb).1,sz.free (f2.fr b hb).2.1,(f2.fr b hb).2.2⟩⟩
 refine ho.h R2'.fh (R2'.acc (v1.keep s2 k1) e1) (R2'.acc v2 e2) h3 fun o v F3 H3 B p pu ow nw=>?_
 have R3:=R2'.step pu
 have f3:Fresh F3 Z A2 B2:=⟨f2'.nd,fun b hb=>⟨(by
  cases z:F3 b with
  | none=>rfl
  | some u =>
   obtain ⟨w,hw⟩:=v2.live b hb
   rw [pu.nw b u z (f2'.fr b hb).1] at hw
   exact nomatch hw),(f2'.fr b hb).2⟩⟩
 have v3:=v2.keep pu.ff fun a u _ z=>pu.hh a u z
 split at p
 ·rename_i k
  cases ow with
  | fz dn =>
   refine ⟨k,dn.bl_eq,?_⟩
   cases k with
   | false=>exact q _ _ _ _ _ _ _ (qC p) ((s1.trans s2).trans pu.ff) R3 (.fz (.bl false)) Fresh.nil
   | true =>
    obtain ⟨Z2,sz2,R3',zl2,back2⟩:=R3.hold v3.live f3
    refine hc.h vw R3' (qB p) fun r4 ρ4 w F4 H4 A4 B4 h4 s4 R4 v4 f4=>?_
    obtain ⟨R4',f4',k4⟩:=back2 _ _ _ _ s4 R4
    obtain ⟨d',e',e1',e2',h5⟩:=rY h4
    exact ho'.h R4'.fh (R4'.acc (v3.keep s4 k4) e1') (R4'.acc v4 e2') h5 (R4'.after fun o v F5 H5 B p s5 R5 ow fr=>q _ _ _ _ _ _ _ p ((((s1.trans s2).trans pu.ff).trans s4).trans s5) R5 ow fr)
 ·exact p.elim⟩
theorem aX {ta:TE}{fa:FE}(ha:EF K μ ta fa):TF K μ (m3 ta) (bJ fa):=⟨by
 intro F Z H τ σ ρ A Q P vw R h q
 refine ha.h vw R h fun r1 ρ1 x F1 H1 A1 B1 h1 s1 R1 v1 f1=>?_
 obtain ⟨d,e1,h2⟩:=dq h1
 obtain ⟨c,rfl,h3⟩:=r8 h2
 exact ⟨c,(R1.acc v1 e1).bl_eq,q _ _ _ _ _ h3 s1 R1⟩⟩
theorem lZ {ta:TE}{fa:FE}(ha:EF K μ ta fa):TF K μ (tB ta) (bJ fa):=⟨(aX ha).h⟩
theorem dr {t:TT}{f:FT}(h:TF K μ t f):TF K μ (El t) (jY f):=⟨fun {F Z H τ σ ρ A Q P} vw R p q=>h.h vw R p fun b ρ1 F1 H1 A1 h1=>q _ _ _ _ _ h1⟩
theorem r9 {t u:TT}{f g:FT}(h:TF K μ t f)(h':TF K μ u g):TF K μ (Ek t u) (Ed f g):=⟨fun {F Z H τ σ ρ A Q P} vw R p q=>h.h vw R p fun b ρ1 F1 H1 A1 h1 s1 R1=>by
 cases b with
 | true=>exact h'.h vw R1 (qB h1) fun b ρ2 F2 H2 A2 h2 s2=>q _ _ _ _ _ h2 (s1.trans s2)
 | false=>exact q _ _ _ _ _ (qC h1) s1 R1⟩
theorem sd {t u:TT}{f g:FT}(h:TF K μ t f)(h':TF K μ u g):TF K μ (tOr t u) (fOr f g):=⟨fun {F Z H τ σ ρ A Q P} vw R p q=>h.h vw R p fun b ρ1 F1 H1 A1 h1 s1 R1=>by
 cases b with
 | false=>exact h'.h vw R1 (qC h1) fun b ρ2 F2 H2 A2 h2 s2=>q _ _ _ _ _ h2 (s1.trans s2)
 | true=>exact q _ _ _ _ _ (qB h1) s1 R1⟩
theorem eQ:TF K μ EQ nt:=⟨fun {F Z H τ σ ρ A Q P} vw R p q=>q _ _ _ _ _ p (Same.refl _) R⟩
theorem zt {F H:Hp}{x:V}{d:D}{k:Bool}(e:Same F H)(h:Acc K F H x d)(hk:xL d=some k):EE K x H k:=by
 cases d with
 | non=>rw [h.non_eq]; exact (Option.some.inj hk).symm
 | bl b=>rw [h.bl_eq]; exact (Option.some.inj hk).symm
 | int i=>rw [h.int_eq]; exact (Option.some.inj hk).symm
 | str y =>
  rw [h.str_eq]
  simp only [xL] at hk
  split at hk
  ·exact ⟨by assumption,by simpa using hk.symm⟩
  ·cases hk
 | lst ds =>
  obtain ⟨a,xs,rfl,h1,h2⟩:=h.asL e
  have:=h2.length
  refine .inl ⟨xs,h1,?_⟩
  simp only [xL,Option.some.injEq] at hk
  rw [← hk]
  cases xs <;> cases ds <;> simp at this ⊢
 | tup ds =>
  obtain ⟨a,xs,rfl,h1,h2⟩:=h.asT e
  have:=h2.length
  refine .inr (.inl ⟨xs,h1,?_⟩)
  simp only [xL,Option.some.injEq] at hk
  rw [← hk]
  cases xs <;> cases ds <;> simp at this ⊢
 | dct ks ds =>
  simp [xL] at hk
 | ty T=>simp [xL] at hk
 | opq a n=>simp [xL] at hk
theorem ah:AF K μ m5 aU:=⟨fun {F Z H τ σ ρ A Q P} vw R p q=>q _ _ _ _ _ _ _ p (Same.refl _) R .nil Fresh.nil⟩
theorem aa {ta:TE}{tr:TA}{fa:FE}{fr:FA}(ha:EF K μ ta fa)(hr:AF K μ tr fr):AF K μ (fT ta tr) (ag fa fr):=⟨by
 intro F Z H τ σ ρ A Q P vw R h q
 refine ha.h vw R h fun r1 ρ1 x F1 H1 A1 B1 h1 s1 R1 v1 f1=>?_
 obtain ⟨Z',sz,R1',zl,back⟩:=R1.hold v1.live f1
 refine hr.h vw R1' h1 fun r2 ρ2 y F2 H2 A2 B2 h2 s2 R2 v2 f2=>?_
 obtain ⟨R2',f1',k1⟩:=back _ _ _ _ s2 R2
 refine q _ _ _ _ _ _ _ h2 (s1.trans s2) R2' (.cons (v1.keep s2 k1) v2) ⟨List.nodup_append.mpr ⟨f1'.nd,f2.nd,fun a ha b hb z=>?_⟩,fun b hb=>?_⟩
 ·obtain ⟨u,hu⟩:=zl a ha
  rw [z,(f2.fr b hb).2.1] at hu; cases hu
 ·rcases List.mem_append.mp hb with z | z
  ·exact f1'.fr b z
  ·exact ⟨(f2.fr b z).1,sz.free (f2.fr b z).2.1,(f2.fr b z).2.2⟩⟩
theorem bU {r:List V→Hp→VK→Prop}{f:List D→(OV→Prop)→Prop}{t:TA}{fa:FA}(hc:CallF K r f)(ha:AF K μ t fa):EF K μ (tCB r t) (fCB f fa):=⟨by
 intro F Z H τ σ ρ A Q P vw R h q
 refine ha.h vw R h fun rs ρ1 xs F1 H1 A1 B1 h1 s1 R1 v1 f1=>?_
 obtain ⟨ds,e1,h2⟩:=rZ h1
 exact hc.h R1.fh (R1.accs v1 e1) h2 (R1.after fun o v F3 H3 B p s3 R3 ow fr=>q _ _ _ _ _ _ _ p (s1.trans s3) R3 ow fr)⟩
theorem dS {t:TA}{fa:FA}(ha:AF K μ t fa):EF K μ (EG t) (kJ fa):=⟨by
 intro F Z H τ σ ρ A Q P vw R h q
 refine ha.h vw R h fun rs ρ1 xs F1 H1 A1 B1 h1 s1 R1 v1 f1=>?_
 split at h1
 ·rename_i ds ρ2 e
  obtain ⟨F2,A2,s2,R2,dn⟩:=R1.frzL v1 f1 e
  refine ⟨by rw [dn.length]; exact h1.1,fun p hp=>?_⟩
  have hf:F2 p=none:=R2.fh.free hp
  exact R2.after (P:=fun o=>P (.ov o) ρ2) (fun o v F3 H3 B p s3 R3 ow fr=>q _ _ _ _ _ _ _ p ((s1.trans s2).trans s3) R3 ow fr) _ _ F2 _ [p] h1.2 (Pure.new R2.fh hp) (.fl bB dn) (New.one hp hf)
 ·exact h1.elim⟩
theorem jZ {t:TA}{fa:FA}(ha:AF K μ t fa):EF K μ (D5 t) (vo fa):=⟨by
 intro F Z H τ σ ρ A Q P vw R h q
 refine ha.h vw R h fun rs ρ1 xs F1 H1 A1 B1 h1 s1 R1 v1 f1=>?_
 split at h1
 ·rename_i ds ρ2 e
  obtain ⟨F2,A2,s2,R2,dn⟩:=R1.frzL v1 f1 e
  refine ⟨by rw [dn.length]; exact h1.1,fun p hp=>?_⟩
  have hf:F2 p=none:=R2.fh.free hp
  refine R2.after (P:=fun o=>P (.ov o) ρ2) (fun o v F3 H3 B p s3 R3 ow fr=>q _ _ _ _ _ _ _ p ((s1.trans s2).trans s3) R3 ow fr) _ _ (upd F2 p (.tup xs)) _ [] h1.2 (Pure.frz R2.fh hp) (.fz (.tup (SqT.of bB) (dn.mono (dh hf)))) New.nil
 ·exact h1.elim⟩
theorem zu:EF K μ re CK:=⟨by
 intro F Z H τ σ ρ A Q P vw R h q p hp
 have hf:F p=none:=R.fh.free hp
 exact R.after (P:=fun o=>P (.ov o) ρ) (fun o v F3 H3 B p s3 R3 ow fr=>q _ _ _ _ _ _ _ p s3 R3 ow fr) _ _ F _ [p] h (Pure.new R.fh hp) (.fd bB rfl .nil) (New.one hp hf)⟩
theorem cu:OF K μ m6 cj:=⟨fun {F Z H τ σ ρ A Q P} vw R p q=>q _ _ _ _ _ p (Same.refl _) R⟩
theorem bE {ta:TE}{fa:FE}(ha:EF K μ ta fa):OF K μ (yJ ta) (dg fa):=⟨by
 intro F Z H τ σ ρ A Q P vw R h q
 refine ha.h vw R h fun r1 ρ1 x F1 H1 A1 B1 h1 s1 R1 v1 f1=>?_
 obtain ⟨d,e1,h2⟩:=dq h1
 split at h2
 ·rename_i i
  exact ⟨i,(R1.acc v1 e1).int_eq,q _ _ _ _ _ h2 s1 R1⟩
 ·exact h2.elim⟩
theorem dI {r:V→Option Int→Option Int→Hp→VK→Prop}{f:D→Option Int→Option Int→(OV→Prop)→Prop}{te:TE}{tl th:TO}{fe:FE}{fl fh:FO}(hr:SlF K r f)(he:EF K μ te fe)(hl:OF K μ tl fl)(hh:OF K μ th fh):EF K μ (tSl r te tl th) (fSl f fe fl fh):=⟨by
 intro F Z H τ σ ρ A Q P vw R h q
 refine he.h vw R h fun r1 ρ1 x F1 H1 A1 B1 h1 s1 R1 v1 f1=>?_
 obtain ⟨Z',sz,R1',zl,back⟩:=R1.hold v1.live f1
 refine hl.h vw R1' h1 fun lo ρ2 F2 H2 A2 h2 s2 R2=>?_
 refine hh.h vw R2 h2 fun hi ρ3 F3 H3 A3 h3 s3 R3=>?_
 obtain ⟨R3',f1',k1⟩:=back _ _ _ _ (s2.trans s3) R3
 obtain ⟨d,e1,h4⟩:=dq h3
 exact hr.h R3'.fh (R3'.acc (v1.keep (s2.trans s3) k1) e1) h4 (R3'.after fun o v F5 H5 B p s5 R5 ow fr=>q _ _ _ _ _ _ _ p (((s1.trans s2).trans s3).trans s5) R5 ow fr)⟩
end
end L2
set_option maxHeartbeats 4000000
namespace L2
open PySem PySem.Spec PyProof.Rows
abbrev Ct:=List OV→(OV→List OV→Prop)→Prop
def takeR:RV→FSt→Option (OV×FSt)
 | .ov o,ρ=>some (o,ρ)
 | .br i,ρ=>match ρ[i]? with
  | some (some o)=>some (o,ρ.set i none)
  | _=>none
def takeL:List RV→FSt→Option (List OV×FSt)
 | [],ρ=>some ([],ρ)
 | r::rs,ρ=>match takeR r ρ with
  | some (o,ρ1)=>match takeL rs ρ1 with
   | some (os,ρ2)=>some (o::os,ρ2)
   | none=>none
  | none=>none
def putL:List RV→List OV→FSt→FSt
 | .br i::rs,o::os,ρ=>putL rs os (ρ.set i (some o))
 | .ov _::rs,_::os,ρ=>putL rs os ρ
 | _,_,ρ=>ρ
def spM (K:PySem.W.Frag)(c:Ct):Sp:=fun vs H Q _=>∃ (F Z:Hp) (os:List OV) (C:List Addr) (P:OV→List OV→Prop),Same F H∧Same Z H∧(∀ a o,F a=some o→Z a=none)∧Ows K F H vs os C∧C.Nodup∧(∀ a ∈ C,F a=none∧Z a=none)∧c os P ∧
 ∀ o os' v F' H' C' B,P o os'→Same F F'→Same F' H'→Same Z H'→(∀ a o,F' a=some o→Z a=none)→Ows K F' H' vs os' C'→Ow K F' H' v o B→(C'++B).Nodup→(∀ a ∈ C'++B,F' a=none∧Z a=none)→Q v H'
def bd (c:Ct)(fa:FA):FE:=fun ρ Q=>fa ρ fun rs ρ1=>match takeL rs ρ1 with
 | some (os,ρ2)=>c os fun o os'=>Q (.ov o) (putL rs os' ρ2)
 | none=>False
def fFz (fe:FE):FE:=fun ρ Q=>fe ρ fun r ρ1=>match fzR r ρ1 with
 | some (d,ρ2)=>Q (.ov (.fz d)) ρ2
 | none=>False
section
variable {K:PySem.W.Frag} {μ:List Nat} {F F' Z H H':Hp} {σ:St} {ρ:FSt} {A:List Addr}
theorem Rel.takeR {v:V}{r:RV}{B:List Addr}{o:OV}{ρ':FSt}(R:Rel K F Z H σ ρ A)(h:RV1 K F H σ v r B)(f:Fresh F Z A B)(e:L2.takeR r ρ=some (o,ρ')) :
  ∃ C A',Rel K F Z H σ ρ' A'∧Ow K F H v o C∧Fresh F Z A' C∧(∀ a ∈ A',a ∈ A)∧∀ a ∈ C,a ∈ A∨a ∈ B:=by
 cases r with
 | ov o' =>
  simp only [L2.takeR,Option.some.injEq,Prod.mk.injEq] at e
  obtain ⟨rfl,rfl⟩:=e
  exact ⟨B,A,R,h,f,fun _ z=>z,fun _ z=>.inr z⟩
 | br i =>
  simp only [L2.takeR] at e
  split at e
  ·rename_i o' ho
   simp only [Option.some.injEq,Prod.mk.injEq] at e
   obtain ⟨rfl,rfl⟩:=e
   obtain ⟨v',B',A',h1,h2,R',f',pm⟩:=R.takeI ho
   have hv:v'=v:=Option.some.inj (Option.some.inj (h1.symm.trans h.1))
   subst hv
   exact ⟨B',A',R',h2,f',fun a ha=>pm.mem_iff.mpr (List.mem_append.mpr (.inr ha)),fun a ha=>.inl (pm.mem_iff.mpr (List.mem_append.mpr (.inl ha)))⟩
  ·cases e
theorem Rel.takeL:∀ {rs:List RV} {vs:List V} {B:List Addr} {os:List OV} {ρ ρ':FSt} {A:List Addr},Rel K F Z H σ ρ A→RVL K F H σ vs rs B→Fresh F Z A B→L2.takeL rs ρ=some (os,ρ') →
  ∃ C A',Rel K F Z H σ ρ' A'∧Ows K F H vs os C∧Fresh F Z A' C∧(∀ a ∈ A',a ∈ A)∧∀ a ∈ C,a ∈ A∨a ∈ B:=by
 intro rs
 induction rs with
 | nil =>
  intro vs B os ρ ρ' A R h f e
  simp only [L2.takeL,Option.some.injEq,Prod.mk.injEq] at e
  obtain ⟨rfl,rfl⟩:=e
  cases h
  exact ⟨[],A,R,.nil,f,fun _ z=>z,fun _ z=>nomatch z⟩
 | cons r rs ih =>
  intro vs B os ρ ρ' A R h f e
  cases h with
  | @cons v _ vs _ B1 B2 h t =>
   simp only [L2.takeL] at e
   split at e
   ·rename_i o ρ1 e1
    split at e
    ·rename_i os' ρ2 e2
     simp only [Option.some.injEq,Prod.mk.injEq] at e
     obtain ⟨rfl,rfl⟩:=e
     obtain ⟨n1,n2,n3⟩:=dN (List.Perm.refl (B1++B2)) f.nd
     obtain ⟨C1,A1,R1,o1,f1,m1,c1⟩:=R.takeR h ⟨n1,fun b hb=>f.fr b (List.mem_append.mpr (.inl hb))⟩ e1
     obtain ⟨C2,A2,R2,o2,f2,m2,c2⟩:=ih R1 t ⟨n2,fun b hb=>by
      have fb:=f.fr b (List.mem_append.mpr (.inr hb))
      exact ⟨fb.1,fb.2.1,fun z=>fb.2.2 (m1 b z)⟩⟩ e2
     refine ⟨C1++C2,A2,R2,.cons o1 o2,⟨List.nodup_append.mpr ⟨f1.nd,f2.nd,fun a ha b hb z=>?_⟩,fun b hb=>?_⟩,fun a ha=>m1 a (m2 a ha),fun a ha=>?_⟩
     ·subst z
      rcases c2 a hb with z | z
      ·exact (f1.fr a ha).2.2 z
      ·rcases c1 a ha with y | y
       ·exact (f.fr a (List.mem_append.mpr (.inr z))).2.2 y
       ·exact n3 a y z
     ·rcases List.mem_append.mp hb with z | z
      ·exact ⟨(f1.fr b z).1,(f1.fr b z).2.1,fun y=>(f1.fr b z).2.2 (m2 b y)⟩
      ·exact f2.fr b z
     ·rcases List.mem_append.mp ha with z | z
      ·rcases c1 a z with y | y
       ·exact .inl y
       ·exact .inr (List.mem_append.mpr (.inl y))
      ·rcases c2 a z with y | y
       ·exact .inl (m1 a y)
       ·exact .inr (List.mem_append.mpr (.inr y))
    ·cases e
   ·cases e
theorem Rel.assign {i:Nat}{v:V}{o:OV}{B:List Addr}(R:Rel K F Z H σ ρ A)(h:Ow K F H v o B)(f:Fresh F Z A B):∃ A',Rel K F Z H (σ.set i (some v)) (ρ.set i (some o)) A'∧∀ a ∈ A',a ∈ A∨a ∈ B:=by
 obtain ⟨A1,C,pm,s1⟩:=R.sl.drop i (some v)
 obtain ⟨n1,n2,n3⟩:=dN pm R.nd
 have mA:∀ a ∈ A1,a ∈ A:=fun a ha=>pm.mem_iff.mpr (List.mem_append.mpr (.inr ha))
 have R1:Rel K F Z H (σ.set i (some v)) (ρ.set i none) A1:=⟨s1,n2,fun a ha=>R.fr a (mA a ha),R.fh,R.zh,R.dj⟩
 by_cases hi:i < ρ.length
 ·have hl:=R.sl.len
  obtain ⟨A2,R2,p2⟩:=R1.putI (i:=i) (v:=v) (o:=o) (B:=B) (by simp [hi]) (by simp [hl,hi]) h ⟨f.nd,fun b hb=>⟨(f.fr b hb).1,(f.fr b hb).2.1,fun z=>(f.fr b hb).2.2 (mA b z)⟩⟩
  rw [List.set_set] at R2
  refine ⟨A2,R2,fun a ha=>?_⟩
  rcases List.mem_append.mp (p2.mem_iff.mp ha) with z | z
  ·exact .inr z
  ·exact .inl (mA a z)
 ·have hl:=R.sl.len
  rw [List.set_eq_of_length_le (by nofun)] at R1 ⊢
  rw [List.set_eq_of_length_le (by nofun)] at R1 ⊢
  exact ⟨A1,R1,fun a ha=>.inl (mA a ha)⟩
theorem CN {σ:St}{i:Nat}{v:V}(h:σ[i]?=some (some v)):σ.set i (some v)=σ:=by
 apply List.ext_getElem?
 intro j
 by_cases hj:i=j
 ·subst hj
  have:=(List.getElem?_eq_some_iff.mp h).1
  rw [h,List.getElem?_set_self this]
 ·rw [List.getElem?_set_ne hj]
theorem Rel.putL:∀ {rs:List RV} {vs:List V} {os:List OV} {B C:List Addr} {ρ:FSt} {A:List Addr},Rel K F Z H σ ρ A→RVL K F' H' σ vs rs B→Ows K F H vs os C→Fresh F Z A C →
  ∃ A',Rel K F Z H σ (L2.putL rs os ρ) A'∧∀ a ∈ A',a ∈ A∨a ∈ C:=by
 intro rs
 induction rs with
 | nil =>
  intro vs os B C ρ A R h hO f
  exact ⟨A,R,fun _ z=>.inl z⟩
 | cons r rs ih =>
  intro vs os B C ρ A R h hO f
  cases h with
  | @cons v _ vs _ B1 B2 h t =>
   cases hO with
   | @cons _ o _ os C1 C2 h1 t1 =>
    obtain ⟨n1,n2,n3⟩:=dN (List.Perm.refl (C1++C2)) f.nd
    have f1:Fresh F Z A C1:=⟨n1,fun b hb=>f.fr b (List.mem_append.mpr (.inl hb))⟩
    have f2:Fresh F Z A C2:=⟨n2,fun b hb=>f.fr b (List.mem_append.mpr (.inr hb))⟩
    cases r with
    | ov o' =>
     obtain ⟨A',R',m⟩:=ih R t t1 f2
     refine ⟨A',R',fun a ha=>(m a ha).elim .inl fun z=>.inr (List.mem_append.mpr (.inr z))⟩
    | br i =>
     obtain ⟨A1,R1,m1⟩:=R.assign (i:=i) h1 f1
     rw [CN h.1] at R1
     obtain ⟨A',R',m⟩:=ih R1 t t1 ⟨n2,fun b hb=>⟨(f2.fr b hb).1,(f2.fr b hb).2.1,fun z=>(m1 b z).elim (f2.fr b hb).2.2 fun y=>n3 b y hb⟩⟩
     refine ⟨A',R',fun a ha=>?_⟩
     rcases m a ha with z | z
     ·exact (m1 a z).elim .inl fun y=>.inr (List.mem_append.mpr (.inl y))
     ·exact .inr (List.mem_append.mpr (.inr z))
theorem au {c:Ct}{t:TA}{fa:FA}{E:XK}(ha:AF K μ t fa):EF K μ (ku (spM K c) [] E t) (bd c fa):=⟨by
 intro F Z H τ σ ρ A Q P vw R h q
 refine ha.h vw R h fun rs ρ1 vs F1 H1 A1 B1 h1 s1 R1 v1 f1=>?_
 rw [List.append_nil]
 split at h1
 ·rename_i os ρ2 e
  obtain ⟨C,A2,R2,o2,f2,m2,c2⟩:=R1.takeL v1 f1 e
  -- what is not handed over is held
  obtain ⟨Z',hin,hout⟩:=mix A2 H1 Z
  have hz:∀ a,a ∈ A2→Z a=none:=fun a ha=>(R2.fr a ha).2
  have sz:Same Z Z':=fun a o z=>by rw [hout a fun y=>by rw [hz a y] at z; cases z]; exact z
  refine ⟨F1,Z',os,C,_,R2.fh,fun a o z=>?_,fun a o z=>?_,o2,f2.nd,fun a ha=>⟨(f2.fr a ha).1,by rw [hout a (f2.fr a ha).2.2]; exact (f2.fr a ha).2.1⟩,h1,fun o os' v F3 H3 C3 B p s3 fh zh dj w3 w4 nd fr=>?_⟩
  ·by_cases y:a ∈ A2
   ·rw [hin a y] at z; exact z
   ·rw [hout a y] at z; exact R2.zh a o z
  ·rw [hout a fun y=>by rw [(R2.fr a y).1] at z; cases z]; exact R2.dj a o z
  ·have nA:∀ a ∈ A2,∃ u,Z' a=some u:=fun a ha=>by
    obtain ⟨u,hu⟩:=R2.sl.live a ha
    exact ⟨u,by rw [hin a ha]; exact hu⟩
   have R3:Rel K F3 Z H3 σ ρ2 A2:=⟨R2.sl.keep s3 fun a u ha hu=>zh a u (by rw [hin a ha]; exact hu),R2.nd,fun a ha=>⟨(by
    cases z:F3 a with
    | none=>rfl
    | some u =>
     have:=dj a u z
     obtain ⟨w,hw⟩:=nA a ha
     rw [hw] at this
     exact nomatch this),(R2.fr a ha).2⟩,fh,sz.trans zh,fun a o z=>sz.free (dj a o z)⟩
   have nC:∀ a ∈ C3++B,a ∉ A2:=fun a ha y=>by
    obtain ⟨w,hw⟩:=nA a y
    rw [(fr a ha).2] at hw; cases hw
   obtain ⟨n1,n2,n3⟩:=dN (List.Perm.refl (C3++B)) nd
   have fC:Fresh F3 Z A2 C3:=⟨n1,fun b hb=>by
    have:=fr b (List.mem_append.mpr (.inl hb))
    exact ⟨this.1,sz.free this.2,nC b (List.mem_append.mpr (.inl hb))⟩⟩
   obtain ⟨A4,R4,m4⟩:=R3.putL v1 w3 fC
   refine q _ _ _ _ _ _ _ p (s1.trans s3) R4 w4 ⟨n2,fun b hb=>?_⟩
   have:=fr b (List.mem_append.mpr (.inr hb))
   exact ⟨this.1,sz.free this.2,fun z=>(m4 b z).elim (nC b (List.mem_append.mpr (.inr hb))) fun y=>n3 b y hb⟩
 ·exact h1.elim⟩
theorem ce {te:TE}{fe:FE}(he:EF K μ te fe):EF K μ te (fFz fe):=⟨by
 intro F Z H τ σ ρ A Q P vw R h q
 refine he.h vw R h fun r ρ1 v F1 H1 A1 B1 h1 s1 R1 v1 f1=>?_
 split at h1
 ·rename_i d ρ2 e
  obtain ⟨F2,A2,s2,R2,dn,_,_⟩:=R1.frz v1 f1 e
  exact q _ _ _ _ _ _ _ h1 (s1.trans s2) R2 (.fz dn) Fresh.nil
 ·exact h1.elim⟩
end
theorem oq:∀ {l:List Nat} {j k i:Nat},l.Nodup→l[j]?=some i→l[k]?=some i→j=k
 | [],_,_,_,_,h,_=>by simp at h
 | a::l,0,0,_,_,_,_=>rfl
 | a::l,0,k+1,i,n,h,h'=>by
  simp at h h'
  subst h
  exact absurd (List.mem_of_getElem? h') (List.nodup_cons.mp n).1
 | a::l,j+1,0,i,n,h,h'=>by
  simp at h h'
  subst h'
  exact absurd (List.mem_of_getElem? h) (List.nodup_cons.mp n).1
 | a::l,j+1,k+1,i,n,h,h'=>by
  simp at h h'
  rw [oq (List.nodup_cons.mp n).2 h h']
abbrev FG:=D→FSt→(FSt→Prop)→Prop
abbrev FGs:=List D→FSt→(FSt→Prop)→Prop
structure GF (K:PySem.W.Frag)(μ:List Nat)(T:List Nat)(g:TG)(f:FG):Prop where
 h:∀ {F Z H:Hp} {τ σ:St} {ρ:FSt} {A:List Addr} {v:V} {d:D} {Q:St→Hp→Prop} {P:FSt→Prop},View μ τ σ→Rel K F Z H σ ρ A→Den K F v d→f d ρ P →
  (∀ τ' σ' ρ' A',P ρ'→View μ τ' σ'→Rel K F Z H σ' ρ' A'→(∀ i,i ∉ T→σ'[i]?=σ[i]?)→σ'.length=σ.length→((∀ j i:Nat,μ[j]?=some i→i=j)→τ=σ→τ'=σ')→(∀ a ∈ A',a ∈ A)→Q τ' H)→g v τ H Q
structure GsF (K:PySem.W.Frag)(μ:List Nat)(T:List Nat)(g:TGs)(f:FGs):Prop where
 h:∀ {F Z H:Hp} {τ σ:St} {ρ:FSt} {A:List Addr} {v:List V} {d:List D} {Q:St→Hp→Prop} {P:FSt→Prop},View μ τ σ→Rel K F Z H σ ρ A→Dens K F v d→f d ρ P →
  (∀ τ' σ' ρ' A',P ρ'→View μ τ' σ'→Rel K F Z H σ' ρ' A'→(∀ i,i ∉ T→σ'[i]?=σ[i]?)→σ'.length=σ.length→((∀ j i:Nat,μ[j]?=some i→i=j)→τ=σ→τ'=σ')→(∀ a ∈ A',a ∈ A)→Q τ' H)→g v τ H Q
def ax (i:Nat):FG:=fun d ρ P=>P (ρ.set i (some (.fz d)))
def p6:FGs:=fun ds ρ P=>match ds with
 | []=>P ρ
 | _=>False
def dU (f:FG)(fs:FGs):FGs:=fun ds ρ P=>match ds with
 | d::ds=>f d ρ fun ρ1=>fs ds ρ1 P
 | _=>False
def p7 (n:Nat)(f:FGs):FG:=fun d ρ P=>match d with
 | .tup ds=>ds.length=n∧f ds ρ P
 | _=>False
section
variable {K:PySem.W.Frag} {μ:List Nat}
theorem dt {i j:Nat}(hj:μ[j]?=some i)(hn:μ.Nodup):GF K μ [i] (ic j) (ax i):=⟨by
 intro F Z H τ σ ρ A v d Q P vw R dn h q
 obtain ⟨A',R',m⟩:=R.assign (i:=i) (.fz dn) Fresh.nil
 refine q _ (σ.set i (some v)) _ _ h (fun j' i' h'=>⟨?_,by rw [List.length_set]; exact (vw j' i' h').2.1,by rw [List.length_set]; exact (vw j' i' h').2.2⟩) R' (fun i' hi'=>?_) (List.length_set ..) (fun hid e=>?_) fun a ha=>(m a ha).elim id fun z=>nomatch z
 ·by_cases hjj:j=j'
  ·subst hjj
   rw [hj] at h'; cases h'
   have:=vw j i hj
   rw [List.getElem?_set_self this.2.1,List.getElem?_set_self this.2.2]
  ·have hii:i≠i':=fun z=>by
    subst z
    exact hjj (oq hn hj h')
   rw [List.getElem?_set_ne hjj,List.getElem?_set_ne hii]
   exact (vw j' i' h').1
 ·rw [List.getElem?_set_ne fun z=>hi' (by simp [z])]
 ·rw [hid j i hj,e]⟩
theorem i1:GsF K μ [] Es p6:=⟨by
 intro F Z H τ σ ρ A v d Q P vw R dn h q
 cases dn with
 | nil=>exact ⟨rfl,q _ _ _ _ h vw R (fun _ _=>rfl) rfl (fun _ e=>e) fun _ z=>z⟩
 | cons _ _=>exact h.elim⟩
theorem cM {T T':List Nat}{g:TG}{gs:TGs}{f:FG}{fs:FGs}(h1:GF K μ T g f)(h2:GsF K μ T' gs fs):GsF K μ (T++T') (yw g gs) (dU f fs):=⟨by
 intro F Z H τ σ ρ A v d Q P vw R dn h q
 cases dn with
 | nil=>exact h.elim
 | cons d1 d2 =>
  refine ⟨_,_,rfl,h1.h vw R d1 h fun τ' σ' ρ' A' p vw' R' k kl id' m=>h2.h vw' R' d2 p fun τ2 σ2 ρ2 A2 p2 vw2 R2 k2 kl2 id2 m2=>q _ _ _ _ p2 vw2 R2 (fun i hi=>?_) (kl2.trans kl) (fun a b=>id2 a (id' a b)) fun a ha=>m a (m2 a ha)⟩
  rw [List.mem_append,not_or] at hi
  rw [k2 i hi.2,k i hi.1]⟩
theorem ma {n:Nat}{T:List Nat}{gs:TGs}{fs:FGs}(h2:GsF K μ T gs fs):GF K μ T (D3 K n gs) (p7 n fs):=⟨by
 intro F Z H τ σ ρ A v d Q P vw R dn h q
 cases dn with
 | tup hs t=>exact ⟨_,_,rfl,hs.same R.fh,t.length.trans h.1,h2.h vw R t h.2 q⟩
 | _=>exact h.elim⟩
end
end L2
set_option maxHeartbeats 4000000
namespace L2
open PySem PySem.Spec PyProof.Rows
structure Walk (K:PySem.W.Frag)(F:Hp)(J:It)(ds:List D):Prop where
 go:∀ H i,Same F H→i < ds.length→J.go i H
 yld:∀ H i x H',Same F H→i < ds.length→J.yld i H x H'→H'=H∧∃ d,ds[i]?=some d∧Den K F x d
 stop:∀ H,Same F H→J.stop ds.length H
abbrev FI:=FSt→(List D→FSt→Prop)→Prop
structure ITF (K:PySem.W.Frag)(μ:List Nat)(t:TI)(f:FI):Prop where
 h:∀ {F Z H:Hp} {τ σ:St} {ρ:FSt} {A:List Addr} {Q:It→Hp→Prop} {P:List D→FSt→Prop},View μ τ σ→Rel K F Z H σ ρ A→f ρ P →
  (∀ ds ρ' J F' H' A',P ds ρ'→Same F F'→Rel K F' Z H' σ ρ' A'→Walk K F' J ds→Q J H')→t τ H Q
def md (fe:FE):FI:=fun ρ Q=>fe ρ fun r ρ1=>match fzR r ρ1 with
 | some (.lst ds,ρ2)=>Q ds ρ2
 | _=>False
def CO (fe:FE):FI:=fun ρ Q=>fe ρ fun r ρ1=>match fzR r ρ1 with
 | some (.tup ds,ρ2)=>Q ds ρ2
 | _=>False
def fV (z:Str):List D:=z.cps.toList.map fun c=>.str ⟨#[c]⟩
def zv (fe:FE):FI:=fun ρ Q=>fe ρ fun r ρ1=>match fzR r ρ1 with
 | some (.str z,ρ2)=>Q (fV z) ρ2
 | _=>False
def dE (lo:Int)(n:Nat):List D:=(List.range n).map fun (k:Nat)=>.int (lo+(k:Int))
def fW (fa:FA):FI:=fun ρ Q=>fa ρ fun rs ρ1=>onL ρ1 rs fun ds=>match ds with
 | [.int j]=>(-(2 ^ 62)≤j∧j < 2 ^ 62)∧Q (dE 0 j.toNat) ρ1
 | _=>False
def se (fa:FA):FI:=fun ρ Q=>fa ρ fun rs ρ1=>onL ρ1 rs fun ds=>match ds with
 | [.int i,.int j]=>(-(2 ^ 62)≤i∧i < 2 ^ 62∧-(2 ^ 62)≤j∧j < 2 ^ 62)∧Q (dE i (j - i).toNat) ρ1
 | _=>False
section
variable {K:PySem.W.Frag} {μ:List Nat} {F:Hp}
theorem sg {a:Addr}{xs:List V}{ds:List D}(h:SqL K F a xs)(t:Dens K F xs ds):Walk K F (Itl K a) ds :=
 ⟨fun H i s hi=>by
  obtain ⟨x,h1,h2⟩:=t.get (List.getElem?_eq_getElem hi)
  exact ⟨xs,x,s.seq h,h1⟩,fun H i x H' s hi y=>by
  obtain ⟨rfl,y⟩:=y
  obtain ⟨d,h1,h2⟩:=t.get' (y xs (s.seq h))
  exact ⟨rfl,d,h1,h2⟩,fun H s=>⟨xs,s.seq h,by rw [t.length]; exact Nat.le_refl _⟩⟩
theorem vp {a:Addr}{xs:List V}{ds:List D}(h:SqT K F a xs)(t:Dens K F xs ds):Walk K F (Itt K a) ds :=
 ⟨fun H i s hi=>by
  obtain ⟨x,h1,h2⟩:=t.get (List.getElem?_eq_getElem hi)
  exact ⟨xs,x,h.same s,h1⟩,fun H i x H' s hi y=>by
  obtain ⟨rfl,y⟩:=y
  obtain ⟨d,h1,h2⟩:=t.get' (y xs (h.same s))
  exact ⟨rfl,d,h1,h2⟩,fun H s=>⟨xs,h.same s,by rw [t.length]; exact Nat.le_refl _⟩⟩
theorem vq {z:Str}:Walk K F (Its z) (fV z) :=
 ⟨fun H i s hi=>by (have hi:i < z.cps.size:=by simpa [fV] using hi); exact hi,fun H i x H' s hi y=>by
  obtain ⟨rfl,c,h1,rfl⟩:=y
  exact ⟨rfl,.str ⟨#[c]⟩,by rw [fV,List.getElem?_map,h1]; rfl,.str _⟩,fun H s=>by
  show (fV z).length=z.cps.size
  simp [fV]⟩
theorem ot {lo:Int}{n:Nat}:Walk K F (Itr lo n) (dE lo n) :=
 ⟨fun H i s hi=>by (have hi:i < n:=by simpa [dE] using hi); exact hi,fun H i x H' s hi y=>by
  obtain ⟨rfl,rfl⟩:=y
  have hi:i < n:=by simpa [dE] using hi
  exact ⟨rfl,.int (lo+i),by simp [dE,hi],.int _⟩,fun H s=>by
  show n≤(dE lo n).length
  simp [dE]⟩
theorem io {te:TE}{fe:FE}(he:EF K μ te fe):ITF K μ (pE K te) (md fe):=⟨by
 intro F Z H τ σ ρ A Q P vw R h q
 refine he.h vw R h fun r ρ1 v F1 H1 A1 B1 h1 s1 R1 v1 f1=>?_
 generalize e:fzR r ρ1=o at h1
 obtain _ | ⟨d,ρ2⟩:=o
 ·exact False.elim h1
 cases d
 case lst ds =>
  obtain ⟨F2,A2,s2,R2,dn,_,_⟩:=R1.frz v1 f1 e
  cases dn with
  | lst hs t=>exact ⟨_,rfl,⟨_,R2.fh.seq hs⟩,q _ _ _ _ _ _ h1 (s1.trans s2) R2 (sg hs t)⟩
 all_goals exact False.elim h1⟩
theorem zw {te:TE}{fe:FE}(he:EF K μ te fe):ITF K μ (D4 K te) (CO fe):=⟨by
 intro F Z H τ σ ρ A Q P vw R h q
 refine he.h vw R h fun r ρ1 v F1 H1 A1 B1 h1 s1 R1 v1 f1=>?_
 generalize e:fzR r ρ1=o at h1
 obtain _ | ⟨d,ρ2⟩:=o
 ·exact False.elim h1
 cases d
 case tup ds =>
  obtain ⟨F2,A2,s2,R2,dn,_,_⟩:=R1.frz v1 f1 e
  cases dn with
  | tup hs t=>exact ⟨_,rfl,⟨_,hs.same R2.fh⟩,q _ _ _ _ _ _ h1 (s1.trans s2) R2 (vp hs t)⟩
 all_goals exact False.elim h1⟩
theorem sh {te:TE}{fe:FE}(he:EF K μ te fe):ITF K μ (ER te) (zv fe):=⟨by
 intro F Z H τ σ ρ A Q P vw R h q
 refine he.h vw R h fun r ρ1 v F1 H1 A1 B1 h1 s1 R1 v1 f1=>?_
 split at h1
 ·rename_i z ρ2 e
  obtain ⟨F2,A2,s2,R2,dn,_,_⟩:=R1.frz v1 f1 e
  exact ⟨z,dn.str_eq,q _ _ _ _ _ _ h1 (s1.trans s2) R2 vq⟩
 ·exact h1.elim⟩
theorem dY {F H:Hp}{xs:List V}{d:D}(h:Accs K F H xs [d]):∃ x,xs=[x]∧Acc K F H x d:=by
 cases h with | cons a t=>cases t; exact ⟨_,rfl,a⟩
theorem ou {F H:Hp}{xs:List V}{d e:D}(h:Accs K F H xs [d,e]):∃ x y,xs=[x,y]∧Acc K F H x d∧Acc K F H y e:=by
 cases h with | cons a t=>obtain ⟨y,rfl,b⟩:=dY t; exact ⟨_,_,rfl,a,b⟩
theorem eK {t:TA}{fa:FA}(ha:AF K μ t fa):ITF K μ (yz t) (fW fa):=⟨by
 intro F Z H τ σ ρ A Q P vw R h q
 refine ha.h vw R h fun rs ρ1 xs F1 H1 A1 B1 h1 s1 R1 v1 f1=>?_
 obtain ⟨ds,e1,h2⟩:=rZ h1
 obtain _ | ⟨d,r⟩:=ds
 ·exact False.elim h2
 cases d
 case int j =>
  cases r with
  | cons=>exact False.elim h2
  | nil =>
   obtain ⟨x,rfl,a⟩:=dY (R1.accs v1 e1)
   exact ⟨j,by rw [a.int_eq],h2.1.1,h2.1.2,q _ _ _ _ _ _ h2.2 s1 R1 ot⟩
 all_goals exact False.elim h2⟩
theorem ox {t:TA}{fa:FA}(ha:AF K μ t fa):ITF K μ (yB t) (se fa):=⟨by
 intro F Z H τ σ ρ A Q P vw R h q
 refine ha.h vw R h fun rs ρ1 xs F1 H1 A1 B1 h1 s1 R1 v1 f1=>?_
 obtain ⟨ds,e1,h2⟩:=rZ h1
 split at h2
 ·rename_i i j
  obtain ⟨x,y,rfl,a,b⟩:=ou (R1.accs v1 e1)
  exact ⟨i,j,by rw [a.int_eq,b.int_eq],h2.1,q _ _ _ _ _ _ h2.2 s1 R1 ot⟩
 ·exact h2.elim⟩
end
structure FEnds where
 nx:FSt→Prop
 rt:OV→FSt→Prop
 bk:FSt→Prop:=fun _=>False
 ct:FSt→Prop:=fun _=>False
abbrev FS:=FEnds→FSt→Prop
def Pin (n:Nat)(m:List Nat)(σ0 σ:St):Prop:=σ.length=n∧∀ i ∈ m,σ[i]?=σ0[i]?
structure EndsOk (K:PySem.W.Frag)(n:Nat)(m:List Nat)(F Z:Hp)(σ0:St)(D:Ends)(fD:FEnds):Prop where
 nx:∀ F' H' σ' ρ' A',Same F F'→Rel K F' Z H' σ' ρ' A'→Pin n m σ0 σ'→fD.nx ρ'→D.nx σ' H'
 rt:∀ F' H' σ' ρ' A' v o B,Same F F'→Rel K F' Z H' σ' ρ' A'→Pin n m σ0 σ'→Ow K F' H' v o B→Fresh F' Z A' B→fD.rt o ρ'→D.rt v H'
 bk:∀ F' H' σ' ρ' A',Same F F'→Rel K F' Z H' σ' ρ' A'→Pin n m σ0 σ'→fD.bk ρ'→D.bk σ' H'
 ct:∀ F' H' σ' ρ' A',Same F F'→Rel K F' Z H' σ' ρ' A'→Pin n m σ0 σ'→fD.ct ρ'→D.ct σ' H'
theorem EndsOk.mono {K:PySem.W.Frag}{n:Nat}{m:List Nat}{F F1 Z:Hp}{σ0:St}{D:Ends}{fD:FEnds}(E:EndsOk K n m F Z σ0 D fD)(e:Same F F1):EndsOk K n m F1 Z σ0 D fD :=
 ⟨fun F' H' σ' ρ' A' s=>E.nx F' H' σ' ρ' A' (e.trans s),fun F' H' σ' ρ' A' v o B s=>E.rt F' H' σ' ρ' A' v o B (e.trans s),fun F' H' σ' ρ' A' s=>E.bk F' H' σ' ρ' A' (e.trans s),fun F' H' σ' ρ' A' s=>E.ct F' H' σ' ρ' A' (e.trans s)⟩
structure SF (K:PySem.W.Frag)(n:Nat)(m:List Nat)(t:TS)(f:FS):Prop where
 h:∀ {F Z H:Hp} {σ0 σ:St} {ρ:FSt} {A:List Addr} {D:Ends} {fD:FEnds},Rel K F Z H σ ρ A→Pin n m σ0 σ→EndsOk K n m F Z σ0 D fD→f fD ρ→t D σ H
def ck:FS:=fun D ρ=>D.nx ρ
def jH:FSt→(FSt→Prop)→Prop
 | [],k=>k []
 | a::l,k=>jH l fun l'=>k (a::l')
theorem dL:∀ (ρ:FSt) (k:FSt→Prop),jH ρ k↔k ρ
 | [],k=>Iff.rfl
 | a::l,k=>by rw [jH,dL l]
def bO (f g:FS):FS:=fun D ρ=>f { D with nx:=fun ρ'=>jH ρ' (g D) } ρ
@[irreducible] def fIf (c:FT)(f g:FS)(E:FEnds)(ρ:FSt):Prop:=c ρ fun b ρ1=>br b (f E ρ1) (g E ρ1)
theorem cQ {c:FT}{f g:FS}{E:FEnds}{ρ:FSt}(h:c ρ fun b ρ1=>br b (f E ρ1) (g E ρ1)):fIf c f g E ρ:=by unfold fIf; exact h
theorem du {c:FT}{f:FS}{E:FEnds}{ρ:FSt}(p:Prop)(rest:p→E.nx ρ)(h:(p→E.nx ρ)→c ρ fun b ρ1=>br b (f E ρ1) (E.nx ρ1)):fIf c f ck E ρ:=cQ (h rest)
def cX (fe:FE):FS:=fun D ρ=>fe ρ fun r ρ1=>match takeR r ρ1 with
 | some (o,ρ2)=>D.rt o ρ2
 | none=>False
def CP (fe:FE):FS:=fun D ρ=>fe ρ fun _ ρ1=>D.nx ρ1
def dC (fe:FE)(fg:FG):FS:=fun D ρ=>fe ρ fun r ρ1=>match fzR r ρ1 with
 | some (d,ρ2)=>fg d ρ2 D.nx
 | none=>False
def jI (i:Nat)(fe:FE):FS:=fun D ρ=>fe ρ fun r ρ1=>match r with
 | .ov o=>D.nx (ρ1.set i (some o))
 | .br _=>False
def oy (fg:FG)(fb:FS)(E:FEnds):List D→FSt→Prop
 | [],ρ=>E.nx ρ
 | d::ds,ρ=>fg d ρ fun ρ1=>fb { nx:=oy fg fb E ds,ct:=oy fg fb E ds,bk:=E.nx,rt:=E.rt } ρ1
@[irreducible] def eL (fg:FG)(fb:FS)(E:FEnds)(ds:List D)(ρ:FSt):Prop:=oy fg fb E ds ρ
theorem kK (fg:FG)(fb:FS)(E:FEnds)(ds:List D):eL fg fb E ds=oy fg fb E ds:=by funext ρ; unfold eL; rfl
theorem me (fg:FG)(fb:FS)(E:FEnds)(ρ:FSt):eL fg fb E [] ρ=E.nx ρ:=by rw [kK]; rfl
theorem mf (fg:FG)(fb:FS)(E:FEnds)(d:D)(ds:List D)(ρ:FSt):eL fg fb E (d::ds) ρ=fg d ρ fun ρ1=>fb { nx:=eL fg fb E ds,ct:=eL fg fb E ds,bk:=E.nx,rt:=E.rt } ρ1:=by rw [kK,kK]; rfl
def Bk (fi:FI)(fg:FG)(fb:FS):FS:=fun D ρ=>fi ρ fun ds ρ1=>jH ρ1 (eL fg fb D ds)
theorem si {fg:FG}{fb:FS}{E:FEnds}{ρ:FSt}(h:E.nx ρ):eL fg fb E [] ρ:=by rw [me]; exact h
theorem p8 {fg:FG}{fb:FS}{E:FEnds}{d:D}{ds:List D}{ρ:FSt}(h:fg d ρ fun ρ1=>fb { nx:=eL fg fb E ds,ct:=eL fg fb E ds,bk:=E.nx,rt:=E.rt } ρ1):eL fg fb E (d::ds) ρ:=by rw [mf]; exact h
section
variable {K:PySem.W.Frag} {n:Nat} {m:List Nat}
theorem Pin.refl {σ:St}(h:σ.length=n):Pin n m σ σ:=⟨h,fun _ _=>rfl⟩
theorem Pin.set {σ0 σ:St}{i:Nat}{x:Option V}(p:Pin n m σ0 σ)(hi:i ∉ m):Pin n m σ0 (σ.set i x):=⟨by rw [List.length_set]; exact p.1,fun j hj=>by
 rw [List.getElem?_set_ne fun z=>hi (by rw [z]; exact hj)]; exact p.2 j hj⟩
theorem aQ:SF K n m qF ck:=⟨fun {F Z H σ0 σ ρ A D fD} R p E h=>E.nx _ _ _ _ _ (Same.refl _) R p h⟩
theorem ar {t u:TS}{f g:FS}(h1:SF K n m t f)(h2:SF K n m u g):SF K n m (Bg t u) (bO f g):=⟨fun {F Z H σ0 σ ρ A D fD} R p E h =>
 h1.h (fD:={ fD with nx:=fun ρ'=>jH ρ' (g fD) }) R p ⟨fun F' H' σ' ρ' A' s R' p' q=>h2.h R' p' (E.mono s) ((dL ρ' (g fD)).mp q),E.rt,E.bk,E.ct⟩ h⟩
theorem cz {c:TT}{t u:TS}{fc:FT}{f g:FS}(hc:TF K (List.range n) c fc)(h1:SF K n m t f)(h2:SF K n m u g):SF K n m (Bi c t u) (fIf fc f g):=⟨fun {F Z H σ0 σ ρ A D fD} R p E h =>
 hc.h (P:=fun b ρ1=>br b (f fD ρ1) (g fD ρ1)) (View.id p.1) R (by unfold fIf at h; exact h) fun b ρ1 F1 H1 A1 q s R1=>by
  cases b with
  | true=>exact h1.h R1 p (E.mono s) (qB q)
  | false=>exact h2.h R1 p (E.mono s) (qC q)⟩
theorem aO {te:TE}{fe:FE}(he:EF K (List.range n) te fe):SF K n m (Bh te) (cX fe):=⟨by
 intro F Z H σ0 σ ρ A D fD R p E h
 refine he.h (View.id p.1) R h fun r ρ1 v F1 H1 A1 B1 h1 s1 R1 v1 f1=>?_
 split at h1
 ·rename_i o ρ2 e
  obtain ⟨C,A2,R2,o2,f2,_,_⟩:=R1.takeR v1 f1 e
  exact E.rt _ _ _ _ _ _ _ _ s1 R2 p o2 f2 h1
 ·exact h1.elim⟩
theorem zx {te:TE}{fe:FE}(he:EF K (List.range n) te fe):SF K n m (yt te) (CP fe):=⟨fun {F Z H σ0 σ ρ A D fD} R p E h =>
 he.h (View.id p.1) R h fun r ρ1 v F1 H1 A1 B1 h1 s1 R1 v1 f1=>E.nx _ _ _ _ _ s1 R1 p h1⟩
theorem kL (n:Nat):∀ j i:Nat,(List.range n)[j]?=some i→i=j:=fun j i h=>by
 obtain ⟨h1,h2⟩:=List.getElem?_eq_some_iff.mp h
 rw [List.getElem_range] at h2; exact h2.symm
theorem aV {te:TE}{fe:FE}{g:TG}{fg:FG}{T:List Nat}(he:EF K (List.range n) te fe)(hg:GF K (List.range n) T g fg)(hT:∀ i ∈ m,i ∉ T):SF K n m (qA te g) (dC fe fg):=⟨by
 intro F Z H σ0 σ ρ A D fD R p E h
 refine he.h (View.id p.1) R h fun r ρ1 v F1 H1 A1 B1 h1 s1 R1 v1 f1=>?_
 split at h1
 ·rename_i d ρ2 e
  obtain ⟨F2,A2,s2,R2,dn,_,_⟩:=R1.frz v1 f1 e
  refine hg.h (View.id p.1) R2 dn h1 fun τ' σ' ρ' A' q _ R' k kl id' _=>?_
  rw [id' (kL n) rfl]
  exact E.nx _ _ _ _ _ (s1.trans s2) R' ⟨kl.trans p.1,fun i hi=>by rw [k i (hT i hi)]; exact p.2 i hi⟩ q
 ·exact h1.elim⟩
theorem gb {i:Nat}{te:TE}{fe:FE}(he:EF K (List.range n) te fe)(hi:i ∉ m):SF K n m (qA te (ic i)) (jI i fe):=⟨by
 intro F Z H σ0 σ ρ A D fD R p E h
 refine he.h (View.id p.1) R h fun r ρ1 v F1 H1 A1 B1 h1 s1 R1 v1 f1=>?_
 cases r with
 | ov o =>
  obtain ⟨A2,R2,_⟩:=R1.assign (i:=i) v1 f1
  exact E.nx _ _ _ _ _ s1 R2 (p.set hi) h1
 | br j=>exact h1.elim⟩
theorem mh {wi:TI}{fi:FI}{g:TG}{fg:FG}{T:List Nat}{tb:TS}{fb:FS}(hi:ITF K (List.range n) wi fi)(hg:GF K (List.range n) T g fg)(hT:∀ i ∈ m,i ∉ T)(hb:SF K n m tb fb):SF K n m (Eu wi g tb) (Bk fi fg fb):=⟨by
 intro F Z H σ0 σ ρ A D fD R p E h
 refine hi.h (View.id p.1) R h fun ds ρ1 J F1 H1 A1 h1 s1 R1 wk=>?_
 rw [dL] at h1
 refine ⟨fun i k σ' H'=>k=ds.length - i∧i≤ds.length∧∃ F' ρ' A',Same F1 F'∧Rel K F' Z H' σ' ρ' A'∧Pin n m σ0 σ'∧eL fg fb fD (ds.drop i) ρ',⟨_,rfl,Nat.zero_le _,F1,ρ1,A1,Same.refl _,R1,p,by rw [List.drop_zero]; exact h1⟩,?_⟩
 rintro i k σ' H' ⟨rfl,hle,F',ρ',A',s',R',p',h'⟩
 by_cases hlt:i < ds.length
 ·rw [List.drop_eq_getElem_cons hlt,mf] at h'
  refine .inr ⟨wk.go H' i (s'.trans R'.fh) hlt,fun σ2 H2=>∃ F2 ρ2 A2,Same F1 F2∧Rel K F2 Z H2 σ2 ρ2 A2∧Pin n m σ0 σ2∧eL fg fb fD (ds.drop (i+1)) ρ2,fun σ2 H2 q=>⟨_,by nofun,rfl,hlt,q⟩,fun x H2 y=>?_⟩
  obtain ⟨rfl,d,hd,dn⟩:=wk.yld H' i x H2 (s'.trans R'.fh) hlt y
  rw [List.getElem?_eq_getElem hlt] at hd
  cases hd
  refine hg.h (View.id p'.1) R' (dn.mono s') h' fun τ' σ2 ρ2 A2 q _ R2 k kl id' _=>?_
  rw [id' (kL n) rfl]
  have nxt:∀ F3 H3 σ3 ρ3 A3,Same F' F3→Rel K F3 Z H3 σ3 ρ3 A3→Pin n m σ0 σ3→eL fg fb fD (ds.drop (i+1)) ρ3→∃ F2 ρ2 A2,Same F1 F2∧Rel K F2 Z H3 σ3 ρ2 A2∧Pin n m σ0 σ3∧eL fg fb fD (ds.drop (i+1)) ρ2 :=
   fun F3 H3 σ3 ρ3 A3 s3 R3 p3 q3=>⟨F3,ρ3,A3,s'.trans s3,R3,p3,q3⟩
  refine hb.h (fD:={ nx:=eL fg fb fD (ds.drop (i+1)),ct:=eL fg fb fD (ds.drop (i+1)),bk:=fD.nx,rt:=fD.rt }) R2 ⟨kl.trans p'.1,fun i hi=>by rw [k i (hT i hi)]; exact p'.2 i hi⟩ ⟨nxt,fun F3 H3 σ3 ρ3 A3 v o B s3=>E.rt F3 H3 σ3 ρ3 A3 v o B (s1.trans (s'.trans s3)),fun F3 H3 σ3 ρ3 A3 s3=>E.nx F3 H3 σ3 ρ3 A3 (s1.trans (s'.trans s3)),nxt⟩ q
 ·have e:i=ds.length:=by nofun
  subst e
  rw [List.drop_length,me] at h'
  exact .inl ⟨wk.stop H' (s'.trans R'.fh),E.nx _ _ _ _ _ (s1.trans s') R' p' h'⟩⟩
end
end L2
set_option maxHeartbeats 4000000
namespace L2
open PySem PySem.Spec PyProof.Rows
def oz (fg:FG)(ft:FT)(fe:FE)(P:List D→FSt→Prop):List D→List D→FSt→Prop
 | [],as,ρ=>P as ρ
 | d::ds,as,ρ=>fg d ρ fun ρ1=>ft ρ1 fun b ρ2=>br b (fe ρ2 fun r ρ3=>match fzR r ρ3 with
  | some (y,ρ4)=>as.length < sizeLine∧oz fg ft fe P ds (as++[y]) ρ4
  | none=>False) (oz fg ft fe P ds as ρ2)
@[irreducible] def gw (fg:FG)(ft:FT)(fe:FE)(P:List D→FSt→Prop)(ds as:List D)(ρ:FSt):Prop:=oz fg ft fe P ds as ρ
theorem kM (fg:FG)(ft:FT)(fe:FE)(P:List D→FSt→Prop)(ds:List D):gw fg ft fe P ds=oz fg ft fe P ds:=by funext as ρ; unfold gw; rfl
theorem i2 (fg:FG)(ft:FT)(fe:FE)(P:List D→FSt→Prop)(as:List D)(ρ:FSt):gw fg ft fe P [] as ρ=P as ρ:=by rw [kM]; rfl
theorem i3 (fg:FG)(ft:FT)(fe:FE)(P:List D→FSt→Prop)(d:D)(ds as:List D)(ρ:FSt):gw fg ft fe P (d::ds) as ρ=(fg d ρ fun ρ1=>ft ρ1 fun b ρ2=>br b (fe ρ2 fun r ρ3=>match fzR r ρ3 with
  | some (y,ρ4)=>as.length < sizeLine∧gw fg ft fe P ds (as++[y]) ρ4
  | none=>False) (gw fg ft fe P ds as ρ2)):=by rw [kM,kM]; rfl
theorem sj {fg:FG}{ft:FT}{fe:FE}{P:List D→FSt→Prop}{as:List D}{ρ:FSt}(h:P as ρ):gw fg ft fe P [] as ρ:=by rw [i2]; exact h
theorem p9 {fg:FG}{ft:FT}{fe:FE}{P:List D→FSt→Prop}{d:D}{ds as:List D}{ρ:FSt}(h:fg d ρ fun ρ1=>ft ρ1 fun b ρ2=>br b (fe ρ2 fun r ρ3=>match fzR r ρ3 with
  | some (y,ρ4)=>as.length < sizeLine∧gw fg ft fe P ds (as++[y]) ρ4
  | none=>False) (gw fg ft fe P ds as ρ2)):gw fg ft fe P (d::ds) as ρ:=by rw [i3]; exact h
def gc (no:Nat)(fi:FI)(fg:FG)(ft:FT)(fe:FE):FE:=fun ρ Q=>fi ρ fun ds ρ1=>jH (List.replicate no none++ρ1) (gw fg ft fe (fun as ρ'=>Q (.ov (.fl as)) (ρ'.drop no)) ds [])
def muC (no:Nat)(ixs μ:List Nat):List Nat:=List.range no++ixs.map fun j=>no+μ.getD j 0
section
variable {K:PySem.W.Frag} {μ:List Nat} {F Z H:Hp} {σ:St} {ρ:FSt} {A:List Addr}
theorem Slots.none_app {K:PySem.W.Frag}{F H:Hp}{σ:St}{ρ:FSt}{A:List Addr}(h:Slots K F H σ ρ A):∀ n,Slots K F H (List.replicate n none++σ) (List.replicate n none++ρ) A
 | 0=>h
 | n+1=>.skip (Slots.none_app h n)
theorem Slots.dropN {K:PySem.W.Frag}{F H:Hp}{σ:St}{ρ:FSt}{A:List Addr}(n:Nat)(h:Slots K F H σ ρ A):∃ A' B,A=B++A'∧Slots K F H (σ.drop n) (ρ.drop n) A':=by
 induction h generalizing n with
 | nil=>cases n <;> exact ⟨[],[],rfl,.nil⟩
 | skip t ih =>
  cases n with
  | zero=>exact ⟨_,[],rfl,.skip t⟩
  | succ n=>exact ih n
 | @has _ _ _ _ C _ h t ih =>
  cases n with
  | zero=>exact ⟨_,[],rfl,.has h t⟩
  | succ n =>
   obtain ⟨A',B,rfl,h2⟩:=ih n
   exact ⟨A',C++B,by rw [List.append_assoc],h2⟩
theorem Rel.write {a:Addr}{o:HO}(R:Rel K F Z H σ ρ A)(hA:a ∉ A)(hF:F a=none)(hZ:Z a=none):Rel K F Z (upd H a o) σ ρ A:=by
 have e:∀ b u,b≠a→H b=some u→upd H a o b=some u:=fun b u h q=>by rw [bN h]; exact q
 exact ⟨R.sl.keep (Same.refl _) fun b u hb q=>e b u (fun z=>hA (z ▸ hb)) q,R.nd,R.fr,fun b u q=>e b u (fun z=>by rw [z,hF] at q; cases q) (R.fh b u q),fun b u q=>e b u (fun z=>by rw [z,hZ] at q; cases q) (R.zh b u q),R.dj⟩
theorem i4 {no:Nat}{ixs:List Nat}{τ:St}(vw:View μ τ σ)(hix:∀ j ∈ ixs,j < μ.length):View (muC no ixs μ) (List.replicate no none++lN τ ixs) (List.replicate no none++σ):=by
 intro j i h
 unfold muC at h
 by_cases hj:j < no
 ·rw [List.getElem?_append_left (by first|exact List.mem_singleton.mp hj|simpa using hj)] at h
  have:=kL no j i h
  subst this
  rw [List.getElem?_append_left (by first|exact List.mem_singleton.mp hj|simpa using hj),List.getElem?_append_left (by first|exact List.mem_singleton.mp hj|simpa using hj)]
  refine ⟨rfl,?_,?_⟩ <;> simp <;> nofun
 ·rw [List.getElem?_append_right (by first|exact List.mem_singleton.mp hj|simpa using hj)] at h
  rw [List.length_range,List.getElem?_map,Option.map_eq_some_iff] at h
  obtain ⟨j0,h1,h2⟩:=h
  have hj0:=hix j0 (List.mem_of_getElem? h1)
  obtain ⟨v1,v2,v3⟩:=vw j0 (μ.getD j0 0) (by rw [List.getD_eq_getElem?_getD,List.getElem?_eq_getElem hj0]; rfl)
  have hk:j - no < ixs.length:=(List.getElem?_eq_some_iff.mp h1).1
  refine ⟨?_,?_,?_⟩
  ·rw [List.getElem?_append_right (by first|exact List.mem_singleton.mp hj|simpa using hj),List.length_replicate,← h2,List.getElem?_append_right (by simp),List.length_replicate,Nat.add_sub_cancel_left,← v1]
   unfold lN
   rw [List.getElem?_map,h1]
   show some ((τ[j0]?).getD none)=τ[j0]?
   rw [List.getElem?_eq_getElem v2]; rfl
  ·unfold lN; simp; nofun
  ·simp; nofun
abbrev vt (K:PySem.W.Frag)(fg:FG)(fc:FT)(fe:FE)(P:RV→FSt→Prop)(no:Nat)(m:List Nat)(F1 Z:Hp)(σ:St)(a:Addr)(rest:List D)(acc:List V)(τ':St)(H':Hp):Prop :=
 ∃ F' ρ' A' σ' as,Same F1 F'∧Rel K F' Z H' σ' ρ' A'∧View m τ' σ'∧(∀ i,no≤i→σ'[i]?=(List.replicate no none++σ)[i]?)∧H' a=some (.lst acc)∧F' a=none∧a ∉ A'∧Dens K F' acc as ∧
   gw fg fc fe (fun as ρ'=>P (.ov (.fl as)) (ρ'.drop no)) rest as ρ'
theorem ef {no:Nat}{ixs:List Nat}{wi:TI}{fi:FI}{g:TG}{fg:FG}{T:List Nat}{tc:TT}{fc:FT}{te:TE}{fe:FE}(hi:ITF K μ wi fi)(hix:∀ j ∈ ixs,j < μ.length)(hg:GF K (muC no ixs μ) T g fg)(hT:∀ i ∈ T,i < no)
  (hc:TF K (muC no ixs μ) tc fc) (he:EF K (muC no ixs μ) te fe):EF K μ (ie no ixs wi g tc te) (gc no fi fg fc fe):=⟨by
 intro F Z H τ σ ρ A Q P vw R h q
 refine hi.h vw R h fun ds ρ1 J F1 H1 A1 h1 s1 R1 wk=>?_
 rw [dL] at h1
 intro a ha
 have hF1:F1 a=none:=R1.fh.free ha
 have hZ1:Z a=none:=R1.zh.free ha
 have hA1:a ∉ A1:=fun z=>by
  obtain ⟨u,hu⟩:=R1.sl.live a z
  rw [ha] at hu; cases hu
 have R1':Rel K F1 Z (upd H1 a (.lst [])) (List.replicate no none++σ) (List.replicate no none++ρ1) A1:=by
  have:=R1.write (o:=.lst []) hA1 hF1 hZ1
  exact ⟨this.sl.none_app no,this.nd,this.fr,this.fh,this.zh,this.dj⟩
 have hfin:∀ F' H' σ' ρ' A' acc as,Same F1 F'→Rel K F' Z H' σ' ρ' A'→(∀ i,no≤i→σ'[i]?=(List.replicate no none++σ)[i]?)→H' a=some (.lst acc)→F' a=none→a ∉ A'→Dens K F' acc as→P (.ov (.fl as)) (ρ'.drop no)→Q (.ref a) H':=by
  intro F' H' σ' ρ' A' acc as s' R' k ha' hF' hA' dn p
  obtain ⟨A2,B2,e2,sl2⟩:=R'.sl.dropN no
  have es:σ'.drop no=σ:=by
   apply List.ext_getElem?
   intro i
   rw [List.getElem?_drop,k (no+i) (by omega),List.getElem?_append_right (by simp),List.length_replicate,Nat.add_sub_cancel_left]
  rw [es] at sl2
  have m2:∀ b ∈ A2,b ∈ A':=fun b hb=>by rw [e2]; exact List.mem_append.mpr (.inr hb)
  have R2:Rel K F' Z H' σ (ρ'.drop no) A2:=⟨sl2,by have:=R'.nd; rw [e2,List.nodup_append] at this; exact this.2.1,fun b hb=>R'.fr b (m2 b hb),R'.fh,R'.zh,R'.dj⟩
  exact q _ _ _ _ _ _ [a] p (s1.trans s') R2 (.fl ha' dn) ⟨by simp,fun b hb=>by
   have:b=a:=by first|exact List.mem_singleton.mp hb|simpa using hb
   subst this
   exact ⟨hF',hZ1,fun z=>hA' (m2 _ z)⟩⟩
 refine ⟨fun i k acc τ' H'=>k=ds.length - i∧i≤ds.length∧vt K fg fc fe P no (muC no ixs μ) F1 Z σ a (ds.drop i) acc τ' H',
  ⟨_,rfl,Nat.zero_le _,F1,_,A1,_,[],Same.refl _,R1',i4 vw hix,fun _ _=>rfl,bB,hF1,hA1,.nil,by rw [List.drop_zero]; exact h1⟩,?_⟩
 rintro i k acc τ' H' ⟨rfl,hle,F',ρ',A',σ',as,s',R',vw',kp,hD,hFD,hAD,dn,h'⟩
 by_cases hlt:i < ds.length
 ·rw [List.drop_eq_getElem_cons hlt,i3] at h'
  refine .inr ⟨wk.go H' i (s'.trans R'.fh) hlt,fun acc τ' H'=>vt K fg fc fe P no (muC no ixs μ) F1 Z σ a (ds.drop (i+1)) acc τ' H',fun acc' σ2 H2 z=>⟨_,by omega,rfl,hlt,z⟩,fun x H2 y=>?_⟩
  obtain ⟨rfl,d,hd,dx⟩:=wk.yld H' i x H2 (s'.trans R'.fh) hlt y
  rw [List.getElem?_eq_getElem hlt] at hd
  cases hd
  refine hg.h vw' R' (dx.mono s') h' fun τ2 σ2 ρ2 A2 p2 vw2 R2 k2 kl2 _ m2=>?_
  have kp2:∀ i,no≤i→σ2[i]?=(List.replicate no none++σ)[i]?:=fun i hi=>by
   rw [k2 i fun z=>by have:=hT i z; omega]; exact kp i hi
  have fD:Fresh F' Z A2 [a]:=⟨by simp,fun b hb=>by
   have:b=a:=by first|exact List.mem_singleton.mp hb|simpa using hb
   subst this
   exact ⟨hFD,hZ1,fun z=>hAD (m2 _ z)⟩⟩
  obtain ⟨Z',sz,R2',zl,back⟩:=R2.hold (B:=[a]) (fun b hb=>by
   have:b=a:=by first|exact List.mem_singleton.mp hb|simpa using hb
   subst this
   exact ⟨_,hD⟩) fD
  refine hc.h vw2 R2' p2 fun b ρ3 F3 H3 A3 p3 s3 R3=>?_
  cases b with
  | false =>
   replace p3:=qC p3
   rw [if_neg Bool.false_ne_true]
   obtain ⟨R3',f3,k3⟩:=back _ _ _ _ s3 R3
   have fa:=f3.fr a (by simp)
   exact ⟨F3,ρ3,A3,σ2,as,s'.trans s3,R3',vw2,kp2,k3 a _ (by simp) hD,fa.1,fa.2.2,dn.mono s3,p3⟩
  | true =>
   replace p3:=qB p3
   rw [if_pos rfl]
   refine he.h vw2 R3 p3 fun r ρ4 v F4 H4 A4 B4 p4 s4 R4 v4 f4=>?_
   split at p4
   ·rename_i y ρ5 e5
    obtain ⟨F5,A5,s5,R5,dy,_,_⟩:=R4.frz v4 f4 e5
    obtain ⟨R5',f5,k5⟩:=back _ _ _ _ ((s3.trans s4).trans s5) R5
    have fa:=f5.fr a (by simp)
    refine ⟨k5 a _ (by simp) hD,by rw [dn.length]; exact p4.1,F5,ρ5,A5,σ2,as++[y],((s'.trans s3).trans s4).trans s5,R5'.write fa.2.2 fa.1 hZ1,vw2,kp2,bB,fa.1,fa.2.2,(dn.mono ((s3.trans s4).trans s5)).snoc dy,p4.2⟩
   ·exact p4.elim
 ·have e:i=ds.length:=by omega
  subst e
  rw [List.drop_length,i2] at h'
  exact .inl ⟨wk.stop H' (s'.trans R'.fh),hfin _ _ _ _ _ _ _ s' R' kp hD hFD hAD dn h'⟩⟩
def unL (ρ:FSt)(i:Nat):Option (List D):=match ρ[i]? with
 | some (some (.fl ds))=>some ds
 | _=>none
def unD (ρ:FSt)(i:Nat):Option (List Key×List D):=match ρ[i]? with
 | some (some (.fd ks ds))=>some (ks,ds)
 | _=>none
theorem CQ {i:Nat}{ds:List D}(h:unL ρ i=some ds):ρ[i]?=some (some (.fl ds)):=by
 unfold unL at h
 split at h
 ·rename_i os e
  cases h; exact e
 ·cases h
theorem CS {i:Nat}{ks:List Key}{ds:List D}(h:unD ρ i=some (ks,ds)):ρ[i]?=some (some (.fd ks ds)):=by
 unfold unD at h
 split at h
 ·rename_i ks' os e
  cases h; exact e
 ·cases h
theorem Rel.mutL {i:Nat}{ds:List D}(R:Rel K F Z H σ ρ A)(h:unL ρ i=some ds):∃ a xs,σ[i]?=some (some (.ref a))∧H a=some (.lst xs)∧Dens K F xs ds ∧
  ∀ xs' ds',Dens K F xs' ds'→∃ A',Rel K F Z (upd H a (.lst xs')) σ (ρ.set i (some (.fl ds'))) A':=by
 have e:=CQ h
 obtain ⟨v,B,A',h1,h2,R',f',pm⟩:=R.takeI e
 cases h2 with
 | @fl a xs os hl dn =>
  have fa:=f'.fr a (by simp)
  refine ⟨a,xs,h1,hl,dn,fun xs' ds' dn'=>?_⟩
  have R2:=R'.write (o:=.lst xs') fa.2.2 fa.1 fa.2.1
  obtain ⟨A3,R3,_⟩:=R2.putI (kI e) h1 (.fl bB dn') f'
  rw [List.set_set] at R3
  exact ⟨A3,R3⟩
theorem Rel.mutD {i:Nat}{ks:List Key}{ds:List D}(R:Rel K F Z H σ ρ A)(h:unD ρ i=some (ks,ds)):∃ a ys,σ[i]?=some (some (.ref a))∧H a=some (.dK ys)∧ys.map (·.1)=ks∧Dens K F (ys.map (·.2)) ds ∧
  ∀ ys' ks' ds',ys'.map (·.1)=ks'→Dens K F (ys'.map (·.2)) ds'→∃ A',Rel K F Z (upd H a (.dK ys')) σ (ρ.set i (some (.fd ks' ds'))) A':=by
 have e:=CS h
 obtain ⟨v,B,A',h1,h2,R',f',pm⟩:=R.takeI e
 cases h2 with
 | @fd a ys ks os hl hk dn =>
  have fa:=f'.fr a (by simp)
  refine ⟨a,ys,h1,hl,hk,dn,fun ys' ks' ds' hk' dn'=>?_⟩
  have R2:=R'.write (o:=.dK ys') fa.2.2 fa.1 fa.2.1
  obtain ⟨A3,R3,_⟩:=R2.putI (kI e) h1 (.fd bB hk' dn') f'
  rw [List.set_set] at R3
  exact ⟨A3,R3⟩
def EY (i:Nat)(fe:FE):FE:=fun ρ Q=>(unL ρ i).isSome=true∧fe ρ fun r ρ1=>match fzR r ρ1 with
 | some (d,ρ2)=>(match unL ρ2 i with
  | some ds=>ds.length < sizeLine∧Q (.ov (.fz .non)) (ρ2.set i (some (.fl (ds++[d]))))
  | none=>False)
 | none=>False
theorem CT {i j:Nat}{te:TE}{fe:FE}(hj:μ[j]?=some i)(he:EF K μ te fe):EF K μ (tBM K "list" kz (qz j) (fT te m5)) (EY i fe):=⟨by
 intro F Z H τ σ ρ A Q P vw R h q
 obtain ⟨h0,h⟩:=h
 obtain ⟨ds0,e0⟩:=Option.isSome_iff_exists.mp h0
 obtain ⟨a,xs,h1,h2,h3,_⟩:=R.mutL e0
 refine ⟨.ref a,(vw j i hj).1.trans h1,.inl ⟨rfl,xs,SqL.of h2⟩,?_⟩
 refine he.h vw R h fun r ρ1 v F1 H1 A1 B1 p1 s1 R1 v1 f1=>?_
 split at p1
 ·rename_i d ρ2 e2
  obtain ⟨F2,A2,s2,R2,dy,_,_⟩:=R1.frz v1 f1 e2
  split at p1
  ·rename_i ds e3
   obtain ⟨a',xs',h1',h2',h3',mt⟩:=R2.mutL e3
   rw [h1] at h1'
   cases h1'
   obtain ⟨A3,R3⟩:=mt (xs'++[v]) (ds++[d]) (h3'.snoc dy)
   exact ⟨a,xs',v,rfl,rfl,h2',by rw [h3'.length]; exact p1.1,q _ _ _ _ _ _ _ p1.2 (s1.trans s2) R3 (.fz .non) Fresh.nil⟩
  ·exact p1.elim
 ·exact p1.elim⟩
def oA (i:Nat)(fe fk:FE):FS:=fun E ρ=>fe ρ fun r ρ1=>match fzR r ρ1 with
 | some (d,ρ2)=>(unL ρ2 i).isSome=true∧fk ρ2 fun s ρ3=>on1 ρ3 s fun dk=>(match dk,unL ρ3 i with
  | .int k,some ds=>(match ixN ds.length k with
   | some x=>E.nx (ρ3.set i (some (.fl (ds.set x d))))
   | none=>False)
  | _,_=>False)
 | none=>False
def uM:D→Option Key
 | .int i=>some (.inl i)
 | .str z=>some (.inr z)
 | _=>none
def xO (ks:List Key)(ds:List D)(k:Key)(d:D):List Key×List D :=
 if (ks.any fun x=>decide (x=k))=true then (ks,(ks.zip ds).map fun kd=>if kd.1=k then d else kd.2) else (ks++[k],ds++[d])
def CU (i:Nat)(fe fk:FE):FS:=fun E ρ=>fe ρ fun r ρ1=>match fzR r ρ1 with
 | some (d,ρ2)=>(unD ρ2 i).isSome=true∧fk ρ2 fun s ρ3=>on1 ρ3 s fun dk=>(match uM dk,unD ρ3 i with
  | some k,some (ks,ds)=>ks.length < sizeLine∧E.nx (ρ3.set i (some (.fd (xO ks ds k d).1 (xO ks ds k d).2)))
  | _,_=>False)
 | none=>False
theorem nu {F H:Hp}{v:V}{d:D}{k:Key}(h:Acc K F H v d)(e:uM d=some k):v=kV k:=by
 cases d with
 | int i=>simp only [uM,Option.some.injEq] at e; subst e; exact h.int_eq
 | str z=>simp only [uM,Option.some.injEq] at e; subst e; exact h.str_eq
 | _=>simp [uM] at e
theorem vv {ys:List (Key×V)}{ks:List Key}{ds:List D}{k:Key}{v:V}{d:D}(hk:ys.map (·.1)=ks)(dn:Dens K F (ys.map (·.2)) ds)(dv:Den K F v d):(nZ ys k v).map (·.1)=(xO ks ds k d).1∧Dens K F ((nZ ys k v).map (·.2)) (xO ks ds k d).2:=by
 have hl:ys.length=ds.length:=by have:=dn.length; simpa using this
 unfold xO nZ
 have hq:(ks.any fun x=>decide (x=k))=(ys.any fun kv=>decide (kv.1=k)):=by rw [← hk,List.any_map]; rfl
 by_cases hm:(ks.any fun x=>decide (x=k))=true
 ·have hany:(ys.any fun kv=>decide (kv.1=k))=true:=hq ▸ hm
  rw [if_pos hany,if_pos hm]
  constructor
  ·rw [List.map_map,← hk]
   refine List.map_congr_left fun kv _=>?_
   show (if kv.1=k then (kv.1,v) else kv).1=kv.1
   split <;> rfl
  ·subst hk
   clear hm hany hl hq
   induction ys generalizing ds with
   | nil=>cases dn; exact .nil
   | cons y ys ih =>
    cases dn with
    | cons d1 d2 =>
     refine .cons ?_ (ih d2)
     show Den K F (if y.1=k then (y.1,v) else y).2 (if y.1=k then d else _)
     split
     ·exact dv
     ·exact d1
 ·have hany:¬ (ys.any fun kv=>decide (kv.1=k))=true:=hq ▸ hm
  rw [if_neg hany,if_neg hm]
  refine ⟨by rw [List.map_append,hk]; rfl,?_⟩
  rw [List.map_append]
  exact dn.snoc dv
variable {n:Nat} {m:List Nat}
theorem kN {i:Nat}{te ti:TE}{fe fk:FE}(hin:i < n)(he:EF K (List.range n) te fe)(hk:EF K (List.range n) ti fk):SF K n m (qA te (Et (qz i) ti yR)) (oA i fe fk):=⟨by
 intro F Z H σ0 σ ρ A D fD R p E h
 refine he.h (View.id p.1) R h fun r ρ1 v F1 H1 A1 B1 p1 s1 R1 v1 f1=>?_
 split at p1
 ·rename_i d ρ2 e2
  obtain ⟨F2,A2,s2,R2,dy,_,_⟩:=R1.frz v1 f1 e2
  obtain ⟨h0,p1⟩:=p1
  obtain ⟨ds0,e0⟩:=Option.isSome_iff_exists.mp h0
  obtain ⟨a,xs,h1,h2,h3,_⟩:=R2.mutL e0
  refine ⟨.ref a,h1,?_⟩
  refine hk.h (View.id p.1) R2 p1 fun s ρ3 w F3 H3 A3 B3 p3 s3 R3 v3 f3=>?_
  obtain ⟨dk,ek,p4⟩:=dq p3
  split at p4
  ·rename_i k ds e3
   split at p4
   ·rename_i x ex
    obtain ⟨a',xs',h1',h2',h3',mt⟩:=R3.mutL e3
    rw [h1] at h1'
    cases h1'
    obtain ⟨A4,R4⟩:=mt (xs'.set x v) (ds.set x d) (h3'.set (dy.mono s3) x)
    exact ⟨a,xs',k,x,rfl,(R3.acc v3 ek).int_eq,h2',by rw [h3'.length]; exact ex,E.nx _ _ _ _ _ ((s1.trans s2).trans s3) R4 p p4⟩
   ·exact p4.elim
  ·exact p4.elim
 ·exact p1.elim⟩
theorem zy {i:Nat}{ty tv:TE}{fe fk:FE}(he:EF K (List.range n) tv fe)(hk:EF K (List.range n) ty fk):SF K n m (yT (qz i) ty tv) (CU i fe fk):=⟨by
 intro F Z H σ0 σ ρ A D fD R p E h
 refine he.h (View.id p.1) R h fun r ρ1 v F1 H1 A1 B1 p1 s1 R1 v1 f1=>?_
 generalize e2:fzR r ρ1=o at p1
 obtain _ | ⟨d,ρ2⟩:=o
 ·exact False.elim p1
 ·obtain ⟨F2,A2,s2,R2,dy,_,_⟩:=R1.frz v1 f1 e2
  obtain ⟨h0,p1⟩:=p1
  obtain ⟨⟨ks0,ds0⟩,e0⟩:=Option.isSome_iff_exists.mp h0
  obtain ⟨a,xs,h1,h2,h3,_⟩:=R2.mutD e0
  refine ⟨.ref a,h1,?_⟩
  refine hk.h (View.id p.1) R2 p1 fun s ρ3 w F3 H3 A3 B3 p3 s3 R3 v3 f3=>?_
  obtain ⟨dk,ek,p4⟩:=dq p3
  generalize e4:uM dk=o at p4
  generalize e3:unD ρ3 i=o' at p4
  obtain _ | k:=o
  ·exact False.elim p4
  obtain _ | ⟨ks,ds⟩:=o'
  ·exact False.elim p4
  ·obtain ⟨a',ys,h1',h2',hk',h3',mt⟩:=R3.mutD e3
   rw [h1] at h1'
   cases h1'
   obtain ⟨q1,q2⟩:=vv (k:=k) hk' h3' (dy.mono s3)
   obtain ⟨A4,R4⟩:=mt (nZ ys k v) _ _ q1 q2
   have hl:ys.length=ks.length:=by rw [← hk',List.length_map]
   exact ⟨a,_,rfl,.inl ⟨ys,k,h2',nu (R3.acc v3 ek) e4,by rw [hl]; exact p4.1,rfl⟩,E.nx _ _ _ _ _ ((s1.trans s2).trans s3) R4 p p4.2⟩⟩
end
end L2
set_option maxHeartbeats 4000000
namespace L2
open PySem PySem.Spec PyProof.Rows
def outs (m:List Nat):Nat→List OV→FSt→Option (List OV)
 | _,[],_=>some []
 | i,o::os,ρ=>if m.contains i=true then (match ρ[i]? with
   | some (some o')=>(outs m (i+1) os (ρ.set i none)).map (o'::·)
   | _=>none) else (outs m (i+1) os ρ).map (o::·)
def cY:OV→Bool
 | .fz _=>true
 | _=>false
def fin (m:List Nat)(os:List OV)(P:OV→List OV→Prop)(o:OV)(ρ:FSt):Prop:=match outs m 0 os ρ with
 | some os'=>P o os'
 | none=>False
def aK (n:Nat)(os:List OV):FSt:=os.map some++List.replicate (n - os.length) none
section
variable {K:PySem.W.Frag}
theorem Ows.length {F H:Hp}{vs:List V}{os:List OV}{A:List Addr}(h:Ows K F H vs os A):vs.length=os.length:=by
 induction h with
 | nil=>rfl
 | cons _ t ih=>exact congrArg (·+1) ih
theorem Slots.nones {F H:Hp}(k:Nat):Slots K F H (List.replicate k none) (List.replicate k none) []:=by
 induction k with
 | zero=>exact .nil
 | succ k ih=>exact .skip ih
theorem Slots.of_ows {F H:Hp}(k:Nat){vs:List V}{os:List OV}{A:List Addr}(h:Ows K F H vs os A):Slots K F H (vs.map some++List.replicate k none) (os.map some++List.replicate k none) A:=by
 induction h with
 | nil=>exact Slots.nones k
 | cons h t ih=>exact .has h ih
theorem Rel.outs {F F' Z H H':Hp}{σ:St}{m:List Nat}:∀ {vs:List V} {os:List OV} {C:List Addr} {i:Nat} {ρ:FSt} {A:List Addr} {os':List OV},Ows K F H vs os C→Same F F'→(∀ j o,os[j]?=some o→i+j ∉ m→cY o=true) →
  (∀ j v,vs[j]?=some v→i+j ∈ m→σ[i+j]?=some (some v))→Rel K F' Z H' σ ρ A→L2.outs m i os ρ=some os'→∃ C' A':List Addr,Ows K F' H' vs os' C'∧Rel K F' Z H' σ ρ A∧C'.Nodup∧(∀ a,a ∈ C'→a ∈ A∧a ∉ A')∧(∀ a,a ∈ A'→a ∈ A):=by
 intro vs
 induction vs with
 | nil =>
  intro os C i ρ A os' h s hz hp R e
  cases h
  simp only [L2.outs,Option.some.injEq] at e
  subst e
  exact ⟨[],A,.nil,R,List.nodup_nil,fun _ z=>(nomatch z),fun _ z=>z⟩
 | cons v vs ih =>
  intro os C i ρ A os' h s hz hp R e
  cases h with
  | @cons _ o _ os C1 C2 h t =>
   simp only [L2.outs] at e
   have hz':∀ j o,os[j]?=some o→i+1+j ∉ m→cY o=true:=fun j o q n=>hz (j+1) o (by first|exact List.mem_singleton.mp q|simpa using q) (by rw [show i+(j+1)=i+1+j by nofun]; exact n)
   have hp':∀ j v,vs[j]?=some v→i+1+j ∈ m→σ[i+1+j]?=some (some v):=fun j v q n=>by
    have:=hp (j+1) v (by first|exact List.mem_singleton.mp q|simpa using q) (by rw [show i+(j+1)=i+1+j by nofun]; exact n)
    rw [show i+1+j=i+(j+1) by nofun]; exact this
   split at e
   ·rename_i hm
    have hm:i ∈ m:=by first|exact List.mem_singleton.mp hm|simpa using hm
    split at e
    ·rename_i o' ho
     rw [Option.map_eq_some_iff] at e
     obtain ⟨os2,e2,rfl⟩:=e
     obtain ⟨v',B',A',h1,h2,R',f',pm⟩:=R.takeI ho
     have hv:=hp 0 v rfl (by first|exact List.mem_singleton.mp hm|simpa using hm)
     rw [Nat.add_zero] at hv
     have:v'=v:=by rw [hv] at h1; simpa using h1.symm
     subst this
     obtain ⟨C',A2,w1,_,n1,m1,m2⟩:=ih t s hz' hp' R' e2
     refine ⟨B'++C',A2,.cons h2 w1,R,List.nodup_append.mpr ⟨f'.nd,n1,fun a ha b hb z=>(f'.fr a ha).2.2 (by rw [z]; exact (m1 b hb).1)⟩,fun a ha=>?_,fun a ha=>pm.mem_iff.mpr (List.mem_append.mpr (.inr (m2 a ha)))⟩
     rcases List.mem_append.mp ha with z | z
     ·exact ⟨pm.mem_iff.mpr (List.mem_append.mpr (.inl z)),fun y=>(f'.fr a z).2.2 (m2 a y)⟩
     ·exact ⟨pm.mem_iff.mpr (List.mem_append.mpr (.inr (m1 a z).1)),(m1 a z).2⟩
    ·cases e
   ·rename_i hm
    rw [Option.map_eq_some_iff] at e
    obtain ⟨os2,e2,rfl⟩:=e
    have hm:i ∉ m:=by first|exact List.mem_singleton.mp hm|simpa using hm
    have hf:=hz 0 o rfl (by first|exact List.mem_singleton.mp hm|simpa using hm)
    obtain ⟨C',A2,w1,_,n1,m1,m2⟩:=ih t s hz' hp' R e2
    cases h with
    | fz dn=>exact ⟨C',A2,.cons (.fz (dn.mono s)) w1,R,n1,m1,m2⟩
    | _=>simp [cY] at hf
theorem Fun.okF {P:Program}{w:World}{mg:Str→Option Value}{base:Heap}{x qual:Str}{st:Stmt}{f:Addr}{fd:FuncData}{N ps:List Str}{k:Nat}{c:Ct}{m:List Nat}{fs:FS}(F:Fun K x qual st f fd)(S:FnScope N ps (ai st))
  (hN:ps.length≤N.length) (hlen:∀ os P,c os P→os.length=ps.length∧∀ j o,os[j]?=some o→j ∉ m→cY o=true) (hm:∀ i ∈ m,i < ps.length)
  (hbody:∀ (cdv:Value) (A:Around) (outer:List Env) (s:Shared) (H:Hp) (E:XK),Room k (A.deeper (envOfC qual (ai st) s.heap.objs.size f cdv)) →
   ∃ t,BSs (fF CX0 P w K mg base N qual (ai st) f cdv A outer s H E).nox (aY st) t∧SF K N.length m t fs)
  (hc:∀ os P,c os P→fs { nx:=fin m os P (.fz .non),rt:=fin m os P } (aK N.length os)):FnOk P w K mg base CX0 (k+1) f fd ps (spM K c):=by
 refine F.okB S (fun vs H Q E h=>?_) (fun cdv A outer s H vs Q E hr h=>?_)
 ·obtain ⟨F1,Z,os,C,Pq,_,_,_,ho,_,_,hcc,_⟩:=h
  rw [ho.length]; exact (hlen os Pq hcc).1
 ·obtain ⟨F1,Z,os,C,Pq,sf,sz,dj,ho,nd,fr,hcc,q⟩:=h
  obtain ⟨t,ht,hs⟩:=hbody cdv A outer s H E hr
  refine ⟨t,ht,?_⟩
  have hl:=(hlen os Pq hcc).1
  have hvl:=ho.length
  have R:Rel K F1 Z H (eE N vs) (aK N.length os) C:=by
   refine ⟨?_,nd,fr,sf,sz,dj⟩
   unfold eE aK
   rw [hvl]
   exact Slots.of_ows _ ho
  have hn:(eE N vs).length=N.length:=by unfold eE; simp; nofun
  have fin_ok:∀ F' H' σ' ρ' A' v o B,Same F1 F'→Rel K F' Z H' σ' ρ' A'→Pin N.length m (eE N vs) σ'→Ow K F' H' v o B→Fresh F' Z A' B→fin m os Pq o ρ'→Q v H':=by
   intro F' H' σ' ρ' A' v o B s' R' p' ow f' h'
   unfold fin at h'
   split at h'
   ·rename_i os' e
    obtain ⟨C',A2,w1,_,n1,m1,m2⟩:=Rel.outs (i:=0) ho s' (fun j o q n=>(hlen os Pq hcc).2 j o q (by first|exact List.mem_singleton.mp n|simpa using n)) (fun j v q n=>by
     have hj:j < vs.length:=(List.getElem?_eq_some_iff.mp q).1
     rw [Nat.zero_add] at n ⊢
     rw [p'.2 j n]
     unfold eE
     rw [List.getElem?_append_left (by first|exact List.mem_singleton.mp hj|simpa using hj),List.getElem?_map,q]; rfl) R' e
    refine q o os' v F' H' C' B h' s' R'.fh R'.zh R'.dj w1 ow (List.nodup_append.mpr ⟨n1,f'.nd,fun a ha b hb z=>(f'.fr b hb).2.2 (by rw [← z]; exact (m1 a ha).1)⟩) fun a ha=>?_
    rcases List.mem_append.mp ha with z | z
    ·exact R'.fr a (m1 a z).1
    ·exact ⟨(f'.fr a z).1,(f'.fr a z).2.1⟩
   ·exact h'.elim
  exact hs.h (fD:={ nx:=fin m os Pq (.fz .non),rt:=fin m os Pq }) R (Pin.refl hn) ⟨fun F' H' σ' ρ' A' s' R' p' h'=>fin_ok F' H' σ' ρ' A' .non (.fz .non) [] s' R' p' (.fz .non) Fresh.nil h',
   fin_ok,fun _ _ _ _ _ _ _ _ z=>z.elim,fun _ _ _ _ _ _ _ _ z=>z.elim⟩ (hc os Pq hcc)
end
end L2
set_option maxHeartbeats 4000000
namespace L2
open PySem PySem.Spec PyProof.Rows
section
variable {X:Cx}
def Fy:R2:=fun x y H Q=>∃ a v,x=.ref a∧DGet H a y (some v)∧Q v H
theorem zz (hu:X.A.units+1 < cLine):IxR X Fy:=by
 intro value slice pins s σ H x y v u Q I rx ry h hs
 obtain ⟨a,z,rfl,g,q⟩:=h
 cases rx
 exact tail_any (m9 I g) PySem.F.slot_dict_getitem.lookup (ra hu I g ry fun w' s3 I3 rw'=>⟨z,H,I3,rw',q⟩) hs
def Fz (K:PySem.W.Frag):R2:=fun x y H Q=>rIx K x y H Q∨Fy x y H Q
def FB:R2:=fun x y H Q=>∃ a o,y=.ref a∧DGet H a x o∧Q (.bl o.isSome) H
theorem CV (hu:X.A.units+1 < cLine):OpR X (compareOp .In) FB:=by
 intro pins s σ H x y v u Q I rx ry h
 obtain ⟨a,o,rfl,g,q⟩:=h
 cases ry
 exact d_in hu I g rx fun s3 I3=>⟨.bl o.isSome,H,I3,rfl,q⟩
def EZ (K:PySem.W.Frag):R2:=fun x y H Q=>Fv K x y H Q∨FB x y H Q
theorem kO (K:PySem.W.Frag)(hu:X.A.units+64 < cLine)(h:X.K=K):BOp X (compareOp .In) (EZ K):=by subst h; exact ⟨OpR.or Cq (CV (by nofun))⟩
theorem bS {a b:Expr}{ta tb:TE}{pos:Pos}(K:PySem.W.Frag)(hu:X.A.units+64 < cLine)(ha:BE X a ta)(hb:BE X b tb)(hs:∀ o i,subscripted b false o i=operate [o,i] (getItem o i))(hK:X.K=K):BE X (.Subscript a b pos) (tOp (Fz K) ta tb):=by
 subst hK; exact ⟨EH (IxR.or Cd (zz (by nofun))) ha.h hb.h hs⟩
def Ee (pI:Int→Int→Bool)(pS:Str→Str→Bool):R2:=fun x y H Q=>(∃ i j,x=.int i∧y=.int j∧Q (.bl (pI i j)) H)∨∃ i j,x=.str i∧y=.str j∧Q (.bl (pS i j)) H
def bV (x y:Str):Bool:=decide (x.cps.toList < y.cps.toList)
theorem CW:OpR X (compareOp .Lt) (fun x y H Q=>∃ i j,x=.str i∧y=.str j∧Q (.bl (bV i j)) H):=by
 intro pins s σ H x y v u Q I rx ry h
 obtain ⟨i,j,rfl,rfl,q⟩:=h
 obtain ⟨t,rfl⟩:=rx
 obtain ⟨t',rfl⟩:=ry
 exact PyProof.Rows.lt_str ⟨.bl _,H,I,rfl,q⟩
theorem CY:OpR X (compareOp .LtE) (fun x y H Q=>∃ i j,x=.str i∧y=.str j∧Q (.bl (!bV j i)) H):=by
 intro pins s σ H x y v u Q I rx ry h
 obtain ⟨i,j,rfl,rfl,q⟩:=h
 obtain ⟨t,rfl⟩:=rx
 obtain ⟨t',rfl⟩:=ry
 refine PySem.P.le_str ⟨.bl _,H,I,rfl,?_⟩
 have e:decide (¬ (j.cps.toList < i.cps.toList))=!bV j i:=by unfold bV; rw [decide_not]
 first | exact q | (rw [← e] at q; exact q) | (simpa [bV] using q)
theorem CZ:OpR X (compareOp .Gt) (fun x y H Q=>∃ i j,x=.str i∧y=.str j∧Q (.bl (bV j i)) H):=by
 intro pins s σ H x y v u Q I rx ry h
 obtain ⟨i,j,rfl,rfl,q⟩:=h
 obtain ⟨t,rfl⟩:=rx
 obtain ⟨t',rfl⟩:=ry
 exact PySem.P.gt_str ⟨.bl _,H,I,rfl,q⟩
theorem gK:BOp X (compareOp .Lt) (Ee (fun i j=>decide (i < j)) bV):=⟨OpR.or EB CW⟩
theorem e8:BOp X (compareOp .LtE) (Ee (fun i j=>decide (i≤j)) fun i j=>!bV j i):=⟨OpR.or EC CY⟩
theorem sk:BOp X (compareOp .Gt) (Ee (fun i j=>decide (j < i)) fun i j=>bV j i):=⟨OpR.or ED CZ⟩
def tyD:D→String
 | .non => "NoneType"
 | .bl _ => "bool"
 | .int _ => "int"
 | .str _ => "str"
 | .lst _ => "list"
 | .tup _ => "tuple"
 | .dct _ _ => "dict"
 | .ty _ => "type"
 | .opq _ _ => "dict"
def xP (T:String):Bool:=T == "str" || T == "int" || T == "bool" || T == "list" || T == "tuple" || T == "dict" || T == "NoneType"
theorem so {T:String}(h:xP T=true):okT T:=by
 simp only [xP,Bool.or_eq_true,beq_iff_eq] at h
 unfold okT
 rcases h with (((((h | h) | h) | h) | h) | h) | h <;> simp [h]
def E1 (K:PySem.W.Frag):List V→Hp→VK→Prop:=fun xs H Q=>∃ x d T,xs=[x,.ty T]∧Den K H x d∧xP (tyD d)=true∧xP T=true∧Q (.bl (isT (tyD d) T)) H
theorem vx:CallR X (.builtin "isinstance") (E1 X.K):=by
 intro pins s σ H xs us Q I r h
 obtain ⟨x,d,T,rfl,dn,o1,o2,q⟩:=h
 obtain ⟨u,u',rfl,ru,ru'⟩:=yH r
 cases (show u'=Value.type T from ru')
 have e:=Ck (K:=X.K) (so o1) (so o2)
 have fin:∀ tk,EP X pins σ Q (.bool (isT (tyD d) T)) { s with toks:=tk }:=fun tk=>⟨.bl _,H,I.tok tk,rfl,q⟩
 cases dn with
 | non=>exact gp I ru .non e fin
 | bl b=>exact gp I ru (.bl b) e fin
 | int i=>exact gp I ru (.int i) e fin
 | str z=>exact gp I ru (.str z) e fin
 | ty T'=>simp [tyD,xP] at o1
 | @lst a ys ds hs t =>
  cases (show u=Value.ref a from ru)
  obtain ⟨its,_,⟨o,n,h1,h2,_⟩,_⟩:=I.list hs
  exact PySem.W.kia_one PySem.W.kitx_list I.kIn ⟨_,h1,h2⟩ e (fun z=>nomatch z) fin
 | @tup a ys ds hs t =>
  cases (show u=Value.ref a from ru)
  obtain ⟨its,_,⟨o,h1,h2,_⟩,_⟩:=I.tuple hs
  exact PySem.W.kia_one PySem.W.kitx_tuple I.kIn ⟨o,h1,h2⟩ e (fun z=>nomatch z) fin
 | @dct a ys ks ds hs hk t =>
  cases (show u=Value.ref a from ru)
  obtain ⟨_,_,vs,_,p⟩:=(show ObjOk X.prog X.w H s.heap a (.dK ys) from hs.ok I.hok)
  obtain ⟨o,es,ep,h1,h2,_⟩:=p
  exact PySem.W.kia_one PySem.W.kitx_dict I.kIn ⟨o,h1,h2.1⟩ e (fun z=>nomatch z) fin
 | @opq a ys n hs hn hpl =>
  cases (show u=Value.ref a from ru)
  obtain ⟨_,_,vs,_,p⟩:=(show ObjOk X.prog X.w H s.heap a (.dK ys) from hs.ok I.hok)
  obtain ⟨o,es,ep,h1,h2,_⟩:=p
  exact PySem.W.kia_one PySem.W.kitx_dict I.kIn ⟨o,h1,h2.1⟩ e (fun z=>nomatch z) fin
theorem fX (K:PySem.W.Frag)(h:X.K=K):BCall X (.builtin "isinstance") (E1 K):=by subst h; exact ⟨vx⟩
def C0 (K:PySem.W.Frag):R2:=fun x y H Q=>∃ l b xs zs,x=.ref l∧y=.ref b∧SqL K H l xs∧SqL K H b zs∧xs.length+zs.length≤sizeLine∧∀ p,H p=none→Q (.ref p) (upd H p (.lst (xs++zs)))
theorem zA:OpR X (binaryOp .Add) (C0 X.K):=by
 intro pins s σ H x y v u Q I rx ry h
 obtain ⟨l,b,xs,zs,rfl,rfl,hH,hB,hz,q⟩:=h
 cases rx
 cases ry
 obtain ⟨its,r,⟨⟨cls,dd,data,sl⟩,n,ho,hc,hdd,hd⟩,_⟩:=I.list hH
 obtain ⟨its2,r2,⟨⟨cls2,dd2,data2,sl2⟩,n2,ho2,hc2,hdd2,hd2⟩,_⟩:=I.list hB
 dsimp only at hc hd hc2 hd2 hdd hdd2
 subst hc hd hc2 hd2 hdd hdd2
 have hl:=r.length
 have hl2:=r2.length
 refine concat_meets ⟨_,ho,rfl⟩ ⟨_,ho2,rfl⟩ noFill_list_add seq_list_add PySem.F.slot_list_add PySem.F.entry_list_add (PySem.F.args_list_add_2 _ _) (list_addW l b its.toArray its2.toArray n n2 none none sl sl2 (by simp; nofun)) ⟨ho,ho2,?_⟩
 have ea:its.toArray++its2.toArray=(its++its2).toArray:=by simp
 rw [ea]
 exact ⟨.ref _,_,I.lnew (t':=s.toks) (r.append r2) (by rw [List.length_append]; nofun),rfl,q _ I.fresh⟩
def zB (K:PySem.W.Frag):R2:=fun x y H Q=>(∃ i j,x=.int i∧y=.int j∧Q (.int (i+j)) H)∨(∃ i j,x=.str i∧y=.str j∧i.length+j.length≤sizeLine∧Q (.str (i++j)) H)∨C0 K x y H Q∨B9 K x y H Q
theorem cG (K:PySem.W.Frag)(h:X.K=K):BOp X (binaryOp .Add) (zB K):=by subst h; exact ⟨BN.or (pG.or (zA.or yN))⟩
theorem sq:CallR X (.builtin "ord") (fun xs H Q=>∃ c:Nat,xs=[.str ⟨#[c]⟩]∧Q (.int c) H):=by
 intro pins s σ H xs us Q I r h
 obtain ⟨c,rfl,q⟩:=h
 obtain ⟨u,rfl,ru⟩:=eU r
 obtain ⟨t,rfl⟩:=ru
 exact PySem.P.ord_of_char ⟨.int c,H,I.tok _,⟨_,rfl⟩,q⟩
def FC:List V→Hp→VK→Prop:=fun xs H Q=>∃ c:Nat,xs=[.str ⟨#[c]⟩]∧Q (.int c) H
theorem C4:BCall X (.builtin "ord") FC:=⟨sq⟩
def tGU (K:PySem.W.Frag)(xs:List V):TE:=fun _ H Q=>∀ a,(∀ H',SqT K H' a xs)→Q (.ref a) H
theorem nv {K:PySem.W.Frag} {x:Str} {xs:List V} {pos:Pos} (h:Ec K X.mg x xs) (hg:X.env.kindOf x=some .globalImplicit) (hd:autoParam ((x == ("__debug__" : Str))=false) L2.aD._auto_1):BE X (.Name x pos) (tGU K xs):=by
 obtain ⟨a,e,hs⟩:=h
 exact ⟨fun pins s σ H Q I q=>xx (v:=.ref a) ⟨_,e,rfl⟩ hg hd pins s σ H Q I (q a hs)⟩
end
theorem C5:bootBuiltins "ord" = some (.builtin "ord"):=by decide +kernel
section
variable {K:PySem.W.Frag} {μ:List Nat}
theorem bg {F H:Hp}{P:OV→Prop}{Q:VK}{v:V}{d:D}(e:Same F H)(n:xK K F H P Q)(h:Den K F v d)(p:P (.fz d)):Q v H:=n _ v F H [] p (Pure.refl e) (.fz h) New.nil
theorem dZ {F H:Hp}{P:OV→Prop}{Q:VK}{xs:List V}{ds:List D}(e:Same F H)(n:xK K F H P Q)(h:Dens K F xs ds)(p:P (.fl ds)):∀ q,H q=none→Q (.ref q) (upd H q (.lst xs)):=fun q hq =>
 n _ (.ref q) F _ [q] p (Pure.new e hq) (.fl bB h) (New.one hq (e.free hq))
theorem ip {F H:Hp}{P:OV→Prop}{Q:VK}{xs:List V}{ds:List D}(e:Same F H)(n:xK K F H P Q)(h:Dens K F xs ds)(p:P (.fz (.tup ds))):∀ q,H q=none→Q (.ref q) (upd H q (.tup xs)):=fun q hq =>
 n _ (.ref q) (upd F q (.tup xs)) _ [] p (Pure.frz e hq) (.fz (.tup (SqT.of bB) (h.mono (dh (e.free hq))))) New.nil
theorem zD {xs:List V}{ds:List D}(hd:∀ F,Dens K F xs ds):EF K μ (tGU K xs) (fC (.tup ds)):=⟨fun {F Z H τ σ ρ A Q P} vw R h q a ha=>q _ _ _ F H A [] h (Same.refl _) R (.fz (.tup (ha F) (hd F))) Fresh.nil⟩
def aI0 (g:Int→Int→D):D→D→(OV→Prop)→Prop
 | .int i,.int j,P=>P (.fz (g i j))
 | _,_,_=>False
def aIC (C:Int→Int→Prop)(g:Int→Int→D):D→D→(OV→Prop)→Prop
 | .int i,.int j,P=>C i j∧P (.fz (g i j))
 | _,_,_=>False
theorem C6 {gV:Int→Int→V}{gD:Int→Int→D}(h:∀ F i j,Den K F (gV i j) (gD i j)):OpF K (rI0 gV) (aI0 gD):=⟨by
 intro F H x y d e Q P s hx hy f n
 cases d with
 | int i =>
  cases e with
  | int j =>
   exact ⟨_,_,hx.int_eq,hy.int_eq,bg s n (h F _ _) f⟩
  | _=>exact False.elim f
 | _=>exact False.elim f⟩
theorem mi {C:Int→Int→Prop}{gV:Int→Int→V}{gD:Int→Int→D}(h:∀ F i j,Den K F (gV i j) (gD i j)):OpF K (rI C gV) (aIC C gD):=⟨by
 intro F H x y d e Q P s hx hy f n
 cases d with
 | int i =>
  cases e with
  | int j =>
   exact ⟨_,_,hx.int_eq,hy.int_eq,f.1,bg s n (h F _ _) f.2⟩
  | _=>exact False.elim f
 | _=>exact False.elim f⟩
theorem i5:OpF K (rI0 fun i j=>.int (i - j)) (aI0 fun i j=>.int (i - j)):=C6 fun _ _ _=>.int _
theorem kP:OpF K (rI CMul fun i j=>.int (i * j)) (aIC CMul fun i j=>.int (i * j)):=mi fun _ _ _=>.int _
theorem gx:OpF K (rI uW fun i j=>.int (i / j)) (aIC uW fun i j=>.int (i / j)):=mi fun _ _ _=>.int _
theorem i6:OpF K (rI (fun _ j=>0 < j) fun i j=>.int (i % j)) (aIC (fun _ j=>0 < j) fun i j=>.int (i % j)):=mi fun _ _ _=>.int _
theorem zE:OpF K (rI BM fun i j=>.int (i ^ j.toNat)) (aIC BM fun i j=>.int (i ^ j.toNat)):=mi fun _ _ _=>.int _
theorem oB:OpF K (rI pM fun i j=>.int (i ^ j.toNat)) (aIC pM fun i j=>.int (i ^ j.toNat)):=mi fun _ _ _=>.int _
def mj (pI:Int→Int→Bool)(pS:Str→Str→Bool):D→D→(OV→Prop)→Prop
 | .int i,.int j,P=>P (.fz (.bl (pI i j)))
 | .str i,.str j,P=>P (.fz (.bl (pS i j)))
 | _,_,_=>False
theorem cW {pI:Int→Int→Bool}{pS:Str→Str→Bool}:OpF K (Ee pI pS) (mj pI pS):=⟨by
 intro F H x y d e Q P s hx hy f n
 cases d with
 | int i =>
  cases e with
  | int j =>
   exact .inl ⟨_,_,hx.int_eq,hy.int_eq,bg s n (.bl _) f⟩
  | _=>exact False.elim f
 | str i =>
  cases e with
  | str j =>
   exact .inr ⟨_,_,hx.str_eq,hy.str_eq,bg s n (.bl _) f⟩
  | _=>exact False.elim f
 | _=>exact False.elim f⟩
def jy:D→D→(OV→Prop)→Prop
 | .int i,.int j,P=>P (.fz (.int (i+j)))
 | .str i,.str j,P=>i.length+j.length≤sizeLine∧P (.fz (.str (i++j)))
 | .lst xs,.lst ys,P=>xs.length+ys.length≤sizeLine∧P (.fl (xs++ys))
 | .tup xs,.tup ys,P=>xs≠[]∧xs.length+ys.length≤sizeLine∧P (.fz (.tup (xs++ys)))
 | _,_,_=>False
theorem cJ:OpF K (zB K) jy:=⟨by
 intro F H x y d e Q P s hx hy f n
 cases d with
 | int i =>
  cases e with
  | int j =>
   exact .inl ⟨_,_,hx.int_eq,hy.int_eq,bg s n (.int _) f⟩
  | _=>exact False.elim f
 | str i =>
  cases e with
  | str j =>
   exact .inr (.inl ⟨_,_,hx.str_eq,hy.str_eq,f.1,bg s n (.str _) f.2⟩)
  | _=>exact False.elim f
 | lst ds =>
  cases e with
  | lst es =>
   obtain ⟨a,xs,rfl,h1,h2⟩:=hx.asL s
   obtain ⟨b,ys,rfl,h3,h4⟩:=hy.asL s
   exact .inr (.inr (.inl ⟨a,b,xs,ys,rfl,rfl,h1,h3,by rw [h2.length,h4.length]; exact f.1,dZ s n (h2.append h4) f.2⟩))
  | _=>exact False.elim f
 | tup ds =>
  cases e with
  | tup es =>
   have hy':=hy
   obtain ⟨a,xs,rfl,h1,h2⟩:=hx.asT s
   obtain ⟨b,ys,rfl,h3,h4⟩:=hy.asT s
   refine .inr (.inr (.inr ⟨a,b,xs,ys,rfl,rfl,h1,h3,fun z=>f.1 ?_,by rw [h2.length,h4.length]; exact f.2.1,fun z=>?_,fun z=>ip s n (h2.append h4) f.2.2⟩))
   ·have:=h2.length; rw [z] at this; exact List.eq_nil_of_length_eq_zero this.symm
   ·subst z
    cases h4
    have f2:=f.2.2
    rw [List.append_nil] at f2
    cases hx with
    | fz hd=>exact bg s n hd f2
  | _=>exact False.elim f
 | _=>exact False.elim f⟩
end
end L2
set_option maxHeartbeats 4000000
namespace L2
open PySem PySem.Spec PyProof.Rows
def ev (a b:Str):Bool:=!bV b a
theorem e9 {a b:Str}:ev a b=true↔¬ (b.cps.toList < a.cps.toList):=by unfold ev bV; simp
theorem i7 (a b c:Str)(h1:ev a b=true)(h2:ev b c=true):ev a c=true:=by
 rw [e9] at *
 exact List.not_lt.mpr (List.le_trans (List.not_lt.mp h1) (List.not_lt.mp h2))
theorem ny (a b:Str):(ev a b || ev b a)=true:=by
 rw [Bool.or_eq_true,e9,e9]
 rcases List.le_total a.cps.toList b.cps.toList with h | h
 ·exact .inl (List.not_lt.mpr h)
 ·exact .inr (List.not_lt.mpr h)
theorem qa {a b:Str}(h1:ev a b=true)(h2:ev b a=true):a=b:=by
 rw [e9] at *
 exact gF (List.le_antisymm (List.not_lt.mp h1) (List.not_lt.mp h2))
def ml (zs:List Str):List Str:=zs.mergeSort ev
theorem fI (zs:List Str):(ml zs).Perm zs:=List.mergeSort_perm zs _
theorem ia (zs:List Str):(ml zs).Pairwise fun a b=>ev a b=true:=List.pairwise_mergeSort i7 ny zs
theorem fj:∀ (p:Str) (l:List Str),risingS p l=true→(p::l).Pairwise fun a b=>ev a b=true
 | p,[],_=>List.pairwise_singleton _ _
 | p,x::r,h=>by
  simp only [risingS,Bool.and_eq_true] at h
  have ih:=fj x r h.2
  have hpx:ev p x=true:=by
   unfold ev bV
   rw [← ltCps_eq]; exact h.1
  refine List.pairwise_cons.mpr ⟨fun y hy=>?_,ih⟩
  rcases List.mem_cons.mp hy with rfl | hy
  ·exact hpx
  ·exact i7 _ _ _ hpx (List.rel_of_pairwise_cons ih hy)
theorem eR:∀ (l:List Str),sortedS l=true→l.Pairwise fun a b=>ev a b=true
 | [],_=>.nil
 | x::r,h=>fj x r h
theorem i8 {ss zs:List Str}(hp:ss.Perm zs)(hs:ss.Pairwise fun a b=>ev a b=true):ss=ml zs :=
 List.Perm.eq_of_pairwise (le:=fun a b=>ev a b=true) (fun a b _ _ h1 h2=>qa h1 h2) hs (ia zs) (hp.trans (fI zs).symm)
section
open PySem.Calls
variable {prog:Program} {w:World} {A:Around} {E:Value→Shared→Prop} {s:Shared} {T:String} {r d:Addr} {n:Nat} {P:Nat→Value→Prop} {OK:Heap→Prop}
theorem C7 {R:List Value→Shared→Prop}(S:PySem.W.KdlSrc prog w T r d n P OK)(calm:A.handled=none)(ok:OK s.heap)(few:n≤sizeLine)
  (go:∀ (g:Heap) (tk:Nat) (acc:Array Value),(∀ b o,s.heap.get? b=some o→g.get? b=some o)→s.heap.objs.size < g.objs.size→ItemsOf P acc n→R acc.toList { s with heap:=g,toks:=tk }) :
  wpAny (model prog w) A (collect (.ref r)) R E s:=by
 obtain ⟨l1,l2⟩:=S.there _ ok
 unfold collect
 refine wpAny_bind (wpAny_runValue (codeAny_builtin entry_proto_collect' ?_)); rw [Around.under_plainId PySem.F.plain_proto_collect _]
 show wpAny _ A.in1 (newList [] >>= fun x=>again (.builtin "list.__iadd__" ⟨[x,.ref r],[]⟩)) _ _ s
 refine wpAny_bind (wpAny_newObj_type (wpAny_pure ⟨plainId_quiet PySem.F.plain_list_iadd _,codeAny_builtin entry_list_iadd' ?_⟩)); rw [Around.under_plainId PySem.F.plain_list_iadd _]
 have top:(s.heap.push { cls:=.type "list", data:=.seq ([]:List Value).toArray }).get? s.heap.objs.size=some { cls:=.type "list", data:=.seq #[] }:=Heap.get?_push_size _ rfl
 show wpAny _ A.in1 (Builtin.List.listExtendWith (.ref s.heap.objs.size) (.ref r) (.ref s.heap.objs.size)) _ _ _
 have main:=PySem.W.kdl_extend (A:=A) (s:={ s with heap:=s.heap.push { cls:=.type "list", data:=.seq ([]:List Value).toArray } })
  (R:=fun (q:Result) (s':Shared)=>∃ (g:Heap) (tk:Nat) (acc:Array Value) (c:Nat),q=.ok (.ret (.ref s.heap.objs.size))∧s'={ s with heap:=g,toks:=tk } ∧
   (∀ b o,s.heap.get? b=some o→g.get? b=some o)∧g.get? s.heap.objs.size=some { cls:=.type "list", dict:=none,data:=.seq acc c,slots:=#[] }∧ItemsOf P acc n)
  S calm (S.keep _ _ ok fun b _ o e=>Heap.get?_push_of_some _ e) s.heap.objs.size (Nat.ne_of_gt l1) (Nat.ne_of_gt l2) (.ref s.heap.objs.size) 0 top
  (fun g tk acc c hk hS hacc=>⟨g,tk,acc,c,rfl,rfl,fun b o e=>hk b o (Nat.ne_of_lt (Heap.lt_size e)) (Heap.get?_push_of_some _ e),hS,hacc⟩) few
 refine wpAny_mono main (fun z s' x=>?_) fun e s' x=>?_
 ·cases z with
  | done f =>
   obtain ⟨g,tk,acc,c,e,rfl,hk,hS,hacc⟩:=x
   cases e
   exact wpAny_bind (wpAny_load hS (wpAny_pure (go g tk acc hk (Heap.lt_size hS) hacc)))
  | again c₁ =>
   refine ⟨x.1,codeAny_mono x.2 fun q s₂ y=>?_⟩
   obtain ⟨g,tk,acc,c,rfl,rfl,hk,hS,hacc⟩:=y
   exact wpAny_bind (wpAny_load hS (wpAny_pure (go g tk acc hk (Heap.lt_size hS) hacc)))
 ·obtain ⟨_,_,_,_,e',_⟩:=x
  cases e'
end
section
variable {X:Cx}
theorem mn (hc:X.calm=true):CallR X (.builtin "sorted") (fun xs H Q=>∃ p kvs zs,xs=[.ref p]∧Rd H p (.dK kvs)∧kvs.map (·.1)=zs.map Sum.inr∧kvs.length < 64∧∀ q ss,H q=none→ss.Perm zs→sortedS ss=true→Q (.ref q) (upd H q (.lst (ss.map .str)))):=by
 intro pins s σ H xs us Q I r h
 obtain ⟨p,kvs,zs,rfl,hq,hz,h64,q⟩:=h
 obtain ⟨u,rfl,rx⟩:=eU r
 cases rx
 obtain ⟨hsz,hS,vs,rv,m⟩:kvs.length≤sizeLine∧(p == sysModules)=false∧∃ vs,KV kvs vs∧s.heap.DictOf (cI X.prog X.w) p vs:=hq.ok I.hok
 obtain ⟨ep,hat⟩:=m.dictAt
 have hl:kvs.length=vs.length:=Paired.length rv
 refine Calls.call_function_entry kind_sorted plain_sorted entry_sorted (args_sorted1 _) ?_
 unfold Builtin.«sorted»
 refine wpAny_bind (m:=checkCount "sorted" 1 1 _) (wpAny_pure ?_)
 refine wpAny_bind (C7 (PySem.W.kdl_dict (knd:=cI X.prog X.w) (kvs:=vs) (ep:=ep) hS) (by simpa using I.ok.hd hc) hat (by rw [← hl]; exact hsz) fun h' tk acc hk hgr hacc=>?_)
 have hal:acc.toList.length=kvs.length:=by rw [Array.length_toList,hacc.1,hl]
 have hSA:StrsAre acc.toList zs:=by
  have hget:∀ (j:Nat) v,acc.toList[j]?=some v→∃ k x,vs[j]?=some (k,x)∧lx k v=true:=fun j v e=>hacc.2 j v (by rw [← Array.getElem?_toList]; exact e)
  clear hacc hk q hq m hat
  generalize acc.toList=us at hal hget
  clear hsz hl h64 I r
  induction rv generalizing us zs with
  | nil =>
   cases zs with
   | nil=>cases us with | nil=>exact .nil | cons a b=>simp at hal
   | cons z zs=>simp at hz
  | cons h1 h2 ih =>
   cases zs with
   | nil=>simp at hz
   | cons z zs =>
    cases us with
    | nil=>simp at hal
    | cons a b =>
     simp only [List.map_cons,List.cons.injEq] at hz
     obtain ⟨k,x,e1,e2⟩:=hget 0 a rfl
     simp only [List.getElem?_cons_zero,Option.some.injEq] at e1
     subst e1
     have e3:_=k:=h1.1
     rw [← e3,hz.1] at e2
     rcases cc e2 with ⟨i,t,q,_⟩ | ⟨z',t,q,rfl⟩
     ·cases q
     ·cases q
      exact .cons _ t (ih zs hz.2 b (by first|exact List.mem_singleton.mp hal|simpa using hal) fun j v e=>by simpa using hget (j+1) v (by first|exact List.mem_singleton.mp e|simpa using e))
 refine wpAny_bind (wpAny_newList ?_ (hsz:=by rw [hal]; exact hsz))
 have hoL:(h'.push (seqObj "list" acc.toList.toArray 0)).get? h'.objs.size=some (seqObj "list" acc.toList.toArray 0):=Heap.get?_push_size _ rfl
 have hle:s.heap.objs.size≤h'.objs.size:=Nat.le_of_lt hgr
 refine wpAny_bind (wpAny_holding (wpAny_call_entry slot_list_sort ⟨_,hoL,rfl⟩ entry_list_sort (list_sort_treeK strKind_oneLt hoL hSA.keysOf (fun v₁ v₂ rest e=>keyKind_strs (by rw [← e]; exact hSA)) (by rw [hal]; exact h64) fun st' a1 a2=>⟨_,rfl,?_⟩) (args_list_sort _)))
 obtain ⟨ss',b1,b2,b3⟩:=sorted_out_str hSA a1 a2
 obtain ⟨e',he'⟩:=sortedHeap_at (out:=(arrOf st').map (·.2)) hoL
 have hlz:ss'.length=kvs.length:=by rw [b2.length_eq]; have:=congrArg List.length hz; simpa using this.symm
 refine wpAny_pure ⟨_,rfl,.ref h'.objs.size,_,I.laid (t':=tk) (o:=.lst (ss'.map .str)) (fun b ob hb=>?_) hle ⟨by rw [List.length_map,hlz]; exact hsz,((arrOf st').map (·.2)).toList,e',eZ b1,by rw [Array.toArray_toList]; exact he'⟩,rfl,q h'.objs.size ss' (I.hok.fresh hle) b2 b3⟩
 have hbl:b < h'.objs.size:=Nat.lt_of_lt_of_le (Heap.lt_size hb) hle
 rw [sortedHeap_old (Nat.ne_of_lt hbl) (by rw [size_push']; exact Nat.lt_succ_of_lt hbl)]
 exact Heap.get?_push_of_some _ (hk b ob hb)
end
end L2
set_option maxHeartbeats 4000000
namespace L2
open PySem PySem.Spec PyProof.Rows
section
variable {K:PySem.W.Frag} {μ:List Nat}
def C8 (d e:D):Prop:=okD d=true∧okD e=true∧dep (vn d)≤40
def aEq:D→D→(OV→Prop)→Prop:=fun d e P=>C8 d e∧P (.fz (.bl (dEq d e)))
def aNe:D→D→(OV→Prop)→Prop:=fun d e P=>C8 d e∧P (.fz (.bl (!dEq d e)))
theorem ci:OpF K (D9 K) aEq:=⟨fun {F H x y d e Q P} s hx hy f n=>.inr ⟨_,_,(hx.den s).deep f.1.1,(hy.den s).deep f.1.2.1,f.1.2.2,bg s n (.bl _) f.2⟩⟩
theorem oD:OpF K (Ea K) aNe:=⟨fun {F H x y d e Q P} s hx hy f n=>.inr ⟨_,_,(hx.den s).deep f.1.1,(hy.den s).deep f.1.2.1,f.1.2.2,bg s n (.bl _) f.2⟩⟩
def vOf:D→V
 | .non=>.non
 | .bl b=>.bl b
 | .int i=>.int i
 | .str z=>.str z
 | _=>.non
def flD:D→Bool
 | .non=>true
 | .bl _=>true
 | .int _=>true
 | .str _=>true
 | _=>false
theorem Den.flat {F:Hp}{v:V}{d:D}(h:Den K F v d)(f:flD d=true):v=vOf d∧iH v=true:=by
 cases h <;> first | exact ⟨rfl,rfl⟩ | exact (Bool.false_ne_true f).elim
theorem Dens.flat {F:Hp}{v:List V}{d:List D}(h:Dens K F v d)(f:d.all flD=true):v=d.map vOf∧v.all iH=true:=by
 induction d generalizing v with
 | nil=>cases h; exact ⟨rfl,rfl⟩
 | cons d ds ih =>
  cases h with
  | cons h t =>
   rw [List.all_cons,Bool.and_eq_true] at f
   obtain ⟨h1,h2⟩:=h.flat f.1
   obtain ⟨h3,h4⟩:=ih t f.2
   exact ⟨by rw [List.map_cons,← h1,← h3],by rw [List.all_cons,h2,h4]; rfl⟩
theorem Acc.flat {F H:Hp}{v:V}{d:D}(h:Acc K F H v d)(f:flD d=true):v=vOf d∧iH v=true:=by
 cases h with
 | fz h=>exact h.flat f
 | lst _ _=>exact (Bool.false_ne_true f).elim
 | dct _ _ _=>exact (Bool.false_ne_true f).elim
def inD (d:D)(ds:List D):Bool:=inV (vOf d) (ds.map vOf)
def C9 (ks:List Key)(k:Key):Bool:=ks.any fun x=>decide (x=k)
def bIn (d:D)(R:Bool→Prop):D→Prop
 | .str y=>(match d with
  | .str x=>(match x.cps.toList with
   | [c]=>R (decide (c ∈ y.cps.toList))
   | _=>False)
  | _=>False)
 | .lst ds=>(flD d=true∧ds.all flD=true)∧R (inD d ds)
 | .tup ds=>(flD d=true∧ds.all flD=true)∧R (inD d ds)
 | .dct ks _=>(match uM d with
  | some k=>R (C9 ks k)
  | none=>False)
 | _=>False
def aIn (d e:D)(P:OV→Prop):Prop:=bIn d (fun b=>P (.fz (.bl b))) e
theorem xQ {x:Str}{c:Nat}(h:x.cps.toList=[c]):x=⟨#[c]⟩:=gF h
theorem vy {ys:List (Key×V)}{ks:List Key}{k:Key}(h:ys.map (·.1)=ks):(nY ys k).isSome=C9 ks k:=by
 rw [← kA,C9,← h,List.any_map]; rfl
theorem Da {F H:Hp}{x y:V}{d e:D}{Q:VK}{R:Bool→Prop}(s:Same F H)(hx:Acc K F H x d)(hy:Acc K F H y e)(f:bIn d R e)(n:∀ b,R b→Q (.bl b) H):EZ K x y H Q:=by
 cases e with
 | str z =>
  cases d with
  | str u =>
   unfold bIn at f; dsimp only at f
   generalize hc:u.cps.toList=l at f
   cases l with
   | nil=>exact False.elim f
   | cons c r =>
    cases r with
    | nil=>exact .inl (.inl ⟨c,_,by rw [hx.str_eq,xQ hc],hy.str_eq,n _ f⟩)
    | cons=>exact False.elim f
  | _=>exact False.elim f
 | lst ds =>
  obtain ⟨a,xs,rfl,h1,h2⟩:=hy.asL s
  obtain ⟨e1,e2⟩:=hx.flat f.1.1
  obtain ⟨e3,e4⟩:=h2.flat f.1.2
  subst e1 e3
  exact .inl (.inr ⟨a,_,rfl,.inl h1,e2,e4,n _ f.2⟩)
 | tup ds =>
  obtain ⟨a,xs,rfl,h1,h2⟩:=hy.asT s
  obtain ⟨e1,e2⟩:=hx.flat f.1.1
  obtain ⟨e3,e4⟩:=h2.flat f.1.2
  subst e1 e3
  exact .inl (.inr ⟨a,_,rfl,.inr h1,e2,e4,n _ f.2⟩)
 | dct ks vs =>
  unfold bIn at f; dsimp only at f
  generalize hk:uM d=l at f
  cases l with
  | none=>exact False.elim f
  | some k =>
   obtain ⟨a,ys,rfl,h1,h2,h3⟩:=hy.asD s
   refine .inr ⟨a,nY ys k,rfl,by rw [nu hx hk]; exact DGet.kR h1,?_⟩
   rw [vy h2]
   exact n _ f
 | _=>exact False.elim f
theorem oE:OpF K (EZ K) aIn:=⟨fun s hx hy f n=>Da s hx hy f fun _ q=>bg s n (.bl _) q⟩
def Ef (ks:List Key)(ds:List D)(k:Key):Option D:=((ks.zip ds).find? fun kd=>decide (kd.1=k)).map (·.2)
def aIx:D→D→(OV→Prop)→Prop
 | .lst ds,.int i,P=>(match atI ds i with
  | some d=>P (.fz d)
  | none=>False)
 | .tup ds,.int i,P=>(match atI ds i with
  | some d=>P (.fz d)
  | none=>False)
 | .str z,.int i,P=>z.length≤sizeLine∧(match atI z.cps.toList i with
  | some c=>P (.fz (.str ⟨#[c]⟩))
  | none=>False)
 | .dct ks ds,k,P=>(match uM k with
  | some k=>(match Ef ks ds k with
   | some d=>P (.fz d)
   | none=>False)
  | none=>False)
 | _,_,_=>False
theorem Dens.atI {F:Hp}{xs:List V}{ds:List D}{i:Int}{d:D}(h:Dens K F xs ds)(e:L2.atI ds i=some d):∃ x,L2.atI xs i=some x∧Den K F x d:=by
 unfold L2.atI at e ⊢
 rw [h.length]
 cases q:ixN ds.length i with
 | none=>rw [q] at e; cases e
 | some j=>rw [q] at e; exact h.get e
theorem vz {F:Hp}{ys:List (Key×V)}{ks:List Key}{ds:List D}{k:Key}{d:D}(hk:ys.map (·.1)=ks)(h:Dens K F (ys.map (·.2)) ds)(e:Ef ks ds k=some d):∃ v,nY ys k=some v∧Den K F v d:=by
 subst hk
 unfold Ef at e
 induction ys generalizing ds with
 | nil=>simp at e
 | cons y ys ih =>
  cases h with
  | @cons _ d1 _ ds h1 h2 =>
   by_cases hy:y.1=k
   ·rw [ij hy]
    simp only [List.map_cons,List.zip_cons_cons,List.find?_cons,hy,decide_true,Option.map_some,Option.some.injEq] at e
    subst e
    exact ⟨y.2,rfl,h1⟩
   ·rw [ik hy]
    simp only [List.map_cons,List.zip_cons_cons,List.find?_cons,hy,decide_false] at e
    exact ih h2 e
theorem bT:OpF K (Fz K) aIx:=⟨by
 intro F H x y d e Q P s hx hy f n
 cases d with
 | lst ds =>
  cases e with
  | int i =>
   unfold aIx at f
   dsimp only at f
   cases hd:L2.atI ds i with
   | none=>rw [hd] at f; exact False.elim f
   | some d =>
    rw [hd] at f
    obtain ⟨a,xs,rfl,h1,h2⟩:=hx.asL s
    obtain ⟨v,h3,h4⟩:=h2.atI hd
    exact .inl (.inl ⟨a,xs,_,v,rfl,hy.int_eq,h1,h3,bg s n h4 f⟩)
  | _=>exact False.elim f
 | tup ds =>
  cases e with
  | int i =>
   unfold aIx at f
   dsimp only at f
   cases hd:L2.atI ds i with
   | none=>rw [hd] at f; exact False.elim f
   | some d =>
    rw [hd] at f
    obtain ⟨a,xs,rfl,h1,h2⟩:=hx.asT s
    obtain ⟨v,h3,h4⟩:=h2.atI hd
    exact .inl (.inr (.inl ⟨a,xs,_,v,rfl,hy.int_eq,h1,h3,bg s n h4 f⟩))
  | _=>exact False.elim f
 | str z =>
  cases e with
  | int i =>
   obtain ⟨f1,f⟩:=f
   cases hc:L2.atI z.cps.toList i with
   | none=>rw [hc] at f; exact False.elim f
   | some c =>
    rw [hc] at f
    exact .inl (.inr (.inr ⟨_,_,c,hx.str_eq,hy.int_eq,f1,hc,bg s n (.str _) f⟩))
  | _=>exact False.elim f
 | dct ks ds =>
  unfold aIx at f
  dsimp only at f
  cases hk:uM e with
  | none=>rw [hk] at f; exact False.elim f
  | some k =>
   rw [hk] at f
   dsimp only at f
   cases hd:Ef ks ds k with
   | none=>rw [hd] at f; exact False.elim f
   | some d =>
    rw [hd] at f
    obtain ⟨a,ys,rfl,h1,h2,h3⟩:=hx.asD s
    obtain ⟨v,h4,h5⟩:=vz h2 h3 hd
    exact .inr ⟨a,v,rfl,by rw [nu hy hk,← h4]; exact DGet.kR h1,bg s n h5 f⟩
 | _=>exact False.elim f⟩
def vA (n:Nat)(lo hi:Option Int):Prop:=¬ (HT.sIx n 0 lo=0∧HT.sIx n n hi=n)
def oF (z:Str)(lo hi:Option Int):Str:=⟨(dP z.cps.toList lo hi).toArray⟩
def aSl:D→Option Int→Option Int→(OV→Prop)→Prop
 | .str z,lo,hi,P=>z.length≤sizeLine∧P (.fz (.str (oF z lo hi)))
 | .lst ds,lo,hi,P=>P (.fl (dP ds lo hi))
 | .tup ds,lo,hi,P=>vA ds.length lo hi∧P (.fz (.tup (dP ds lo hi)))
 | _,_,_,_=>False
theorem Dens.cut {F:Hp}{xs:List V}{ds:List D}{lo hi:Option Int}(h:Dens K F xs ds):Dens K F (dP xs lo hi) (dP ds lo hi):=by
 unfold dP
 rw [h.length]
 exact (h.drop _).take _
theorem ge:SlF K (Cp K) aSl:=⟨by
 intro F H x d lo hi Q P s hx f n
 cases d with
 | str z =>
  refine .inl ⟨_,hx.str_eq,f.1,fun y hy=>?_⟩
  have e:y=oF z lo hi:=gF (hy.trans (by simp [oF]))
  rw [e]
  exact bg s n (.str _) f.2
 | lst ds =>
  obtain ⟨a,xs,rfl,h1,h2⟩:=hx.asL s
  exact .inr (.inl ⟨a,xs,rfl,h1,dZ s n h2.cut f⟩)
 | tup ds =>
  obtain ⟨a,xs,rfl,h1,h2⟩:=hx.asT s
  exact .inr (.inr ⟨a,xs,rfl,h1,by rw [h2.length]; exact f.1,ip s n h2.cut f.2⟩)
 | _=>exact False.elim f⟩
def ig:List D→(OV→Prop)→Prop
 | [.str z],P=>z.length≤sizeLine∧P (.fz (.int z.length))
 | [.lst ds],P=>P (.fz (.int ds.length))
 | [.tup ds],P=>P (.fz (.int ds.length))
 | [.dct ks _],P=>P (.fz (.int ks.length))
 | _,_=>False
theorem cU:CallF K (D7 K) ig:=⟨by
 intro F H xs ds Q P s ha f n
 cases ds with
 | nil=>exact False.elim f
 | cons d tl =>
 cases d with
 | str z =>
  cases tl with
  | cons _ _=>exact False.elim f
  | nil =>
  obtain ⟨x,rfl,a⟩:=dY ha
  exact .inl ⟨_,by rw [a.str_eq],f.1,bg s n (.int _) f.2⟩
 | lst ds =>
  cases tl with
  | cons _ _=>exact False.elim f
  | nil =>
  obtain ⟨x,rfl,a⟩:=dY ha
  obtain ⟨p,ys,rfl,h1,h2⟩:=a.asL s
  exact .inr (.inl ⟨p,ys,rfl,.inl h1,by rw [h2.length]; exact bg s n (.int _) f⟩)
 | tup ds =>
  cases tl with
  | cons _ _=>exact False.elim f
  | nil =>
  obtain ⟨x,rfl,a⟩:=dY ha
  obtain ⟨p,ys,rfl,h1,h2⟩:=a.asT s
  exact .inr (.inl ⟨p,ys,rfl,.inr h1,by rw [h2.length]; exact bg s n (.int _) f⟩)
 | dct ks es =>
  cases tl with
  | cons _ _=>exact False.elim f
  | nil =>
  obtain ⟨x,rfl,a⟩:=dY ha
  obtain ⟨p,ys,rfl,h1,h2,h3⟩:=a.asD s
  subst h2
  have f:P (.fz (.int (ys.map (·.1)).length)):=f
  rw [List.length_map] at f
  exact .inr (.inr ⟨p,ys,rfl,h1,bg s n (.int _) f⟩)
 | _=>exact False.elim f⟩
def E2:List D→(OV→Prop)→Prop
 | [.int i,.int j],P=>P (.fz (.int (if j > i then j else i)))
 | _,_=>False
def E3:List D→(OV→Prop)→Prop
 | [.int i,.int j],P=>P (.fz (.int (if j < i then j else i)))
 | _,_=>False
theorem xR:CallF K ET E2:=⟨by
 intro F H xs ds Q P s ha f n
 cases ds with
 | nil=>exact False.elim f
 | cons d tl =>
 cases d with
 | int i =>
  cases tl with
  | nil=>exact False.elim f
  | cons e tl =>
  cases e with
  | int j =>
   cases tl with
   | cons _ _=>exact False.elim f
   | nil =>
   obtain ⟨x,y,rfl,a,b⟩:=ou ha
   exact ⟨_,_,by rw [a.int_eq,b.int_eq],bg s n (.int _) f⟩
  | _=>exact False.elim f
 | _=>exact False.elim f⟩
theorem xS:CallF K EU E3:=⟨by
 intro F H xs ds Q P s ha f n
 cases ds with
 | nil=>exact False.elim f
 | cons d tl =>
 cases d with
 | int i =>
  cases tl with
  | nil=>exact False.elim f
  | cons e tl =>
  cases e with
  | int j =>
   cases tl with
   | cons _ _=>exact False.elim f
   | nil =>
   obtain ⟨x,y,rfl,a,b⟩:=ou ha
   exact ⟨_,_,by rw [a.int_eq,b.int_eq],bg s n (.int _) f⟩
  | _=>exact False.elim f
 | _=>exact False.elim f⟩
def cIs:List D→(OV→Prop)→Prop
 | [d,.ty T],P=>(xP (tyD d)=true∧xP T=true)∧P (.fz (.bl (isT (tyD d) T)))
 | _,_=>False
theorem jJ:CallF K (E1 K) cIs:=⟨by
 intro F H xs ds Q P s ha f n
 cases ds with
 | nil=>exact False.elim f
 | cons d ds =>
 cases ds with
 | nil=>exact False.elim f
 | cons e ds =>
 cases e with
 | ty T =>
  cases ds with
  | cons _ _=>exact False.elim f
  | nil =>
  obtain ⟨x,y,rfl,a,b⟩:=ou ha
  exact ⟨x,_,_,by rw [b.ty_eq],a.den s,f.1.1,f.1.2,bg s n (.bl _) f.2⟩
 | _=>exact False.elim f⟩
def kQ:List D→Option (List Bool)
 | []=>some []
 | .bl b::ds=>(kQ ds).map (b::·)
 | _::_=>none
theorem oG:∀ {ds:List D} {bs:List Bool},kQ ds=some bs→ds=bs.map .bl
 | [],_,h=>by simp only [kQ,Option.some.injEq] at h; subst h; rfl
 | d::ds,bs,h=>by
  cases d <;> simp [kQ] at h
  obtain ⟨cs,h1,rfl⟩:=h
  rw [oG h1]; rfl
theorem mo:∀ bs:List Bool,kQ (bs.map .bl)=some bs
 | []=>rfl
 | b::bs=>by rw [List.map_cons,kQ,mo bs]; rfl
def xT:List D→(OV→Prop)→Prop
 | [.lst ds],P=>(match kQ ds with
  | some bs=>P (.fz (.bl (bs.all id)))
  | none=>False)
 | _,_=>False
theorem j1:CallF K (D8 K) xT:=⟨by
 intro F H xs ds Q P s ha f n
 cases ds with
 | nil=>exact False.elim f
 | cons d tl =>
 cases d with
 | lst ds =>
  cases tl with
  | cons _ _=>exact False.elim f
  | nil =>
  obtain ⟨x,rfl,a⟩:=dY ha
  obtain ⟨p,ys,rfl,h1,h2⟩:=a.asL s
  unfold xT at f
  dsimp only at f
  cases hb:kQ ds with
  | none=>rw [hb] at f; exact False.elim f
  | some bs =>
   rw [hb] at f
   rw [oG hb] at h2
   exact ⟨p,bs,rfl,by rw [← h2.bls_eq]; exact h1,bg s n (.bl _) f⟩
 | _=>exact False.elim f⟩
def Eg:Key→D
 | .inl i=>.int i
 | .inr z=>.str z
theorem i9 {F:Hp}:∀ (ks:List Key),Dens K F (ks.map kV) (ks.map Eg)
 | []=>.nil
 | .inl i::ks=>.cons (.int i) (i9 ks)
 | .inr z::ks=>.cons (.str z) (i9 ks)
def zF:List D→(OV→Prop)→Prop
 | [.lst ds],P=>P (.fl ds)
 | [.tup ds],P=>P (.fl ds)
 | [.dct ks _],P=>P (.fl (ks.map Eg))
 | _,_=>False
theorem sr:CallF K (rS K) zF:=⟨by
 intro F H xs ds Q P s ha f n
 cases ds with
 | nil=>exact False.elim f
 | cons d tl =>
 cases d with
 | lst ds =>
  cases tl with
  | cons _ _=>exact False.elim f
  | nil =>
  obtain ⟨x,rfl,a⟩:=dY ha
  obtain ⟨p,ys,rfl,h1,h2⟩:=a.asL s
  exact rW h1 (dZ s n h2 f)
 | tup ds =>
  cases tl with
  | cons _ _=>exact False.elim f
  | nil =>
  obtain ⟨x,rfl,a⟩:=dY ha
  obtain ⟨p,ys,rfl,h1,h2⟩:=a.asT s
  exact rX h1 (dZ s n h2 f)
 | dct ks es =>
  cases tl with
  | cons _ _=>exact False.elim f
  | nil =>
  obtain ⟨x,rfl,a⟩:=dY ha
  obtain ⟨p,ys,rfl,h1,h2,h3⟩:=a.asD s
  refine pZ h1 (dZ s n ?_ f)
  have e:(ys.map fun kv=>kV kv.1)=(ys.map (·.1)).map kV:=by rw [List.map_map]; rfl
  rw [e,h2]
  exact i9 _
 | _=>exact False.elim f⟩
def j2:List D→(OV→Prop)→Prop
 | [.lst ds],P=>P (.fz (.tup ds))
 | [.tup ds],P=>P (.fz (.tup ds))
 | _,_=>False
theorem kS:CallF K (rT K) j2:=⟨by
 intro F H xs ds Q P s ha f n
 cases ds with
 | nil=>exact False.elim f
 | cons d tl =>
 cases d with
 | lst ds =>
  cases tl with
  | cons _ _=>exact False.elim f
  | nil =>
  obtain ⟨x,rfl,a⟩:=dY ha
  obtain ⟨p,ys,rfl,h1,h2⟩:=a.asL s
  exact p5 h1 (ip s n h2 f)
 | tup ds =>
  cases tl with
  | cons _ _=>exact False.elim f
  | nil =>
  obtain ⟨x,rfl,a⟩:=dY ha
  have a':=a
  obtain ⟨p,ys,rfl,h1,h2⟩:=a.asT s
  refine ⟨p,ys,rfl,.inr ⟨h1,?_⟩⟩
  cases a' with
  | fz h=>exact bg s n h f
 | _=>exact False.elim f⟩
def eT:List D→Option (List Str)
 | []=>some []
 | .str z::ds=>(eT ds).map (z::·)
 | _::_=>none
theorem fm:∀ {ds:List D} {zs:List Str},eT ds=some zs→ds=zs.map .str
 | [],_,h=>by simp only [eT,Option.some.injEq] at h; subst h; rfl
 | d::ds,bs,h=>by
  cases d <;> simp [eT] at h
  obtain ⟨cs,h1,rfl⟩:=h
  rw [fm h1]; rfl
theorem j3:∀ zs:List Str,eT (zs.map .str)=some zs
 | []=>rfl
 | b::bs=>by rw [List.map_cons,eT,j3 bs]; rfl
def nz:List Key→Option (List Str)
 | []=>some []
 | .inr z::ks=>(nz ks).map (z::·)
 | .inl _::_=>none
def cSort:List D→(OV→Prop)→Prop
 | [.lst ds],P=>(match eT ds with
  | some zs=>zs.length < 64∧P (.fl ((ml zs).map .str))
  | none=>False)
 | [.dct ks _],P=>(match nz ks with
  | some zs=>zs.length < 64∧P (.fl ((ml zs).map .str))
  | none=>False)
 | _,_=>False
def xU (P:Program)(w:World)(K:PySem.W.Frag):List V→Hp→VK→Prop:=fun xs H Q=>rR P w K xs H Q∨∃ p kvs zs,xs=[.ref p]∧Rd H p (.dK kvs)∧kvs.map (·.1)=zs.map Sum.inr∧kvs.length < 64∧∀ q ss,H q=none→ss.Perm zs→sortedS ss=true→Q (.ref q) (upd H q (.lst (ss.map .str)))
def E4:List D→(OV→Prop)→Prop
 | [.str z],P=>(match z.cps.toList with
  | [c]=>P (.fz (.int c))
  | _=>False)
 | _,_=>False
theorem Db:CallF K FC E4:=⟨by
 intro F H xs ds Q P s ha f n
 unfold E4 at f
 split at f
 ·split at f
  ·rename_i c hc
   obtain ⟨x,rfl,a⟩:=dY ha
   exact ⟨c,by rw [a.str_eq,xQ hc],bg s n (.int _) f⟩
  ·exact f.elim
 ·exact f.elim⟩
def mq (zs:List Str):List Str:=zs.foldl (fun acc z=>KS.dedup1 acc z) []
theorem gL:∀ (zs acc:List Str),acc.Nodup→(zs.foldl (fun acc z=>KS.dedup1 acc z) acc).Nodup∧∀ k,k ∈ zs.foldl (fun acc z=>KS.dedup1 acc z) acc↔k ∈ acc∨k ∈ zs
 | [],acc,h=>⟨h,fun k=>by simp⟩
 | z::zs,acc,h=>by
  obtain ⟨h1,h2⟩:=gL zs (KS.dedup1 acc z) (hV h)
  refine ⟨h1,fun k=>?_⟩
  rw [List.foldl_cons,h2 k,jU,List.mem_cons]
  constructor
  ·rintro ((a | a) | a)
   ·exact .inl a
   ·exact .inr (.inl a)
   ·exact .inr (.inr a)
  ·rintro (a | a | a)
   ·exact .inl (.inl a)
   ·exact .inl (.inr a)
   ·exact .inr a
theorem ib (zs:List Str):(mq zs).Nodup:=(gL zs [] List.nodup_nil).1
theorem j4 {zs:List Str}{k:Str}:k ∈ mq zs↔k ∈ zs:=by
 have:=(gL zs [] List.nodup_nil).2 k
 simpa [mq] using this
def kT (zs:List Str):List Str:=ml (mq zs)
theorem iq {zs:List Str}{k:Str}:k ∈ kT zs↔k ∈ zs:=by rw [kT,(fI _).mem_iff,j4]
theorem gM (zs:List Str):(kT zs).Nodup:=(fI _).nodup_iff.mpr (ib zs)
theorem nB (zs:List Str):(kT zs).Pairwise fun a b=>ev a b=true:=ia _
theorem gf {a b:List Str}(ha:a.Nodup)(hb:b.Nodup)(h:∀ k,k ∈ a↔k ∈ b):a.Perm b:=(List.perm_ext_iff_of_nodup ha hb).mpr h
theorem ja {zs ss:List Str}(hn:ss.Nodup)(hm:∀ k,k ∈ ss↔k ∈ zs)(hs:ss.Pairwise fun a b=>ev a b=true):ss=kT zs :=
 i8 (gf hn (ib zs) fun k=>(hm k).trans j4.symm) hs
def kU (fe:FE):FE:=fun ρ Q=>fe ρ fun r ρ1=>on1 ρ1 r fun d=>match d with
 | .lst ds=>(match eT ds with
  | some zs=>(zs.length+1 < scanBound∧(kT zs).length < 64)∧Q (.ov (.fl ((kT zs).map .str))) ρ1
  | none=>False)
 | _=>False
theorem qb {P:Program}{w:World}{te:TE}{fe:FE}(he:EF K μ te fe):EF K μ (tCB (xU P w K) (fT (tCB (Eb P w K) (fT te m5)) m5)) (kU fe):=⟨by
 intro F Z H τ σ ρ A Q Pq vw R h q
 refine he.h vw R h fun r ρ1 v F1 H1 A1 B1 h1 s1 R1 v1 f1=>?_
 obtain ⟨d,e1,h2⟩:=dq h1
 split at h2
 ·split at h2
  ·rename_i zs hz
   obtain ⟨p,ys,rfl,a1,a2⟩:=(R1.acc v1 e1).asL R1.fh
   rw [fm hz] at a2
   rw [a2.strs_eq] at a1
   refine ⟨p,zs,rfl,a1,h2.1.1,fun l τs hl hm hn _=>?_⟩
   refine .inl ⟨l,τs,rfl,.inl bB,?_,fun l2 ss hl2 hp hs=>?_⟩
   ·have hp:τs.Perm (kT zs):=gf hn (gM zs) fun k=>(hm k).trans iq.symm
    rw [hp.length_eq]; exact h2.1.2
   ·have e:ss=kT zs:=ja (hp.nodup_iff.mpr hn) (fun k=>(hp.mem_iff).trans (hm k)) (eR ss hs)
    subst e
    have pu:=(Pure.new (o:=CF P w l τs) R1.fh hl).trans (Pure.new (p:=l2) (o:=.lst ((kT zs).map .str)) (R1.fh.trans (dh hl)) hl2)
    have hl2':H1 l2=none:=(dh hl).free hl2
    exact R1.after (P:=fun o=>Pq (.ov o) ρ1) (fun o v F3 H3 B p s3 R3 ow fr=>q _ _ _ _ _ _ _ p (s1.trans s3) R3 ow fr) _ _ F1 _ [l2] h2.2 pu (.fl bB (Dens.strs _)) (New.one hl2' (R1.fh.free hl2'))
  ·exact h2.elim
 ·exact h2.elim⟩
end
end L2
set_option maxHeartbeats 4000000
namespace KS
open PySem PySem.Spec PyProof.Rows
section
variable {prog:Program} {w:World} {A:Around} {E:Value→Shared→Prop} {s:Shared}
end
end KS
namespace L2
open PySem PySem.Spec PyProof.Rows
section
variable {X:Cx}
end
section
variable {K:PySem.W.Frag} {μ:List Nat}
end
end L2
set_option maxHeartbeats 4000000
namespace L2
open PySem PySem.Spec PyProof.Rows PySem.W
def Good (n:Nat){α:Type}(Post:α→Prop):KasT α→Prop
 | .ret a=>Post a
 | .ask i j k=>i < n∧j < n∧∀ b,Good n Post (k b)
theorem Good.bind {n:Nat}{α β:Type}{Post:α→Prop}{Post':β→Prop}{f:α→KasT β}:∀ {t:KasT α},Good n Post t→(∀ a,Post a→Good n Post' (f a))→Good n Post' (t.bind f)
 | .ret a,h,k=>k a h
 | .ask i j g,h,k=>⟨h.1,h.2.1,fun b=>Good.bind (h.2.2 b) k⟩
theorem Good.run {n:Nat}{α:Type}{Post:α→Prop}{cmp:Nat→Nat→(Bool→Shared→Prop)→Shared→Prop}{G:α→Shared→Prop}{s:Shared}(hc:∀ i j C,i < n→j < n→(∀ b,C b s)→cmp i j C s):∀ {t:KasT α},Good n Post t→(∀ a,Post a→G a s)→t.kasWp cmp G s
 | .ret a,h,k=>k a h
 | .ask i j g,h,k=>hc i j _ h.1 h.2.1 fun b=>Good.run hc (h.2.2 b) k
def IsPerm (n:Nat)(p:Array Nat):Prop:=p.toList.Perm (List.range n)
theorem IsPerm.lt {n:Nat}{p:Array Nat}(h:IsPerm n p)(hn:0 < n)(i:Nat):p.getD i 0 < n:=by
 by_cases hi:i < p.size
 ·have e:p.getD i 0=p[i]:=by simp [Array.getD,hi]
  rw [e]
  have:p[i] ∈ p.toList:=by simp
  exact List.mem_range.mp (h.mem_iff.mp this)
 ·have e:p.getD i 0=0:=by simp [Array.getD,hi]
  rw [e]; exact hn
theorem IsPerm.rev {n:Nat}{p:Array Nat}(h:IsPerm n p)(i j:Nat):IsPerm n (kas_rev p i j):=(Array.perm_iff_toList_perm.mp (mirror_perm p i j ((j - i) / 2))).trans h
theorem IsPerm.bubble {n:Nat}{p:Array Nat}(h:IsPerm n p)(i j:Nat):IsPerm n (PyProof.Rows.bubble p i j):=(Array.perm_iff_toList_perm.mp (bubble_perm p i j)).trans h
theorem kW {n:Nat}(hn:0 < n){p:Array Nat}(h:IsPerm n p):∀ (f k:Nat),Good n (fun _=>True) (kas_asc p f k)
 | 0,k=>trivial
 | f+1,k=>⟨h.lt hn _,h.lt hn _,fun b=>by
  cases b with
  | true=>exact trivial
  | false=>exact kW hn h f (k+1)⟩
theorem gy {n:Nat}(hn:0 < n):∀ (f:Nat) (p:Array Nat) (k q:Nat),IsPerm n p→Good n (fun r=>IsPerm n r.1) (kas_desc f p k q)
 | 0,p,k,q,h=>h
 | f+1,p,k,q,h=>⟨h.lt hn _,h.lt hn _,fun b=>by
  cases b with
  | true =>
   dsimp only; rw [if_pos rfl]
   split
   ·exact gy hn f _ _ _ (h.rev _ _)
   ·exact gy hn f _ _ _ h
  | false =>
   dsimp only; rw [if_neg Bool.false_ne_true]
   exact ⟨h.lt hn _,h.lt hn _,fun d=>by
    cases d with
    | true=>dsimp only; rw [if_pos rfl]; exact h
    | false=>dsimp only; rw [if_neg Bool.false_ne_true]; exact gy hn f _ _ _ h⟩⟩
theorem mr {n:Nat}(hn:0 < n){p:Array Nat}(h:IsPerm n p)(a b:Nat):Good n (fun r=>IsPerm n r.2) (kas_tail3 a b p):=(kW hn (h.rev 0 a) _ _).bind fun m _=>h.rev 0 a
theorem gz {n:Nat}(hn:0 < n){p:Array Nat}(h:IsPerm n p)(a b:Nat):Good n (fun r=>IsPerm n r.2) (kas_descPart a b p):=(gy hn _ _ _ _ h).bind fun r hr=>by
 split
 ·exact mr hn (hr.rev _ _) _ _
 ·exact mr hn hr _ _
theorem qc {n:Nat}(hn:0 < n){p:Array Nat}(h:IsPerm n p)(b:Nat):Good n (fun r=>IsPerm n r.2) (kas_count b p):=(kW hn h _ _).bind fun r _=>by
 split
 ·exact h
 ·split
  ·exact ⟨h.lt hn _,h.lt hn _,fun c=>by
    cases c with
    | true=>dsimp only; rw [if_pos rfl]; exact h
    | false=>dsimp only; rw [if_neg Bool.false_ne_true]; exact gz hn (h.rev _ _) _ _⟩
  ·exact gz hn h _ _
theorem gN {n:Nat}(hn:0 < n){p:Array Nat}(h:IsPerm n p)(k:Nat):∀ (f l r:Nat),Good n (fun _=>True) (kas_place p k f l r)
 | 0,l,r=>trivial
 | f+1,l,r=>by
  unfold kas_place
  split
  ·exact trivial
  ·exact ⟨h.lt hn _,h.lt hn _,fun c=>by
    cases c with
    | true=>dsimp only; rw [if_pos rfl]; exact gN hn h k f _ _
    | false=>dsimp only; rw [if_neg Bool.false_ne_true]; exact gN hn h k f _ _⟩
theorem oH {n:Nat}(hn:0 < n):∀ (f:Nat) (p:Array Nat) (k:Nat),IsPerm n p→Good n (IsPerm n) (kas_bin f p k)
 | 0,p,k,h=>h
 | f+1,p,k,h=>(gN hn h k _ _ _).bind fun l _=>oH hn f _ _ (h.bubble _ _)
theorem su {n:Nat}(hn:0 < n):Good n (IsPerm n) (kas_sort n):=(qc hn (show IsPerm n (List.toArray (List.range n)) from List.Perm.refl _) n).bind fun r hr=>by
 split
 ·exact oH hn _ _ _ hr
 ·exact hr
section
variable {prog:Program} {w:World} {A:Around} {E:Value→Shared→Prop} {s:Shared}
theorem j5 {l:Addr}{vs:List Value}{Q:Value→Shared→Prop}(hl:s.heap.IsList l vs.toArray)(few:vs.length < 2)(h:Q (.ref (s.heap.objs.size+1)) { s with heap:=sortedAll s.heap vs (pairsOf vs |>.map (·.2)) }) :
  wpAny (model prog w) A (call (.builtin "sorted") [.ref l]) Q E s:=by
 refine Calls.call_function_entry kind_sorted plain_sorted entry_sorted (args_sorted1 _) ?_
 unfold Builtin.«sorted»
 refine wpAny_bind (m:=checkCount "sorted" 1 1 _) (wpAny_pure (wpAny_bind (collect_list hl (wpAny_bind (wpAny_newList ?_)))))
 have z1:((s.heap.push (seqObj "list" #[] 0)).update s.heap.objs.size (Obj.mapSeq (·++vs.toArray))).objs.size=s.heap.objs.size+1:=(Heap.size_update ..).trans (size_push' ..)
 have top:(((s.heap.push (seqObj "list" #[] 0)).update s.heap.objs.size (Obj.mapSeq (·++vs.toArray))).push (seqObj "list" vs.toArray 0)).get? (s.heap.objs.size+1)=some (seqObj "list" vs.toArray 0):=z1 ▸ Heap.get?_push_size _ rfl
 show wpAny _ _ _ _ _ { s with heap:=((s.heap.push (seqObj "list" #[] 0)).update s.heap.objs.size (Obj.mapSeq (·++vs.toArray))).push (seqObj "list" vs.toArray 0) }
 rw [z1]
 refine wpAny_bind (wpAny_holding (wpAny_call_entry slot_list_sort ⟨_,top,rfl⟩ entry_list_sort ?_ (args_list_sort _)))
 generalize hG:((s.heap.push (seqObj "list" #[] 0)).update s.heap.objs.size (Obj.mapSeq (·++vs.toArray))).push (seqObj "list" vs.toArray 0)=G at top
 generalize ha:s.heap.objs.size+1=a at top
 have lt:a < G.objs.size:=Heap.lt_size top
 rw [list_sort_plain]
 refine wpAny_bind (listItems_at (s:={ s with heap:=G }) top rfl (wpAny_bind (listUpdate_at (s:={ s with heap:=G }) top rfl ?_)))
 obtain ⟨e1,o1⟩:∃ e1,(G.update a (Obj.mapSeq fun _=>#[])).get? a=some (seqObj "list" #[] e1):=⟨_,get?_update_seq top (fun _=>#[])⟩
 refine wpAny_bind (seqEpoch_at (s:={ s with heap:=G.update a (Obj.mapSeq fun _=>#[]) }) o1 rfl (wpAny_bind (wpAny_newTuple (wpAny_bind (wpAny_newList (wpAny_holding ?_))))))
 have o6:(((G.update a (Obj.mapSeq fun _=>#[])).push (seqObj "tuple" vs.toArray 0)).push (seqObj "list" #[] 0)).get? a=some (seqObj "list" #[] e1):=Heap.get?_push_of_some _ (Heap.get?_push_of_some _ o1)
 show wpAny (model prog w) _ _ _ E { s with heap:=((G.update a (Obj.mapSeq fun _=>#[])).push (seqObj "tuple" vs.toArray 0)).push (seqObj "list" #[] 0) }
 have h2:vs.toArray.size < 2:=by first|exact List.mem_singleton.mp few|simpa using few
 dsimp only
 rw [if_pos h2,if_pos h2]
 refine wpAny_bind (wpAny_pure ?_)
 rw [StateT.run_pure]
 refine wpAny_bind (wpAny_pure (wpAny_bind (seqEpoch_at o6 rfl (wpAny_bind (listUpdate_at o6 rfl ?_ (hsz2:=?_))))))
 ·simp only [bne_self_eq_false,Bool.false_eq_true,if_false]
  refine wpAny_pure ⟨_,rfl,wpAny_pure ⟨_,rfl,?_⟩⟩
  subst ha
  have e:sortedAll s.heap vs (pairsOf vs |>.map (·.2))=sortedHeap G (s.heap.objs.size+1) vs (pairsOf vs |>.map (·.2)):=by rw [← hG]; rfl
  rw [e] at h
  exact h
 ·rw [Array.size_map]; show (pairsOf vs).size≤_; rw [pairsOf_size,sizeLine_eq]; nofun
end
section
variable {prog:Program} {w:World} {A:Around} {s:Shared} {C:Bool→Shared→Prop} {bb fn:Bool}
theorem oI (hC:∀ b,C b s):∀ (l:List Value) (i:Nat),KatLex prog w A bb fn C (l.zip l) i s
 | [],i=>kat_nil (hC _)
 | v::l,i=>kat_cons (SeqAt.EqAt.same v prog w _ _ (kat_yes (oI hC l (i+1))))
theorem sv (hC:∀ b,C b s){a b:Str}{t u:Tok}{l:List (Value×Value)}(hne:a≠b):KatLex prog w A true fn C ((.str a t,.str b u)::l) 0 s:=by
 refine kat_cons (SeqAt.EqAt.str_str a t b u prog w _ _ ?_)
 rw [show (a == b)=false from beq_eq_false_iff_ne.mpr hne]
 refine kat_no ?_
 exact oneLt_str (hC _)
end
theorem ObjOk.get {P:Program}{w:World}{H:Hp}{h:Heap}{a:Addr}{o:HO}(x:ObjOk P w H h a o):∃ u,h.get? a=some u:=by
 cases o with
 | lst xs=>obtain ⟨_,_,_,_,e⟩:=x; exact ⟨_,e⟩
 | tup xs=>obtain ⟨_,_,_,_,e,_⟩:=x; exact ⟨_,e⟩
 | dK kvs=>obtain ⟨_,_,_,_,o,_,_,e,_⟩:=x; exact ⟨_,e⟩
 | dT kvs=>obtain ⟨_,_,_,_,o,_,_,e,_⟩:=x; exact ⟨_,e⟩
 | set S n=>obtain ⟨o,_,_,_,e,_⟩:=x; exact ⟨_,e⟩
 | ins C dx fs=>obtain ⟨_,_,_,e,_⟩:=x; exact ⟨_,e⟩
 | own y=>obtain ⟨_,e⟩:=x; exact ⟨_,e⟩
 | xd fs=>obtain ⟨_,⟨_,_,_,e,_⟩,_⟩:=x; exact ⟨_,e⟩
 | rng lo hi=>obtain ⟨_,_,_,e⟩:=x; exact ⟨_,e⟩
 | frz ob u=>obtain ⟨e,_⟩:=x; exact ⟨_,e⟩
 | tbl ps=>exact ⟨_,(show h.get? a=some _ from x)⟩
 | met f y=>exact ⟨_,(show h.get? a=some _ from x)⟩
 | ext φ=>obtain ⟨_,⟨_,e⟩,_⟩:=x; exact ⟨_,e⟩
section
variable {X:Cx}
def xV (K:PySem.W.Frag):List V→Hp→VK→Prop:=fun xs H Q=>∃ (p:Addr) (rows:List (Addr×Str×List V)),xs=[.ref p]∧SqL K H p (rows.map fun r=>.ref r.1)∧(∀ r ∈ rows,SqT K H r.1 (.str r.2.1::r.2.2))∧(rows.map (·.2.1)).Nodup∧rows.length < 64 ∧
 ∀ (q:Addr) (rows':List (Addr×Str×List V)),H q=none→rows'.Perm rows→Q (.ref q) (upd H q (.lst (rows'.map fun r=>.ref r.1)))
theorem jb:∀ {rows:List (Addr×Str×List V)} {us:List Value},Vals (rows.map fun r=>V.ref r.1) us→us=rows.map fun r=>.ref r.1
 | [],_,.nil=>rfl
 | r::rows,_,.cons h t=>by rw [List.map_cons,jb t,show _=Value.ref r.1 from h]
theorem fq:∀ (rows:List (Addr×Str×List V)),Vals (rows.map fun r=>V.ref r.1) (rows.map fun r=>.ref r.1)
 | []=>.nil
 | r::rows=>.cons rfl (fq rows)
theorem eu {α:Type}(d:α)(xs:List α){l:List Nat}(h:l.Perm (List.range xs.length)):(l.map fun i=>xs.getD i d).Perm xs:=by
 refine (h.map _).trans ?_
 have e:(List.range xs.length).map (fun i=>xs.getD i d)=xs:=by
  apply List.ext_getElem?
  intro i
  rw [List.getElem?_map]
  by_cases hi:i < xs.length
  ·rw [List.getElem?_range hi]; simp [hi]
  ·rw [List.getElem?_eq_none (by first|exact List.mem_singleton.mp hi|simpa using hi),List.getElem?_eq_none (by first|exact List.mem_singleton.mp hi|simpa using hi)]; rfl
 rw [e]
theorem ms:CallR X (.builtin "sorted") (xV X.K):=by
 intro pins s σ H xs us Q I r h
 obtain ⟨p,rows,rfl,hq,ht,hn,h64,q⟩:=h
 obtain ⟨u,rfl,rx⟩:=eU r
 cases rx
 obtain ⟨its,rv,pl,hz⟩:=I.list hq
 have hits:=jb rv
 subst hits
 have hlen:(rows.map fun r=>Value.ref r.1).length=rows.length:=List.length_map ..
 have hzr:rows.length≤sizeLine:=by rw [sizeLine_eq]; nofun
 by_cases h2:rows.length < 2
 ·refine j5 pl.isList (by rw [hlen]; exact h2) ?_
  have e0:(pairsOf (rows.map fun r=>Value.ref r.1) |>.map (·.2))=(rows.map fun r=>Value.ref r.1).toArray:=by
   apply Array.toList_inj.mp
   rw [Array.toList_map,pairsOf_toList,List.map_snd_zip (Nat.le_refl _)]
  rw [e0]
  obtain ⟨e,he⟩:=sortedAll_at s.heap (rows.map fun r=>Value.ref r.1) (rows.map fun r=>Value.ref r.1).toArray
  exact ⟨.ref (s.heap.objs.size+1),_,I.laid (t':=s.toks) (o:=.lst (rows.map fun r=>.ref r.1)) (fun b o e=>sortedAll_old e) (Nat.le_succ _) ⟨by rw [List.length_map]; exact hzr,_,e,fq rows,he⟩,rfl,q _ rows (I.hok.fresh (Nat.le_succ _)) (.refl _)⟩
 ·obtain ⟨m,hns,_⟩:=I.loc
  -- the tuples as they stand
  have tup:∀ r ∈ rows,∃ (o:Obj) (t:Tok) (vs:List Value) (n:Nat),s.heap.get? r.1=some o∧o.cls=.type "tuple" ∧ o.data=.seq (Value.str r.2.1 t::vs).toArray n∧r.1≠X.env.locals:=fun r hr=>by
   obtain ⟨its,rv,⟨o,ho,hc,n,hd⟩,_⟩:=I.tuple (ht r hr)
   cases rv with
   | cons r1 r2 =>
    obtain ⟨t,rfl⟩:=r1
    refine ⟨o,t,_,n,ho,hc,hd,fun z=>?_⟩
    obtain ⟨o',es,ep,ho',hd',_⟩:=hns
    rw [← z,ho] at ho'
    cases ho'
    rw [hd] at hd'; cases hd'
  refine kat_sorted (Att.fr_all hns) nR pl.isList (by rw [hlen]; nofun) (by rw [hlen]; exact h64) fun D e1 h' F' N' hlt=>?_
  have kept:∀ b o,b≠X.env.locals→s.heap.get? b=some o→h'.get? b=some o:=fun b o hb e=>(N' (b,o) (List.mem_cons_of_mem _ (dF hb (Att.noObjs_get _ _) e))).1
  have nD:∀ b o,b≠X.env.locals→s.heap.get? b=some o→b < D:=fun b o hb e=>hlt (b,o) (dF hb (Att.noObjs_get _ _) e)
  have hDL:D≠X.env.locals:=(N' _ (List.mem_cons_self ..)).2.1
  have tup':∀ r ∈ rows,∃ (o:Obj) (t:Tok) (vs:List Value) (n:Nat),h'.get? r.1=some o∧o.cls=.type "tuple" ∧ o.data=.seq (Value.str r.2.1 t::vs).toArray n:=fun r hr=>by
   obtain ⟨o,t,vs,n,h1,h2,h3,h4⟩:=tup r hr
   exact ⟨o,t,vs,n,kept _ _ h4 h1,h2,h3⟩
  obtain ⟨fs,hkt,hfl,hfs⟩:∃ fs,KatTups h' (rows.map fun r=>Value.ref r.1) fs∧fs.length=rows.length∧∀ v ∈ fs,∃ x t,v=Value.str x t:=by
   clear hq hn h64 q rv pl hz hlen hzr h2 N' F' kept nD tup ht
   induction rows with
   | nil=>exact ⟨[],KatTups.nil,rfl,fun _ z=>nomatch z⟩
   | cons r rows ih =>
    obtain ⟨o,t,vs,n,h1,h2,h3⟩:=tup' r (List.mem_cons_self ..)
    obtain ⟨fs,k1,k2,k3⟩:=ih fun r hr=>tup' r (List.mem_cons_of_mem _ hr)
    refine ⟨.str r.2.1 t::fs,KatTups.cons h1 h2 h3 rfl k1,by rw [List.length_cons,List.length_cons,k2],fun v hv=>?_⟩
    rcases List.mem_cons.mp hv with rfl | hv
    ·exact ⟨_,_,rfl⟩
    ·exact k3 v hv
  refine kat_kind (s:={ s with heap:=h' }) (T:=.type "str") hkt (by nofun) (fun v hv=>?_) (by decide) ?_
  ·obtain ⟨x,t,rfl⟩:=hfs v hv
   exact Looks.of_pure rfl
  rw [hlen]
  refine Good.run (n:=rows.length) (fun i j C hi hj hC=>?_) (su (by nofun)) fun pm hp=>?_
  ·-- two tuples asked
   have gi:(rows.map fun r=>Value.ref r.1).getD i Value.none=.ref rows[i].1:=by simp [hi]
   have gj:(rows.map fun r=>Value.ref r.1).getD j Value.none=.ref rows[j].1:=by simp [hj]
   unfold kas_ask
   rw [gi,gj]
   obtain ⟨o,t,vs,n,a1,a2,a3⟩:=tup' rows[i] (List.getElem_mem hi)
   obtain ⟨o2,t2,vs2,n2,b1,b2,b3⟩:=tup' rows[j] (List.getElem_mem hj)
   refine kat_lt (s:={ s with heap:=h' }) a1 a3 b1 b3 ?_
   by_cases hij:i=j
   ·subst hij
    rw [a1] at b1
    cases b1
    rw [a3] at b3
    injection b3 with b3 _
    rw [b3]
    exact oI hC _ 0
   ·refine sv hC fun z=>hij ?_
    have e1:(rows.map (·.2.1))[i]'(by first|exact List.mem_singleton.mp hi|simpa using hi)=(rows.map (·.2.1))[j]'(by first|exact List.mem_singleton.mp hj|simpa using hj):=by first|exact List.mem_singleton.mp z|simpa using z
    exact (List.getElem_inj hn).mp e1
  ·-- the end
   refine KasFin.intro (s:={ s with heap:=h' }) F' N' (.head fun p hp=>Nat.ne_of_lt (hlt p hp)) fun h3 c F3 N3=>?_
   have kept3:∀ b o,b≠X.env.locals→s.heap.get? b=some o→h3.get? b=some o:=fun b o hb e=>(N3 (b,o) (List.mem_cons_of_mem _ (dF hb (Att.noObjs_get _ _) e))).1
   have hD3:=(N3 (D,_) (List.mem_cons_self ..)).1
   have hfree:s.heap.get? D=none:=by
    cases z:s.heap.get? D with
    | none=>rfl
    | some o=>exact absurd (nD D o hDL z) (Nat.lt_irrefl _)
   have hHD:H D=none:=by
    cases z:H D with
    | none=>rfl
    | some o =>
     exfalso
     have lt:=(I.hok D o z).lt
     obtain ⟨o',ho'⟩:∃ o',s.heap.get? D=some o':=ObjOk.get (I.hok D o z)
     rw [hfree] at ho'; cases ho'
   have hne:∀ b o,s.heap.get? b=some o→b≠D:=fun b o e z=>by rw [z,hfree] at e; cases e
   let rows':=pm.toList.map fun i=>rows.getD i (0, "", [])
   have hpr:rows'.Perm rows:=eu _ rows hp
   have hout:(pm.toList.map fun i=>(rows.map fun r=>Value.ref r.1).getD i Value.none)=rows'.map fun r=>.ref r.1:=by
    rw [List.map_map]
    refine List.map_congr_left fun i hi=>?_
    have hi':i < rows.length:=List.mem_range.mp (hp.mem_iff.mp hi)
    simp [hi']
   rw [hout] at hD3
   have Inv3:Inv X pins σ (upd H D (.lst (rows'.map fun r=>.ref r.1))) { s with heap:=h3 }:=by
    refine I.step (g':=s.gens) (d':=s.drawn) (t':=s.toks) (ch:=[]) (fun _ z=>nomatch z) (fun b o hb _ _ e _=>kept3 b o hb e) (fun b o hb _ _ e _=>⟨o.slots,kept3 b o hb e⟩) (fun b o _ e n=>by rw [bN (hne b o e)]; exact n)
     (fun b o _ e=>?_) (fun b ys e=>by rw [bN (bI e hHD)]; exact e) (fun b o u e=>by rw [bN (bI e hHD)]; exact e) (fun b ps e=>⟨#[],by rw [bN (bI e hHD),e]; simp⟩) (fun m' hm'=>?_) ?_ I.bare
    ·by_cases hb:b=X.env.locals
     ·subst hb
      obtain ⟨o',_,_,ho',_⟩:=F3.ns
      exact ⟨o',ho'⟩
     ·exact ⟨o,kept3 b o hb e⟩
    ·have em:m'=m:=by
      funext x
      obtain ⟨o1,e1,p1,g1,d1,_,n1⟩:=hm'
      obtain ⟨o2,e2,p2,g2,d2,_,n2⟩:=hns
      rw [g1] at g2; cases g2
      rw [d1] at d2
      injection d2 with d2 _
      rw [← n1 x,← n2 x,d2]
     rw [em]; exact F3.ns
    ·intro b o e
     by_cases hb:b=D
     ·subst hb
      rw [bB] at e
      cases e
      exact ⟨by rw [List.length_map,hpr.length_eq]; exact hzr,_,c,fq rows',hD3⟩
     ·rw [bN hb] at e
      refine (I.hok b o e).stay (fun b' u hb' q'=>kept3 b' u (fun z=>?_) q') (fun b' q'=>by rw [bN (bI q' hHD)]; exact q') fun b' ys q'=>by rw [bN (bI q' hHD)]; exact q'
      subst z
      rcases hb' with z | z
      ·rw [← z,I.free] at e; cases e
      ·rw [I.free] at z; cases z
   exact ⟨.ref D,_,Inv3,rfl,q D rows' hHD hpr⟩
end
end L2
set_option maxHeartbeats 4000000
namespace L2
open PySem PySem.Spec PyProof.Rows
theorem oJ {α β:Type}{f:α→β}:∀ {l l':List β},l.Perm l'→∀ m:List α,l'=m.map f→∃ m':List α,m'.Perm m∧l=m'.map f:=by
 intro l l' h
 induction h with
 | nil =>
  intro m e
  have:m=[]:=by simpa using e.symm
  subst this
  exact ⟨[],.refl _,rfl⟩
 | cons x _ ih =>
  intro m e
  cases m with
  | nil=>cases e
  | cons a m =>
   simp only [List.map_cons,List.cons.injEq] at e
   obtain ⟨m',h1,h2⟩:=ih m e.2
   exact ⟨a::m',.cons a h1,by rw [List.map_cons,h2,e.1]⟩
 | swap x y l =>
  intro m e
  match m,e with
  | a::b::m,e =>
   simp only [List.map_cons,List.cons.injEq] at e
   exact ⟨b::a::m,.swap _ _ _,by rw [List.map_cons,List.map_cons,e.1,e.2.1,e.2.2]⟩
 | trans _ _ ih1 ih2 =>
  intro m e
  obtain ⟨m2,h1,h2⟩:=ih2 m e
  obtain ⟨m1,h3,h4⟩:=ih1 m2 h2
  exact ⟨m1,h3.trans h1,h4⟩
section
variable {K:PySem.W.Frag} {μ:List Nat}
def dw:List D→Option (List Str)
 | []=>some []
 | .tup (.str z::_)::ds=>(dw ds).map (z::·)
 | _::_=>none
theorem sw {F:Hp}:∀ {L:List ((Addr×Str×List V)×D)},(∀ r ∈ L,Den K F (.ref r.1.1) r.2)→Dens K F (L.map fun r=>.ref r.1.1) (L.map (·.2))
 | [],_=>.nil
 | r::L,h=>.cons (h r (List.mem_cons_self ..)) (sw fun r hr=>h r (List.mem_cons_of_mem _ hr))
def xW (P:Program)(w:World)(K:PySem.W.Frag):List V→Hp→VK→Prop:=fun xs H Q=>xU P w K xs H Q∨xV K xs H Q
theorem vB {X:Cx}(P:Program)(w:World)(K:PySem.W.Frag)(hc:X.calm=true)(hP:X.prog=P)(hw:X.w=w)(h:X.K=K):BCall X (.builtin "sorted") (xW P w K):=by subst h hP hw; exact ⟨((lY hc).or (mn hc)).or ms⟩
@[irreducible] def FD:List D→(OV→Prop)→Prop
 | [.lst ds],P=>(match eT ds with
  | some zs=>zs.length < 64∧P (.fl ((ml zs).map .str))
  | none=>(match dw ds with
   | some zs=>(zs.Nodup∧zs.length < 64)∧∀ ds':List D,ds'.Perm ds→P (.fl ds')
   | none=>False))
 | [.dct ks _],P=>(match nz ks with
  | some zs=>zs.length < 64∧P (.fl ((ml zs).map .str))
  | none=>False)
 | _,_=>False
theorem nE {P:Program}{w:World}{te:TE}{fe:FE}(he:EF K μ te fe):EF K μ (tCB (xW P w K) (fT (tCB (Eb P w K) (fT te m5)) m5)) (kU fe):=⟨by
 intro F Z H τ σ ρ A Q Pq vw R h q
 have:=(qb (P:=P) (w:=w) he).h vw R h q
 refine he.h vw R h fun r ρ1 v F1 H1 A1 B1 h1 s1 R1 v1 f1=>?_
 obtain ⟨d,e1,h2⟩:=dq h1
 split at h2
 ·split at h2
  ·rename_i zs hz
   obtain ⟨p,ys,rfl,a1,a2⟩:=(R1.acc v1 e1).asL R1.fh
   rw [fm hz] at a2
   rw [a2.strs_eq] at a1
   refine ⟨p,zs,rfl,a1,h2.1.1,fun l τs hl hm hn _=>?_⟩
   refine .inl (.inl ⟨l,τs,rfl,.inl bB,?_,fun l2 ss hl2 hp hs=>?_⟩)
   ·have hp:τs.Perm (kT zs):=gf hn (gM zs) fun k=>(hm k).trans iq.symm
    rw [hp.length_eq]; exact h2.1.2
   ·have e:ss=kT zs:=ja (hp.nodup_iff.mpr hn) (fun k=>(hp.mem_iff).trans (hm k)) (eR ss hs)
    subst e
    have pu:=(Pure.new (o:=CF P w l τs) R1.fh hl).trans (Pure.new (p:=l2) (o:=.lst ((kT zs).map .str)) (R1.fh.trans (dh hl)) hl2)
    have hl2':H1 l2=none:=(dh hl).free hl2
    exact R1.after (P:=fun o=>Pq (.ov o) ρ1) (fun o v F3 H3 B p s3 R3 ow fr=>q _ _ _ _ _ _ _ p (s1.trans s3) R3 ow fr) _ _ F1 _ [l2] h2.2 pu (.fl bB (Dens.strs _)) (New.one hl2' (R1.fh.free hl2'))
  ·exact h2.elim
 ·exact h2.elim⟩
def FF (K:PySem.W.Frag)(ta tb:TE):TE:=fun σ H Q=>ta σ H fun x H1=>∃ k,EE K x H1 k∧if k=true then Q x H1 else tb σ H1 Q
theorem Dc {X:Cx}{a b:Expr}{rest:List Expr}{ta tb:TE}{pos:Pos}(K:PySem.W.Frag)(ha:BE X a ta)(hb:BE X (.BoolOp .Or (b::rest) pos) tb)(hK:X.K=K):BE X (.BoolOp .Or (a::b::rest) pos) (FF K ta tb):=by
 subst hK
 refine ⟨fun pins s σ H Q I h=>?_⟩
 refine BoolOp_or (thn (ha.h pins s σ H _ I h) fun v s1 ⟨x,H1,I1,r1,k,e,q1⟩=>?_)
 refine thn (BY pins s1 σ H1 x v (fun b H'=>b=k∧H'=H1) I1 r1 ⟨k,e,rfl,rfl⟩) fun c s2 ⟨H2,I2,ec,eh⟩=>?_
 subst ec eh
 cases c with
 | false=>exact hb.h pins s2 σ H2 Q I2 q1
 | true=>exact ⟨x,H2,I2,r1,q1⟩
def FH (fa fb:FE):FE:=fun ρ Q=>fa ρ fun r ρ1=>on1 ρ1 r fun d=>match xL d with
 | some k=>br k (Q r ρ1) (fb ρ1 Q)
 | none=>False
theorem Dd {ta tb:TE}{fa fb:FE}(ha:EF K μ ta fa)(hb:EF K μ tb fb):EF K μ (FF K ta tb) (FH fa fb):=⟨by
 intro F Z H τ σ ρ A Q P vw R h q
 refine ha.h vw R h fun r1 ρ1 x F1 H1 A1 B1 h1 s1 R1 v1 f1=>?_
 obtain ⟨d,e1,h2⟩:=dq h1
 split at h2
 ·rename_i k hk
  refine ⟨k,zt R1.fh (R1.acc v1 e1) hk,?_⟩
  cases k with
  | true=>exact q _ _ _ _ _ _ _ (qB h2) s1 R1 v1 f1
  | false=>exact hb.h vw R1 (qC h2) fun r2 ρ2 y F2 H2 A2 B2 h2 s2=>q _ _ _ _ _ _ _ h2 (s1.trans s2)
 ·exact h2.elim⟩
def nF (fo fe:FE):FE:=fun ρ Q=>fo ρ fun r ρ1=>on1 ρ1 r fun d=>match d with
 | .str z=>fe ρ1 fun r2 ρ2=>on1 ρ2 r2 fun d2=>(match d2 with
  | .lst ds=>(match eT ds with
   | some zs=>(zs.map (·.length)).sum+zs.length * z.length≤16777216∧Q (.ov (.fz (.str (Builtin.Str.glued z zs)))) ρ2
   | none=>False)
  | _=>False)
 | _=>False
theorem gO {to te:TE}{fo fe:FE}(ho:EF K μ to fo)(he:EF K μ te fe):EF K μ (tBM K "str" (vb K) to (fT te m5)) (nF fo fe):=⟨by
 intro F Z H τ σ ρ A Q P vw R h q
 refine ho.h vw R h fun r1 ρ1 x F1 H1 A1 B1 h1 s1 R1 v1 f1=>?_
 obtain ⟨d,e1,h2⟩:=dq h1
 split at h2
 ·rename_i z
  have ex:=(R1.acc v1 e1).str_eq
  subst ex
  refine ⟨rfl,he.h vw R1 h2 fun r2 ρ2 y F2 H2 A2 B2 h3 s2 R2 v2 f2=>?_⟩
  obtain ⟨d2,e2,h4⟩:=dq h3
  split at h4
  ·split at h4
   ·rename_i zs hz
    obtain ⟨p,ys,rfl,a1,a2⟩:=(R2.acc v2 e2).asL R2.fh
    rw [fm hz] at a2
    rw [a2.strs_eq] at a1
    exact ⟨z,p,zs,rfl,rfl,a1,h4.1,q _ _ _ _ _ _ [] h4.2 (s1.trans s2) R2 (.fz (.str _)) Fresh.nil⟩
   ·exact h4.elim
  ·exact h4.elim
 ·exact h2.elim⟩
end
end L2
namespace L2
open PySem PySem.Spec PyProof.Rows
section
variable {K:PySem.W.Frag}
theorem ef_v {n j:Nat}(h:j < n):EF K (List.range n) (qz j) (ao j):=cL (by simp [h])
theorem av {n j:Nat}(h:autoParam (j<n) L2.aD._auto_1):EF K (List.range n) (qz j) (ao j):=ef_v h
theorem cV {n j:Nat}(h:j < n):GF K (List.range n) [j] (ic j) (ax j):=dt (by simp [h]) List.nodup_range
theorem zG {n j:Nat}{te:TE}{fe:FE}(h:j < n)(he:EF K (List.range n) te fe):EF K (List.range n) (tBM K "list" kz (qz j) (fT te m5)) (EY j fe):=CT (by simp [h]) he
theorem dc {ixs:List Nat}{n:Nat}(h:ixs.all (fun j=>decide (j < n))=true):∀ j ∈ ixs,j < (List.range n).length:=fun j hj=>by
 rw [List.length_range]; exact of_decide_eq_true (List.all_eq_true.mp h j hj)
theorem ap {m T:List Nat}(h:(m.all fun i=>!T.contains i)=true):∀ i ∈ m,i ∉ T:=fun i hi hT=>by
 have:=List.all_eq_true.mp h i hi
 simp [hT] at this
theorem ii {T:List Nat}{no:Nat}(h:(T.all fun i=>decide (i < no))=true):∀ i ∈ T,i < no:=fun i hi=>of_decide_eq_true (List.all_eq_true.mp h i hi)
theorem Fun.okG {P:Program}{w:World}{mg:Str→Option Value}{base:Heap}{x qual:Str}{st:Stmt}{f:Addr}{fd:FuncData}{N ps:List Str}{k:Nat}{c:Ct}{fs:FS}(n:Nat)(m:List Nat)(F:Fun K x qual st f fd)(S:FnScope N ps (ai st))(hn:N.length=n)
  (hN:ps.length≤n) (hlen:∀ os P,c os P→os.length=ps.length∧∀ j o,os[j]?=some o→j ∉ m→cY o=true) (hm:∀ i ∈ m,i < ps.length)
  (hbody:∀ (cdv:Value) (A:Around) (outer:List Env) (s:Shared) (H:Hp) (E:XK),Room k (A.deeper (envOfC qual (ai st) s.heap.objs.size f cdv)) →
   ∃ t,BSs (fF CX0 P w K mg base N qual (ai st) f cdv A outer s H E).nox (aY st) t∧SF K n m t fs)
  (hc:∀ os P,c os P→fs { nx:=fin m os P (.fz .non),rt:=fin m os P } (aK n os)):FnOk P w K mg base CX0 (k+1) f fd ps (spM K c):=by
 subst hn
 exact Fun.okF F S hN hlen hm hbody hc
end
end L2
set_option maxHeartbeats 4000000
namespace L2
open PySem PySem.Spec PyProof.Rows
theorem dz {fg:FG}{ft:FT}{fe:FE}{P:List D→FSt→Prop}{ds as0:List D}{ρ:FSt}(I:Nat→List D→FSt→Prop)(h0:I 0 as0 ρ)
  (hs:∀ (i:Nat) (d:D) (as:List D) (ρ:FSt) (R:List D→FSt→Prop),ds[i]?=some d→I i as ρ→(∀ as' ρ',I (i+1) as' ρ'→R as' ρ') →
   fg d ρ fun ρ1=>ft ρ1 fun b ρ2=>br b (fe ρ2 fun r ρ3=>match fzR r ρ3 with
    | some (y,ρ4)=>as.length < sizeLine∧R (as++[y]) ρ4
    | none=>False) (R as ρ2))
  (hd:∀ as ρ,I ds.length as ρ→P as ρ):gw fg ft fe P ds as0 ρ:=by
 have main:∀ (k i:Nat) (as:List D) (ρ:FSt),i+k=ds.length→I i as ρ→gw fg ft fe P (ds.drop i) as ρ:=by
  intro k
  induction k with
  | zero =>
   intro i as ρ e h
   have:i=ds.length:=by nofun
   subst this
   rw [List.drop_length]
   exact sj (hd as ρ h)
  | succ k ih =>
   intro i as ρ e h
   have hi:i < ds.length:=by nofun
   rw [List.drop_eq_getElem_cons hi]
   exact p9 (hs i ds[i] as ρ _ (List.getElem?_eq_getElem hi) h fun as' ρ' h'=>ih (i+1) as' ρ' (by nofun) h')
 have:=main ds.length 0 as0 ρ (by nofun) h0
 rwa [List.drop_zero] at this
theorem gB {fg:FG}{fb:FS}{E:FEnds}{ds:List D}{ρ:FSt}(I:Nat→FSt→Prop)(h0:I 0 ρ)
  (hs:∀ (i:Nat) (d:D) (ρ:FSt) (R:FSt→Prop),ds[i]?=some d→I i ρ→(∀ ρ',I (i+1) ρ'→R ρ')→fg d ρ fun ρ1=>fb { nx:=R,ct:=R,bk:=E.nx,rt:=E.rt } ρ1)
  (hd:∀ ρ,I ds.length ρ→E.nx ρ):eL fg fb E ds ρ:=by
 have main:∀ (k i:Nat) (ρ:FSt),i+k=ds.length→I i ρ→eL fg fb E (ds.drop i) ρ:=by
  intro k
  induction k with
  | zero =>
   intro i ρ e h
   have:i=ds.length:=by nofun
   subst this
   rw [List.drop_length]
   exact si (hd ρ h)
  | succ k ih =>
   intro i ρ e h
   have hi:i < ds.length:=by nofun
   rw [List.drop_eq_getElem_cons hi]
   exact p8 (hs i ds[i] ρ _ (List.getElem?_eq_getElem hi) h fun ρ' h'=>ih (i+1) ρ' (by nofun) h')
 have:=main ds.length 0 ρ (by nofun) h0
 rwa [List.drop_zero] at this
theorem dA {lo:Int}{n i:Nat}{d:D}(h:(dE lo n)[i]?=some d):i < n∧d=.int (lo+i):=by
 unfold dE at h
 rw [List.getElem?_map,Option.map_eq_some_iff] at h
 obtain ⟨k,h1,rfl⟩:=h
 obtain ⟨h2,h3⟩:=List.getElem?_eq_some_iff.mp h1
 rw [List.getElem_range] at h3
 rw [List.length_range] at h2
 subst h3
 exact ⟨h2,rfl⟩
theorem ez {lo:Int}{n:Nat}:(dE lo n).length=n:=by simp [dE]
theorem kX {xs:List D}{i:Int}{Q:D→Prop}(h0:0≤i)(h:i < xs.length)(q:∀ d ∈ xs,Q d):match atI xs i with
  | some d=>Q d
  | none=>False:=by
 obtain ⟨c,h1,h2⟩:=xB h0 h
 rw [h1]
 exact q c h2
theorem jc {xs:List Nat}{i:Int}{Q:Nat→Prop}(h0:0≤i)(h:i < xs.length)(q:∀ d ∈ xs,Q d):match atI xs i with
  | some d=>Q d
  | none=>False:=by
 obtain ⟨c,h1,h2⟩:=xB h0 h
 rw [h1]
 exact q c h2
theorem dJ {a b:Str}:dEq (.str a) (.str b)=true↔a=b:=by
 show (a == b)=true↔_
 rw [beq_iff_eq]
theorem cA {a b:Int}:dEq (.int a) (.int b)=true↔a=b:=by
 show (a == b)=true↔_
 rw [beq_iff_eq]
theorem vC {a b:Str}:(!dEq (.str a) (.str b))=true↔a≠b:=by
 rw [Bool.not_eq_true',Bool.eq_false_iff,Ne,dJ]
theorem cN {a b:Str}:C8 (.str a) (.str b):=⟨rfl,rfl,Nat.zero_le _⟩
theorem bQ {a b:Int}:C8 (.int a) (.int b):=⟨rfl,rfl,Nat.zero_le _⟩
theorem oK {z:Str}:∀ {zs:List Str},inV (.str z) (zs.map V.str)=true↔z ∈ zs
 | []=>by simp [inV]
 | y::zs=>by
  have ih:=oK (z:=z) (zs:=zs)
  unfold inV at ih ⊢
  rw [List.map_cons,List.any_cons,Bool.or_eq_true,ih,List.mem_cons]
  have:eqV (.str y) (.str z)=true↔z=y:=by
   show (y == z)=true↔_
   rw [beq_iff_eq]; exact eq_comm
  rw [this]
theorem kY {z:Str}{zs:List Str}:inD (.str z) (zs.map D.str)=true↔z ∈ zs:=by
 unfold inD
 have:(zs.map D.str).map vOf=zs.map V.str:=by rw [List.map_map]; rfl
 rw [this]
 exact oK
theorem mv {z:Str}{zs:List Str}:C9 (zs.map Sum.inr) (.inr z)=true↔z ∈ zs:=by
 unfold C9
 rw [List.any_map,List.any_eq_true]
 constructor
 ·rintro ⟨y,h1,h2⟩
  have:=of_decide_eq_true h2
  cases this
  exact h1
 ·intro h
  exact ⟨z,h,by simp⟩
theorem fu {zs:List Str}{Q:List Str→Prop}(q:Q zs):match eT (zs.map .str) with
  | some zs=>Q zs
  | none=>False:=by
 rw [j3]; exact q
theorem j6 {bs:List Bool}{Q:List Bool→Prop}(q:Q bs):match kQ (bs.map .bl) with
  | some zs=>Q zs
  | none=>False:=by
 rw [mo]; exact q
theorem sx {zs:List Str}{ds:List D}{z:Str}{d:D}:(xO (zs.map Sum.inr) ds (.inr z) d).1=(KS.dedup1 zs z).map Sum.inr:=by
 unfold xO KS.dedup1
 by_cases h:z ∈ zs
 ·have e:((zs.map Sum.inr).any fun x=>decide (x=(Sum.inr z:Key)))=true:=mv.mpr h
  rw [if_pos e,if_pos h]
 ·have e:¬ ((zs.map Sum.inr).any fun x=>decide (x=(Sum.inr z:Key)))=true:=fun q=>h (mv.mp q)
  rw [if_neg e,if_neg h,List.map_append]; rfl
theorem sy (zs:List Str):(zs.map Sum.inr).map Eg=zs.map D.str:=by rw [List.map_map]; rfl
theorem mw:∀ (zs acc:List Str),(zs.foldl (fun acc z=>KS.dedup1 acc z) acc).length≤acc.length+zs.length
 | [],acc=>by simp
 | z::zs,acc=>by
  rw [List.foldl_cons,List.length_cons]
  have:=mw zs (KS.dedup1 acc z)
  have:=(jV acc z).2.1
  nofun
theorem vD (zs:List Str):(kT zs).length≤zs.length:=by
 rw [kT,(fI _).length_eq]
 have:=mw zs []
 simpa [mq] using this
theorem vE {α:Type}(xs:List α)(a b:Nat):dP xs (some (a:Int)) (some (b:Int))=(xs.drop (min a xs.length)).take (min b xs.length - min a xs.length):=by
 unfold dP
 rw [HT.sIx_nat,HT.sIx_nat]
theorem zH {x:D}{r:List D}{Q:D→Prop}(q:Q x):match atI (x::r) 0 with
  | some d=>Q d
  | none=>False:=by
 rw [EV]; exact q
end L2
set_option maxHeartbeats 4000000
namespace KS
open PySem PySem.Spec PyProof.Rows
open PySem.W
section
variable {prog:Program} {w:World} {K:Type} [DecidableEq K] {knd:KeyKind prog w K} {A:Around} {E:Value→Shared→Prop} {s:Shared}
end
end KS
namespace L2
open PySem PySem.Spec PyProof.Rows
section
variable {X:Cx}
end
section
variable {K:PySem.W.Frag} {μ:List Nat}
end
end L2
set_option maxHeartbeats 4000000
namespace L2
open PySem PySem.Spec PyProof.Rows
section
variable {X:Cx}
end
section
variable {K:PySem.W.Frag} {μ:List Nat}
end
end L2
set_option maxHeartbeats 4000000
namespace L2
open PySem PySem.Spec PyProof.Rows
section
variable {X:Cx}
end
section
variable {K:PySem.W.Frag} {μ:List Nat}
end
section
variable {X:Cx}
end
section
variable {K:PySem.W.Frag} {μ:List Nat}
end
end L2
set_option maxHeartbeats 4000000
namespace L2
open PySem PySem.Spec PyProof.Rows
def kZ (fg:FG)(ft:FT)(fe:FE)(P:List D→FSt→Prop)(sl:Nat)(all:List D):List D→List D→FSt→Prop
 | [],as,ρ=>unL ρ sl=some all∧P as ρ
 | d::ds,as,ρ=>unL ρ sl=some all∧fg d ρ fun ρ1=>ft ρ1 fun b ρ2=>br b (fe ρ2 fun r ρ3=>match fzR r ρ3 with
  | some (y,ρ4)=>as.length < sizeLine∧kZ fg ft fe P sl all ds (as++[y]) ρ4
  | none=>False) (kZ fg ft fe P sl all ds as ρ2)
@[irreducible] def fv (fg:FG)(ft:FT)(fe:FE)(P:List D→FSt→Prop)(sl:Nat)(all ds as:List D)(ρ:FSt):Prop:=kZ fg ft fe P sl all ds as ρ
theorem jd (fg:FG)(ft:FT)(fe:FE)(P:List D→FSt→Prop)(sl:Nat)(all ds:List D):fv fg ft fe P sl all ds=kZ fg ft fe P sl all ds:=by funext as ρ; unfold fv; rfl
theorem j7 (fg:FG)(ft:FT)(fe:FE)(P:List D→FSt→Prop)(sl:Nat)(all as:List D)(ρ:FSt):fv fg ft fe P sl all [] as ρ=(unL ρ sl=some all∧P as ρ):=by rw [jd]; rfl
theorem j8 (fg:FG)(ft:FT)(fe:FE)(P:List D→FSt→Prop)(sl:Nat)(all:List D)(d:D)(ds as:List D)(ρ:FSt):fv fg ft fe P sl all (d::ds) as ρ=(unL ρ sl=some all∧fg d ρ fun ρ1=>ft ρ1 fun b ρ2=>br b (fe ρ2 fun r ρ3=>match fzR r ρ3 with
  | some (y,ρ4)=>as.length < sizeLine∧fv fg ft fe P sl all ds (as++[y]) ρ4
  | none=>False) (fv fg ft fe P sl all ds as ρ2)):=by rw [jd,jd]; rfl
def oM (no i:Nat)(fg:FG)(ft:FT)(fe:FE):FE:=fun ρ Q=>match unL ρ i with
 | some ds=>jH (List.replicate no none++ρ) (fv fg ft fe (fun as ρ'=>Q (.ov (.fl as)) (ρ'.drop no)) (no+i) ds ds [])
 | none=>False
section
variable {K:PySem.W.Frag} {μ:List Nat}
theorem vF {no:Nat}{ixs:List Nat}{i0 j0:Nat}{g:TG}{fg:FG}{T:List Nat}{tc:TT}{fc:FT}{te:TE}{fe:FE}(hj0:μ[j0]?=some i0)(hix:∀ j ∈ ixs,j < μ.length)(hg:GF K (muC no ixs μ) T g fg)(hT:∀ i ∈ T,i < no)
  (hc:TF K (muC no ixs μ) tc fc) (he:EF K (muC no ixs μ) te fe):EF K μ (ie no ixs (pE K (qz j0)) g tc te) (oM no i0 fg fc fe):=⟨by
 intro F Z H τ σ ρ A Q P vw R h q
 unfold oM at h
 split at h
 case h_2=>exact h.elim
 rename_i ds e0
 obtain ⟨a0,xs0,g1,g2,g3,_⟩:=R.mutL e0
 refine ⟨.ref a0,(vw j0 i0 hj0).1.trans g1,a0,rfl,⟨xs0,SqL.of g2⟩,?_⟩
 have h1:=h
 rw [dL] at h1
 have R1:=R
 have s1:Same F F:=Same.refl _
 have own:∀ {F' H' σ' ρ' A'},Rel K F' Z H' σ' ρ' A'→(∀ i,no≤i→σ'[i]?=(List.replicate no none++σ)[i]?)→unL ρ' (no+i0)=some ds→∃ xs,H' a0=some (.lst xs)∧Dens K F' xs ds:=by
  intro F' H' σ' ρ' A' R' k e
  obtain ⟨b,ys,q1,q2,q3,_⟩:=R'.mutL e
  rw [k (no+i0) (by nofun),List.getElem?_append_right (by simp),List.length_replicate,Nat.add_sub_cancel_left,g1] at q1
  cases q1
  exact ⟨ys,q2,q3⟩
 intro a ha
 have hF1:F a=none:=R1.fh.free ha
 have hZ1:Z a=none:=R1.zh.free ha
 have hA1:a ∉ A:=fun z=>by
  obtain ⟨u,hu⟩:=R1.sl.live a z
  rw [ha] at hu; cases hu
 have R1':Rel K F Z (upd H a (.lst [])) (List.replicate no none++σ) (List.replicate no none++ρ) A:=by
  have:=R1.write (o:=.lst []) hA1 hF1 hZ1
  exact ⟨this.sl.none_app no,this.nd,this.fr,this.fh,this.zh,this.dj⟩
 have hfin:∀ F' H' σ' ρ' A' acc as,Same F F'→Rel K F' Z H' σ' ρ' A'→(∀ i,no≤i→σ'[i]?=(List.replicate no none++σ)[i]?)→H' a=some (.lst acc)→F' a=none→a ∉ A'→Dens K F' acc as→P (.ov (.fl as)) (ρ'.drop no)→Q (.ref a) H':=by
  intro F' H' σ' ρ' A' acc as s' R' k ha' hF' hA' dn p
  obtain ⟨A2,B2,e2,sl2⟩:=R'.sl.dropN no
  have es:σ'.drop no=σ:=by
   apply List.ext_getElem?
   intro i
   rw [List.getElem?_drop,k (no+i) (by nofun),List.getElem?_append_right (by simp),List.length_replicate,Nat.add_sub_cancel_left]
  rw [es] at sl2
  have m2:∀ b ∈ A2,b ∈ A':=fun b hb=>by rw [e2]; exact List.mem_append.mpr (.inr hb)
  have R2:Rel K F' Z H' σ (ρ'.drop no) A2:=⟨sl2,by have:=R'.nd; rw [e2,List.nodup_append] at this; exact this.2.1,fun b hb=>R'.fr b (m2 b hb),R'.fh,R'.zh,R'.dj⟩
  exact q _ _ _ _ _ _ [a] p (s1.trans s') R2 (.fl ha' dn) ⟨by simp,fun b hb=>by
   have:b=a:=by first|exact List.mem_singleton.mp hb|simpa using hb
   subst this
   exact ⟨hF',hZ1,fun z=>hA' (m2 _ z)⟩⟩
 refine ⟨fun i k acc τ' H'=>k=ds.length - i∧i≤ds.length∧∃ F' ρ' A' σ' as,Same F F'∧Rel K F' Z H' σ' ρ' A'∧View (muC no ixs μ) τ' σ'∧(∀ i,no≤i→σ'[i]?=(List.replicate no none++σ)[i]?)∧H' a=some (.lst acc)∧F' a=none∧a ∉ A'∧Dens K F' acc as ∧
   fv fg fc fe (fun as ρ'=>P (.ov (.fl as)) (ρ'.drop no)) (no+i0) ds (ds.drop i) as ρ',
  ⟨_,rfl,Nat.zero_le _,F,_,A,_,[],Same.refl _,R1',i4 vw hix,fun _ _=>rfl,bB,hF1,hA1,.nil,by rw [List.drop_zero]; exact h1⟩,?_⟩
 rintro i k acc τ' H' ⟨rfl,hle,F',ρ',A',σ',as,s',R',vw',kp,hD,hFD,hAD,dn,h'⟩
 by_cases hlt:i < ds.length
 ·rw [List.drop_eq_getElem_cons hlt,j8] at h'
  obtain ⟨hu,h'⟩:=h'
  obtain ⟨ys,hy1,hy2⟩:=own R' kp hu
  refine .inr ⟨(by
   obtain ⟨y,z1,z2⟩:=hy2.get (List.getElem?_eq_getElem hlt)
   exact ⟨ys,y,SqL.of hy1,z1⟩),fun acc τ' H'=>∃ F' ρ' A' σ' as,Same F F'∧Rel K F' Z H' σ' ρ' A'∧View (muC no ixs μ) τ' σ'∧(∀ i,no≤i→σ'[i]?=(List.replicate no none++σ)[i]?)∧H' a=some (.lst acc)∧F' a=none∧a ∉ A'∧Dens K F' acc as ∧
   fv fg fc fe (fun as ρ'=>P (.ov (.fl as)) (ρ'.drop no)) (no+i0) ds (ds.drop (i+1)) as ρ',fun acc' σ2 H2 z=>⟨_,by nofun,rfl,hlt,z⟩,fun x H2 y=>?_⟩
  obtain ⟨rfl,y⟩:=y
  obtain ⟨d,hd,dx⟩:=hy2.get' (y ys (SqL.of hy1))
  rw [List.getElem?_eq_getElem hlt] at hd
  cases hd
  refine hg.h vw' R' dx h' fun τ2 σ2 ρ2 A2 p2 vw2 R2 k2 kl2 _ m2=>?_
  have kp2:∀ i,no≤i→σ2[i]?=(List.replicate no none++σ)[i]?:=fun i hi=>by
   rw [k2 i fun z=>by have:=hT i z; nofun]; exact kp i hi
  have fD:Fresh F' Z A2 [a]:=⟨by simp,fun b hb=>by
   have:b=a:=by first|exact List.mem_singleton.mp hb|simpa using hb
   subst this
   exact ⟨hFD,hZ1,fun z=>hAD (m2 _ z)⟩⟩
  obtain ⟨Z',sz,R2',zl,back⟩:=R2.hold (B:=[a]) (fun b hb=>by
   have:b=a:=by first|exact List.mem_singleton.mp hb|simpa using hb
   subst this
   exact ⟨_,hD⟩) fD
  refine hc.h vw2 R2' p2 fun b ρ3 F3 H3 A3 p3 s3 R3=>?_
  cases b with
  | false =>
   replace p3:=qC p3
   rw [if_neg Bool.false_ne_true]
   obtain ⟨R3',f3,k3⟩:=back _ _ _ _ s3 R3
   have fa:=f3.fr a (by simp)
   exact ⟨F3,ρ3,A3,σ2,as,s'.trans s3,R3',vw2,kp2,k3 a _ (by simp) hD,fa.1,fa.2.2,dn.mono s3,p3⟩
  | true =>
   replace p3:=qB p3
   rw [if_pos rfl]
   refine he.h vw2 R3 p3 fun r ρ4 v F4 H4 A4 B4 p4 s4 R4 v4 f4=>?_
   split at p4
   ·rename_i y ρ5 e5
    obtain ⟨F5,A5,s5,R5,dy,_,_⟩:=R4.frz v4 f4 e5
    obtain ⟨R5',f5,k5⟩:=back _ _ _ _ ((s3.trans s4).trans s5) R5
    have fa:=f5.fr a (by simp)
    refine ⟨k5 a _ (by simp) hD,by rw [dn.length]; exact p4.1,F5,ρ5,A5,σ2,as++[y],((s'.trans s3).trans s4).trans s5,R5'.write fa.2.2 fa.1 hZ1,vw2,kp2,bB,fa.1,fa.2.2,(dn.mono ((s3.trans s4).trans s5)).snoc dy,p4.2⟩
   ·exact p4.elim
 ·have e:i=ds.length:=by nofun
  subst e
  rw [List.drop_length,j7] at h'
  obtain ⟨hu,h'⟩:=h'
  obtain ⟨ys,hy1,hy2⟩:=own R' kp hu
  exact .inl ⟨⟨ys,SqL.of hy1,by rw [hy2.length]; exact Nat.le_refl _⟩,hfin _ _ _ _ _ _ _ s' R' kp hD hFD hAD dn h'⟩⟩
theorem sA {n no:Nat}{ixs:List Nat}{j:Nat}{g:TG}{fg:FG}{T:List Nat}{tc:TT}{fc:FT}{te:TE}{fe:FE}(h:j < n)(hix:∀ j ∈ ixs,j < (List.range n).length)(hg:GF K (muC no ixs (List.range n)) T g fg)(hT:∀ i ∈ T,i < no)
  (hc:TF K (muC no ixs (List.range n)) tc fc) (he:EF K (muC no ixs (List.range n)) te fe):EF K (List.range n) (ie no ixs (pE K (qz j)) g tc te) (oM no j fg fc fe):=vF (by simp [h]) hix hg hT hc he
theorem sB {fg:FG}{ft:FT}{fe:FE}{P:List D→FSt→Prop}{sl:Nat}{all as0:List D}{ρ:FSt}(I:Nat→List D→FSt→Prop)(hu:∀ i as ρ,I i as ρ→unL ρ sl=some all)(h0:I 0 as0 ρ)
  (hs:∀ (i:Nat) (d:D) (as:List D) (ρ:FSt) (R:List D→FSt→Prop),all[i]?=some d→I i as ρ→(∀ as' ρ',I (i+1) as' ρ'→R as' ρ') →
   fg d ρ fun ρ1=>ft ρ1 fun b ρ2=>br b (fe ρ2 fun r ρ3=>match fzR r ρ3 with
    | some (y,ρ4)=>as.length < sizeLine∧R (as++[y]) ρ4
    | none=>False) (R as ρ2))
  (hd:∀ as ρ,I all.length as ρ→P as ρ):fv fg ft fe P sl all all as0 ρ:=by
 have main:∀ (k i:Nat) (as:List D) (ρ:FSt),i+k=all.length→I i as ρ→fv fg ft fe P sl all (all.drop i) as ρ:=by
  intro k
  induction k with
  | zero =>
   intro i as ρ e h
   have:i=all.length:=by nofun
   subst this
   rw [List.drop_length,j7]
   exact ⟨hu _ _ _ h,hd as ρ h⟩
  | succ k ih =>
   intro i as ρ e h
   have hi:i < all.length:=by nofun
   rw [List.drop_eq_getElem_cons hi,j8]
   exact ⟨hu _ _ _ h,hs i all[i] as ρ _ (List.getElem?_eq_getElem hi) h fun as' ρ' h'=>ih (i+1) as' ρ' (by nofun) h'⟩
 have:=main all.length 0 as0 ρ (by nofun) h0
 rwa [List.drop_zero] at this
end
end L2
set_option maxHeartbeats 4000000
namespace L2
open PySem PySem.Spec PyProof.Rows
section
variable {X:Cx}
end
section
variable {K:PySem.W.Frag}
end
end L2
namespace L2
open PySem PySem.Spec PyProof.Rows
section
variable {X:Cx}
end
section
variable {K:PySem.W.Frag}
end
end L2
set_option maxHeartbeats 4000000
namespace L2
open PySem PySem.Spec PyProof.Rows
section
variable {X:Cx} {pins:List (Addr×Obj)} {σ:St} {H:Hp} {s:Shared} {tg:Expr}
end
def fzo:Option OV→Option OV
 | some (.fz d)=>some (.fz d)
 | _=>none
section
variable {K:PySem.W.Frag} {μ:List Nat}
end
theorem ir {X:Cx}{st:Stmt}:BS X st qG:=⟨uT⟩
def mx:FS:=fun _ _=>False
theorem iu {K:PySem.W.Frag}{n:Nat}{m:List Nat}:SF K n m qG mx:=⟨fun _ _ _ h=>h.elim⟩
theorem nG {c:FT}{f g:FS}{E:FEnds}{ρ:FSt}(I:FSt→Prop)(rest:∀ ρ,I ρ→E.nx ρ)(h:(∀ ρ,I ρ→E.nx ρ)→c ρ fun b ρ1=>br b (f E ρ1) (g E ρ1)):fIf c f g E ρ:=cQ (h rest)
section
variable {K:PySem.W.Frag} {μ:List Nat}
end
end L2
set_option maxHeartbeats 4000000
namespace L2
open PySem PySem.Spec PyProof.Rows PyProof.Rows
abbrev bmV:List Value:=[.type "ValueError", .type "Exception", .type "BaseException", .type "object"]
def gP (K:PySem.W.Frag)(C:Addr):Prop:=PySem.W.excIn K C bmV "ValueError.__new__" = true
def exP (f:Addr→List Value→Option Value→Option Value→Option Value→Option Value→String→Option Value→Bool)(m:List Value)(sl:List (Option Value)):Prop:=∃ C bm a0 a1 a2 a3 n a5,m=.ref C::bm∧sl=[a0,a1,a2,a3,some (.builtin n),a5]∧f C bm a0 a1 a2 a3 n a5=true
def exQ (f:Option Addr→ClassData→Array (Option Value)→Bool)(o:Option Obj):Prop:=∃ dd cd sl,o=some ⟨.type "type", dd,.cls cd,sl⟩∧f dd cd sl=true
theorem De {m:List Value}{sl:List (Option Value)}{f:Addr→List Value→Option Value→Option Value→Option Value→Option Value→String→Option Value→Bool}(q:PySem.W.excIn.match_1 (fun _ _=>Bool) m sl f (fun _ _=>false)=true):exP f m sl:=by
 obtain _ | ⟨v,bm⟩:=m
 ·exact (Bool.false_ne_true q).elim
 cases v
 case ref C =>
  obtain _ | ⟨a0,sl⟩:=sl
  ·exact (Bool.false_ne_true q).elim
  obtain _ | ⟨a1,sl⟩:=sl
  ·exact (Bool.false_ne_true q).elim
  obtain _ | ⟨a2,sl⟩:=sl
  ·exact (Bool.false_ne_true q).elim
  obtain _ | ⟨a3,sl⟩:=sl
  ·exact (Bool.false_ne_true q).elim
  obtain _ | ⟨a4,sl⟩:=sl
  ·exact (Bool.false_ne_true q).elim
  obtain _ | a4:=a4
  ·exact (Bool.false_ne_true q).elim
  cases a4
  case builtin n =>
   obtain _ | ⟨a5,sl⟩:=sl
   ·exact (Bool.false_ne_true q).elim
   obtain _ | _:=sl
   ·exact ⟨_,_,_,_,_,_,_,_,rfl,rfl,q⟩
   ·exact (Bool.false_ne_true q).elim
  all_goals exact (Bool.false_ne_true q).elim
 all_goals exact (Bool.false_ne_true q).elim
theorem Df {o:Option Obj}{f:Option Addr→ClassData→Array (Option Value)→Bool}(q:PySem.W.excIn.match_6 (fun _=>Bool) o f (fun _=>false)=true):exQ f o:=by
 obtain _ | ⟨c,dd,data,sl⟩:=o
 ·exact (Bool.false_ne_true q).elim
 cases c
 case type t =>
  by_cases ht:t = "type"
  ·subst ht
   cases data
   case cls cd=>exact ⟨_,_,_,rfl,q⟩
   all_goals exact (Bool.false_ne_true q).elim
  ·unfold PySem.W.excIn.match_6 at q
   change dite (t = "type") _ _=true at q
   rw [dif_neg ht] at q
   exact (Bool.false_ne_true q).elim
 all_goals exact (Bool.false_ne_true q).elim
theorem Dg {dd:Option Addr}{cd:ClassData}{sl:Array (Option Value)}{C:Addr}{bm:List Value}{a0 a1 a2 a3 a5:Option Value}{n:String}(e1:cd.mro=.ref C::bm)(e2:sl.toList=[a0,a1,a2,a3,some (.builtin n),a5])(e3:cd.hasDel=false) :
  (⟨.type "type", dd,.cls cd,sl⟩:Obj)=excClassObj cd.name cd.qualname C cd.ns cd.bases bm cd.hasDict cd.slotNames cd.subclasses cd.abstract cd.collection dd a0 a1 a2 a3 a5 n:=by
 cases cd; cases sl; cases e1; cases e2; cases e3; rfl
theorem zI {K:PySem.W.Frag}{h:Heap}{C:Addr}(X:K.In h)(q:gP K C):∃ (bm:List Value) (N:Addr) (nm qn:Str) (bs:List Value) (hd:Bool) (sn:List Str) (sub:List Value) (ab:Bool) (col:Option Bool) (dd:Option Addr) (k0 k1 k2 k3 k5:Option Value) (mN:Str→Option Value),
  h.get? C=some (excClassObj nm qn C N bs bm hd sn sub ab col dd k0 k1 k2 k3 k5 "ValueError.__new__")∧h.Ns N mN∧mN "__init__" = none∧OwnTail h bmV bm:=by
 obtain ⟨dd,cd,sl,lk,q⟩:=Df q
 obtain ⟨C2,bm,a0,a1,a2,a3,n,a5,e1,e2,q⟩:=De q
 have w1:=Bool.and_eq_true_iff.mp q
 have w2:=Bool.and_eq_true_iff.mp w1.1
 have w3:=Bool.and_eq_true_iff.mp w2.1
 have w4:=Bool.and_eq_true_iff.mp w3.1
 have w5:=Bool.and_eq_true_iff.mp w4.1
 have f1:C2=C:=eq_of_beq w5.1
 have f2:n = "ValueError.__new__" := eq_of_beq w5.2
 exact ⟨_,_,_,_,_,_,_,_,_,_,_,_,_,_,_,_,_,X _ _ (lk.trans (congrArg some (Dg (f1 ▸ e1) (f2 ▸ e2) ((Bool.not_eq_true' _).mp w4.2)))),.of_isNs (PySem.W.isNs_of_in X w2.2),PySem.W.nsMap_none_of_in X w2.2 (eq_of_beq w1.2),PySem.W.tail_of_in X w3.2⟩
def CXr (P:Program)(w:World):CXT:=fun outer H s E e s'=>∃ (ea C:Addr) (a0:Value) (B:Heap) (H':Hp),e=.ref ea∧Heap.FlyingW B outer ea (.ref C) a0 s'.heap∧HOk P w H' B∧Same H H' ∧
 (∀ b o,s.heap.get? b=some o→H b=none→b ∉ frs outer→B.get? b=some o)∧(∀ b o,s.heap.get? b=some o→H b=none→H' b=none)∧(∀ b ∈ frs outer,∀ o,s.heap.get? b=some o→∃ sl,s'.heap.get? b=some { o with slots:=sl }) ∧
 s'.os=s.os∧AllBare s'.gens∧H' ea=none∧s.heap.get? ea=none∧E (.ref C) none H'
theorem je {P:Program}{w:World}{H:Hp}{h:Heap}{a:Addr}{o:HO}(x:ObjOk P w H h a o):∃ u,h.get? a=some u:=by
 cases o with
 | lst xs=>obtain ⟨_,_,_,_,e⟩:=x; exact ⟨_,e⟩
 | tup xs=>obtain ⟨_,_,_,⟨_,e,_⟩⟩:=x; exact ⟨_,e⟩
 | dK kvs=>obtain ⟨_,_,_,_,o,_,_,e,_⟩:=x; exact ⟨_,e⟩
 | dT kvs=>obtain ⟨_,_,_,_,o,_,_,e,_⟩:=x; exact ⟨_,e⟩
 | set S n=>obtain ⟨o,_,_,_,e,_⟩:=x; exact ⟨_,e⟩
 | ins C dx fs=>obtain ⟨_,_,_,e,_⟩:=x; exact ⟨_,e⟩
 | own y=>exact x
 | xd fs=>obtain ⟨_,⟨_,_,_,e,_⟩,_⟩:=x; exact ⟨_,e⟩
 | rng lo hi=>obtain ⟨_,_,_,e⟩:=x; exact ⟨_,e⟩
 | frz ob u=>obtain ⟨e,_⟩:=x; exact ⟨_,e⟩
 | tbl ps=>exact ⟨_,(show h.get? a=some _ from x)⟩
 | met f y=>exact ⟨_,(show h.get? a=some _ from x)⟩
 | ext φ=>obtain ⟨_,e,_⟩:=x; exact e
section
variable {X:Cx} {pins:List (Addr×Obj)} {σ:St} {H:Hp} {s:Shared}
theorem vG {x:Str}{C:Addr}{e:Expr}{np cpos pos:Pos}{te:TE}(G:Hp→Prop)(hc:X.calm=true)(hm:X.mg x=some (.ref C))(hx:gP X.K C)(he:PE X e te)
  (hE:∀ pins σ H s h' ea args,Inv X pins σ H s→G H→Heap.MadeExcOf s.heap h' ea (.ref C) args→X.xe (.ref ea) { s with heap:=h' })
  (hg:autoParam (Gl X x) L2.aR._auto_1) (hdb:autoParam ((x == ("__debug__" : Str))=false) L2.aD._auto_1) (hs:autoParam (starEach [e] X.env=[(false,eval e X.env)]) L2.aR._auto_1) :
  PS X (.Raise (some (.Call (.Name x np) [e] [] cpos)) none pos) (fun _ σ H=>te σ H fun x H'=>[x].length=1∧G H'):=by
 intro pins s σ H D I h
 obtain ⟨bm,N,nm,qn,bs,hd,sn,sub,ab,col,dd,k0,k1,k2,k3,k5,mN,hC,hN,hni,T⟩:=zI I.mod.kin hx
 refine wpAny_Raise_call_subT (C:=C) (nm:=nm) (q:=qn) (N:=N) (bs:=bs) (bm:=bm) (hdct:=hd) (sn:=sn) (sub:=sub) (ab:=ab) (col:=col) (dd:=dd) (k0:=k0) (k1:=k1) (k2:=k2) (k3:=k3) (k5:=k5)
  PySem.F.excBase_ValueError (mN:=mN) (T.hasType PySem.F.excBase_ValueError.hasBase) (I.ok.hd hc) (by rw [hs]; rfl) hni (iE I hg hm ⟨rfl,?_⟩ hdb)
 have ha:PA X [e] (fT te m5):=qT he xu hs
 have hp:=ha cpos pins s σ H (fun vs H'=>vs.length=1∧G H') I h
 rw [hs] at hp ⊢
 refine Calls.evalArgs_plain (thn hp fun us s2 ⟨vs,H2,I2,r2,hl,g2⟩=>?_)
 exact ⟨rfl,by rw [← r2.length,hl]; decide,I2.bk _ _ hC,hN.keeps I2.bk,T.keeps I2.bk,fun h' ea hm'=>hE pins σ H2 s2 h' ea us I2 g2 hm'⟩
theorem jf {base h:Heap}{as:List Addr}:∀ {l:List Env},h.FunFrames base l→(∀ b ∈ frs l,b ∈ as)→h.FunFrames (PySem.W.hideAll h as) l
 | [],_,_=>trivial
 | env::r,⟨q1,⟨L,o,q2,_,q3,q4⟩,q5⟩,hin=>⟨q1,⟨L,o,q2,PySem.W.hideAll_none _ (hin L (by unfold frs; rw [List.filterMap_cons,q2]; exact List.mem_cons_self ..)),q3,q4⟩,jf q5 fun b hb=>hin b (by
  unfold frs
  rw [List.filterMap_cons,q2]
  exact List.mem_cons_of_mem _ hb)⟩
theorem oN {P:Program}{w:World}{H:Hp}{h:Heap}{as:List Addr}(x:HOk P w H h)(n:∀ b ∈ as,H b=none):HOk P w H (PySem.W.hideAll h as):=fun a o e =>
 (x a o e).stay (fun b u hb q=>PySem.W.hideAll_get _ q fun z=>by
  have hn:=n b z
  rcases hb with hb | hb
  ·rw [hb,e] at hn; cases hn
  ·rw [hb] at hn; cases hn) (fun _ q=>q) fun _ _ q=>q
theorem my {P:Program}{w:World}{K:PySem.W.Frag}{mg:Str→Option Value}{base:Heap}{N:List Str}{qual:Str}{scope:Scope}{f:Addr}{cd:Value}{A:Around}{outer:List Env}{s0 s:Shared}{H0 H:Hp}{E:XK}{C ea:Addr}{h':Heap}{args:List Value}{pins:List (Addr×Obj)}{σ:St}
  (hE:∀ H',Same H0 H'→E (.ref C) none H') (I:Inv (fF (CXr P w) P w K mg base N qual scope f cd A outer s0 H0 E) pins σ H s) (g:Same H0 H) (m:Heap.MadeExcOf s.heap h' ea (.ref C) args) :
  (fF (CXr P w) P w K mg base N qual scope f cd A outer s0 H0 E).xe (.ref ea) { s with heap:=h' }:=by
 have hfr:(A.deeper (envOfC qual scope s0.heap.objs.size f cd)).frames=some (envOfC qual scope s0.heap.objs.size f cd::outer):=I.ok.frames
 have hst:=I.stack
 have hsf:=I.stkFree
 have hbase:Un (frs outer) [] H0 H s0.heap s.heap:=I.base
 have hfunO:s0.heap.FunFrames base outer:=I.ok.funs
 have hfrf:∀ b ∈ frs outer,H0 b=none:=I.ok.frf
 show wpAny (model P w) (A.deeper (envOfC qual scope s0.heap.objs.size f cd)) (leaving (envOfC qual scope s0.heap.objs.size f cd) (.ref ea)) (fun _ s''=>CXr P w outer H0 s0 E (.ref ea) s'') (fun e' s''=>CXr P w outer H0 s0 E e' s'') { s with heap:=h' }
 have hEa:s.heap.get? ea=none:=m.new
 have hLs:s0.heap.objs.size≤(envOfC qual scope s0.heap.objs.size f cd).locals:=I.ok.above
 refine wpAny_leaves_madeW (base:=PySem.W.hideAll s.heap (frs (envOfC qual scope s0.heap.objs.size f cd::outer))) hfr rfl (fun b o q=>PySem.W.of_hideAll _ q) (jf hst fun _ q=>q) m fun h2 t fl tup tn up=>?_
 refine ⟨ea,C,.ref t,_,H,rfl,fl,oN I.hok hsf,g,fun b o q n hb=>?_,fun b o q n=>hbase.free b o q n (by simp),fun b hb o q=>?_,I.os,I.bare,?_,?_,hE H g⟩
 ·refine PySem.W.hideAll_get _ (hbase.keep b o q n hb (by simp)) fun z=>?_
  unfold frs at z
  rw [List.filterMap_cons] at z
  rcases List.mem_cons.mp z with e | e
  ·have hlt:=Heap.lt_size q
   rw [show b=s0.heap.objs.size from e] at hlt
   exact absurd hlt (Nat.lt_irrefl _)
  ·exact hb e
 ·obtain ⟨sl,q1⟩:=hbase.slot b o q (hfrf b hb) hb (by simp)
  obtain ⟨_,o',q2,q3⟩:=hfunO.mem hb
  rw [q] at q2
  cases q2
  obtain ⟨sl2,q4⟩:=up b _ (m.keeps b _ q1) q3
  exact ⟨sl2,q4⟩
 ·cases q:H ea with
  | none=>rfl
  | some u =>
   have:=I.hok.lt q
   obtain ⟨o,ho⟩:=(show ∃ o,s.heap.get? ea=some o from je (I.hok ea u q))
   rw [hEa] at ho; cases ho
 ·cases q:s0.heap.get? ea with
  | none=>rfl
  | some o =>
   obtain ⟨o',ho'⟩:=hbase.there ea o q (by simp)
   rw [hEa] at ho'; cases ho'
end
structure SFX (K:PySem.W.Frag)(n:Nat)(m:List Nat)(G:Hp→Prop)(t:TS)(f:FS):Prop where
 h:∀ {F Z H:Hp} {σ0 σ:St} {ρ:FSt} {A:List Addr} {D:Ends} {fD:FEnds},(∀ H',Same F H'→Same Z H'→G H')→Rel K F Z H σ ρ A→Pin n m σ0 σ→EndsOk K n m F Z σ0 D fD→f fD ρ→t D σ H
def mz:FS:=fun _ _=>True
section
variable {K:PySem.W.Frag} {n:Nat} {m:List Nat} {G:Hp→Prop}
theorem SF.x {t:TS}{f:FS}(h:SF K n m t f):SFX K n m G t f:=⟨fun _=>h.h⟩
theorem gC {v:V}:SFX K n m G (fun _ σ H=>tC v σ H fun x H'=>[x].length=1∧G H') mz:=⟨fun g R _ _ _=>⟨rfl,g _ R.fh R.zh⟩⟩
theorem eM {t u:TS}{f g:FS}(h1:SFX K n m G t f)(h2:SFX K n m G u g):SFX K n m G (Bg t u) (bO f g):=⟨fun {F Z H σ0 σ ρ A D fD} gg R p E h =>
 h1.h (fD:={ fD with nx:=fun ρ'=>jH ρ' (g fD) }) gg R p ⟨fun F' H' σ' ρ' A' s R' p' q=>h2.h (fun H2 a b=>gg H2 (s.trans a) b) R' p' (E.mono s) ((dL ρ' (g fD)).mp q),E.rt,E.bk,E.ct⟩ h⟩
theorem oO {c:TT}{t u:TS}{fc:FT}{f g:FS}(hc:TF K (List.range n) c fc)(h1:SFX K n m G t f)(h2:SFX K n m G u g):SFX K n m G (Bi c t u) (fIf fc f g):=⟨fun {F Z H σ0 σ ρ A D fD} gg R p E h =>
 hc.h (P:=fun b ρ1=>br b (f fD ρ1) (g fD ρ1)) (View.id p.1) R (by unfold fIf at h; exact h) fun b ρ1 F1 H1 A1 q s R1=>by
  cases b with
  | true=>exact h1.h (fun H2 a b=>gg H2 (s.trans a) b) R1 p (E.mono s) (qB q)
  | false=>exact h2.h (fun H2 a b=>gg H2 (s.trans a) b) R1 p (E.mono s) (qC q)⟩
end
def spR (K:PySem.W.Frag)(cr:List D→Prop)(C:Addr):Sp:=fun vs H Q E=>∃ (F:Hp) (ds:List D),Same F H∧Dens K F vs ds∧cr ds∧∀ H',Same H H'→E (.ref C) none H'
theorem Dh {K:PySem.W.Frag}{F H:Hp}{vs:List V}{ds:List D}(h:Dens K F vs ds):Ows K F H vs (ds.map .fz) [] :=
 Dens.rec (motive_1:=fun _ _ _=>True) (motive_2:=fun vs ds _=>Ows K F H vs (ds.map .fz) []) trivial (fun _=>trivial) (fun _=>trivial) (fun _=>trivial) (fun _=>trivial) (fun _ _ _=>trivial) (fun _ _ _=>trivial) (fun _ _ _ _=>trivial) (fun _ _ _=>trivial) .nil (fun h _ _ t=>.cons (A:=[]) (B:=[]) (.fz h) t) h
end L2
set_option maxHeartbeats 4000000
namespace L2
open PySem PySem.Spec PyProof.Rows
section
variable {X:Cx} {pins:List (Addr×Obj)} {σ:St} {H:Hp} {s:Shared}
theorem iw {x:Str}{C:Addr}{e:Expr}{np cpos pos:Pos}{te:TE}(G:Hp→Prop)(hc:X.calm=true)(hm:X.mg x=some (.ref C))(hx:gP X.K C)(he:BE X e te)
  (hE:∀ pins σ H s h' ea args,Inv X pins σ H s→G H→Heap.MadeExcOf s.heap h' ea (.ref C) args→X.xe (.ref ea) { s with heap:=h' })
  (hg:Gl X x) (hdb:(x == ("__debug__" : Str))=false) (hs:starEach [e] X.env=[(false,eval e X.env)]) :
  BS X (.Raise (some (.Call (.Name x np) [e] [] cpos)) none pos) (fun _ σ H=>te σ H fun x H'=>[x].length=1∧G H'):=⟨vG G hc hm hx he.h hE hg hdb hs⟩
theorem sC {k:Nat}{f C:Addr}{fd:FuncData}{ps:List Str}{cr:List D→Prop}{us:List Value}{vs:List V}{E:XK}{Q:Value→Shared→Prop}{W:Value→Shared→Prop}(F:FnOk X.prog X.w X.K X.mg X.base (CXr X.prog X.w) k f fd ps (spR X.K cr C))(hr:Room k X.A)(hb:Binds X.K fd ps [])
  (I:Inv X pins σ H s) (r:Vals vs us) (h:spR X.K cr C vs H (fun _ _=>False) E) (hW:∀ e s',CXr X.prog X.w X.stack H s E e s'→W e s'):wpAny (model X.prog X.w) X.A (call (.ref f) us) Q W s:=by
 have hl:(us++[]).length=ps.length:=by rw [List.append_nil,← r.length]; exact F.len _ _ _ _ h
 have hbt:=hb s us I.kIn hl
 rw [List.append_nil] at hbt
 refine wpAny_call (codeAny_mono (F.run X.A X.stack s H ⟨us,[]⟩ us vs _ E hr I.env0 hbt r h) fun r s' hq=>?_)
 cases r with
 | error e=>exact hW e s' hq
 | ok fl =>
  cases fl with
  | ret u =>
   obtain ⟨v,H',_,_,_,_,_,q⟩:=(show CE _ _ _ _ _ _ _ _ from hq)
   exact q.elim
  | next=>exact False.elim hq
  | brk=>exact False.elim hq
  | cont=>exact False.elim hq
end
section
variable {X:Cx} {pins:List (Addr×Obj)} {σ:St} {H:Hp} {s:Shared}
theorem CXr.caught {P:Program}{w:World}{outer:List Env}{E:XK}{e:Value}{s':Shared}{ea C:Addr}{a0:Value}{B h5:Heap}{H':Hp}{base:Heap}(hst:s.heap.FunFrames base outer)(fl:Heap.FlyingW B outer ea (.ref C) a0 h5)(hok:HOk P w H' B)(same:Same H H')
  (bk:∀ b o,s.heap.get? b=some o→H b=none→b ∉ frs outer→B.get? b=some o) (fre:∀ b o,s.heap.get? b=some o→H b=none→H' b=none) (slt:∀ b ∈ frs outer,∀ o,s.heap.get? b=some o→∃ sl,s'.heap.get? b=some { o with slots:=sl })
  (n1:H' ea=none) (n2:s.heap.get? ea=none) (up:s'.heap.UpToSlots h5) (hfree:∀ b ∈ frs outer,H b=none):Un (frs outer) [] H H' s.heap h5∧HOk P w H' h5:=by
 have hok5:HOk P w H' h5:=hok.kept fl.1
 have slot:∀ b ∈ frs outer,∀ o,s.heap.get? b=some o→∃ sl,h5.get? b=some { o with slots:=sl }:=fun b hb o q=>by
  obtain ⟨_,o',q2,q3⟩:=hst.mem hb
  rw [q] at q2
  cases q2
  obtain ⟨sl1,q4⟩:=slt b hb o q
  obtain ⟨sl2,q5⟩:=up b _ q4 q3
  exact ⟨sl2,q5⟩
 refine ⟨⟨fun b o q n hb _=>fl.1 b o (bk b o q n hb),fun b o q n hb _=>slot b hb o q,fun b o q n _=>fre b o q n,fun b o q _=>?_,fun b xs q=>same b _ q,fun b o u q=>same b _ q,fun b ps q=>⟨#[],by rw [same b _ q]; simp⟩⟩,hok5⟩
 by_cases hb:b ∈ frs outer
 ·obtain ⟨sl,z⟩:=slot b hb o q
  exact ⟨_,z⟩
 ·cases hH:H b with
  | none=>exact ⟨o,fl.1 b o (bk b o q hH hb)⟩
  | some u=>exact je (hok5 b u (same b u hH))
end
end L2
set_option maxHeartbeats 4000000
namespace L2
open PySem PySem.W PySem.Spec PyProof.Rows PySem.Calls PySem.Builtin PySem.Builtin.ObjectAttr PySem.Builtin.Getset_descriptor
section
variable {prog:Program} {w:World} {A:Around} {E:Value→Shared→Prop} {s:Shared} {K:PySem.W.Frag} {a C:Addr} {o:Obj}
end
section
variable {X:Cx}
abbrev Cx.suite (X:Cx)(e:Value):Cx:={ X with A:=X.A.mark (some e),calm:=false,xe:=fun _ _=>False }
theorem Inv.suite {pins:List (Addr×Obj)}{σ:St}{H:Hp}{s:Shared}(I:Inv X pins σ H s)(e:Value):Inv (X.suite e) pins σ H s :=
 ⟨⟨I.ok.mod,I.ok.kind,I.ok.glob,I.ok.blt,I.ok.above,I.ok.inj,I.ok.has,I.ok.cab,(fun z=>nomatch z),I.ok.frames,I.ok.stk,I.ok.exf,I.ok.bs,I.ok.bsz,I.ok.noex,I.ok.exfs,I.ok.funs,I.ok.frf⟩,I.os,I.bare,I.base,I.loc,I.cell,I.free,I.freeC,I.pin,I.hok,I.len⟩
theorem Inv.unsuite {pins:List (Addr×Obj)}{σ:St}{H:Hp}{s:Shared}{e:Value}(ok:X.Ok)(I:Inv (X.suite e) pins σ H s):Inv X pins σ H s :=
 ⟨ok,I.os,I.bare,I.base,I.loc,I.cell,I.free,I.freeC,I.pin,I.hok,I.len⟩
end
end L2
set_option maxHeartbeats 4000000
namespace HT
open PySem PySem.Spec PyProof.Rows
section
variable {prog:Program} {w:World} {A:Around} {E:Value→Shared→Prop} {s:Shared}
theorem getItem_tuple_all {t sl:Addr}{items:Array Value}{vl vu:Value}{lo hi:Option Int}{Q:Value→Shared→Prop}(ht:IsTup s.heap t items)(hs:s.heap.IsSliceOf sl vl vu .none)(pl:IsPart vl lo)(pu:IsPart vu hi)
  (hw:sIx items.size 0 lo=0∧sIx items.size items.size hi=items.size) (h:Q (.ref t) s):wpAny (model prog w) A (getItem (.ref t) (.ref sl)) Q E s:=by
 obtain ⟨os,hos,hcs,hds⟩:=id hs
 have hTs:s.TypeIs (.ref sl) "slice" := ⟨os,hos,hcs⟩
 unfold getItem
 try with_reducible refine wpAny_holding ?_
 first | refine wpAny_bind (wpAny_pure ?_) | skip
 refine wpAny_bind (wpAny_sequenceKey ht.typeIs (by decide) ?_)
 refine wpAny_bind (wpAny_callSpecial?_slot (name:=Str.ofString "__getitem__") ht.typeIs PyProof.Rows.slot_tuple_getitem
  (wpAny_call_entry PyProof.Rows.slot_tuple_getitem ht.typeIs entry_tuple_getitem ?_ (args_tuple_getitem _ _)))
 show wpAny _ _ (Builtin.Tuple.tupleItemsOf (.ref t) >>= _) _ _ s
 refine wpAny_bind (tupleItemsOf_ ht ?_)
 refine wpAny_bind (wpAny_typeOf hTs ?_)
 rw [if_pos (by decide)]
 refine wpAny_bind (eN hs pl pu ?_)
 show wpAny _ _ (if (((sIx items.size 0 lo:Nat):Int) == 0 && (1:Int) == 1 && (sIx items.size items.size hi - sIx items.size 0 lo) == items.size)=true then _ else _) _ _ s
 rw [if_pos (by rw [hw.1,hw.2]; simp)]
 refine wpAny_bind (m:=Builtin.Tuple.tupleIsExact _) (wpAny_bind (wpAny_typeOf ht.typeIs (wpAny_pure ?_)))
 rw [if_pos (by decide)]
 first
  | exact wpAny_bind (wpAny_rule (wpAny_pure ⟨_,rfl,wpAny_pure h⟩))
  | exact wpAny_bind (wpAny_rule (wpAny_bind (wpAny_pure (wpAny_pure ⟨_,rfl,wpAny_pure h⟩))))
  | exact wpAny_bind (wpAny_bind (wpAny_rule (wpAny_pure (wpAny_pure ⟨_,rfl,wpAny_pure h⟩))))
  | exact wpAny_bind (wpAny_bind (wpAny_rule (wpAny_pure ⟨_,rfl,wpAny_pure h⟩)))
end
end HT
namespace L2
open PySem PySem.Spec PyProof.Rows
section
variable {X:Cx}
def Di (K:PySem.W.Frag):V→Option Int→Option Int→Hp→VK→Prop:=fun x lo hi H Q=>∃ a xs,x=.ref a∧SqT K H a xs∧HT.sIx xs.length 0 lo=0∧HT.sIx xs.length xs.length hi=xs.length∧Q (.ref a) H
theorem zJ:SlR X (Di X.K):=by
 intro pins s σ H x v vl vu lo hi sl Q I rx hs pl pu h
 obtain ⟨a,xs,rfl,hx,w1,w2,q⟩:=h
 cases rx
 obtain ⟨its,r,ht,hz⟩:=I.tuple hx
 have hlen:its.toArray.size=xs.length:=by rw [List.size_toArray]; exact r.length.symm
 refine ⟨"tuple", _,PyProof.Rows.slot_tuple_getitem.lookup,ht.typeIs,?_⟩
 exact HT.getItem_tuple_all ht hs pl pu (by rw [hlen]; exact ⟨w1,w2⟩) ⟨.ref a,H,I,rfl,q⟩
def FJ (K:PySem.W.Frag):V→Option Int→Option Int→Hp→VK→Prop:=fun x lo hi H Q=>Cp K x lo hi H Q∨Di K x lo hi H Q
theorem bw {a:Expr}{lo hi:Option Expr}{ta:TE}{tl th:TO}{pos spos:Pos}(K:PySem.W.Frag)(ha:BE X a ta)(hl:BO X lo tl)(hh:BO X hi th)(hK:X.K=K):BE X (.Subscript a (.Slice lo hi none spos) pos) (tSl (FJ K) ta tl th):=by
 subst hK; exact ⟨nX (xy.or zJ) ha.h hl.h hh.h⟩
def Dj (K:PySem.W.Frag):R2:=fun x y H Q=>∃ a b ys,x=.ref a∧y=.ref b∧SqT K H a []∧SqT K H b ys∧Q (.ref b) H
theorem zK:OpR X (binaryOp .Add) (Dj X.K):=by
 intro pins s σ H x y v u Q I rx ry h
 obtain ⟨a,b,ys,rfl,rfl,ha,hb,q⟩:=h
 cases rx
 cases ry
 obtain ⟨its,r1,p1,_⟩:=I.tuple ha
 obtain ⟨its2,r2,p2,_⟩:=I.tuple hb
 cases r1
 obtain ⟨⟨cls,dd,data,sl⟩,ho,hc,n,hd⟩:=id p1
 obtain ⟨⟨cls2,dd2,data2,sl2⟩,ho2,hc2,n2,hd2⟩:=id p2
 simp only at hc hd hc2 hd2
 subst hc hd hc2 hd2
 exact concat_meets ⟨_,ho,rfl⟩ ⟨_,ho2,rfl⟩ noFill_tuple_add seq_tuple_add PySem.F.slot_tuple_add PySem.F.entry_tuple_add (PySem.F.args_tuple_add_2 _ _)
  (tuple_addW0 a b _ its2.toArray n n2 dd dd2 sl sl2 (by simp)) ⟨ho,ho2,⟨.ref b,H,I,rfl,q⟩⟩
def Dk (K:PySem.W.Frag):R2:=fun x y H Q=>zB K x y H Q∨Dj K x y H Q
theorem ba (K:PySem.W.Frag)(h:X.K=K):BOp X (binaryOp .Add) (Dk K):=by subst h; exact ⟨(cG X.K rfl).h.or zK⟩
def E5 (K:PySem.W.Frag):R2:=fun x y H Q=>∃ a b xs,x=.ref a∧y=.ref b∧((SqT K H a xs∧SqT K H b [])∨(SqL K H a xs∧SqL K H b []))∧Q (.bl xs.isEmpty) H
theorem Dl (hu:X.A.units+64 < cLine):OpR X (compareOp .Eq) (E5 X.K):=by
 intro pins s σ H x y v u Q I rx ry h
 obtain ⟨a,b,xs,rfl,rfl,hh,q⟩:=h
 cases rx
 cases ry
 rcases hh with ⟨ha,hb⟩ | ⟨ha,hb⟩
 ·obtain ⟨its,r1,p1,_⟩:=I.tuple ha
  obtain ⟨its2,r2,p2,_⟩:=I.tuple hb
  cases r2
  have z:=SeqAt.RcAt.tuples (A:=X.A) (s:=s) (e:=fun _=>true) p1 p2 (by nofun) (fun j _ h2=>absurd h2 (by simp))
  have e:((List.range (min its.toArray.size ([]:List Value).toArray.size)).all (fun _=>true) && its.toArray.size == ([]:List Value).toArray.size)=xs.isEmpty:=by
   have:=r1.length
   cases xs <;> cases its <;> simp at this ⊢
  rw [e] at z
  exact z _ _ _ _ ⟨.bl _,H,I,rfl,q⟩
 ·obtain ⟨its,r1,p1,_⟩:=I.list ha
  obtain ⟨its2,r2,p2,_⟩:=I.list hb
  cases r2
  cases r1 with
  | nil =>
   have z:=SeqAt.RcAt.lists (A:=X.A) (s:=s) (e:=fun _=>true) p1.isList p2.isList rfl (by nofun) (fun j _ h2=>absurd h2 (by simp))
   exact z _ _ _ _ ⟨.bl _,H,I,rfl,q⟩
  | cons h1 t1 =>
   have z:=SeqAt.RcAt.lists_lengths (A:=X.A) (s:=s) p1.isList p2.isList (by simp) (by nofun)
   exact z _ _ _ _ ⟨.bl _,H,I,rfl,q⟩
theorem zL (K:PySem.W.Frag)(hu:X.A.units+64 < cLine)(h:X.K=K):BOp X (compareOp .Eq) (E5 K):=by subst h; exact ⟨Dl hu⟩
def zM:V→List V→Hp→VK→Prop:=fun x xs H Q=>∃ z y,x=.str z∧xs=[.str y]∧Q (.int (Txt.find z y)) H
theorem zN:MtR X "str.find" zM:=by
 intro pins s σ H x vs v us Q I rx rv h
 obtain ⟨z,y,rfl,rfl,q⟩:=h
 obtain ⟨t,rfl⟩:=rx
 obtain ⟨u,rfl,ru⟩:=eU rv
 obtain ⟨t',rfl⟩:=ru
 exact PySem.W.KXw.find rfl fun t' k=>⟨.int _,H,I.tok k,⟨t',rfl⟩,q⟩
theorem zO:BMt X "str.find" zM:=⟨zN⟩
end
end L2
set_option maxHeartbeats 4000000
namespace L2
open PySem PySem.Spec PyProof.Rows
section
variable {K:PySem.W.Frag} {μ:List Nat}
theorem sD {α:Type}{xs:List α}{lo hi:Option Int}(h1:HT.sIx xs.length 0 lo=0)(h2:HT.sIx xs.length xs.length hi=xs.length):dP xs lo hi=xs:=by
 unfold dP
 rw [h1,h2]
 simp
def jg:D→Option Int→Option Int→(OV→Prop)→Prop
 | .str z,lo,hi,P=>z.length≤sizeLine∧P (.fz (.str (oF z lo hi)))
 | .lst ds,lo,hi,P=>P (.fl (dP ds lo hi))
 | .tup ds,lo,hi,P=>P (.fz (.tup (dP ds lo hi)))
 | _,_,_,_=>False
theorem en:SlF K (FJ K) jg:=⟨by
 intro F H x d lo hi Q P s hx f n
 unfold jg at f
 split at f
 ·exact .inl (ge.h s hx (by unfold aSl; exact f) n)
 ·exact .inl (ge.h s hx (by unfold aSl; exact f) n)
 ·rename_i ds
  by_cases hw:HT.sIx ds.length 0 lo=0∧HT.sIx ds.length ds.length hi=ds.length
  ·have e:=sD hw.1 hw.2
   rw [e] at f
   have hx':=hx
   obtain ⟨a,xs,rfl,h1,h2⟩:=hx.asT s
   refine .inr ⟨a,xs,rfl,h1,by rw [h2.length]; exact hw.1,by rw [h2.length]; exact hw.2,?_⟩
   cases hx' with
   | fz hd=>exact bg s n hd f
  ·exact .inl (ge.h s hx (by unfold aSl; exact ⟨hw,f⟩) n)
 ·exact f.elim⟩
def cZ:D→D→(OV→Prop)→Prop
 | .int i,.int j,P=>P (.fz (.int (i+j)))
 | .str i,.str j,P=>i.length+j.length≤sizeLine∧P (.fz (.str (i++j)))
 | .lst xs,.lst ys,P=>xs.length+ys.length≤sizeLine∧P (.fl (xs++ys))
 | .tup xs,.tup ys,P=>xs.length+ys.length≤sizeLine∧P (.fz (.tup (xs++ys)))
 | _,_,_=>False
theorem bc:OpF K (Dk K) cZ:=⟨by
 intro F H x y d e Q P s hx hy f n
 unfold cZ at f
 split at f
 ·exact .inl (cJ.h s hx hy (by unfold jy; exact f) n)
 ·exact .inl (cJ.h s hx hy (by unfold jy; exact f) n)
 ·exact .inl (cJ.h s hx hy (by unfold jy; exact f) n)
 ·rename_i ds es
  by_cases hd:ds=[]
  ·subst hd
   have hy':=hy
   obtain ⟨a,xs,rfl,h1,h2⟩:=hx.asT s
   obtain ⟨b,ys,rfl,h3,h4⟩:=hy.asT s
   cases h2
   refine .inr ⟨a,b,ys,rfl,rfl,h1,h3,?_⟩
   cases hy' with
   | fz hd=>exact bg s n hd f.2
  ·exact .inl (cJ.h s hx hy (by unfold jy; exact ⟨hd,f⟩) n)
 ·exact f.elim⟩
def E6:D→D→(OV→Prop)→Prop
 | .tup xs,.tup [],P=>P (.fz (.bl xs.isEmpty))
 | .lst xs,.lst [],P=>P (.fz (.bl xs.isEmpty))
 | _,_,_=>False
theorem Dens.empty_eq {F:Hp}{xs:List V}{ds:List D}(h:Dens K F xs ds):xs.isEmpty=ds.isEmpty:=by cases h <;> rfl
theorem zP:OpF K (E5 K) E6:=⟨by
 intro F H x y d e Q P s hx hy f n
 unfold E6 at f
 split at f
 ·obtain ⟨a,xs,rfl,h1,h2⟩:=hx.asT s
  obtain ⟨b,ys,rfl,h3,h4⟩:=hy.asT s
  cases h4
  exact ⟨a,b,xs,rfl,rfl,.inl ⟨h1,h3⟩,by rw [h2.empty_eq]; exact bg s n (.bl _) f⟩
 ·obtain ⟨a,xs,rfl,h1,h2⟩:=hx.asL s
  obtain ⟨b,ys,rfl,h3,h4⟩:=hy.asL s
  cases h4
  exact ⟨a,b,xs,rfl,rfl,.inr ⟨h1,h3⟩,by rw [h2.empty_eq]; exact bg s n (.bl _) f⟩
 ·exact f.elim⟩
def Dm (fo fe:FE):FE:=fun ρ Q=>fo ρ fun r ρ1=>on1 ρ1 r fun d=>match d with
 | .str z=>fe ρ1 fun r2 ρ2=>on1 ρ2 r2 fun d2=>(match d2 with
  | .str y=>Q (.ov (.fz (.int (Txt.find z y)))) ρ2
  | _=>False)
 | _=>False
theorem zQ {to te:TE}{fo fe:FE}(ho:EF K μ to fo)(he:EF K μ te fe):EF K μ (tBM K "str" zM to (fT te m5)) (Dm fo fe):=⟨by
 intro F Z H τ σ ρ A Q P vw R h q
 refine ho.h vw R h fun r1 ρ1 x F1 H1 A1 B1 h1 s1 R1 v1 f1=>?_
 obtain ⟨d,e1,h2⟩:=dq h1
 split at h2
 ·rename_i z
  have ex:=(R1.acc v1 e1).str_eq
  subst ex
  refine ⟨rfl,he.h vw R1 h2 fun r2 ρ2 y F2 H2 A2 B2 h3 s2 R2 v2 f2=>?_⟩
  obtain ⟨d2,e2,h4⟩:=dq h3
  split at h4
  ·have ey:=(R2.acc v2 e2).str_eq
   subst ey
   exact ⟨z,_,rfl,rfl,q _ _ _ _ _ _ [] h4 (s1.trans s2) R2 (.fz (.int _)) Fresh.nil⟩
  ·exact h4.elim
 ·exact h2.elim⟩
end
end L2
set_option maxHeartbeats 4000000
namespace L2
open PySem PySem.Spec PyProof.Rows
mutual
def depD:D→Nat
 | .lst xs=>depDs xs+1
 | .tup xs=>depDs xs+1
 | _=>0
def depDs:List D→Nat
 | []=>0
 | d::ds=>max (depD d) (depDs ds)
end
mutual
def okS:D→Bool
 | .lst xs=>okSs xs
 | .tup xs=>okSs xs
 | .dct _ _=>false
 | .ty _=>false
 | _=>true
def okSs:List D→Bool
 | []=>true
 | d::ds=>okS d && okSs ds
end
section
variable {X:Cx} {pins:List (Addr×Obj)} {σ:St} {H:Hp} {s:Shared}
end
section
variable {X:Cx}
end
section
variable {K:PySem.W.Frag}
end
end L2
set_option maxHeartbeats 4000000
namespace L2
open PySem PySem.Spec PyProof.Rows
open PySem.Builtin PySem.Builtin.Str
theorem mC:∀ (l:List (Str×Tok)),Vals ((l.map (·.1)).map V.str) (strValues l)
 | []=>.nil
 | (z,t)::l=>.cons ⟨t,rfl⟩ (mC l)
def sE:V→List V→Hp→VK→Prop:=fun x vs H Q=>∃ z y:Str,x=.str z∧vs=[.str y]∧(y.length == 0)=false∧z.length+2≤sizeLine∧∀ p,H p=none→Q (.ref p) (upd H p (.lst ((Txt.split z y).map V.str)))
def sF:V→List V→Hp→VK→Prop:=fun x vs H Q=>∃ z y:Str,x=.str z∧vs=[.str y]∧(y.length == 0)=false∧z.length≤sizeLine ∧
 ∀ p,H p=none→Q (.ref p) (upd H p (.tup [.str (Txt.partition z y).1,.str (Txt.partition z y).2.1,.str (Txt.partition z y).2.2]))
def sG (K:PySem.W.Frag):V→List V→Hp→VK→Prop:=fun x vs H Q=>∃ (z:Str) (p:Addr) (zs:List Str),x=.str z∧vs=[.ref p]∧SqT K H p (zs.map V.str)∧(zs.map (·.length)).sum+zs.length * z.length≤16777216∧Q (.str (Builtin.Str.glued z zs)) H
theorem j9:∀ {zs:List Str} {us:List Value},Vals (zs.map V.str) us→StrsAre us zs
 | [],_,.nil=>.nil
 | z::zs,_,.cons r t=>by
  obtain ⟨k,rfl⟩:=r
  exact .cons z k (j9 t)
section
variable {X:Cx}
theorem vH:MtR X "str.split" sE:=by
 intro pins s σ H x vs v us Q I rx rv h
 obtain ⟨z,y,rfl,rfl,hy,hz,q⟩:=h
 obtain ⟨t,rfl⟩:=rx
 obtain ⟨u,rfl,tu,rfl⟩:=eU rv
 have hn:(partsBetween z (occurrences z y 0 z.length (z.length+1)) y.length).length≤sizeLine:=by
  have e1:=StrLaws.occ_length_le z y 0 z.length (z.length+1)
  rw [length_partsBetween]; nofun
 have hsl:(Txt.split z y).length≤sizeLine:=by
  unfold Txt.split
  have h1:1≤sizeLine:=by have:sizeLine=16777216:=sizeLine_eq; nofun
  split
  ·exact h1
  ·split
   ·exact h1
   ·exact hn
 have fin:∀ (l:List (Str×Tok)) (k:Nat),l.map (·.1)=Txt.split z y→EP X pins σ Q (.ref s.heap.objs.size) { s with heap:=s.heap.push { cls:=.type "list", data:=.seq (strValues l).toArray },toks:=k }:=fun l k e =>
  ⟨.ref _,_,I.lnew (ys:=(Txt.split z y).map V.str) (by rw [← e]; exact mC l) (by rw [List.length_map]; exact hsl),rfl,q _ I.fresh⟩
 cases h1:(decide (z.length < y.length) || decide (strKind z < strKind y))
 ·cases hf:(occurrences z y 0 z.length (z.length+1)).isEmpty
  ·refine call_meets PySem.F.slot_str_split (typeIs_str _ _ _) PySem.F.entry_str_split (PySem.F.args_str_split_2 _ _) (meets_str_split_sep z y t tu h1 hy hf (by nofun) hn) ?_
   show wants _ _ _ { s with toks:=_,heap:=s.heap.push { cls:=.type "list", data:=.seq (strsFrom s.toks (partsBetween z (occurrences z y 0 z.length (z.length+1)) y.length)).toArray } }
   rw [strsFrom_eq]
   exact fin (numbered s.toks _) _ ((numbered_texts _ _).trans ((if_neg (ne_true_of_eq_false h1)).trans (if_neg (ne_true_of_eq_false hf))).symm)
  ·exact call_meets PySem.F.slot_str_split (typeIs_str _ _ _) PySem.F.entry_str_split (PySem.F.args_str_split_2 _ _) (meets_str_split_not_found z y t tu h1 hy hf)
    (fin [(z,t)] s.toks ((if_neg (ne_true_of_eq_false h1)).trans (if_pos hf)).symm)
 ·exact call_meets PySem.F.slot_str_split (typeIs_str _ _ _) PySem.F.entry_str_split (PySem.F.args_str_split_2 _ _) (meets_str_split_cannot_occur z y t tu h1)
   (fin [(z,t)] s.toks (if_pos h1).symm)
theorem vI:MtR X "str.partition" sF:=by
 intro pins s σ H x vs v us Q I rx rv h
 obtain ⟨z,y,rfl,rfl,hy,hz,q⟩:=h
 obtain ⟨t,rfl⟩:=rx
 obtain ⟨u,rfl,tu,rfl⟩:=eU rv
 have h3:3≤sizeLine:=by have:sizeLine=16777216:=sizeLine_eq; nofun
 have fin:∀ (a b c:Tok) (k:Nat),EP X pins σ Q (.ref s.heap.objs.size) { s with heap:=s.heap.push { cls:=.type "tuple", data:=.seq [.str (Txt.partition z y).1 a,.str (Txt.partition z y).2.1 b,.str (Txt.partition z y).2.2 c].toArray },toks:=k }:=fun a b c k =>
  ⟨.ref _,upd H s.heap.objs.size (.tup [.str (Txt.partition z y).1,.str (Txt.partition z y).2.1,.str (Txt.partition z y).2.2]),I.laid (t':=k) (fun _ _ e=>Heap.get?_push_of_some _ e) (Nat.le_refl _) ⟨h3,[.str (Txt.partition z y).1 a,.str (Txt.partition z y).2.1 b,.str (Txt.partition z y).2.2 c],.cons ⟨a,rfl⟩ (.cons ⟨b,rfl⟩ (.cons ⟨c,rfl⟩ .nil)),⟨_,Heap.get?_push_size _ rfl,rfl,_,rfl⟩⟩,rfl,q _ I.fresh⟩
 refine call_meets PySem.F.slot_str_partition (typeIs_str _ _ _) PySem.F.entry_str_partition (PySem.F.args_str_partition_2 _ _) (meets_str_partition z y t tu hy hz) ?_
 have fin':=fin
 unfold Txt.partition at fin'
 revert fin'
 cases occurrences z y 0 z.length 1 with
 | nil=>intro f; exact f _ _ _ _
 | cons i r=>intro f; exact f _ _ _ _
theorem vJ:MtR X "str.join" (sG X.K):=by
 intro pins s σ H x vs v us Q I rx rv h
 obtain ⟨z,p,zs,rfl,rfl,hq,hz,q⟩:=h
 obtain ⟨t,rfl⟩:=rx
 obtain ⟨u,rfl,ru⟩:=eU rv
 cases ru
 obtain ⟨its,r,pl,hl⟩:=I.tuple hq
 exact join_tuple pl (by simpa using j9 r) hz fun t' k=>⟨.str _,H,I.tok k,⟨t',rfl⟩,q⟩
theorem d0:BMt X "str.split" sE:=⟨vH⟩
theorem ix:BMt X "str.partition" sF:=⟨vI⟩
theorem vK (K:PySem.W.Frag)(h:X.K=K):BMt X "str.join" (sG K):=by subst h; exact ⟨vJ⟩
end
section
variable {K:PySem.W.Frag} {μ:List Nat}
def fT1 (f:Str→D→(OV→Prop)→Prop)(fo fe:FE):FE:=fun ρ Q=>fo ρ fun r ρ1=>on1 ρ1 r fun d=>match d with
 | .str z=>fe ρ1 fun r2 ρ2=>on1 ρ2 r2 fun d2=>f z d2 fun o=>Q (.ov o) ρ2
 | _=>False
structure T1F (K:PySem.W.Frag)(r:V→List V→Hp→VK→Prop)(f:Str→D→(OV→Prop)→Prop):Prop where
 h:∀ {F H:Hp} {z:Str} {y:V} {d:D} {Q:VK} {P:OV→Prop},Same F H→Acc K F H y d→f z d P→xK K F H P Q→r (.str z) [y] H Q
theorem gQ {r:V→List V→Hp→VK→Prop}{f:Str→D→(OV→Prop)→Prop}{to te:TE}{fo fe:FE}(m:T1F K r f)(ho:EF K μ to fo)(he:EF K μ te fe):EF K μ (tBM K "str" r to (fT te m5)) (fT1 f fo fe):=⟨by
 intro F Z H τ σ ρ A Q P vw R h q
 refine ho.h vw R h fun r1 ρ1 x F1 H1 A1 B1 h1 s1 R1 v1 f1=>?_
 obtain ⟨d,e1,h2⟩:=dq h1
 split at h2
 ·rename_i z
  have ex:=(R1.acc v1 e1).str_eq
  subst ex
  refine ⟨rfl,he.h vw R1 h2 fun r2 ρ2 y F2 H2 A2 B2 h3 s2 R2 v2 f2=>?_⟩
  obtain ⟨d2,e2,h4⟩:=dq h3
  exact m.h R2.fh (R2.acc v2 e2) h4 (R2.after fun o v F3 H3 B p s3 R3 ow fr=>q _ _ _ _ _ _ _ p ((s1.trans s2).trans s3) R3 ow fr)
 ·exact h2.elim⟩
def fZ:Str→D→(OV→Prop)→Prop
 | z,.str y,P=>((y.length == 0)=false∧z.length+2≤sizeLine)∧P (.fl ((Txt.split z y).map .str))
 | _,_,_=>False
theorem d6:T1F K sE fZ:=⟨by
 intro F H z y d Q P s hy f n
 unfold fZ at f
 split at f
 ·rw [hy.str_eq]
  exact ⟨z,_,rfl,rfl,f.1.1,f.1.2,dZ s n (Dens.strs _) f.2⟩
 ·exact f.elim⟩
def ka:Str→D→(OV→Prop)→Prop
 | z,.str y,P=>((y.length == 0)=false∧z.length≤sizeLine)∧P (.fz (.tup [.str (Txt.partition z y).1,.str (Txt.partition z y).2.1,.str (Txt.partition z y).2.2]))
 | _,_,_=>False
theorem iy:T1F K sF ka:=⟨by
 intro F H z y d Q P s hy f n
 unfold ka at f
 split at f
 ·rw [hy.str_eq]
  exact ⟨z,_,rfl,rfl,f.1.1,f.1.2,ip s n (.cons (.str _) (.cons (.str _) (.cons (.str _) .nil))) f.2⟩
 ·exact f.elim⟩
def sH:Str→D→(OV→Prop)→Prop
 | z,.tup ds,P=>(match eT ds with
  | some zs=>(zs.map (·.length)).sum+zs.length * z.length≤16777216∧P (.fz (.str (Builtin.Str.glued z zs)))
  | none=>False)
 | _,_,_=>False
theorem vL:T1F K (sG K) sH:=⟨by
 intro F H z y d Q P s hy f n
 unfold sH at f
 split at f
 ·split at f
  ·rename_i zs hz
   obtain ⟨p,ys,rfl,a1,a2⟩:=hy.asT s
   rw [fm hz] at a2
   have e:=Dens.strs_eq a2
   subst e
   exact ⟨z,p,zs,rfl,rfl,a1,f.1,bg s n (.str _) f.2⟩
  ·exact f.elim
 ·exact f.elim⟩
end
end L2
set_option maxHeartbeats 4000000
namespace L2
open PySem PySem.Builtin PySem.Builtin.Str PySem.StrLaws
def qd (y p:List Nat):Prop:=∀ r k,k < p.length→((p++y++r).drop k).take y.length≠y
theorem fJ {c:Nat}{y p:List Nat}(h:c ∉ p):qd (c::y) p:=by
 intro r k hk e
 have e1:(((p++(c::y)++r).drop k).take (c::y).length)[0]?=some c:=by rw [e]; rfl
 rw [List.getElem?_take_of_lt (by simp),List.getElem?_drop,Nat.add_zero,List.append_assoc,List.getElem?_append_left hk] at e1
 exact h (List.mem_of_getElem? e1)
def iz (p:List Nat):Prop:=∀ k,p[k]?=some 59→p[k+1]?≠some 32
theorem qe {p:List Nat}(h:iz p):qd [59,32] p:=by
 intro r k hk e
 have e1:(((p++[59,32]++r).drop k).take 2)[0]?=some 59:=by
  have:((p++[59,32]++r).drop k).take 2=[59,32]:=e
  rw [this]; rfl
 have e2:(((p++[59,32]++r).drop k).take 2)[1]?=some 32:=by
  have:((p++[59,32]++r).drop k).take 2=[59,32]:=e
  rw [this]; rfl
 rw [List.getElem?_take_of_lt (by decide),List.getElem?_drop,Nat.add_zero,List.append_assoc,List.getElem?_append_left hk] at e1
 rw [List.getElem?_take_of_lt (by decide),List.getElem?_drop,List.append_assoc] at e2
 by_cases hk1:k+1 < p.length
 ·rw [List.getElem?_append_left hk1] at e2
  exact h k e1 e2
 ·have ek:k+1=p.length:=by nofun
  rw [List.getElem?_append_right (by nofun),ek,Nat.sub_self] at e2
  simp at e2
theorem sI {p:List Nat}(h:59 ∉ p):iz p:=fun k e=>absurd (List.mem_of_getElem? e) h
theorem sJ {a s:List Nat}(h:59 ∉ a)(hs:s.Pairwise (· < ·)):iz (a++s):=by
 intro k e e2
 by_cases hk:k < a.length
 ·rw [List.getElem?_append_left hk] at e
  exact h (List.mem_of_getElem? e)
 ·rw [List.getElem?_append_right (by nofun)] at e e2
  have h1:=(List.getElem?_eq_some_iff.mp e)
  have h2:=(List.getElem?_eq_some_iff.mp e2)
  obtain ⟨l1,g1⟩:=h1
  obtain ⟨l2,g2⟩:=h2
  have:=List.pairwise_iff_getElem.mp hs (k - a.length) (k+1 - a.length) l1 l2 (by nofun)
  nofun
theorem kb {x y:Str}{i:Nat}:At x y x.length i↔i+y.length≤x.length∧(x.cps.toList.drop i).take y.length=y.cps.toList:=by
 unfold At
 rw [subAt_eq,beq_iff_eq]
theorem az (z:Str):z.length=z.cps.toList.length:=by simp [Str.length]
theorem dB (a b:Str):(a++b).cps.toList=a.cps.toList++b.cps.toList:=by
 show ((a.cps++b.cps).toList)=_
 rw [Array.toList_append]
theorem de {a b:Str}(h:a.cps.toList=b.cps.toList):a=b:=Str.ext' (Array.toList_inj.mp h)
theorem Do {x y:Str}{a k:Nat}{p r:List Nat}(hx:x.cps.toList.drop a=p++y.cps.toList++r)(hp:qd y.cps.toList p)(hk:k < p.length):¬ At x y x.length (a+k):=by
 intro h
 have h2:=(kb.mp h).2
 rw [← List.drop_drop,hx,az y] at h2
 exact hp r k hk h2
theorem xX {x y:Str}{a:Nat}{p r:List Nat}(ha:a≤x.length)(hx:x.cps.toList.drop a=p++y.cps.toList++r):At x y x.length (a+p.length):=by
 refine kb.mpr ⟨?_,?_⟩
 ·have:=congrArg List.length hx
  simp only [List.length_drop,List.length_append] at this
  rw [az y,az x]
  rw [az x] at ha
  nofun
 ·rw [← List.drop_drop,hx,List.append_assoc,List.drop_left,az y,List.take_left]
theorem da (y p q:Str)(r:List Str):(Str.join y (p::q::r)).cps.toList=p.cps.toList++y.cps.toList++(Str.join y (q::r)).cps.toList:=by
 show (p++y++Str.join y (q::r)).cps.toList=_
 rw [dB,dB]
theorem oP (x y:Str)(hy:1≤y.length):∀ (ps:List Str) (a:Nat) (cuts:List Nat) (f:Nat),ps≠[]→(∀ p ∈ ps,qd y.cps.toList p.cps.toList)→a≤x.length→x.cps.toList.drop a=(Str.join y ps).cps.toList →
  ChainG x y x.length a cuts f→(∀ k,f≤k→¬ At x y x.length k)→partsFrom x y.length a cuts=ps
 | [],_,_,_,h,_,_,_,_,_=>absurd rfl h
 | [p],a,cuts,f,_,hp,ha,hx,hc,hf=>by
  have hx:x.cps.toList.drop a=p.cps.toList:=hx
  cases cuts with
  | nil =>
   show [strSub x a x.length]=[p]
   congr 1
   apply de
   rw [strSub_toList,hx]
   apply List.take_of_length_le
   have:=congrArg List.length hx
   simp only [List.length_drop] at this
   rw [az x]
   nofun
  | cons c r =>
   exfalso
   obtain ⟨h1,h2,_,_⟩:=hc
   obtain ⟨h3,h4⟩:=kb.mp h2
   have hl:=congrArg List.length hx
   simp only [List.length_drop] at hl
   rw [az x,az y] at h3
   rw [az y] at hy
   have e:c=a+(c - a):=by nofun
   rw [e,← List.drop_drop,hx,az y] at h4
   have hk:c - a < p.cps.toList.length:=by nofun
   refine hp p (List.mem_cons_self ..) [] (c - a) hk ?_
   rw [List.append_assoc,List.drop_append_of_le_length (by nofun),List.take_append_of_le_length (by rw [List.length_drop]; nofun)]
   exact h4
 | p::q::r,a,cuts,f,_,hp,ha,hx,hc,hf=>by
  rw [da] at hx
  have yes:=xX ha hx
  have no:∀ k,k < p.cps.toList.length→¬ At x y x.length (a+k):=fun k hk=>Do hx (hp p (List.mem_cons_self ..)) hk
  cases cuts with
  | nil =>
   have e:f=a:=hc
   exact absurd yes (hf _ (by nofun))
  | cons c cs =>
   obtain ⟨h1,h2,h3,h4⟩:=hc
   have ec:c=a+p.cps.toList.length:=by
    rcases Nat.lt_trichotomy c (a+p.cps.toList.length) with h | h | h
    ·exact absurd (by rw [show a+(c - a)=c by nofun]; exact h2) (no (c - a) (by nofun))
    ·exact h
    ·exact absurd yes (h3 _ (by nofun) h)
   have yl:=(kb.mp yes).1
   subst ec
   show strSub x a (a+p.cps.toList.length)::partsFrom x y.length (a+p.cps.toList.length+y.length) cs=_
   congr 1
   ·apply de
    rw [strSub_toList,hx,Nat.add_sub_cancel_left,List.append_assoc,List.take_left]
   ·refine oP x y hy (q::r) _ cs f (by simp) (fun z hz=>hp z (List.mem_cons_of_mem _ hz)) yl ?_ h4 hf
    rw [Nat.add_assoc,← List.drop_drop,hx,az y,← List.length_append,List.drop_left]
theorem vM (x:Str):1≤PySem.Builtin.Str.strKind x:=by
 unfold PySem.Builtin.Str.strKind
 split
 ·decide
 ·split <;> decide
theorem kc (y:Str)(hy:1≤y.length)(hk:PySem.Builtin.Str.strKind y=1)(ps:List Str)(hne:ps≠[])(hp:∀ p ∈ ps,qd y.cps.toList p.cps.toList):Txt.split (Str.join y ps) y=ps:=by
 obtain ⟨f,hc,hf⟩:=occ_tight (Str.join y ps) y hy
 have key:=oP (Str.join y ps) y hy ps 0 _ f hne hp (Nat.zero_le _) rfl hc hf
 unfold Txt.split
 split
 ·rename_i h
  have:=vM (Str.join y ps)
  rw [hk,Bool.or_eq_true,decide_eq_true_iff,decide_eq_true_iff] at h
  have hlt:(Str.join y ps).length < y.length:=by nofun
  match ps,hne with
  | [p],_=>rfl
  | p::q::r,_ =>
   exfalso
   rw [az,da,List.length_append,List.length_append,az y] at hlt
   nofun
 ·split
  ·rename_i h
   rw [List.isEmpty_iff.mp h] at key
   refine Eq.trans ?_ key
   show [Str.join y ps]=[strSub (Str.join y ps) 0 (Str.join y ps).length]
   rw [sub_whole]
  ·rw [partsBetween_eq]
   exact key
theorem nH {x y:Str}{p r:List Nat}(hx:x.cps.toList=p++y.cps.toList++r)(hp:qd y.cps.toList p):Txt.partition x y=(⟨p.toArray⟩,y,⟨r.toArray⟩):=by
 have yes:=xX (a:=0) (Nat.zero_le _) (by rw [List.drop_zero]; exact hx)
 have no:∀ k,k < p.length→¬ At x y x.length (0+k):=fun k hk=>Do (a:=0) (by rw [List.drop_zero]; exact hx) hp hk
 rw [Nat.zero_add] at yes
 unfold Txt.partition
 rcases occ_head x y 1 (Nat.le_refl _) with ⟨_,h⟩ | ⟨i,s,e,h1,h2⟩
 ·exact absurd yes (h _)
 ·rw [e]
  have ei:i=p.length:=by
   rcases Nat.lt_trichotomy i p.length with h | h | h
   ·exact absurd (by rw [Nat.zero_add]; exact h1) (no i h)
   ·exact h
   ·exact absurd yes (h2 _ h)
  subst ei
  have hl:=congrArg List.length hx
  simp only [List.length_append] at hl
  show (strSub x 0 p.length,y,strSub x (p.length+y.length) x.length)=_
  have e1:strSub x 0 p.length=⟨p.toArray⟩:=by
   apply de
   rw [strSub_toList,List.drop_zero,Nat.sub_zero,hx,List.append_assoc,List.take_left]
  have e2:strSub x (p.length+y.length) x.length=⟨r.toArray⟩:=by
   apply de
   rw [strSub_toList,hx,az y,← List.length_append,List.drop_left]
   apply List.take_of_length_le
   rw [az x,List.length_append]
   nofun
  rw [e1,e2]
theorem sK {x y:Str}(h:∀ i,¬ At x y x.length i):(Txt.partition x y).1=x:=by
 unfold Txt.partition
 rcases occ_head x y 1 (Nat.le_refl _) with ⟨e,_⟩ | ⟨i,s,e,h1,h2⟩
 ·rw [e]
 ·exact absurd h1 (h i)
theorem qf {x:Str}{c:Nat}{y':List Nat}{y:Str}(ey:y.cps.toList=c::y')(h:c ∉ x.cps.toList)(i:Nat):¬ At x y x.length i:=by
 intro ha
 obtain ⟨h1,h2⟩:=kb.mp ha
 rw [ey] at h2
 have e1:((x.cps.toList.drop i).take y.length)[0]?=some c:=by rw [h2]; rfl
 have hl:0 < y.length:=by rw [az,ey]; simp
 rw [List.getElem?_take_of_lt hl,List.getElem?_drop] at e1
 exact h (List.mem_of_getElem? e1)
end L2
set_option maxHeartbeats 4000000
namespace L2
open PySem PySem.Spec PyProof.Rows PySem.W
def GoodO (n:Nat)(lt:Nat→Nat→Bool){α:Type}(Post:α→Prop):KasT α→Prop
 | .ret a=>Post a
 | .ask i j k=>i < n∧j < n∧i≠j∧GoodO n lt Post (k (lt i j))
theorem GoodO.bind {n:Nat}{lt:Nat→Nat→Bool}{α β:Type}{Post:α→Prop}{Post':β→Prop}{f:α→KasT β}:∀ {t:KasT α},GoodO n lt Post t→(∀ a,Post a→GoodO n lt Post' (f a))→GoodO n lt Post' (t.bind f)
 | .ret a,h,k=>k a h
 | .ask i j g,h,k=>⟨h.1,h.2.1,h.2.2.1,GoodO.bind h.2.2.2 k⟩
theorem GoodO.run {n:Nat}{lt:Nat→Nat→Bool}{α:Type}{Post:α→Prop}{cmp:Nat→Nat→(Bool→Shared→Prop)→Shared→Prop}{G:α→Shared→Prop}{s:Shared}(hc:∀ i j C,i < n→j < n→i≠j→C (lt i j) s→cmp i j C s):∀ {t:KasT α},GoodO n lt Post t→(∀ a,Post a→G a s)→t.kasWp cmp G s
 | .ret a,h,k=>k a h
 | .ask i j g,h,k=>hc i j _ h.1 h.2.1 h.2.2.1 (GoodO.run hc h.2.2.2 k)
structure Ord (n:Nat)(lt:Nat→Nat→Bool):Prop where
 tr:∀ i j k,i < n→j < n→k < n→lt i j=true→lt j k=true→lt i k=true
 tot:∀ i j,i < n→j < n→i≠j→lt i j=false→lt j i=true
 asy:∀ i j,i < n→j < n→lt i j=true→lt j i=false
section
variable {n:Nat} {lt:Nat→Nat→Bool}
abbrev gA (p:Array Nat)(i:Nat):Nat:=p.getD i 0
def Up (lt:Nat→Nat→Bool)(p:Array Nat)(m:Nat):Prop:=∀ i j,i < j→j < m→lt (gA p i) (gA p j)=true
def Bl (lt:Nat→Nat→Bool)(p:Array Nat)(m:Nat):Prop:=∀ i j,i < j→j < m→lt (gA p j) (gA p i)=true
theorem IsPerm.size {p:Array Nat}(h:IsPerm n p):p.size=n:=by
 have:=h.length_eq
 rwa [Array.length_toList,List.length_range] at this
theorem IsPerm.inj {p:Array Nat}(h:IsPerm n p){i j:Nat}(hi:i < n)(hj:j < n)(hij:i≠j):gA p i≠gA p j:=by
 have hs:=h.size
 have nd:p.toList.Nodup:=h.nodup_iff.mpr List.nodup_range
 have e1:gA p i=p.toList[i]'(by simpa [hs] using hi):=by simp [gA,Array.getD,hs,hi]
 have e2:gA p j=p.toList[j]'(by simpa [hs] using hj):=by simp [gA,Array.getD,hs,hj]
 rw [e1,e2]
 intro e
 exact hij ((List.getElem_inj nd).mp e)
theorem IsPerm.ltn {p:Array Nat}(h:IsPerm n p){i:Nat}(hi:i < n):gA p i < n:=h.lt (by nofun) i
theorem ke {p:Array Nat}{i:Nat}:gA p i=(p[i]?).getD 0:=by
 simp [gA,Array.getD_eq_getD_getElem?]
theorem zR (O:Ord n lt){p:Array Nat}(h:IsPerm n p){k:Nat}(hk:1≤k)(hkn:k < n)(u:Up lt p k)(hl:lt (gA p k) (gA p (k - 1))=false):Up lt p (k+1):=by
 have h1:lt (gA p (k - 1)) (gA p k)=true:=O.tot _ _ (h.ltn hkn) (h.ltn (by nofun)) (h.inj hkn (by nofun) (by nofun)) hl
 intro i j hij hj
 by_cases hjk:j < k
 ·exact u i j hij hjk
 ·have ej:j=k:=by nofun
  subst ej
  by_cases hi:i=j - 1
  ·subst hi; exact h1
  ·exact O.tr _ (gA p (j - 1)) _ (h.ltn (by nofun)) (h.ltn (by nofun)) (h.ltn hkn) (u i (j - 1) (by nofun) (by nofun)) h1
theorem jh (O:Ord n lt){p:Array Nat}(h:IsPerm n p):∀ (f k:Nat),1≤k→k+f≤n→Up lt p k →
  GoodO n lt (fun r=>k≤r∧r≤k+f∧Up lt p r∧(r=k+f∨lt (gA p r) (gA p (r - 1))=true)) (kas_asc p f k)
 | 0,k,_,_,u=>⟨Nat.le_refl _,Nat.le_refl _,u,.inl rfl⟩
 | f+1,k,hk,hf,u=>by
  refine ⟨h.ltn (by nofun),h.ltn (by nofun),h.inj (by nofun) (by nofun) (by nofun),?_⟩
  cases hc:lt (p.getD k 0) (p.getD (k - 1) 0) with
  | true=>exact ⟨Nat.le_refl _,by nofun,u,.inr hc⟩
  | false =>
   have ih:=jh O h f (k+1) (by nofun) (by nofun) (zR O h hk (by nofun) u hc)
   rw [show k+1+f=k+(f+1) by nofun] at ih
   refine GoodO.mono_ ih fun r hr=>⟨by nofun,hr.2.1,hr.2.2.1,hr.2.2.2⟩
where GoodO.mono_ {α:Type} {P P':α→Prop}:∀ {t:KasT α},GoodO n lt P t→(∀ a,P a→P' a)→GoodO n lt P' t
 | .ret a,h,k=>k a h
 | .ask i j g,h,k=>⟨h.1,h.2.1,h.2.2.1,GoodO.mono_ h.2.2.2 k⟩
theorem GoodO.mono {α:Type}{P P':α→Prop}:∀ {t:KasT α},GoodO n lt P t→(∀ a,P a→P' a)→GoodO n lt P' t
 | .ret a,h,k=>k a h
 | .ask i j g,h,k=>⟨h.1,h.2.1,h.2.2.1,GoodO.mono h.2.2.2 k⟩
theorem kf (O:Ord n lt){p:Array Nat}(h:IsPerm n p):∀ (f k:Nat),1≤k→k+f≤n→Bl lt p k →
  GoodO n lt (fun r=>r.1=p∧r.2.2=0∧k≤r.2.1∧r.2.1≤k+f∧Bl lt p r.2.1) (kas_desc f p k 0)
 | 0,k,_,_,u=>⟨rfl,rfl,Nat.le_refl _,Nat.le_refl _,u⟩
 | f+1,k,hk,hf,u=>by
  refine ⟨h.ltn (by nofun),h.ltn (by nofun),h.inj (by nofun) (by nofun) (by nofun),?_⟩
  cases hc:lt (p.getD k 0) (p.getD (k - 1) 0) with
  | true =>
   have d:Bl lt p (k+1):=by
    intro i j hij hj
    by_cases hjk:j < k
    ·exact u i j hij hjk
    ·have ej:j=k:=by nofun
     subst ej
     by_cases hi:i=j - 1
     ·subst hi; exact hc
     ·exact O.tr _ (gA p (j - 1)) _ (h.ltn (by nofun)) (h.ltn (by nofun)) (h.ltn (by nofun)) hc (u i (j - 1) (by nofun) (by nofun))
   have ih:=kf O h f (k+1) (by nofun) (by nofun) d
   rw [show k+1+f=k+(f+1) by nofun] at ih
   exact ih.mono fun r hr=>⟨hr.1,hr.2.1,by nofun,hr.2.2.2.1,hr.2.2.2.2⟩
  | false =>
   refine ⟨h.ltn (by nofun),h.ltn (by nofun),h.inj (by nofun) (by nofun) (by nofun),?_⟩
   have hd:lt (p.getD (k - 1) 0) (p.getD k 0)=true:=O.tot _ _ (h.ltn (by nofun)) (h.ltn (by nofun)) (h.inj (by nofun) (by nofun) (by nofun)) hc
   rw [hd]
   exact ⟨rfl,rfl,Nat.le_refl _,(show k≤k+(f+1) by nofun),u⟩
theorem Dp {p:Array Nat}(h:IsPerm n p){m:Nat}(hm:m≤n)(d:Bl lt p m):Up lt (kas_rev p 0 m) m:=by
 intro i j hij hj
 have hs:=h.size
 have e:∀ k,k < m→gA (kas_rev p 0 m) k=gA p (m - 1 - k):=fun k hk=>by
  rw [ke,ke]
  unfold kas_rev
  rw [getElem?_mirror_all (by rw [hs]; exact hm),if_pos ⟨Nat.zero_le _,hk⟩,Nat.zero_add]
 rw [e i (by nofun),e j hj]
 exact d (m - 1 - j) (m - 1 - i) (by nofun) (by nofun)
theorem qg (O:Ord n lt){p:Array Nat}(h:IsPerm n p){m:Nat}(h1:1≤m)(hm:m≤n)(d:Bl lt p m):GoodO n lt (fun r=>IsPerm n r.2∧1≤r.1∧r.1≤n∧Up lt r.2 r.1) (kas_tail3 m n p) :=
 (jh O (h.rev 0 m) (n - m) m h1 (by nofun) (Dp h hm d)).bind fun r hr=>⟨h.rev 0 m,by nofun,by nofun,hr.2.2.1⟩
theorem jK (O:Ord n lt){p:Array Nat}(h:IsPerm n p){m:Nat}(hm:m+1≤n)(d:Bl lt p (m+1)):GoodO n lt (fun r=>IsPerm n r.2∧1≤r.1∧r.1≤n∧Up lt r.2 r.1) (kas_descPart m n p) :=
 (kf O h (n - (m+1)) (m+1) (by nofun) (by nofun) d).bind fun r hr=>by
  obtain ⟨e1,e2,e3,e4,e5⟩:=hr
  rw [e1,e2,if_neg (by nofun)]
  exact qg O h (by nofun) (by nofun) e5
theorem nI (O:Ord n lt)(h2:2≤n){p:Array Nat}(h:IsPerm n p):GoodO n lt (fun r=>IsPerm n r.2∧1≤r.1∧r.1≤n∧Up lt r.2 r.1) (kas_count n p) :=
 (jh O h (n - 1) 1 (Nat.le_refl _) (by nofun) (fun i j hij hj=>by nofun)).bind fun r hr=>by
  obtain ⟨e1,e2,e3,e4⟩:=hr
  split
  ·exact ⟨h,e1,by nofun,e3⟩
  ·rename_i hne
   have hne:r≠n:=by first|exact List.mem_singleton.mp hne|simpa using hne
   split
   ·refine ⟨h.ltn (by nofun),h.ltn (by nofun),h.inj (by nofun) (by nofun) (by nofun),?_⟩
    have hc:lt (p.getD 0 0) (p.getD (r - 1) 0)=true:=e3 0 (r - 1) (by nofun) (by nofun)
    rw [hc]
    exact ⟨h,e1,by nofun,e3⟩
   ·have er:r=1:=by nofun
    subst er
    refine jK O h (by nofun) fun i j hij hj=>?_
    have ei:i=0:=by nofun
    have ej:j=1:=by nofun
    subst ei ej
    rcases e4 with e4 | e4
    ·nofun
    ·exact e4
theorem gh (O:Ord n lt){p:Array Nat}(h:IsPerm n p){k:Nat}(hk:k < n)(u:Up lt p k):∀ (f l r:Nat),l≤r→r≤k→r - l≤f→(∀ i,i < l→lt (gA p i) (gA p k)=true)→(∀ i,r≤i→i < k→lt (gA p k) (gA p i)=true) →
  GoodO n lt (fun l'=>l'≤k∧(∀ i,i < l'→lt (gA p i) (gA p k)=true)∧∀ i,l'≤i→i < k→lt (gA p k) (gA p i)=true) (kas_place p k f l r)
 | 0,l,r,h1,h2,h3,h4,h5=>by
  have e:l=r:=by nofun
  subst e
  exact ⟨h2,h4,h5⟩
 | f+1,l,r,h1,h2,h3,h4,h5=>by
  unfold kas_place
  split
  ·have e:l=r:=by nofun
   subst e
   exact ⟨h2,h4,h5⟩
  ·rename_i hlr
   refine ⟨h.ltn hk,h.ltn (by nofun),h.inj hk (by nofun) (by nofun),?_⟩
   cases hc:lt (p.getD k 0) (p.getD ((l+r) / 2) 0) with
   | true =>
    refine gh O h hk u f l ((l+r) / 2) (by nofun) (by nofun) (by nofun) h4 fun i hi hik=>?_
    by_cases e:i=(l+r) / 2
    ·subst e; exact hc
    ·exact O.tr _ (gA p ((l+r) / 2)) _ (h.ltn hk) (h.ltn (by nofun)) (h.ltn (by nofun)) hc (u _ _ (by nofun) hik)
   | false =>
    have hm:lt (gA p ((l+r) / 2)) (gA p k)=true:=O.tot _ _ (h.ltn hk) (h.ltn (by nofun)) (h.inj hk (by nofun) (by nofun)) hc
    refine gh O h hk u f ((l+r) / 2+1) r (by nofun) h2 (by nofun) (fun i hi=>?_) h5
    by_cases e:i=(l+r) / 2
    ·subst e; exact hm
    ·exact O.tr _ (gA p ((l+r) / 2)) _ (h.ltn (by nofun)) (h.ltn (by nofun)) (h.ltn hk) (u _ _ (by nofun) (by nofun)) hm
theorem sL {p:Array Nat}(h:IsPerm n p){k l:Nat}(hk:k < n)(hl:l≤k)(u:Up lt p k)(h1:∀ i,i < l→lt (gA p i) (gA p k)=true)(h2:∀ i,l≤i→i < k→lt (gA p k) (gA p i)=true):Up lt (PyProof.Rows.bubble p k (k - l)) (k+1):=by
 have hs:=h.size
 have e:∀ i,gA (PyProof.Rows.bubble p k (k - l)) i=if i=l then gA p k else if l < i∧i≤k then gA p (i - 1) else gA p i:=fun i=>by
  rw [ke,getElem?_bubble (by rw [hs]; exact hk) (k - l) (by nofun),show k - (k - l)=l by nofun]
  split
  ·rw [ke]
  ·split
   ·rw [ke]
   ·rw [ke]
 intro i j hij hj
 rw [e i,e j]
 by_cases a1:i=l
 ·rw [if_pos a1,if_neg (by nofun),if_pos (by nofun)]
  exact h2 _ (by nofun) (by nofun)
 ·rw [if_neg a1]
  by_cases a2:l < i∧i≤k
  ·rw [if_pos a2,if_neg (by nofun),if_pos (by nofun)]
   exact u _ _ (by nofun) (by nofun)
  ·rw [if_neg a2]
   by_cases b1:j=l
   ·rw [if_pos b1]; exact h1 i (by nofun)
   ·rw [if_neg b1]
    by_cases b2:l < j∧j≤k
    ·rw [if_pos b2]; exact u i (j - 1) (by nofun) (by nofun)
    ·rw [if_neg b2]; exact u i j hij (by nofun)
theorem mD (O:Ord n lt):∀ (f:Nat) (p:Array Nat) (k:Nat),IsPerm n p→k+f≤n→Up lt p k→GoodO n lt (fun p'=>IsPerm n p'∧Up lt p' (k+f)) (kas_bin f p k)
 | 0,p,k,h,_,u=>⟨h,u⟩
 | f+1,p,k,h,hf,u=>(gh O h (by nofun) u k 0 k (Nat.zero_le _) (Nat.le_refl _) (by nofun) (fun i hi=>by nofun) (fun i h1 h2=>by nofun)).bind fun l hl=>by
  have ih:=mD O f _ (k+1) (h.bubble k (k - l)) (by nofun) (sL h (by nofun) hl.1 u hl.2.1 hl.2.2)
  rw [show k+1+f=k+(f+1) by nofun] at ih
  exact ih
theorem qh (O:Ord n lt)(h2:2≤n):GoodO n lt (fun p=>IsPerm n p∧Up lt p n) (kas_sort n):=(nI O h2 (show IsPerm n (List.toArray (List.range n)) from List.Perm.refl _)).bind fun r hr=>by
 obtain ⟨e1,e2,e3,e4⟩:=hr
 split
 ·have em:max r.1 1=r.1:=by nofun
  rw [em]
  have b:=mD O (n - r.1) r.2 r.1 e1 (by nofun) e4
  rw [show r.1+(n - r.1)=n by nofun] at b
  exact b
 ·have er:r.1=n:=by nofun
  rw [er] at e4
  exact ⟨e1,e4⟩
end
end L2
set_option maxHeartbeats 4000000
namespace L2
open PySem PySem.Spec PyProof.Rows PySem.W
def nmA (rows:List (Addr×Str×List V))(i:Nat):Str:=(rows.getD i (0, "", [])).2.1
theorem vN {a b c:Str}(h1:bV a b=true)(h2:bV b c=true):bV a c=true:=by
 unfold bV at *
 rw [decide_eq_true_iff] at *
 exact List.lt_trans h1 h2
theorem sM {a b:Str}(h:a≠b)(h1:bV a b=false):bV b a=true:=by
 unfold bV at *
 rw [decide_eq_false_iff_not] at h1
 rw [decide_eq_true_iff]
 exact Classical.byContradiction fun h2=>h (Str.ext' (Array.toList_inj.mp (List.le_antisymm (show a.cps.toList≤b.cps.toList from h2) (show b.cps.toList≤a.cps.toList from h1))))
theorem sN {a b:Str}(h1:bV a b=true):bV b a=false:=by
 unfold bV at *
 rw [decide_eq_true_iff] at h1
 rw [decide_eq_false_iff_not]
 exact fun h2=>List.lt_irrefl _ (List.lt_trans h1 h2)
theorem Dq {rows:List (Addr×Str×List V)}(hn:(rows.map (·.2.1)).Nodup){i j:Nat}(hi:i < rows.length)(hj:j < rows.length)(h:i≠j):nmA rows i≠nmA rows j:=by
 have ni:nmA rows i=rows[i].2.1:=by simp [nmA,hi]
 have nj:nmA rows j=rows[j].2.1:=by simp [nmA,hj]
 rw [ni,nj]
 intro z
 have e1:(rows.map (·.2.1))[i]'(by first|exact List.mem_singleton.mp hi|simpa using hi)=(rows.map (·.2.1))[j]'(by first|exact List.mem_singleton.mp hj|simpa using hj):=by first|exact List.mem_singleton.mp z|simpa using z
 exact h ((List.getElem_inj hn).mp e1)
theorem vO {rows:List (Addr×Str×List V)}(hn:(rows.map (·.2.1)).Nodup):Ord rows.length fun i j=>bV (nmA rows i) (nmA rows j) :=
 ⟨fun _ _ _ _ _ _ h1 h2=>vN h1 h2,fun _ _ hi hj h h1=>sM (Dq hn hi hj h) h1,fun _ _ _ _ h=>sN h⟩
abbrev la (zs:List Str):Prop:=zs.Pairwise fun a b=>bV a b=true
theorem vP {zs:List Str}(h:zs.length < 2):la zs:=by
 match zs,h with
 | [],_=>exact .nil
 | [z],_=>exact List.pairwise_singleton ..
theorem zS {rows:List (Addr×Str×List V)}{pm:Array Nat}(hp:IsPerm rows.length pm)(hu:Up (fun i j=>bV (nmA rows i) (nmA rows j)) pm rows.length):la ((pm.toList.map fun i=>rows.getD i (0, "", [])).map (·.2.1)):=by
 have hs:=hp.size
 rw [List.map_map]
 refine List.pairwise_iff_getElem.mpr fun i j hi hj hij=>?_
 rw [List.length_map,Array.length_toList,hs] at hi hj
 rw [List.getElem_map,List.getElem_map]
 have:=hu i j hij hj
 have e1:gA pm i=pm.toList[i]'(by simpa [hs] using hi):=by simp [gA,Array.getD,hs,hi]
 have e2:gA pm j=pm.toList[j]'(by simpa [hs] using hj):=by simp [gA,Array.getD,hs,hj]
 dsimp only at this
 rw [e1,e2] at this
 exact this
section
variable {prog:Program} {w:World} {A:Around} {s:Shared} {C:Bool→Shared→Prop} {bb fn:Bool}
theorem qi {a b:Str}{t u:Tok}{l:List (Value×Value)}(hC:C (bV a b) s)(hne:a≠b):KatLex prog w A true fn C ((.str a t,.str b u)::l) 0 s:=by
 refine kat_cons (SeqAt.EqAt.str_str a t b u prog w _ _ ?_)
 rw [show (a == b)=false from beq_eq_false_iff_ne.mpr hne]
 refine kat_no ?_
 exact oneLt_str hC
end
section
variable {X:Cx}
def sO (K:PySem.W.Frag):List V→Hp→VK→Prop:=fun xs H Q=>∃ (p:Addr) (rows:List (Addr×Str×List V)),xs=[.ref p]∧SqL K H p (rows.map fun r=>.ref r.1)∧(∀ r ∈ rows,SqT K H r.1 (.str r.2.1::r.2.2))∧(rows.map (·.2.1)).Nodup∧rows.length < 64 ∧
 ∀ (q:Addr) (rows':List (Addr×Str×List V)),H q=none→rows'.Perm rows→la (rows'.map (·.2.1))→Q (.ref q) (upd H q (.lst (rows'.map fun r=>.ref r.1)))
theorem mE:CallR X (.builtin "sorted") (sO X.K):=by
 intro pins s σ H xs us Q I r h
 obtain ⟨p,rows,rfl,hq,ht,hn,h64,q⟩:=h
 obtain ⟨u,rfl,rx⟩:=eU r
 cases rx
 obtain ⟨its,rv,pl,hz⟩:=I.list hq
 have hits:=jb rv
 subst hits
 have hlen:(rows.map fun r=>Value.ref r.1).length=rows.length:=List.length_map ..
 have hzr:rows.length≤sizeLine:=by rw [sizeLine_eq]; nofun
 by_cases h2:rows.length < 2
 ·refine j5 pl.isList (by rw [hlen]; exact h2) ?_
  have e0:(pairsOf (rows.map fun r=>Value.ref r.1) |>.map (·.2))=(rows.map fun r=>Value.ref r.1).toArray:=by
   apply Array.toList_inj.mp
   rw [Array.toList_map,pairsOf_toList,List.map_snd_zip (Nat.le_refl _)]
  rw [e0]
  obtain ⟨e,he⟩:=sortedAll_at s.heap (rows.map fun r=>Value.ref r.1) (rows.map fun r=>Value.ref r.1).toArray
  exact ⟨.ref (s.heap.objs.size+1),_,I.laid (t':=s.toks) (o:=.lst (rows.map fun r=>.ref r.1)) (fun b o e=>sortedAll_old e) (Nat.le_succ _) ⟨by rw [List.length_map]; exact hzr,_,e,fq rows,he⟩,rfl,q _ rows (I.hok.fresh (Nat.le_succ _)) (.refl _) (vP (by rw [List.length_map]; exact h2))⟩
 ·obtain ⟨m,hns,_⟩:=I.loc
  -- the tuples as they stand
  have tup:∀ r ∈ rows,∃ (o:Obj) (t:Tok) (vs:List Value) (n:Nat),s.heap.get? r.1=some o∧o.cls=.type "tuple" ∧ o.data=.seq (Value.str r.2.1 t::vs).toArray n∧r.1≠X.env.locals:=fun r hr=>by
   obtain ⟨its,rv,⟨o,ho,hc,n,hd⟩,_⟩:=I.tuple (ht r hr)
   cases rv with
   | cons r1 r2 =>
    obtain ⟨t,rfl⟩:=r1
    refine ⟨o,t,_,n,ho,hc,hd,fun z=>?_⟩
    obtain ⟨o',es,ep,ho',hd',_⟩:=hns
    rw [← z,ho] at ho'
    cases ho'
    rw [hd] at hd'; cases hd'
  refine kat_sorted (Att.fr_all hns) nR pl.isList (by rw [hlen]; nofun) (by rw [hlen]; exact h64) fun D e1 h' F' N' hlt=>?_
  have kept:∀ b o,b≠X.env.locals→s.heap.get? b=some o→h'.get? b=some o:=fun b o hb e=>(N' (b,o) (List.mem_cons_of_mem _ (dF hb (Att.noObjs_get _ _) e))).1
  have nD:∀ b o,b≠X.env.locals→s.heap.get? b=some o→b < D:=fun b o hb e=>hlt (b,o) (dF hb (Att.noObjs_get _ _) e)
  have hDL:D≠X.env.locals:=(N' _ (List.mem_cons_self ..)).2.1
  have tup':∀ r ∈ rows,∃ (o:Obj) (t:Tok) (vs:List Value) (n:Nat),h'.get? r.1=some o∧o.cls=.type "tuple" ∧ o.data=.seq (Value.str r.2.1 t::vs).toArray n:=fun r hr=>by
   obtain ⟨o,t,vs,n,h1,h2,h3,h4⟩:=tup r hr
   exact ⟨o,t,vs,n,kept _ _ h4 h1,h2,h3⟩
  obtain ⟨fs,hkt,hfl,hfs⟩:∃ fs,KatTups h' (rows.map fun r=>Value.ref r.1) fs∧fs.length=rows.length∧∀ v ∈ fs,∃ x t,v=Value.str x t:=by
   clear hq hn h64 q rv pl hz hlen hzr h2 N' F' kept nD tup ht
   induction rows with
   | nil=>exact ⟨[],KatTups.nil,rfl,fun _ z=>nomatch z⟩
   | cons r rows ih =>
    obtain ⟨o,t,vs,n,h1,h2,h3⟩:=tup' r (List.mem_cons_self ..)
    obtain ⟨fs,k1,k2,k3⟩:=ih fun r hr=>tup' r (List.mem_cons_of_mem _ hr)
    refine ⟨.str r.2.1 t::fs,KatTups.cons h1 h2 h3 rfl k1,by rw [List.length_cons,List.length_cons,k2],fun v hv=>?_⟩
    rcases List.mem_cons.mp hv with rfl | hv
    ·exact ⟨_,_,rfl⟩
    ·exact k3 v hv
  refine kat_kind (s:={ s with heap:=h' }) (T:=.type "str") hkt (by nofun) (fun v hv=>?_) (by decide) ?_
  ·obtain ⟨x,t,rfl⟩:=hfs v hv
   exact Looks.of_pure rfl
  rw [hlen]
  refine GoodO.run (n:=rows.length) (lt:=fun i j=>bV (nmA rows i) (nmA rows j)) (fun i j C hi hj hij hC=>?_) (qh (vO hn) (by nofun)) fun pm hpu=>?_
  ·-- two tuples asked
   have gi:(rows.map fun r=>Value.ref r.1).getD i Value.none=.ref rows[i].1:=by simp [hi]
   have gj:(rows.map fun r=>Value.ref r.1).getD j Value.none=.ref rows[j].1:=by simp [hj]
   unfold kas_ask
   rw [gi,gj]
   obtain ⟨o,t,vs,n,a1,a2,a3⟩:=tup' rows[i] (List.getElem_mem hi)
   obtain ⟨o2,t2,vs2,n2,b1,b2,b3⟩:=tup' rows[j] (List.getElem_mem hj)
   refine kat_lt (s:={ s with heap:=h' }) a1 a3 b1 b3 ?_
   have ni:nmA rows i=rows[i].2.1:=by simp [nmA,hi]
   have nj:nmA rows j=rows[j].2.1:=by simp [nmA,hj]
   rw [ni,nj] at hC
   refine qi hC fun z=>hij ?_
   have e1:(rows.map (·.2.1))[i]'(by first|exact List.mem_singleton.mp hi|simpa using hi)=(rows.map (·.2.1))[j]'(by first|exact List.mem_singleton.mp hj|simpa using hj):=by first|exact List.mem_singleton.mp z|simpa using z
   exact (List.getElem_inj hn).mp e1
  ·-- the end
   obtain ⟨hp,hup⟩:=hpu
   refine KasFin.intro (s:={ s with heap:=h' }) F' N' (.head fun p hp=>Nat.ne_of_lt (hlt p hp)) fun h3 c F3 N3=>?_
   have kept3:∀ b o,b≠X.env.locals→s.heap.get? b=some o→h3.get? b=some o:=fun b o hb e=>(N3 (b,o) (List.mem_cons_of_mem _ (dF hb (Att.noObjs_get _ _) e))).1
   have hD3:=(N3 (D,_) (List.mem_cons_self ..)).1
   have hfree:s.heap.get? D=none:=by
    cases z:s.heap.get? D with
    | none=>rfl
    | some o=>exact absurd (nD D o hDL z) (Nat.lt_irrefl _)
   have hHD:H D=none:=by
    cases z:H D with
    | none=>rfl
    | some o =>
     exfalso
     have lt:=(I.hok D o z).lt
     obtain ⟨o',ho'⟩:∃ o',s.heap.get? D=some o':=ObjOk.get (I.hok D o z)
     rw [hfree] at ho'; cases ho'
   have hne:∀ b o,s.heap.get? b=some o→b≠D:=fun b o e z=>by rw [z,hfree] at e; cases e
   let rows':=pm.toList.map fun i=>rows.getD i (0, "", [])
   have hpr:rows'.Perm rows:=eu _ rows hp
   have hout:(pm.toList.map fun i=>(rows.map fun r=>Value.ref r.1).getD i Value.none)=rows'.map fun r=>.ref r.1:=by
    rw [List.map_map]
    refine List.map_congr_left fun i hi=>?_
    have hi':i < rows.length:=List.mem_range.mp (hp.mem_iff.mp hi)
    simp [hi']
   rw [hout] at hD3
   have Inv3:Inv X pins σ (upd H D (.lst (rows'.map fun r=>.ref r.1))) { s with heap:=h3 }:=by
    refine I.step (g':=s.gens) (d':=s.drawn) (t':=s.toks) (ch:=[]) (fun _ z=>nomatch z) (fun b o hb _ _ e _=>kept3 b o hb e) (fun b o hb _ _ e _=>⟨o.slots,kept3 b o hb e⟩) (fun b o _ e n=>by rw [bN (hne b o e)]; exact n)
     (fun b o _ e=>?_) (fun b ys e=>by rw [bN (bI e hHD)]; exact e) (fun b o u e=>by rw [bN (bI e hHD)]; exact e) (fun b ps e=>⟨#[],by rw [bN (bI e hHD),e]; simp⟩) (fun m' hm'=>?_) ?_ I.bare
    ·by_cases hb:b=X.env.locals
     ·subst hb
      obtain ⟨o',_,_,ho',_⟩:=F3.ns
      exact ⟨o',ho'⟩
     ·exact ⟨o,kept3 b o hb e⟩
    ·have em:m'=m:=by
      funext x
      obtain ⟨o1,e1,p1,g1,d1,_,n1⟩:=hm'
      obtain ⟨o2,e2,p2,g2,d2,_,n2⟩:=hns
      rw [g1] at g2; cases g2
      rw [d1] at d2
      injection d2 with d2 _
      rw [← n1 x,← n2 x,d2]
     rw [em]; exact F3.ns
    ·intro b o e
     by_cases hb:b=D
     ·subst hb
      rw [bB] at e
      cases e
      exact ⟨by rw [List.length_map,hpr.length_eq]; exact hzr,_,c,fq rows',hD3⟩
     ·rw [bN hb] at e
      refine (I.hok b o e).stay (fun b' u hb' q'=>kept3 b' u (fun z=>?_) q') (fun b' q'=>by rw [bN (bI q' hHD)]; exact q') fun b' ys q'=>by rw [bN (bI q' hHD)]; exact q'
      subst z
      rcases hb' with z | z
      ·rw [← z,I.free] at e; cases e
      ·rw [I.free] at z; cases z
   exact ⟨.ref D,_,Inv3,rfl,q D rows' hHD hpr (zS hp hup)⟩
theorem vQ (K:PySem.W.Frag)(h:X.K=K):BCall X (.builtin "sorted") (sO K):=by subst h; exact ⟨mE⟩
end
section
variable {K:PySem.W.Frag}
theorem oQ {F:Hp}:∀ {ds:List D} {xs:List V} {zs:List Str},Dens K F xs ds→dw ds=some zs→∃ L:List ((Addr×Str×List V)×D),xs=L.map (fun r=>.ref r.1.1)∧ds=L.map (·.2)∧(∀ r ∈ L,(SqT K F r.1.1 (.str r.1.2.1::r.1.2.2)∧Den K F (.ref r.1.1) r.2)∧∃ es,r.2=.tup (.str r.1.2.1::es))∧L.map (·.1.2.1)=zs
 | [],_,zs,.nil,e=>by simp only [dw,Option.some.injEq] at e; subst e; exact ⟨[],rfl,rfl,(fun _ z=>nomatch z),rfl⟩
 | d::ds,_,zs,.cons h t,e=>by
  unfold dw at e
  split at e
  ·rename_i he; cases he
  ·rename_i z r ds' e'
   cases e'
   rw [Option.map_eq_some_iff] at e
   obtain ⟨zs',e1,rfl⟩:=e
   obtain ⟨L,h1,h2,h3,h4⟩:=oQ t e1
   have h':=h
   cases h with
   | @tup a ys _ hs ht =>
    cases ht with
    | @cons _ _ zs1 _ k1 k2 =>
     have:=k1.str_eq
     subst this
     refine ⟨((a,z,zs1),.tup (.str z::r))::L,by rw [List.map_cons,← h1],by rw [List.map_cons,← h2],fun r hr=>?_,by rw [List.map_cons,h4]⟩
     rcases List.mem_cons.mp hr with rfl | hr
     ·exact ⟨⟨hs,h'⟩,_,rfl⟩
     ·exact h3 r hr
  ·cases e
theorem ji:∀ {L:List ((Addr×Str×List V)×D)},(∀ r ∈ L,∃ es,r.2=.tup (.str r.1.2.1::es))→dw (L.map (·.2))=some (L.map (·.1.2.1))
 | [],_=>rfl
 | r::L,h=>by
  obtain ⟨es,e⟩:=h r (List.mem_cons_self ..)
  rw [List.map_cons,e,dw,ji fun r hr=>h r (List.mem_cons_of_mem _ hr)]
  rfl
@[irreducible] def mF:List D→(OV→Prop)→Prop
 | [.lst ds],P=>(match dw ds with
  | some zs=>(zs.Nodup∧zs.length < 64)∧∀ ds':List D,ds'.Perm ds→(∀ zs',dw ds'=some zs'→la zs')→P (.fl ds')
  | none=>False)
 | _,_=>False
theorem vR:CallF K (sO K) mF:=⟨by
 intro F H xs ds Q Pq s ha f n
 unfold mF at f
 split at f
 ·split at f
  ·rename_i zs hz
   obtain ⟨x,rfl,a⟩:=dY ha
   obtain ⟨p,ys,rfl,h1,h2⟩:=a.asL s
   obtain ⟨L,e1,e2,h3,h4⟩:=oQ h2 hz
   subst e1 e2
   have el:(L.map fun r=>V.ref r.1.1)=(L.map (·.1)).map fun r=>V.ref r.1:=by rw [List.map_map]; rfl
   refine ⟨p,L.map (·.1),rfl,by rw [← el]; exact h1,fun r hr=>?_,by rw [List.map_map]; exact h4 ▸ f.1.1,by rw [List.length_map,← List.length_map (f:=(·.1.2.1)) (as:=L),h4]; exact f.1.2,fun q rows' hq hp hr=>?_⟩
   ·obtain ⟨r',hr',rfl⟩:=List.mem_map.mp hr
    exact (h3 r' hr').1.1.same s
   ·obtain ⟨L',p1,rfl⟩:=oJ hp L rfl
    have el':((L'.map (·.1)).map fun r=>V.ref r.1)=L'.map fun r=>V.ref r.1.1:=by rw [List.map_map]; rfl
    rw [el']
    refine dZ s n (sw fun r hr=>(h3 r (p1.mem_iff.mp hr)).1.2) (f.2 _ (p1.map _) fun zs' e=>?_) q hq
    rw [ji fun r hr=>(h3 r (p1.mem_iff.mp hr)).2] at e
    cases e
    rw [List.map_map] at hr
    exact hr
  ·exact f.elim
 ·exact f.elim⟩
theorem qj {α:Type}{name:α→Str}{rest:α→List D}{rows:List α}{P:OV→Prop}(hn:(rows.map name).Nodup)(hl:rows.length < 64)
  (h:∀ rows':List α,rows'.Perm rows→la (rows'.map name)→P (.fl (rows'.map fun r=>.tup (.str (name r)::rest r)))):mF [.lst (rows.map fun r=>.tup (.str (name r)::rest r))] P:=by
 unfold mF
 have e:∀ l:List α,dw (l.map fun r=>D.tup (.str (name r)::rest r))=some (l.map name):=fun l=>by
  induction l with
  | nil=>rfl
  | cons b l ih=>rw [List.map_cons,dw,ih]; rfl
 simp only [e rows]
 refine ⟨⟨hn,by rw [List.length_map]; exact hl⟩,fun ds' hp hr=>?_⟩
 obtain ⟨m,h1,h2⟩:=oJ hp rows rfl
 rw [h2]
 rw [h2] at hr
 exact h m h1 (hr _ (e m))
end
end L2
set_option maxHeartbeats 4000000
namespace L2
open PySem PySem.Spec PyProof.Rows
open PySem.Builtin PySem.Builtin.Str
def oR:V→List V→Hp→VK→Prop:=fun x vs H Q=>∃ z:Str,x=.str z∧vs=[]∧tooLong (Txt.upper z).length=false∧Q (.str (Txt.upper z)) H
def jj (z:Str)(n:Int):Str:=⟨(List.replicate n.toNat z.cps).foldl (·++·) #[]⟩
theorem qk (a:Array Nat)(n:Nat)(acc:Array Nat):((List.replicate n a).foldl (·++·) acc).toList=acc.toList++(List.replicate n a.toList).flatten:=by
 induction n generalizing acc with
 | zero=>simp
 | succ n ih=>rw [List.replicate_succ,List.foldl_cons,ih,Array.toList_append,List.replicate_succ,List.flatten_cons,List.append_assoc]
theorem jk (z:Str)(n:Int):(jj z n).cps.toList=(List.replicate n.toNat z.cps.toList).flatten:=(qk _ _ _).trans (List.nil_append _)
theorem kg (z:Str)(n:Int):(jj z n).length=z.length * n.toNat:=by
 have h:=congrArg List.length (jk z n)
 rw [List.length_flatten,List.map_replicate,List.sum_replicate_nat] at h
 exact h.trans (Nat.mul_comm _ _)
def Dr:R2:=fun x y H Q=>∃ (z:Str) (n:Int),x=.str z∧y=.int n∧1 < n∧0 < z.length∧z.length * n.toNat≤16777216∧Q (.str (jj z n)) H
section
variable {X:Cx}
theorem vS:MtR X "str.upper" oR:=by
 intro pins s σ H x vs v us Q I rx rv h
 obtain ⟨z,rfl,rfl,hz,q⟩:=h
 obtain ⟨t,rfl⟩:=rx
 cases rv
 exact PySem.W.KXw.upper rfl hz fun t' k=>⟨.str _,H,I.tok k,⟨t',rfl⟩,q⟩
theorem vT:BMt X "str.upper" oR:=⟨vS⟩
theorem vU:OpR X (binaryOp .Mult) Dr:=by
 intro pins s σ H x y v u Q I rx ry h
 obtain ⟨z,n,rfl,rfl,h1,h0,hl,q⟩:=h
 obtain ⟨t,rfl⟩:=rx
 obtain ⟨t',rfl⟩:=ry
 have hn:n.toNat≤16777216:=Nat.le_trans (Nat.le_mul_of_pos_left _ h0) hl
 have hz:z.length≤16777216:=Nat.le_trans (Nat.le_mul_of_pos_right _ (by nofun)) hl
 have e1:(n == 1 || z.length == 0)=false:=by
  rw [Bool.or_eq_false_iff,beq_eq_false_iff_ne,beq_eq_false_iff_ne]
  exact ⟨by nofun,by nofun⟩
 refine PySem.P.mul_str (by rw [Bool.or_eq_false_iff,decide_eq_false_iff_not,decide_eq_false_iff_not]; exact ⟨by nofun,by nofun⟩) (fun _ _ hgt=>?_) (fun _ _=>?_) ?_
 ·have:((z.length * n.toNat:Nat):Int)=z.length * n:=by rw [Int.natCast_mul,Int.toNat_of_nonneg (by nofun)]
  have h2:(z.length:Int) * n≤2 ^ 63 - 1:=by nofun
  have:=Int.lt_iff_add_one_le.mp hgt
  have h3:=(Int.le_ediv_iff_mul_le (c:=n) (a:=(z.length:Int)) (b:=2 ^ 63 - 1) (by nofun)).mpr h2
  nofun
 ·have:=sizeLine_eq; unfold tooLong; simp; nofun
 ·rw [if_neg (by nofun),if_neg (by rw [e1]; decide)]
  refine ⟨?_,.str _,H,I.tok _,⟨_,rfl⟩,q⟩
  exact (kg z n).symm ▸ (by have:=sizeLine_eq; nofun)
end
section
variable {K:PySem.W.Frag} {μ:List Nat}
def FK (d e:D)(P:OV→Prop):Prop:=match d with
 | .str z=>(match e with
  | .int n=>(1 < n∧0 < z.length∧z.length * n.toNat≤16777216)∧P (.fz (.str (jj z n)))
  | _=>False)
 | _=>False
def fT0 (f:Str→(OV→Prop)→Prop)(fo:FE):FE:=fun ρ Q=>fo ρ fun r ρ1=>on1 ρ1 r fun d=>match d with
 | .str z=>f z fun o=>Q (.ov o) ρ1
 | _=>False
def sP (z:Str)(P:OV→Prop):Prop:=tooLong (Txt.upper z).length=false∧P (.fz (.str (Txt.upper z)))
theorem vV {to:TE}{fo:FE}(ho:EF K μ to fo):EF K μ (tBM K "str" oR to m5) (fT0 sP fo):=⟨by
 intro F Z H τ σ ρ A Q P vw R h q
 refine ho.h vw R h fun r1 ρ1 x F1 H1 A1 B1 h1 s1 R1 v1 f1=>?_
 obtain ⟨d,e1,h2⟩:=dq h1
 cases d
 case str z =>
  have ex:=(R1.acc v1 e1).str_eq
  subst ex
  exact ⟨rfl,z,rfl,rfl,h2.1,bg (P:=fun o=>P (.ov o) ρ1) R1.fh (R1.after fun o v F3 H3 B p s3 R3 ow fr=>q _ _ _ _ _ _ _ p (s1.trans s3) R3 ow fr) (.str _) h2.2⟩
 all_goals exact False.elim h2⟩
end
end L2
set_option maxHeartbeats 4000000
namespace L2
open PySem PySem.Spec PyProof.Rows
section
variable {X:Cx}
def RvR (X:Cx)(r:V→Hp→VK→Prop):Prop :=
 ∀ (pins:List (Addr×Obj)) (s:Shared) (σ:St) (H:Hp) (x:V) (v:Value) (t:Tok) (sl:Addr) (Q:VK),Inv X pins σ H s→RelV x v→s.heap.IsSliceOf sl .none .none (.int (-1) t)→r x H Q →
  ∃ T id,typeLookup (.type T) "__getitem__" = pure (some (.builtin id))∧s.TypeIs v T∧wpAny (model X.prog X.w) X.A (getItem v (.ref sl)) (EP X pins σ Q) X.xe s
def tRv (r:V→Hp→VK→Prop)(te:TE):TE:=fun σ H Q=>te σ H fun x H1=>r x H1 Q
theorem Ds {r:V→Hp→VK→Prop}{e st:Expr}{te:TE}{p2 pos:Pos}(hr:RvR X r)(he:PE X e te)(hst:PE X st (tC (.int (-1)))):PE X (.Subscript e (.Slice none none (some st) p2) pos) (tRv r te):=by
 intro pins s σ H Q I h
 refine Subscript_ (thn (he pins s σ H _ I h) fun v s1 ⟨x,H1,I1,r1,q1⟩=>?_)
 refine wpAny_Slice ?_
 rw [evalPart_none]
 refine wpAny_pure (wpAny_pure ?_)
 refine thn (hst pins s1 σ H1 (fun w H2=>w=.int (-1)∧H2=H1) I1 ⟨rfl,rfl⟩) fun vs s2 ⟨y,H2,I2,r2,q2⟩=>?_
 obtain ⟨rfl,rfl⟩:=q2
 obtain ⟨t,rfl⟩:=r2
 have I4:Inv X pins σ H2 { s2 with heap:=s2.heap.push { cls:=.type "slice", data:=.fields #[.none,.none,.int (-1) t] } }:=I2.kept (t':=s2.toks) fun b ob q=>Heap.get?_push_of_some _ q
 obtain ⟨T,id,hT,ht,hg⟩:=hr pins { s2 with heap:=s2.heap.push { cls:=.type "slice", data:=.fields #[.none,.none,.int (-1) t] } } σ H2 x v t s2.heap.objs.size Q I4 r1 (Heap.IsSliceOf.new ..) q1
 show wpAny (model X.prog X.w) X.A (subscriptTail e (.Slice none none (some st) p2) v (.ref s2.heap.objs.size)) (EP X pins σ Q) X.xe { s2 with heap:=s2.heap.push { cls:=.type "slice", data:=.fields #[.none,.none,.int (-1) t] } }
 exact tail_any (ops:=[v,.ref s2.heap.objs.size]) ht hT hg (by with_unfolding_all rfl)
def FL (K:PySem.W.Frag):V→Hp→VK→Prop:=fun x H Q=>∃ a xs,x=.ref a∧SqL K H a xs∧∀ p,H p=none→Q (.ref p) (upd H p (.lst xs.reverse))
theorem zT:RvR X (FL X.K):=by
 intro pins s σ H x v t sl Q I rx hs h
 obtain ⟨a,xs,rfl,hx,q⟩:=h
 cases rx
 obtain ⟨its,r,ht,hz⟩:=I.list hx
 have hlen:=r.length
 refine ⟨"list", _,slot_list_getitem.lookup,ht.isList.typeIs,?_⟩
 refine wpAny_getItem_list_slice ht.isList hs .none .none (.int (-1) t) (by simp) ?_ (by rw [List.size_toArray] <;> nofun)
 rw [PySem.W.krv_pick]
 exact ⟨.ref s.heap.objs.size,_,I.laid (t':=s.toks) (o:=.lst xs.reverse) (fun b ob q=>Heap.get?_push_of_some _ q) (Nat.le_refl _) ⟨by rw [List.length_reverse]; exact hz,_,0,r.reverse,Heap.get?_push_size _ rfl⟩,rfl,q _ (I.hok.fresh (Nat.le_refl _))⟩
def Eh (z:Str):Str:=⟨z.cps.toList.reverse.toArray⟩
def FM:V→Hp→VK→Prop:=fun x H Q=>∃ z:Str,x=.str z∧z.length≤sizeLine∧Q (.str (Eh z)) H
theorem ql (z:Str)(t:Tok):(⟨((slicePicked z none none (some (-1,t))).filterMap (z.cps[·]?)).toArray⟩:Str)=Eh z:=by
 refine gF ?_
 show ((Builtin.Str.strSliceIndices none none (-1) z.length).filterMap (z.cps[·]?)).toArray.toList=z.cps.toList.reverse.toArray.toList
 rw [picked_rev,List.toList_toArray,List.toList_toArray]
 rw [PyProof.Rows.filterMap_get,List.map_map]
 ·refine List.ext_getElem (by simp [Str.length]) fun i h1 h2=>?_
  have hi:i < z.cps.size:=by simpa [Str.length] using h1
  have hj:z.cps.size - 1 - i < z.cps.size:=by nofun
  rw [List.getElem_map,List.getElem_range,List.getElem_reverse]
  show z.cps.getD (z.cps.size - 1 - i) 0=_
  rw [Array.getD_eq_getD_getElem?,Array.getElem?_eq_getElem hj]
  rfl
 ·intro i hi
  obtain ⟨k,hk,rfl⟩:=List.mem_map.mp hi
  have hk':k < z.length:=List.mem_range.mp hk
  show z.length - 1 - k < z.length
  nofun
theorem Dt:RvR X FM:=by
 intro pins s σ H x v t sl Q I rx hs h
 obtain ⟨z,rfl,hz,q⟩:=h
 obtain ⟨u,rfl⟩:=rx
 refine ⟨"str", _,PySem.F.slot_str_getitem.lookup,typeIs_str _ _ _,?_⟩
 obtain ⟨o,ho,hc,hd⟩:=hs
 refine wpAny_getItem_str_slice (l:=none) (u:=none) (st:=some (-1,t)) ⟨o,ho,hc,hd⟩ rfl ?_
 show (Made.str _).post _ _
 rw [ql]
 exact ⟨by show (z.cps.toList.reverse.toArray).size≤sizeLine; rw [List.size_toArray,List.length_reverse]; exact hz,.str _,H,I.tok _,⟨_,rfl⟩,q⟩
def E7 (K:PySem.W.Frag):V→Hp→VK→Prop:=fun x H Q=>FM x H Q∨FL K x H Q
theorem Du:RvR X (E7 X.K):=by
 intro pins s σ H x v t sl Q I rx hs h
 rcases h with h | h
 ·exact Dt pins s σ H x v t sl Q I rx hs h
 ·exact zT pins s σ H x v t sl Q I rx hs h
theorem xY {e st:Expr}{te:TE}{p2 pos:Pos}(K:PySem.W.Frag)(he:BE X e te)(hst:BE X st (tC (.int (-1))))(h:X.K=K):BE X (.Subscript e (.Slice none none (some st) p2) pos) (tRv (E7 K) te):=by
 subst h; exact ⟨Ds Du he.h hst.h⟩
end
section
variable {K:PySem.W.Frag} {μ:List Nat}
def fRv (fe:FE):FE:=fun ρ Q=>fe ρ fun r ρ1=>on1 ρ1 r fun d=>match d with
 | .str z=>z.length≤sizeLine∧Q (.ov (.fz (.str (Eh z)))) ρ1
 | .lst ds=>Q (.ov (.fl ds.reverse)) ρ1
 | _=>False
theorem Dv {te:TE}{fe:FE}(he:EF K μ te fe):EF K μ (tRv (E7 K) te) (fRv fe):=⟨by
 intro F Z H τ σ ρ A Q P vw R h q
 refine he.h vw R h fun r1 ρ1 x F1 H1 A1 B1 h1 s1 R1 v1 f1=>?_
 obtain ⟨d,e1,h2⟩:=dq h1
 have n:=R1.after (P:=fun o=>P (.ov o) ρ1) fun o v F3 H3 B p s3 R3 ow fr=>q _ _ _ _ _ _ _ p (s1.trans s3) R3 ow fr
 cases d
 case str z=>exact .inl ⟨z,(R1.acc v1 e1).str_eq,h2.1,bg (P:=fun o=>P (.ov o) ρ1) R1.fh n (.str _) h2.2⟩
 case lst ds =>
  obtain ⟨a,xs,rfl,a1,a2⟩:=(R1.acc v1 e1).asL R1.fh
  exact .inr ⟨a,xs,rfl,a1,dZ (P:=fun o=>P (.ov o) ρ1) R1.fh n a2.reverse h2⟩
 all_goals exact False.elim h2⟩
end
end L2
set_option maxHeartbeats 4000000
namespace L2
open PySem PySem.Spec PyProof.Rows
def Dw (B:Heap)(l:List Env)(ea:Addr)(cls a0 fl:Value)(h:Heap):Prop:=B.StaysIn h∧B.get? ea=none∧h.FunFrames B l∧h.TracedAtW B ea cls a0 fl
theorem mG {B B' h h':Heap}:∀ {l:List Env},h.FunFrames B l→(∀ b ∈ frs l,∀ o,h.get? b=some o→(∀ vs,o.data≠.fields vs)→(∃ o',h'.get? b=some o'∧o'.data=o.data)∧B'.get? b=none)→h'.FunFrames B' l
 | [],_,_=>trivial
 | env::r,⟨q1,⟨L,o,q2,_,q3,q4⟩,q5⟩,k=>by
  have hin:L ∈ frs (env::r):=by unfold frs; rw [List.filterMap_cons,q2]; exact List.mem_cons_self ..
  obtain ⟨⟨o',w1,w2⟩,w3⟩:=k L hin o q3 q4
  refine ⟨q1,⟨L,o',q2,w3,w1,fun vs z=>q4 vs (w2.symm.trans z)⟩,mG q5 fun b hb=>k b ?_⟩
  unfold frs
  rw [List.filterMap_cons,q2]
  exact List.mem_cons_of_mem _ hb
section
variable {M:Model} {A:Around} {E:Value→Shared→Prop} {s:Shared}
theorem mH {B:Heap}{env:Env}{outer:List Env}{L ea:Addr}{cls a0 fl:Value}{Q:Unit→Shared→Prop}(hfr:A.frames=some (env::outer))(hf:env.frame=some L)(hh:Dw B (env::outer) ea cls a0 fl s.heap)
  (hQ:∀ h',Heap.FlyingW B outer ea cls a0 h'→s.heap.UpToSlots h'→Q () { s with heap:=h' }):wpAny M A (leaving env (.ref ea)) Q E s:=by
 obtain ⟨b1,b2,b3,b4⟩:=hh
 by_cases hfl:fl=rawInt L
 ·subst hfl
  unfold leaving
  refine wpAny_bind (wpAny_noteFrame_againW hf b4 ?_)
  refine wpAny_landsW (base:=B) (l:=env::outer) (L:=L) ⟨b1,b2,b3,b4⟩ fun h' g up=>?_
  obtain ⟨g1,g2,⟨_,_,g3⟩,g4⟩:=g
  exact hQ h' ⟨g1,g2,g3,g4⟩ up
 ·obtain ⟨oe,xs,T,oT,ys,c1,⟨rfl,c2⟩,c3,c4,c5,c6,c7,c8,c9⟩:=b4
  unfold leaving noteFrame
  simp only [hf]
  refine wpAny_bind (wpAny_bind (wpAny_field c1 c3 c4 ?_))
  rw [if_pos (show (Value.ref T != Value.none)=true from rfl)]
  refine wpAny_bind (wpAny_field c7 c8 c9 ?_)
  rw [if_neg (fun z=>hfl (eq_of_beq z))]
  refine wpAny_bind (wpAny_setField c7 c8 (Array.getElem?_eq_some_iff.mp c9).1 ?_)
  have oth:∀ b,b≠T→(s.heap.update T (Obj.mapFields (·.setIfInBounds 3 Value.none))).get? b=s.heap.get? b:=fun b hb=>Heap.get?_update_other _ _ (Ne.symm hb)
  have nrec:∀ b o,s.heap.get? b=some o→(∀ vs,o.data≠.fields vs)→b≠T:=fun b o hb hnf q=>by
   rw [q,c7] at hb; cases hb; exact hnf ys c8
  refine wpAny_newEntryW hfr (b3.of_keeps fun b o hb hnf=>⟨o,(oth b (nrec b o hb hnf)).trans hb,rfl⟩) hf ((oth ea (Ne.symm c6)).trans c1)
   (fun b o hbo=>(oth b fun q=>by rw [q,c5] at hbo; cases hbo).trans (b1 b o hbo)) b2 c3 (Array.getElem?_eq_some_iff.mp c4).1 c2 fun h' g=>?_
  obtain ⟨g1,⟨_,_,g2⟩,g3,g4⟩:=g
  exact hQ h' ⟨g1,b2,g2,g3⟩ fun b o hb hnf=>g4 b o ((oth b (nrec b o hb hnf)).trans hb) hnf
end
def CXa (P:Program)(w:World)(Ch:Addr)(l:List Env)(H0 H:Hp)(s:Shared)(E:XK)(e:Value)(s':Shared):Prop:=∃ (ea C:Addr) (a0 fl:Value) (B:Heap) (H':Hp),e=.ref ea∧Dw B l ea (.ref C) a0 fl s'.heap∧HOk P w H' B∧Same H0 H' ∧
 (∀ b o,s.heap.get? b=some o→H b=none→b ∉ frs l→b≠Ch→B.get? b=some o)∧(∀ b o,s.heap.get? b=some o→H b=none→H' b=none)∧(∀ b ∈ frs l,∀ o,s.heap.get? b=some o→∃ sl,s'.heap.get? b=some { o with slots:=sl }) ∧
 s'.os=s.os∧AllBare s'.gens∧H' ea=none∧s.heap.get? ea=none∧E (.ref C) none H'
theorem kh {P:Program}{w:World}{K:PySem.W.Frag}{mg:Str→Option Value}{base:Heap}{N:List Str}{qual:Str}{scope:Scope}{f:Addr}{cd:Value}{A:Around}{outer:List Env}{s0 s s':Shared}{H0 H:Hp}{E:XK}{e:Value}{pins:List (Addr×Obj)}{σ:St}{Ch:Addr}
  (I:Inv (fF (CXr P w) P w K mg base N qual scope f cd A outer s0 H0 E) pins σ H s) (hCh:s0.heap.objs.size≤Ch) (c:CXa P w Ch (envOfC qual scope s0.heap.objs.size f cd::outer) H0 H s E e s') :
  (fF (CXr P w) P w K mg base N qual scope f cd A outer s0 H0 E).xe e s':=by
 obtain ⟨ea,C,a0,fl,B,H',rfl,al,hok,same,bk,fre,slt,os,bare,n1,n2,he⟩:=c
 have hfr:(A.deeper (envOfC qual scope s0.heap.objs.size f cd)).frames=some (envOfC qual scope s0.heap.objs.size f cd::outer):=I.ok.frames
 have hbase:Un (frs outer) [] H0 H s0.heap s.heap:=I.base
 have hfunO:s0.heap.FunFrames base outer:=I.ok.funs
 have hfrf:∀ b ∈ frs outer,H0 b=none:=I.ok.frf
 have hos:s.os=s0.os:=I.os
 show wpAny (model P w) (A.deeper (envOfC qual scope s0.heap.objs.size f cd)) (leaving (envOfC qual scope s0.heap.objs.size f cd) (.ref ea)) (fun _ s''=>CXr P w outer H0 s0 E (.ref ea) s'') (fun e' s''=>CXr P w outer H0 s0 E e' s'') s'
 refine mH hfr rfl al fun h2 fl2 up=>?_
 refine ⟨ea,C,a0,B,H',rfl,fl2,hok,same,fun b o q n hb=>?_,fun b o q n=>?_,fun b hb o q=>?_,os.trans hos,bare,n1,?_,he⟩
 ·refine bk b o (hbase.keep b o q n hb (by simp)) (hbase.free b o q n (by simp)) (fun z=>?_) (fun z=>?_)
  ·unfold frs at z
   rw [List.filterMap_cons] at z
   rcases List.mem_cons.mp z with e | e
   ·have hlt:=Heap.lt_size q
    rw [show b=s0.heap.objs.size from e] at hlt
    exact absurd hlt (Nat.lt_irrefl _)
   ·exact hb e
  ·have hlt:=Heap.lt_size q
   rw [z] at hlt
   exact absurd (Nat.lt_of_lt_of_le hlt hCh) (Nat.lt_irrefl _)
 ·obtain ⟨o',q'⟩:=hbase.there b o q (by simp)
  exact fre b o' q' (hbase.free b o q n (by simp))
 ·obtain ⟨sl,q1⟩:=hbase.slot b o q (hfrf b hb) hb (by simp)
  obtain ⟨_,o',q2,q3⟩:=hfunO.mem hb
  rw [q] at q2
  cases q2
  obtain ⟨sl1,q4⟩:=slt b (by unfold frs; rw [List.filterMap_cons]; exact List.mem_cons_of_mem _ hb) _ q1
  obtain ⟨sl2,q5⟩:=up b _ q4 q3
  exact ⟨sl2,q5⟩
 ·cases q:s0.heap.get? ea with
  | none=>rfl
  | some o =>
   obtain ⟨o',ho'⟩:=hbase.there ea o q (by simp)
   rw [n2] at ho'; cases ho'
section
variable {prog:Program} {w:World} {A:Around} {E:Value→Shared→Prop} {R:Result→Shared→Prop} {s:Shared}
theorem lb {elt target iter:Expr}{ifs:List Expr}{scope:Scope}{pos:Pos}{it acc:Value}{env:Env}(I:Nat→Shared→Prop)
  (turn:∀ n s,I n s→wpAny (model prog w) A (pyNext it) (fun r s₁=>match r with
   | none=>R (.ok .next) s₁
   | some v=>wpAny (model prog w) A (letOwnedTupleGo target it v) (fun _ s₁'=>wpAny (model prog w) A (assign target env v) (fun _ s₂ =>
     wpAny (model prog w) A (forIn ifs true fun c r=>if r=true then do let ok ← isTrue c env (eval c env); pure (ForInStep.yield ok) else pure (ForInStep.yield r)) (fun ok s₃ =>
      if ok=true then wpAny (model prog w) A (eval elt env) (fun x s₄ =>
       wpAny (model prog w) A (call (.builtin "list.append") [acc,x]) (fun _ s₅=>∃ m,m < n∧I m s₅) (fun _ _=>False) s₄) (notedBy (model prog w) A env fun e s'=>R (.error e) s') s₃
      else ∃ m,m < n∧I m s₃) (fun _ _=>False) s₂) (fun _ _=>False) s₁') (fun _ _=>False) s₁) (fun _ _=>False) s)
  (n:Nat) (h:I n s) :
  codeAny (model prog w) A (.compLoop (.ListComp elt [⟨target,iter,ifs,0⟩] scope pos) 0 it acc env) R s:=by
 refine codeAny_loop rfl I (fun n s hI=>?_) n h
 show wpAny _ A ((compTurn (.ListComp elt [⟨target,iter,ifs,0⟩] scope pos) 0 it acc env).onRaise (fun x=>do noteFrame x env; theTreesLotGoes x)) _ _ s
 refine wpAny_noted ?_
 rw [compTurn_list]
 refine wpAny_bind (wpAny_standAt (wpAny_bind (wpAny_mono (turn n s hI) (fun r s₁ h₁=>?_) fun _ _ h'=>h'.elim)))
 cases r with
 | none=>exact wpAny_pure h₁
 | some v =>
  refine wpAny_bind (wpAny_mono h₁ (fun _ s₁' h₁'=>?_) fun _ _ h'=>h'.elim)
  refine wpAny_bind (wpAny_mono h₁' (fun _ s₂ h₂=>wpAny_bind (wpAny_mono h₂ (fun ok s₃ h₃=>?_) fun _ _ h'=>h'.elim)) fun _ _ h'=>h'.elim)
  cases ok with
  | false=>exact wpAny_pure ⟨rfl,h₃⟩
  | true =>
   exact wpAny_bind (wpAny_bind (wpAny_mono h₃ (fun x s₄ h₄=>wpAny_bind (wpAny_mono h₄ (fun _ s₅ h₅=>wpAny_pure (wpAny_pure ⟨rfl,h₅⟩)) fun _ _ h'=>h'.elim)) fun _ _ h'=>h'))
end
def XEc (X Y:Cx)(E:XK)(e:Value)(s':Shared):Prop:=∃ (pinsY:List (Addr×Obj)) (σY:St) (HY:Hp) (sY:Shared),Inv Y pinsY σY HY sY∧CXr X.prog X.w X.stack HY sY E e s'
section
variable {X:Cx} {pins:List (Addr×Obj)} {σ:St} {H:Hp} {s:Shared} {T F:List Str} {ixs:List Nat} {scope:Scope} {fp:List Addr}
theorem vW {cl:List (Str×Addr)}{N:List Str}{H0:Hp}{E:XK}{e:Value}{s':Shared}{use:Option (Value→Sem Unit)}{QQ:Value→Shared→Prop}{acc:Value}(hstk:X.stack=X.env::X.outer∧X.env.frame=some X.env.locals)
  (hx:∀ (Ch:Addr) (σ:St) (H:Hp) (s:Shared) (e:Value) (s':Shared),Inv X pins σ H s→X.s₀.heap.objs.size≤Ch→CXa X.prog X.w Ch X.stack H0 H s E e s'→X.xe e s')
  (I:Inv X pins σ H s) (f3:∀ b ∈ fp,nU X pins H b) (c:XEc X (bR X N scope cl s.heap.objs.size s H fp) (fun c x H'=>E c x H'∧Same H0 H') e s') :
  notedBy (model X.prog X.w) X.A (compEnvC scope cl s.heap.objs.size X.env) (fun e s''=>compPost (model X.prog X.w) X.A X.xe use QQ acc s.heap.objs.size (.error e) s'') e s':=by
 obtain ⟨pinsY,σY,HY,sY,J,ea,Cc,a0,B,H',rfl,fl,hok,same,bk,fre,slt,os,bare,n1,n2,hE,hS⟩:=c
 have un:Un (frs X.stack) fp H HY s.heap sY.heap:=J.base
 have hosY:sY.os=s.os:=J.os
 have IX:Inv X pins σ HY sY:=I.call' hosY un J.hok J.bare fun b hb=>⟨(f3 b hb).2.2.2.1,(f3 b hb).2.1,(f3 b hb).2.2.2.2.1,(f3 b hb).2.2.2.2.2⟩
 have hst:=I.stack
 obtain ⟨m,⟨oC,es,ep,hoC,hdC,hsk,hm⟩,_⟩:=J.loc
 have hoC:sY.heap.get? s.heap.objs.size=some oC:=hoC
 have hfree:HY s.heap.objs.size=none:=J.free
 have hCn:s.heap.objs.size ∉ frs X.stack:=fun z=>by
  obtain ⟨_,o,ho,_⟩:=hst.mem z
  exact absurd (Heap.lt_size ho) (Nat.lt_irrefl _)
 have hBC:B.get? s.heap.objs.size=some oC:=bk _ oC hoC hfree hCn
 have hfr:X.A.frames=some (X.env::X.outer):=by rw [← hstk.1]; exact I.ok.frames
 have fl':=fl
 rw [hstk.1] at fl'
 show wpAny (model X.prog X.w) X.A (noteFrame (.ref ea) X.env) _ _ s'
 refine wpAny_looks_onW hfr hstk.2 fl' fun h4 held up4=>?_
 obtain ⟨k1,k2,k3,oe,xs,Tb,oT,ys,c1,c2,c3,c4,c5,c6,c7,c8,c9⟩:=held
 have hC4:h4.get? s.heap.objs.size=some oC:=k1 _ _ hBC
 have neE:ea≠s.heap.objs.size:=fun z=>by rw [z,hC4] at c1; cases c1; rw [hdC] at c3; cases c3
 have neT:Tb≠s.heap.objs.size:=fun z=>by rw [z,hC4] at c7; cases c7; rw [hdC] at c8; cases c8
 have core:∃ m,h4.Ns s.heap.objs.size m∧∀ h5,Heap.SameBut s.heap.objs.size h4 h5→∀ cenv:Env,cenv.locals=s.heap.objs.size→wpAny (model X.prog X.w) X.A (passOn "comprehension.variables-let-go" (.ref ea) cenv:Sem Value) (fun _ _=>False) X.xe { s' with heap:=h5 }:=by
  refine ⟨m,⟨oC,es,ep,hC4,hdC,hsk,hm⟩,fun h5 sb cenv _=>?_⟩
  have e5:h5.get? ea=some oe:=(sb.2 ea neE).trans c1
  have t5:h5.get? Tb=some oT:=(sb.2 Tb neT).trans c7
  unfold PySem.passOn
  refine wpAny_bind (wpAny_field e5 c3 c4 ?_)
  rw [if_neg (show ¬ ((Value.ref Tb == Value.none)=true) from Bool.false_ne_true)]
  unfold setFlight
  refine wpAny_bind (wpAny_bind (wpAny_field e5 c3 c4 ?_))
  rw [if_pos (show (Value.ref Tb != Value.none)=true from rfl)]
  refine wpAny_setField t5 c8 (Array.getElem?_eq_some_iff.mp c9).1 (wpAny_throw ?_)
  generalize (cenv.frame.elim Value.none fun f=>rawInt f)=flv
  have oth:∀ b,b≠Tb→(h5.update Tb (Obj.mapFields (·.setIfInBounds 3 flv))).get? b=h5.get? b:=fun b hb=>Heap.get?_update_other _ _ (Ne.symm hb)
  refine hx s.heap.objs.size σ HY sY _ _ IX I.sz ⟨ea,Cc,a0,flv,PySem.W.hideAll B [s.heap.objs.size],H',rfl,⟨fun b o q=>?_,?_,?_,?_⟩,oN hok (fun b hb=>?_),hS,fun b o q n hb hc=>PySem.W.hideAll_get _ (bk b o q n hb) (by first|exact List.mem_singleton.mp hc|simpa using hc),fre,fun b hb o q=>?_,os,bare,n1,n2,hE⟩
  ·have q0:=PySem.W.of_hideAll _ q
   have nb:b≠s.heap.objs.size:=fun z=>by rw [z,PySem.W.hideAll_none _ (by simp)] at q; cases q
   exact (oth b fun z=>by rw [z,c5] at q0; cases q0).trans ((sb.2 b nb).trans (k1 b o q0))
  ·cases q:(PySem.W.hideAll B [s.heap.objs.size]).get? ea with
   | none=>rfl
   | some o=>have q0:=PySem.W.of_hideAll _ q; rw [k2] at q0; cases q0
  ·rw [hstk.1]
   refine mG k3 fun b hb o ho hnf=>⟨⟨o,?_,rfl⟩,?_⟩
   ·have nb:b≠s.heap.objs.size:=fun z=>hCn (by rw [hstk.1,← z]; exact hb)
    exact (oth b fun z=>by rw [z,c7] at ho; cases ho; exact hnf ys c8).trans ((sb.2 b nb).trans ho)
   ·cases q:(PySem.W.hideAll B [s.heap.objs.size]).get? b with
    | none=>rfl
    | some o=>have q0:=PySem.W.of_hideAll _ q; rw [(k3.mem hb).1] at q0; cases q0
  ·refine ⟨oe,xs,Tb,_,_,(oth ea (Ne.symm c6)).trans e5,c2,c3,c4,?_,c6,Heap.get?_update_self _ t5 (Obj.isFreed_of_fields (Obj.data_mapFields c8 _)),Obj.data_mapFields c8 _,?_⟩
   ·cases q:(PySem.W.hideAll B [s.heap.objs.size]).get? Tb with
    | none=>rfl
    | some o=>have q0:=PySem.W.of_hideAll _ q; rw [c5] at q0; cases q0
   ·have:=(Array.getElem?_eq_some_iff.mp c9).1
    simp [this]
  ·have e:b=s.heap.objs.size:=by first|exact List.mem_singleton.mp hb|simpa using hb
   rw [e]
   exact fre _ oC hoC hfree
  ·obtain ⟨_,o0,w1,w2⟩:=hst.mem hb
   obtain ⟨_,oY,w3,w4⟩:=IX.stack.mem hb
   rw [q] at w3
   cases w3
   obtain ⟨sl1,q4⟩:=slt b hb o q
   obtain ⟨sl2,q5⟩:=up4 b _ q4 w4
   have nb:b≠s.heap.objs.size:=fun z=>hCn (by rw [← z]; exact hb)
   exact ⟨sl2,(oth b fun z=>by rw [z,c7] at q5; cases q5; exact w4 ys c8).trans ((sb.2 b nb).trans q5)⟩
 cases use <;> exact core
theorem sQ {H0:Hp}{E:XK}{elt tg iter:Expr}{ifs:List Expr}{pos pos':Pos}{wi:TI}{g:TG}{tc:TT}{te:TE}(hc:X.calm=true)(S:CompScope X T F ixs scope)
  (hi:PI X tg iter wi)
  (hg:∀ C s H fp,PG (bR X (T++F) scope (aZ X.env scope.names []) C s H fp) tg g)
  (ht:∀ C s H fp,yV (bR X (T++F) scope (aZ X.env scope.names []) C s H fp) ifs tc)
  (he:∀ C s H fp,PE ((bR X (T++F) scope (aZ X.env scope.names []) C s H fp).wish (XEc X (bR X (T++F) scope (aZ X.env scope.names []) C s H fp) fun c x H'=>E c x H'∧Same H0 H')) elt te)
  (hstk:X.stack=X.env::X.outer∧X.env.frame=some X.env.locals) (hx:∀ (pins:List (Addr×Obj)) (Ch:Addr) (σ:St) (H:Hp) (s:Shared) (e:Value) (s':Shared),Inv X pins σ H s→X.s₀.heap.objs.size≤Ch→CXa X.prog X.w Ch X.stack H0 H s E e s'→X.xe e s')
  (hs:∀ x,foldedSetIterable iter X.env x=pure x) {use:Option (Value→Sem Unit)} {QQ:Value→Shared→Prop} {pins:List (Addr×Obj)} {s:Shared} {σ:St} {H:Hp} {Q:VK} (I:Inv X pins σ H s) (h:ie T.length ixs wi g tc te σ H Q)
  (fine:∀ (D C:Addr) (H5:Hp) (s6:Shared) (f:Flow),(∃ m,s6.heap.Ns C m)→H5 C=none→C≠X.env.locals→(∀ x c,X.env.cells.lookup x=some c→c≠C)→X.s₀.heap.objs.size≤C→(∀ p ∈ X.pn++pins,p.1≠C) →
   (∀ h7,Heap.SameBut C s6.heap h7→Inv X pins σ H5 { s6 with heap:=h7 })→Q (.ref D) H5→compPost (model X.prog X.w) X.A X.xe use QQ (.ref D) C (.ok f) s6) :
  wpAny (model X.prog X.w) X.A (comprehension (.ListComp elt [⟨tg,iter,ifs,0⟩] scope pos) scope X.env pos' (newList []) false (eval iter X.env) use) QQ X.xe s:=by
 have hall:∀ y ∈ scope.names,y.2=.free→∃ c,X.env.cells.lookup y.1=some c:=fun y hy hf=>by
  rcases S.out y hy hf with e | e
  ·exact I.ok.has _ (.inl e)
  ·exact I.ok.has _ (.inr e)
 refine wpAny_comprehension_free (use:=use) (cl:=aZ X.env scope.names []) rfl hs (gq hall) S.kind S.names (thn (hi pins s σ H _ I h) fun v s1 h1=>thn h1 fun itv s2 h2=>?_)
 obtain ⟨it,fp,tn,J,H2,e,I2,TT,st2,f2,q2⟩:=h2
 subst e
 refine wpAny_newObj_type ?_
 -- the list is laid
 have I3:Inv X pins σ (upd H2 s2.heap.objs.size (.lst [])) { s2 with heap:=s2.heap.push { cls:=.type "list", dict:=none,data:=.seq ([]:List Value).toArray } } :=
  I2.laid (t':=s2.toks) (fun b u q=>Heap.get?_push_of_some _ q) (Nat.le_refl _) ⟨Nat.zero_le _,[],0,.nil,Heap.get?_push_size _ rfl⟩
 have hD:H2 s2.heap.objs.size=none:=I2.hok.fresh (Nat.le_refl _)
 have hfo:∀ b ∈ fp,∃ o,s2.heap.get? b=some o:=fun b hb=>let ⟨o,e,_⟩:=TT.obj _ _ st2 b hb; ⟨o,e⟩
 have neD:∀ b ∈ fp,b≠s2.heap.objs.size:=fun b hb=>by obtain ⟨o,e⟩:=hfo b hb; exact Nat.ne_of_lt (Heap.lt_size e)
 have f3:∀ b ∈ fp,nU X pins (upd H2 s2.heap.objs.size (.lst [])) b:=fun b hb=>by
  obtain ⟨a1,a2⟩:=f2 b hb
  exact ⟨by rw [bN (neD b hb)]; exact a1,a2⟩
 obtain ⟨W,⟨m0,w0⟩,turn⟩:=q2 s2.heap.objs.size hD
 generalize hs3:({ s2 with heap:=s2.heap.push { cls:=.type "list", dict:=none,data:=.seq ([]:List Value).toArray } }:Shared)=s3 at I3 ⊢
 generalize hH3:upd H2 s2.heap.objs.size (.lst [])=H3 at I3 f3 w0
 have hfo3:∀ b ∈ fp,∃ o,s3.heap.get? b=some o:=fun b hb=>by
  obtain ⟨o,e⟩:=hfo b hb
  rw [← hs3]
  exact ⟨o,Heap.get?_push_of_some _ e⟩
 have st3:tn 0 s3.heap:=TT.keep _ _ _ st2 fun b hb o e=>by rw [← hs3]; exact Heap.get?_push_of_some _ e
 refine wpAny_newFunctionEnv S.nocell (by intro y hy; simp at hy) (fun h4 hns4 hsb4=>?_) S.kind
 have old:∀ b o,s3.heap.get? b=some o→h4.get? b=some o:=fun b o e=>hsb4.extBut b o (Nat.ne_of_lt (Heap.lt_size e)) (Heap.get?_push_of_some _ e)
 have J4:=n5 I3 S f3 hfo3 (t':=s3.toks+([]:List (Str×Value)).length) old hns4
 generalize hs4:({ s3 with heap:=h4,toks:=s3.toks+([]:List (Str×Value)).length }:Shared)=s4 at J4 ⊢
 have st4:tn 0 s4.heap:=by rw [← hs4]; exact TT.keep _ _ _ st3 fun b hb o e=>old b o e
 have hg':=hg s3.heap.objs.size s3 H3 fp
 have ht':=ht s3.heap.objs.size s3 H3 fp
 have he':=he s3.heap.objs.size s3 H3 fp
 have err:∀ e s',XEc X (bR X (T++F) scope (aZ X.env scope.names []) s3.heap.objs.size s3 H3 fp) (fun c x H'=>E c x H'∧Same H0 H') e s'→notedBy (model X.prog X.w) X.A (compEnvC scope (aZ X.env scope.names []) s3.heap.objs.size X.env) (fun e s''=>compPost (model X.prog X.w) X.A X.xe use QQ (.ref s2.heap.objs.size) s3.heap.objs.size (.error e) s'') e s':=fun e s' c=>vW hstk (fun Ch σ H s e s'=>hx pins Ch σ H s e s') I3 f3 c
 generalize hY:bR X (T++F) scope (aZ X.env scope.names []) s3.heap.objs.size s3 H3 fp=Y at J4 hg' ht' he' err
 have yA:Y.A=X.A:=by rw [← hY]; rfl
 have yP:Y.prog=X.prog:=by rw [← hY]; rfl
 have yW:Y.w=X.w:=by rw [← hY]; rfl
 have yK:Y.K=X.K:=by rw [← hY]; rfl
 have yC:Y.calm=true:=by rw [← hY]; exact hc
 have yE:Y.env=compEnvC scope (aZ X.env scope.names []) s3.heap.objs.size X.env:=by rw [← hY]; rfl
 have yX:Y.xe=fun _ _=>False:=by rw [← hY]; rfl
 have fY:∀ {H':Hp},(∀ b ∈ fp,H' b=none)→∀ b ∈ fp,nU Y [] H' b:=fun hn b hb=>by
  have k:=J4.ok
  rw [← hY] at k ⊢
  exact ⟨hn b hb,(k.exf b hb).1,k.exfs b hb,.inl hb,(k.exf b hb).2,fun p hp=>absurd (show p ∈ ([]:List (Addr×Obj)) from hp) (by simp)⟩
 have loop:codeAny (model X.prog X.w) X.A (.compLoop (.ListComp elt [⟨tg,iter,ifs,0⟩] scope pos) 0 (.ref it) (.ref s2.heap.objs.size) (compEnvC scope (aZ X.env scope.names []) s3.heap.objs.size X.env))
   (compPost (model X.prog X.w) X.A X.xe use QQ (.ref s2.heap.objs.size) s3.heap.objs.size) s4:=by
  refine lb (fun n s'=>∃ i acc σ' H',Inv Y [] σ' H' s'∧tn i s'.heap∧(∀ b ∈ fp,H' b=none)∧W i n acc σ' H') ?_ m0 ⟨0,[],_,H3,J4,st4,fun b hb=>(f3 b hb).1,w0⟩
  rintro n s5 ⟨i,acc,σ5,H5,J5,st5,fr5,w5⟩
  rcases turn i n acc σ5 H5 w5 with ⟨stop,qn⟩ | ⟨go,N,hN,step⟩
  ·have fin:=TT.done Y yP yW yK yC i [] s5 σ5 H5 (fun _ _=>False) J5 (fY fr5) st5 stop
   rw [yA] at fin
   refine thn fin fun r s6 ⟨hr,J6⟩=>?_
   subst hr
   -- the block is left
   obtain ⟨m,hm,_⟩:=id J6.loc
   have hm:s6.heap.Ns s3.heap.objs.size m:=by rw [yE] at hm; exact hm
   have hb6:=J6.base
   have hos:=J6.os
   have hfree:=J6.free
   have hbare:=J6.bare
   have hok6:HOk X.prog X.w H5 s6.heap:=by have:=J6.hok; rw [yP,yW] at this; exact this
   rw [yE] at hfree
   have hfree:H5 s3.heap.objs.size=none:=hfree
   rw [← hY] at hb6 hos
   have hb6:Un (frs X.stack) fp H3 H5 s3.heap s6.heap:=hb6
   have hos:s6.os=s3.os:=hos
   have ltC:∀ b o,s3.heap.get? b=some o→b≠s3.heap.objs.size:=fun b o e=>Nat.ne_of_lt (Heap.lt_size e)
   refine fine _ _ H5 s6 _ ⟨m,hm⟩ hfree ?hl ?hcl I3.sz ?hpn (fun h7 hsb7=>?_) qn
   case hl=>exact fun z=>Nat.lt_irrefl _ (z ▸ I3.lt)
   case hcl=>exact fun x c e z=>by obtain ⟨v,o,ho,_⟩:=I3.cell x c e; exact ltC c o ho z
   case hpn=>exact fun p hp z=>ltC p.1 p.2 (I3.pin p hp).1 z
   have same:∀ b,b < s3.heap.objs.size→h7.get? b=s6.heap.get? b:=fun b hb=>hsb7.2 b (Nat.ne_of_lt hb)
   have hok7:HOk X.prog X.w H5 h7:=fun b o e=>by
    refine (hok6 b o e).stay (fun c w' hc q=>(hsb7.2 c ?_).trans q) (fun _ q=>q) fun _ _ q=>q
    rintro rfl
    rcases hc with z | z
    ·rw [← z,hfree] at e; cases e
    ·rw [hfree] at z; cases z
   have un7:Un (frs X.stack) fp H3 H5 s3.heap h7 :=
    ⟨fun b o e n hb hx=>(same b (Heap.lt_size e)).trans (hb6.keep b o e n hb hx),fun b o e n hb hx=>by
     obtain ⟨sl,q⟩:=hb6.slot b o e n hb hx
     exact ⟨sl,(same b (Heap.lt_size e)).trans q⟩,hb6.free,fun b o e hx=>by
     obtain ⟨o',q⟩:=hb6.there b o e hx
     exact ⟨o',(same b (Heap.lt_size e)).trans q⟩,hb6.tups,hb6.frzs,hb6.tbls⟩
   exact I3.call' (s':={ s6 with heap:=h7 }) hos un7 hok7 hbare fun b hb=>by
    obtain ⟨_,a2,a3,a4,a5,a6⟩:=f3 b hb
    exact ⟨a4,a2,a5,a6⟩
  ·have nx:=TT.item Y yP yW yK yC i [] s5 σ5 H5 (fun _ _=>False) J5 (fY fr5) st5 go
   rw [yA] at nx
   refine thn nx fun r s6 ⟨u,hr,h6⟩=>?_
   subst hr
   refine thn h6 fun _ s7 ⟨x,H7,J7,r7,y7,st7,fr7⟩=>?_
   have J7':=J7.pinned (fY fr7) (TT.obj _ _ st7)
   have asg:=hg' _ s7 σ5 H7 x u _ J7' r7 (step x H7 y7)
   rw [yA,yP,yW,yE,yX] at asg
   refine thn asg fun _ s8 ⟨σ8,H8,J8,q8⟩=>?_
   have tst:=ht' _ s8 σ8 H8 _ J8 q8
   rw [yA,yP,yW,yE,yX] at tst
   refine thn tst fun b s9 ⟨H9,J9,q9⟩=>?_
   have again:∀ {s':Shared} {acc':List V} {σ':St} {H':Hp},Inv Y ([]++g8 fp s7.heap) σ' H' s'→N acc' σ' H'→∃ m,m < n∧∃ i acc σ' H',Inv Y [] σ' H' s'∧tn i s'.heap∧(∀ b ∈ fp,H' b=none)∧W i m acc σ' H':=fun {s' acc' σ' H'} K7 n7=>by
    obtain ⟨m',hm,w7⟩:=hN acc' σ' H' n7
    refine ⟨m',hm,i+1,acc',σ',H',K7.unpinned,TT.keep _ _ _ st7 fun b hb o e=>(K7.pin (b,o) (List.mem_append_right _ (List.mem_append_right _ (dM hb e)))).1,fun b hb=>?_,w7⟩
    obtain ⟨o,e,d⟩:=TT.obj _ _ st7 b hb
    exact (K7.pin (b,o) (List.mem_append_right _ (List.mem_append_right _ (dM hb e)))).2.1
   cases b with
   | false =>
    rw [if_neg Bool.false_ne_true] at q9 ⊢
    exact again J9 q9
   | true =>
    rw [if_pos rfl] at q9 ⊢
    have elv:=he' _ s9 σ8 H9 _ (J9.wish _) q9
    have elv:wpAny (model Y.prog Y.w) Y.A (eval elt Y.env) _ (XEc X Y fun c x H'=>E c x H'∧Same H0 H') s9:=elv
    rw [yA,yP,yW,yE] at elv
    refine wpAny_mono elv (fun u10 s10 ⟨y,H10,J10',r10,q10⟩=>?_) fun e s' c=>err e s' c
    have J10:=J10'.unwish
    obtain ⟨hl,hz,qN⟩:=q10
    have app:=iI (X:=Y) ([]++g8 fp s7.heap) s10 σ8 H10 (.ref s2.heap.objs.size) [y] (.ref s2.heap.objs.size) [u10] (fun _ H'=>N (acc++[y]) σ8 H') J10 rfl (.cons r10 .nil) ⟨_,acc,y,rfl,rfl,hl,hz,qN⟩
    rw [yA,yP,yW,yX] at app
    exact thn app fun _ s11 ⟨_,H11,J11,_,q11⟩=>again J11 q11
 exact codeAny_compStart_list loop (TT.self _ 0 _ _ _ st4 loop)
theorem vX {H0:Hp}{E:XK}{i:Nat}{y:Str}{elt tg iter:Expr}{ifs:List Expr}{pos py spos:Pos}{wi:TI}{g:TG}{tc:TT}{te:TE}(hc:X.calm=true)(S:CompScope X T F ixs scope)
  (hi:PI X tg iter wi)
  (hg:∀ C s H fp,PG (bR X (T++F) scope (aZ X.env scope.names []) C s H fp) tg g)
  (ht:∀ C s H fp,yV (bR X (T++F) scope (aZ X.env scope.names []) C s H fp) ifs tc)
  (he:∀ C s H fp,PE ((bR X (T++F) scope (aZ X.env scope.names []) C s H fp).wish (XEc X (bR X (T++F) scope (aZ X.env scope.names []) C s H fp) fun c x H'=>E c x H'∧Same H0 H')) elt te)
  (hstk:X.stack=X.env::X.outer∧X.env.frame=some X.env.locals) (hxe:∀ (pins:List (Addr×Obj)) (Ch:Addr) (σ:St) (H:Hp) (s:Shared) (e:Value) (s':Shared),Inv X pins σ H s→X.s₀.heap.objs.size≤Ch→CXa X.prog X.w Ch X.stack H0 H s E e s'→X.xe e s')
  (hs:∀ x,foldedSetIterable iter X.env x=pure x) (hN:X.N.Nodup) (hix:X.N[i]?=some y) (hx:Loc X.env.scope y)
  (hsw:swapsWith (.ListComp elt [⟨tg,iter,ifs,0⟩] scope pos) (some (.Name y py)) spos.line X.env=pure true) (hf:X.fn y=true∨X.env.scope.names.lookup y=some .local) :
  PS X (.Assign [.Name y py] (.ListComp elt [⟨tg,iter,ifs,0⟩] scope pos) spos) (qA (ie T.length ixs wi g tc te) (ic i)):=by
 intro pins s σ H D I h
 rw [exec_Assign_Name_used _ _ _ _ hsw]
 refine wpAny_bind (wpAny_standAt (wpAny_bind ?_))
 show wpAny _ X.A (do let _ ← comprehension (.ListComp elt [⟨tg,iter,ifs,0⟩] scope pos) scope X.env _ (newList []) false (eval iter X.env) (some (assign (.Name y py) X.env))) _ _ s
 refine wpAny_bind (thn (sQ (use:=some (assign (.Name y py) X.env)) (QQ:=fun _ s'=>SP X pins D .next s') hc S hi hg ht he hstk hxe hs I h fun D' C H5 s6 f ⟨m,hm⟩ fC lC cC zC pC inv q=>?_) fun _ s' hq=>wpAny_pure (wpAny_pure hq))
 have I6:Inv X pins σ H5 s6:=inv s6.heap (Heap.SameBut.refl _ _)
 refine wpAny_assign_Name (iD I6 hN hix hx (show RelV (.ref D') (.ref D') from rfl) (fun s7 I7 ⟨a,sb,ha⟩=>?_) hf)
 have aC:C≠a:=by
  rcases ha with rfl | ha
  ·exact lC
  ·exact fun z=>cC y a ha z.symm
 refine ⟨m,hm.sameBut sb aC,fun h8 k8=>⟨_,H5,?_,q⟩⟩
 exact I7.turned (t':=s7.toks) (fun b o hb e=>(k8.2 b hb).trans e) fC lC (.inr zC) cC pC
end
end L2
set_option maxHeartbeats 4000000
namespace L2
open PySem PySem.Spec PyProof.Rows
def zU:List RV→Option (List D)
 | []=>some []
 | .ov (.fz d)::rs=>match zU rs with
  | some ds=>some (d::ds)
  | none=>none
 | _::_=>none
structure EFX (K:PySem.W.Frag)(μ:List Nat)(G:Hp→Prop)(t:TE)(f:FE):Prop where
 h:∀ {F Z H:Hp} {τ σ:St} {ρ:FSt} {A:List Addr} {Q:VK} {P:RV→FSt→Prop},(∀ H',Same F H'→Same Z H'→G H')→View μ τ σ→Rel K F Z H σ ρ A→f ρ P →
  (∀ r ρ' v F' H' A' B,P r ρ'→Same F F'→Rel K F' Z H' σ ρ' A'→RV1 K F' H' σ v r B→Fresh F' Z A' B→Q v H')→t τ H Q
structure AFX (K:PySem.W.Frag)(μ:List Nat)(G:Hp→Prop)(t:TA)(f:FA):Prop where
 h:∀ {F Z H:Hp} {τ σ:St} {ρ:FSt} {A:List Addr} {Q:List V→Hp→Prop} {P:List RV→FSt→Prop},(∀ H',Same F H'→Same Z H'→G H')→View μ τ σ→Rel K F Z H σ ρ A→f ρ P →
  (∀ rs ρ' vs F' H' A' B,P rs ρ'→Same F F'→Rel K F' Z H' σ ρ' A'→RVL K F' H' σ vs rs B→Fresh F' Z A' B→Q vs H')→t τ H Q
def FN (t u:TE):TE:=fun σ H Q=>t σ H Q∨u σ H Q
def xZ (c:Ct)(cr:List D→Prop)(fa:FA):FE:=fun ρ Q=>bd c fa ρ Q∨fa ρ fun rs _=>∃ ds,zU rs=some ds∧cr ds
section
variable {X:Cx}
theorem Dx {e:Expr}{t u:TE}(h1:BE X e t)(h2:BE X e u):BE X e (FN t u):=⟨fun pins s σ H Q I h=>h.elim (h1.h pins s σ H Q I) (h2.h pins s σ H Q I)⟩
structure OwnR (P:Program)(w:World)(K:PySem.W.Frag)(mg:Str→Option Value)(base:Heap)(x:Str)(k:Nat)(ps:List Str)(sp:Sp):Prop where
 ex:∃ (f:Addr) (fd:FuncData),FnOk P w K mg base (CXr P w) k f fd ps sp∧mg x=some (.ref f)∧PySem.W.keepIn K (.ref f)=true∧Binds K fd ps []
theorem sR {x:Str}{k:Nat}{ps:List Str}{sp:Sp}{e:Expr}{es:List Expr}{t:TA}{p pos:Pos}{E:XK}(O:OwnR X.prog X.w X.K X.mg X.base x k ps sp)(hr:Room k X.A)(hx:jN (CXr X.prog X.w) X E)(ha:BA X (e::es) t)(hg:X.env.kindOf x=some .globalImplicit)(hn:(e::es).all cO=true)
  (hdb:autoParam ((x == ("__debug__" : Str))=false) L2.aD._auto_1):BE X (.Call (.Name x p) (e::es) [] pos) (ku sp [] E t):=⟨by
 obtain ⟨f,fd,F,hm,hk,hb⟩:=O.ex
 have h:=hn
 rw [List.all_cons,Bool.and_eq_true] at h
 exact qU F hr hg hm hk hb .nil hx ha.h hdb (cw h.1) (et h.2)⟩
end
section
variable {K:PySem.W.Frag} {μ:List Nat} {G:Hp→Prop}
theorem gR {F H:Hp}{σ:St}{rs:List RV}{vs:List V}{B:List Addr}(h:RVL K F H σ vs rs B):∀ {ds:List D},zU rs=some ds→Dens K F vs ds:=by
 induction h with
 | nil=>intro ds e; cases e; exact .nil
 | @cons v r vs rs A B h t ih =>
  intro ds e
  cases r with
  | br i=>cases e
  | ov o =>
   cases o with
   | fz d =>
    unfold zU at e
    cases q:zU rs with
    | none=>rw [q] at e; cases e
    | some ds' =>
     rw [q] at e
     cases e
     cases h with
     | fz dn=>exact .cons dn (ih q)
   | fl _=>cases e
   | fd _ _=>cases e
theorem vY {c:Ct}{cr:List D→Prop}{C:Addr}{t:TA}{fa:FA}{E:XK}(ha:AF K μ t fa)(hE:∀ H',G H'→E (.ref C) none H'):EFX K μ G (FN (ku (spM K c) [] E0 t) (ku (spR K cr C) [] E t)) (xZ c cr fa):=⟨by
 intro F Z H τ σ ρ A Q P gg vw R h q
 rcases h with h | h
 ·exact .inl ((au (E:=E0) ha).h vw R h q)
 ·refine .inr (ha.h vw R h fun rs ρ1 vs F1 H1 A1 B1 h1 s1 R1 v1 f1=>?_)
  obtain ⟨ds,e,hc⟩:=h1
  rw [List.append_nil]
  exact ⟨F1,ds,R1.fh,gR v1 e,hc,fun H' s=>hE H' (gg H' ((s1.trans R1.fh).trans s) (R1.zh.trans s))⟩⟩
theorem vZ {ta:TE}{tr:TA}{fa:FE}{fr:FA}(ha:EF K μ ta fa)(hr:AFX K μ G tr fr):AFX K μ G (fT ta tr) (ag fa fr):=⟨by
 intro F Z H τ σ ρ A Q P gg vw R h q
 refine ha.h vw R h fun r1 ρ1 x F1 H1 A1 B1 h1 s1 R1 v1 f1=>?_
 obtain ⟨Z',sz,R1',zl,back⟩:=R1.hold v1.live f1
 refine hr.h (fun H' a b=>gg H' (s1.trans a) (sz.trans b)) vw R1' h1 fun r2 ρ2 y F2 H2 A2 B2 h2 s2 R2 v2 f2=>?_
 obtain ⟨R2',f1',k1⟩:=back _ _ _ _ s2 R2
 refine q _ _ _ _ _ _ _ h2 (s1.trans s2) R2' (.cons (v1.keep s2 k1) v2) ⟨List.nodup_append.mpr ⟨f1'.nd,f2.nd,fun a ha b hb z=>?_⟩,fun b hb=>?_⟩
 ·obtain ⟨u,hu⟩:=zl a ha
  rw [z,(f2.fr b hb).2.1] at hu; cases hu
 ·rcases List.mem_append.mp hb with z | z
  ·exact f1'.fr b z
  ·exact ⟨(f2.fr b z).1,sz.free (f2.fr b z).2.1,(f2.fr b z).2.2⟩⟩
theorem v0 {ta:TE}{fa:FE}(ha:EFX K μ G ta fa):AFX K μ G (fT ta m5) (ag fa aU):=⟨by
 intro F Z H τ σ ρ A Q P gg vw R h q
 refine ha.h gg vw R h fun r1 ρ1 x F1 H1 A1 B1 h1 s1 R1 v1 f1=>?_
 have f2:Fresh F1 Z A1 (B1++[]):=by rw [List.append_nil]; exact f1
 exact q _ _ _ _ _ _ _ h1 s1 R1 (.cons v1 .nil) f2⟩
theorem zV {t:TA}{fa:FA}(ha:AFX K μ G t fa):EFX K μ G (D5 t) (vo fa):=⟨by
 intro F Z H τ σ ρ A Q P gg vw R h q
 refine ha.h gg vw R h fun rs ρ1 xs F1 H1 A1 B1 h1 s1 R1 v1 f1=>?_
 split at h1
 ·rename_i ds ρ2 e
  obtain ⟨F2,A2,s2,R2,dn⟩:=R1.frzL v1 f1 e
  refine ⟨by rw [dn.length]; exact h1.1,fun p hp=>?_⟩
  have hf:F2 p=none:=R2.fh.free hp
  refine R2.after (P:=fun o=>P (.ov o) ρ2) (fun o v F3 H3 B p s3 R3 ow fr=>q _ _ _ _ _ _ _ p ((s1.trans s2).trans s3) R3 ow fr) _ _ (upd F2 p (.tup xs)) _ [] h1.2 (Pure.frz R2.fh hp) (.fz (.tup (SqT.of bB) (dn.mono (dh hf)))) New.nil
 ·exact h1.elim⟩
theorem v5 {no:Nat}{ixs:List Nat}{wi:TI}{fi:FI}{g:TG}{fg:FG}{T:List Nat}{tc:TT}{fc:FT}{te:TE}{fe:FE}(hi:ITF K μ wi fi)(hix:∀ j ∈ ixs,j < μ.length)(hg:GF K (muC no ixs μ) T g fg)(hT:∀ i ∈ T,i < no)
  (hc:TF K (muC no ixs μ) tc fc) (he:EFX K (muC no ixs μ) G te fe):EFX K μ G (ie no ixs wi g tc te) (gc no fi fg fc fe):=⟨by
 intro F Z H τ σ ρ A Q P gg vw R h q
 refine hi.h vw R h fun ds ρ1 J F1 H1 A1 h1 s1 R1 wk=>?_
 rw [dL] at h1
 intro a ha
 have hF1:F1 a=none:=R1.fh.free ha
 have hZ1:Z a=none:=R1.zh.free ha
 have hA1:a ∉ A1:=fun z=>by
  obtain ⟨u,hu⟩:=R1.sl.live a z
  rw [ha] at hu; cases hu
 have R1':Rel K F1 Z (upd H1 a (.lst [])) (List.replicate no none++σ) (List.replicate no none++ρ1) A1:=by
  have:=R1.write (o:=.lst []) hA1 hF1 hZ1
  exact ⟨this.sl.none_app no,this.nd,this.fr,this.fh,this.zh,this.dj⟩
 have hfin:∀ F' H' σ' ρ' A' acc as,Same F1 F'→Rel K F' Z H' σ' ρ' A'→(∀ i,no≤i→σ'[i]?=(List.replicate no none++σ)[i]?)→H' a=some (.lst acc)→F' a=none→a ∉ A'→Dens K F' acc as→P (.ov (.fl as)) (ρ'.drop no)→Q (.ref a) H':=by
  intro F' H' σ' ρ' A' acc as s' R' k ha' hF' hA' dn p
  obtain ⟨A2,B2,e2,sl2⟩:=R'.sl.dropN no
  have es:σ'.drop no=σ:=by
   apply List.ext_getElem?
   intro i
   rw [List.getElem?_drop,k (no+i) (by omega),List.getElem?_append_right (by simp),List.length_replicate,Nat.add_sub_cancel_left]
  rw [es] at sl2
  have m2:∀ b ∈ A2,b ∈ A':=fun b hb=>by rw [e2]; exact List.mem_append.mpr (.inr hb)
  have R2:Rel K F' Z H' σ (ρ'.drop no) A2:=⟨sl2,by have:=R'.nd; rw [e2,List.nodup_append] at this; exact this.2.1,fun b hb=>R'.fr b (m2 b hb),R'.fh,R'.zh,R'.dj⟩
  exact q _ _ _ _ _ _ [a] p (s1.trans s') R2 (.fl ha' dn) ⟨by simp,fun b hb=>by
   have:b=a:=by first|exact List.mem_singleton.mp hb|simpa using hb
   subst this
   exact ⟨hF',hZ1,fun z=>hA' (m2 _ z)⟩⟩
 refine ⟨fun i k acc τ' H'=>k=ds.length - i∧i≤ds.length∧vt K fg fc fe P no (muC no ixs μ) F1 Z σ a (ds.drop i) acc τ' H',
  ⟨_,rfl,Nat.zero_le _,F1,_,A1,_,[],Same.refl _,R1',i4 vw hix,fun _ _=>rfl,bB,hF1,hA1,.nil,by rw [List.drop_zero]; exact h1⟩,?_⟩
 rintro i k acc τ' H' ⟨rfl,hle,F',ρ',A',σ',as,s',R',vw',kp,hD,hFD,hAD,dn,h'⟩
 by_cases hlt:i < ds.length
 ·rw [List.drop_eq_getElem_cons hlt,i3] at h'
  refine .inr ⟨wk.go H' i (s'.trans R'.fh) hlt,fun acc τ' H'=>vt K fg fc fe P no (muC no ixs μ) F1 Z σ a (ds.drop (i+1)) acc τ' H',fun acc' σ2 H2 z=>⟨_,by omega,rfl,hlt,z⟩,fun x H2 y=>?_⟩
  obtain ⟨rfl,d,hd,dx⟩:=wk.yld H' i x H2 (s'.trans R'.fh) hlt y
  rw [List.getElem?_eq_getElem hlt] at hd
  cases hd
  refine hg.h vw' R' (dx.mono s') h' fun τ2 σ2 ρ2 A2 p2 vw2 R2 k2 kl2 _ m2=>?_
  have kp2:∀ i,no≤i→σ2[i]?=(List.replicate no none++σ)[i]?:=fun i hi=>by
   rw [k2 i fun z=>by have:=hT i z; omega]; exact kp i hi
  have fD:Fresh F' Z A2 [a]:=⟨by simp,fun b hb=>by
   have:b=a:=by first|exact List.mem_singleton.mp hb|simpa using hb
   subst this
   exact ⟨hFD,hZ1,fun z=>hAD (m2 _ z)⟩⟩
  obtain ⟨Z',sz,R2',zl,back⟩:=R2.hold (B:=[a]) (fun b hb=>by
   have:b=a:=by first|exact List.mem_singleton.mp hb|simpa using hb
   subst this
   exact ⟨_,hD⟩) fD
  refine hc.h vw2 R2' p2 fun b ρ3 F3 H3 A3 p3 s3 R3=>?_
  cases b with
  | false =>
   replace p3:=qC p3
   rw [if_neg Bool.false_ne_true]
   obtain ⟨R3',f3,k3⟩:=back _ _ _ _ s3 R3
   have fa:=f3.fr a (by simp)
   exact ⟨F3,ρ3,A3,σ2,as,s'.trans s3,R3',vw2,kp2,k3 a _ (by simp) hD,fa.1,fa.2.2,dn.mono s3,p3⟩
  | true =>
   replace p3:=qB p3
   rw [if_pos rfl]
   refine he.h (fun H' x y=>gg H' (((s1.trans s').trans s3).trans x) (sz.trans y)) vw2 R3 p3 fun r ρ4 v F4 H4 A4 B4 p4 s4 R4 v4 f4=>?_
   split at p4
   ·rename_i y ρ5 e5
    obtain ⟨F5,A5,s5,R5,dy,_,_⟩:=R4.frz v4 f4 e5
    obtain ⟨R5',f5,k5⟩:=back _ _ _ _ ((s3.trans s4).trans s5) R5
    have fa:=f5.fr a (by simp)
    refine ⟨k5 a _ (by simp) hD,by rw [dn.length]; exact p4.1,F5,ρ5,A5,σ2,as++[y],((s'.trans s3).trans s4).trans s5,R5'.write fa.2.2 fa.1 hZ1,vw2,kp2,bB,fa.1,fa.2.2,(dn.mono ((s3.trans s4).trans s5)).snoc dy,p4.2⟩
   ·exact p4.elim
 ·have e:i=ds.length:=by omega
  subst e
  rw [List.drop_length,i2] at h'
  exact .inl ⟨wk.stop H' (s'.trans R'.fh),hfin _ _ _ _ _ _ _ s' R' kp hD hFD hAD dn h'⟩⟩
theorem zW {n:Nat}{m:List Nat}{te:TE}{fe:FE}(he:EFX K (List.range n) G te fe):SFX K n m G (Bh te) (cX fe):=⟨by
 intro F Z H σ0 σ ρ A D fD gg R p E h
 refine he.h gg (View.id p.1) R h fun r ρ1 v F1 H1 A1 B1 h1 s1 R1 v1 f1=>?_
 split at h1
 ·rename_i o ρ2 e
  obtain ⟨C,A2,R2,o2,f2,_,_⟩:=R1.takeR v1 f1 e
  exact E.rt _ _ _ _ _ _ _ _ s1 R2 p o2 f2 h1
 ·exact h1.elim⟩
theorem v6 {n:Nat}{m:List Nat}{i:Nat}{te:TE}{fe:FE}(he:EFX K (List.range n) G te fe)(hi:i ∉ m):SFX K n m G (qA te (ic i)) (jI i fe):=⟨by
 intro F Z H σ0 σ ρ A D fD gg R p E h
 refine he.h gg (View.id p.1) R h fun r ρ1 v F1 H1 A1 B1 h1 s1 R1 v1 f1=>?_
 cases r with
 | ov o =>
  obtain ⟨A2,R2,_⟩:=R1.assign (i:=i) v1 f1
  exact E.nx _ _ _ _ _ s1 R2 (p.set hi) h1
 | br j=>exact h1.elim⟩
end
theorem Fun.okY {P:Program}{w:World}{K:PySem.W.Frag}{mg:Str→Option Value}{base:Heap}{x qual:Str}{st:Stmt}{f:Addr}{fd:FuncData}{N ps:List Str}{k:Nat}{cr:List D→Prop}{C:Addr}{fs:FS}(F:Fun K x qual st f fd)(S:FnScope N ps (ai st))
  (hlen:∀ ds,cr ds→ds.length=ps.length) (hpl:ps.length≤N.length)
  (n:Nat) (hn:N.length=n)
  (hbody:∀ (cdv:Value) (A:Around) (outer:List Env) (s:Shared) (H:Hp) (E:XK),(∀ H',Same H H'→E (.ref C) none H')→Room k (A.deeper (envOfC qual (ai st) s.heap.objs.size f cdv)) →
   (∀ pins σ H1 s1 h' ea args,Inv (fF (CXr P w) P w K mg base N qual (ai st) f cdv A outer s H E) pins σ H1 s1→Same H H1→Heap.MadeExcOf s1.heap h' ea (.ref C) args→(fF (CXr P w) P w K mg base N qual (ai st) f cdv A outer s H E).xe (.ref ea) { s1 with heap:=h' }) →
   ∃ t,BSs (fF (CXr P w) P w K mg base N qual (ai st) f cdv A outer s H E) (aY st) t∧SFX K n [] (Same H) t fs)
  (hc:∀ ds,cr ds→fs { nx:=fun _=>False,rt:=fun _ _=>False } (aK n (ds.map .fz))):FnOk P w K mg base (CXr P w) (k+1) f fd ps (spR K cr C):=by
 subst hn
 obtain ⟨oc,od,kV,doc,pm,an,cdv,ct,osl,rfl,lk,hcd⟩:=F.ex
 refine B7 lk hcd S (fun vs H Q E h=>?_) fun A outer s H vs Q E hr hsp=>?_
 ·obtain ⟨F1,ds,_,hd,hcc,_⟩:=h
  rw [hd.length]; exact hlen ds hcc
 ·obtain ⟨F1,ds,sf,hd,hcc,hE⟩:=hsp
  obtain ⟨t,ht,hs⟩:=hbody cdv A outer s H E hE hr fun pins σ H1 s1 h' ea args I g m=>my hE I g m
  refine ⟨t,ht.h,?_⟩
  have hl:=hlen ds hcc
  have hvl:=hd.length
  obtain ⟨Z,z1,z2⟩:∃ Z:Hp,(∀ b,F1 b=none→Z b=H b)∧∀ b o,F1 b=some o→Z b=none:=by
   classical
   exact ⟨fun b=>if F1 b=none then H b else none,fun b hb=>if_pos hb,fun b o hb=>if_neg (by rw [hb]; exact fun z=>nomatch z)⟩
  have sz:Same Z H:=fun b o z=>by
   cases q:F1 b with
   | none=>rw [z1 b q] at z; exact z
   | some u=>rw [z2 b u q] at z; cases z
  have hn:(eE N vs).length=N.length:=by unfold eE; simp; nofun
  have R:Rel K F1 Z H (eE N vs) (aK N.length (ds.map .fz)) []:=by
   refine ⟨?_,List.nodup_nil,(fun _ z=>nomatch z),sf,sz,z2⟩
   unfold eE aK
   rw [hvl,List.length_map]
   exact Slots.of_ows _ (Dh hd)
  refine hs.h (fD:={ nx:=fun _=>False,rt:=fun _ _=>False }) (fun H' a b=>fun c o hc=>?_) R (Pin.refl hn) ⟨fun _ _ _ _ _ _ _ _ z=>z.elim,fun _ _ _ _ _ _ _ _ _ _ _ _ _ z=>z.elim,fun _ _ _ _ _ _ _ _ z=>z.elim,fun _ _ _ _ _ _ _ _ z=>z.elim⟩ (hc ds hcc)
  cases q:F1 c with
  | none=>exact b c o (by rw [z1 c q]; exact hc)
  | some u =>
   have e:=sf c u q
   rw [hc] at e
   cases e
   exact a c _ q
abbrev E8 (H0:Hp)(E:XK):XK:=fun c x H'=>E c x H'∧Same H0 H'
theorem sS {P:Program}{w:World}{Ch:Addr}{l:List Env}{H0 H:Hp}{s s':Shared}{E:XK}{e:Value}(c:CXr P w l H s (E8 H0 E) e s'):CXa P w Ch l H0 H s E e s':=by
 obtain ⟨ea,C,a0,B,H',rfl,fl,hok,same,bk,fre,slt,os,bare,n1,n2,hE,hS⟩:=c
 exact ⟨ea,C,a0,.none,B,H',rfl,fl,hok,hS,fun b o q n hb _=>bk b o q n hb,fre,slt,os,bare,n1,n2,hE⟩
theorem v7 {P:Program}{w:World}{K:PySem.W.Frag}{mg:Str→Option Value}{base:Heap}{N:List Str}{qual:Str}{scope:Scope}{f:Addr}{cd:Value}{A:Around}{outer:List Env}{s0:Shared}{H0:Hp}{E:XK} :
  jN (CXr P w) (fF (CXr P w) P w K mg base N qual scope f cd A outer s0 H0 E) (E8 H0 E):=fun pins σ H s e s' I c=>kh I (Nat.le_refl _) (sS c)
theorem sT {X Y:Cx}{E:XK}(hp:Y.prog=X.prog)(hw:Y.w=X.w)(hs:Y.stack=X.stack):jN (CXr X.prog X.w) (Y.wish (XEc X Y E)) E:=fun pins σ H s e s' I c=>⟨pins,σ,H,s,I.unwish,by
 have c:CXr X.prog X.w Y.stack H s E e s':=c
 rw [hs] at c
 exact c⟩
theorem v8 {P:Program}{w:World}{K:PySem.W.Frag}{mg:Str→Option Value}{base:Heap}{N0:List Str}{qual:Str}{sc:Scope}{f:Addr}{cd:Value}{A:Around}{outer:List Env}{s0:Shared}{H0:Hp}{E:XK}{T F:List Str}{ixs:List Nat}{scope:Scope}
  {i:Nat} {y:Str} {elt tg iter:Expr} {ifs:List Expr} {pos py spos:Pos} {wi:TI} {g:TG} {tc:TT} {te:TE} (S:CompScope (fF (CXr P w) P w K mg base N0 qual sc f cd A outer s0 H0 E) T F ixs scope)
  (hi:BI (fF (CXr P w) P w K mg base N0 qual sc f cd A outer s0 H0 E) tg iter wi)
  (hg:∀ C s H fp,BG (bR (fF (CXr P w) P w K mg base N0 qual sc f cd A outer s0 H0 E) (T++F) scope (aZ (fF (CXr P w) P w K mg base N0 qual sc f cd A outer s0 H0 E).env scope.names []) C s H fp) tg g)
  (ht:∀ C s H fp,BIf (bR (fF (CXr P w) P w K mg base N0 qual sc f cd A outer s0 H0 E) (T++F) scope (aZ (fF (CXr P w) P w K mg base N0 qual sc f cd A outer s0 H0 E).env scope.names []) C s H fp) ifs tc)
  (he:∀ C s H fp,BE ((bR (fF (CXr P w) P w K mg base N0 qual sc f cd A outer s0 H0 E) (T++F) scope (aZ (fF (CXr P w) P w K mg base N0 qual sc f cd A outer s0 H0 E).env scope.names []) C s H fp).wish (XEc (fF (CXr P w) P w K mg base N0 qual sc f cd A outer s0 H0 E) (bR (fF (CXr P w) P w K mg base N0 qual sc f cd A outer s0 H0 E) (T++F) scope (aZ (fF (CXr P w) P w K mg base N0 qual sc f cd A outer s0 H0 E).env scope.names []) C s H fp) (E8 H0 E))) elt te)
  (hs:∀ x,foldedSetIterable iter (fF (CXr P w) P w K mg base N0 qual sc f cd A outer s0 H0 E).env x=pure x) (hN:N0.Nodup) (hix:N0[i]?=some y) (hx:Loc (fF (CXr P w) P w K mg base N0 qual sc f cd A outer s0 H0 E).env.scope y)
  (hsw:swapsWith (.ListComp elt [⟨tg,iter,ifs,0⟩] scope pos) (some (.Name y py)) spos.line (fF (CXr P w) P w K mg base N0 qual sc f cd A outer s0 H0 E).env=pure true) (hf:(fF (CXr P w) P w K mg base N0 qual sc f cd A outer s0 H0 E).fn y=true∨(fF (CXr P w) P w K mg base N0 qual sc f cd A outer s0 H0 E).env.scope.names.lookup y=some .local) :
  BS (fF (CXr P w) P w K mg base N0 qual sc f cd A outer s0 H0 E) (.Assign [.Name y py] (.ListComp elt [⟨tg,iter,ifs,0⟩] scope pos) spos) (qA (ie T.length ixs wi g tc te) (ic i)) :=
 ⟨vX (H0:=H0) (E:=E) rfl S hi.h (fun C s H fp=>(hg C s H fp).h) (fun C s H fp=>(ht C s H fp).h) (fun C s H fp=>(he C s H fp).h) ⟨rfl,rfl⟩ (fun pins Ch σ H s e s' I hc c=>kh I hc c) hs hN hix hx hsw hf⟩
end L2
set_option maxHeartbeats 4000000
namespace L2
open PySem PySem.W PySem.Spec PyProof.Rows
def zX (K:Frag)(cr:List L2.D→Prop)(C:Addr)(iZ:Nat)(tA:TS)(t:TA):TS:=fun Dn σ H=>tA Dn σ H∨t σ H fun vs H1=>spR K cr C vs H1 (fun _ _=>False) (fun c _ _=>c=.ref C)∧∀ H2,Same H1 H2→Dn.nx (σ.set iZ (some (.bl true))) H2
section
variable {X:Cx}
theorem nJ {pins:List (Addr×Obj)}{σ:St}{H:Hp}{s:Shared}{k:Nat}{f C:Addr}{fd:FuncData}{ps:List Str}{cr:List D→Prop}{x:Str}{p pos:Pos}{e:Expr}{es:List Expr}{t:TA}{E:XK}{Q:Value→Shared→Prop}{W:Value→Shared→Prop}(F:FnOk X.prog X.w X.K X.mg X.base (CXr X.prog X.w) k f fd ps (spR X.K cr C))(hr:Room k X.A)(hg:Gl X x)(hm:X.mg x=some (.ref f))(hk:PySem.W.keepIn X.K (.ref f)=true)(hb:Binds X.K fd ps [])
  (ha:PA X.nox (e::es) t) (I:Inv X pins σ H s) (Z:Hp→Prop) (h:t σ H fun vs H1=>spR X.K cr C vs H1 (fun _ _=>False) E∧Z H1) (hW:∀ H1 s1 e s',Inv X pins σ H1 s1→Z H1→CXr X.prog X.w X.stack H1 s1 E e s'→W e s')
  (hdb:(x == ("__debug__" : Str))=false) (he:starEach (e::es) X.env=(false,eval e X.env)::starEach es X.env) (hpl:(backTo pos (starEach es X.env)).any (·.1)=false) :
  wpAny (model X.prog X.w) X.A (eval (.Call (.Name x p) (e::es) [] pos) X.env) Q W s:=by
 refine wpAny_Call_Name_kw (iE I hg hm ?_ hdb)
 refine PySem.W.callWith_K (h₀:=X.base) I.ok.mod.kin hk (wpAny_mono (ha pos pins s σ H _ (I.wish _) h) (fun us s1 ⟨vs,H1,I1,r,q,z⟩=>⟨I1.unwish.kIn,?_⟩) fun _ _ z=>False.elim z) he hpl
 exact sC F hr hb I1.unwish r q fun e s' c=>hW H1 s1 e s' I1.unwish z c
theorem zY {k:Nat}{f C D:Addr}{fd:FuncData}{ps:List Str}{cr:List L2.D→Prop}{x cx y z:Str}{iZ j:Nat}{p cpos spos cp yp zp bp zsp hpos tpos:Pos}{e:Expr}{es:List Expr}{t:TA}{tA:TS}(hA:PS X.nox (.Assign [.Name y yp] (.Call (.Name x p) (e::es) [] cpos) spos) tA)
  (F:FnOk X.prog X.w X.K X.mg X.base (CXr X.prog X.w) k f fd ps (spR X.K cr C)) (hr:Room k X.A) (hg:Gl X x) (hm:X.mg x=some (.ref f)) (hk:PySem.W.keepIn X.K (.ref f)=true) (hb:Binds X.K fd ps [])
  (ha:PA X.nox (e::es) t) (hstk:X.stack=X.env::X.outer∧X.env.frame=some X.env.locals) (hgD:Gl X cx) (hmD:X.mg cx=some (.ref D)) (hx:exmOne X.K (.ref C) (.ref D)=some true)
  (hN:X.N.Nodup) (hiZ:X.N[iZ]?=some z) (hlZ:X.env.scope.names.lookup z=some .local)
  (hdb:(x == ("__debug__" : Str))=false) (hdD:(cx == ("__debug__" : Str))=false) (he:starEach (e::es) X.env=(false,eval e X.env)::starEach es X.env) (hpl:(backTo cpos (starEach es X.env)).any (·.1)=false)
  (hsw:swapsWith (.Call (.Name x p) (e::es) [] cpos) (some (.Name y yp)) spos.line X.env=pure false) (hsw2:swapsWith (.Constant (.bool true) j bp) (some (.Name z zp)) zsp.line X.env=pure false) :
  PS X (.Try [.Assign [.Name y yp] (.Call (.Name x p) (e::es) [] cpos) spos] [.ExceptHandler (some (.Name cx cp)) none [.Assign [.Name z zp] (.Constant (.bool true) j bp) zsp] hpos] [] [] tpos) (zX X.K cr C iZ tA t):=by
 intro pins s σ H Dn I h
 rcases h with h | h
 ·refine wpAny_Try_except (wpAny_mono (mZ hA pins s σ H Dn (I.wish _) h) (fun fl s1 q=>?_) fun _ _ w=>w.elim)
  have q:=SP.unwish q
  cases fl with
  | next=>exact wpAny_execs_nil q
  | brk=>exact q
  | cont=>exact q
  | ret u=>exact q
 refine wpAny_Try_except (wpAny_execs_cons (wpAny_Assign_Name ?_ hsw))
 refine nJ F hr hg hm hk hb ha I _ h (fun H1 s1 e s' I1 z' c=>?_) hdb he hpl
 obtain ⟨ea,C',a0,B,H',rfl,fl,hok,same,bk,fre,slt,os,bare,n1,n2,hE⟩:=c
 have eC:C'=C:=Value.ref.inj hE
 subst eC
 have hfr:X.A.frames=some (X.env::X.outer):=by rw [← hstk.1]; exact I1.ok.frames
 have hst:=I1.stack
 have hsf:=I1.stkFree
 rw [hstk.1] at fl
 refine wpAny_looks_onW hfr hstk.2 fl fun h4 held up4=>?_
 refine wpAny_landsW held fun h5 fl5 up5=>?_
 have upT:∀ {a b c:Heap},a.UpToSlots b→b.UpToSlots c→a.UpToSlots c:=fun x y=>x.trans y
 have inv:∀ {h6:Heap},Heap.FlyingW B (X.env::X.outer) ea (.ref C') a0 h6→s'.heap.UpToSlots h6→Inv X pins σ H' { s' with heap:=h6 }:=fun {h6} fl6 up6=>by
  rw [← hstk.1] at fl6
  obtain ⟨un6,hok6⟩:=CXr.caught (E:=fun _ _ _=>True) (e:=.ref ea) hst fl6 hok same bk fre slt n1 n2 up6 hsf
  exact I1.call' (s':={ s' with heap:=h6 }) (ch:=[]) os un6 hok6 bare (fun _ z=>nomatch z)
 have I5:=inv fl5 (upT up4 up5)
 obtain ⟨ob,hob,hobc⟩:=fl5.there
 have LT:Looks (model X.prog X.w) h5 (typeOf (.ref ea)) (.ref C'):=hobc ▸ (Looks.ld hob).andThen .now
 have LM:=exm_one (M:=model X.prog X.w) (h:=h5) I5.kIn LT hx
 refine wpAny_handleBy_cons (codeAny_handlers_test (iE (I5.suite (.ref ea)) hgD hmD (LM.at ?_) hdD)) (by intro q; cases q)
 refine codeAny_handlers_suite (lands_againW fl5 fun h6 fl6 up6=>?_)
 have I6:=inv fl6 (upT (upT up4 up5) up6)
 refine wpAny_mono (mZ (X:=X.suite (.ref ea)) (xr hN hiZ (Or.inl hlZ) Bt hsw2 (.inr hlZ)) pins { s' with heap:=h6 } σ H' { nx:=fun σ' H2=>σ'=σ.set iZ (some (.bl true))∧H2=H',rt:=fun _ _=>False } (I6.suite (.ref ea)) ⟨rfl,rfl⟩) (fun fw s8 q=>?_) fun _ _ w=>w.elim
 cases fw with
 | next =>
  obtain ⟨σ',H2,I8,rfl,rfl⟩:=q
  exact ⟨_,_,I8.unsuite I6.ok,z' H2 same⟩
 | brk=>obtain ⟨_,_,_,w⟩:=q; exact w.elim
 | cont=>obtain ⟨_,_,_,w⟩:=q; exact w.elim
 | ret u=>obtain ⟨_,_,_,_,_,w⟩:=q; exact w.elim
end
def zZ (cr:List D→Prop)(iZ:Nat)(fA:FS)(fa:FA):FS:=fun E ρ=>fA E ρ∨fa ρ fun rs ρ1=>∃ ds,zU rs=some ds∧cr ds∧E.nx (ρ1.set iZ (some (.fz (.bl true))))
theorem sU {K:Frag}{n:Nat}{m:List Nat}{cr:List D→Prop}{C:Addr}{iZ:Nat}{tA:TS}{fA:FS}{t:TA}{fa:FA}(hA:SF K n m tA fA)(ha:AF K (List.range n) t fa)(hi:iZ ∉ m):SF K n m (zX K cr C iZ tA t) (zZ cr iZ fA fa):=⟨by
 intro F Z H σ0 σ ρ A D fD R p E h
 rcases h with h | h
 ·exact .inl (hA.h R p E h)
 ·refine .inr (ha.h (View.id p.1) R h fun rs ρ1 vs F1 H1 A1 B1 h1 s1 R1 v1 f1=>?_)
  obtain ⟨ds,e,hc,hn⟩:=h1
  refine ⟨⟨F1,ds,R1.fh,gR v1 e,hc,fun _ _=>rfl⟩,fun H2 s2=>?_⟩
  have R2:Rel K F1 Z H2 σ ρ1 A1:=R1.step ⟨Same.refl _,s2,R1.fh.trans s2,fun a o h n=>by rw [n] at h; cases h⟩
  obtain ⟨A3,R3,_⟩:=R2.assign (i:=iZ) (v:=.bl true) (o:=.fz (.bl true)) (B:=[]) (.fz (.bl true)) Fresh.nil
  exact E.nx _ _ _ _ _ s1 R3 (p.set hi) hn⟩
theorem sV {X:Cx}{k:Nat}{C D:Addr}{ps:List Str}{cr:List L2.D→Prop}{x cx y z:Str}{iZ j:Nat}{p cpos spos cp yp zp bp zsp hpos tpos:Pos}{e:Expr}{es:List Expr}{t:TA}{tA:TS}(K:Frag)(hK:X.K=K)(hA:BS X.nox (.Assign [.Name y yp] (.Call (.Name x p) (e::es) [] cpos) spos) tA)
  (O:OwnR X.prog X.w X.K X.mg X.base x k ps (spR X.K cr C)) (hr:Room k X.A) (hg:Gl X x) (ha:BA X.nox (e::es) t) (hstk:X.stack=X.env::X.outer∧X.env.frame=some X.env.locals) (hgD:Gl X cx) (hmD:X.mg cx=some (.ref D)) (hx:exmOne X.K (.ref C) (.ref D)=some true)
  (hN:X.N.Nodup) (hiZ:X.N[iZ]?=some z) (hlZ:X.env.scope.names.lookup z=some .local) (hdb:(x == ("__debug__" : Str))=false) (hdD:(cx == ("__debug__" : Str))=false) (hn:(e::es).all cO=true)
  (hsw:swapsWith (.Call (.Name x p) (e::es) [] cpos) (some (.Name y yp)) spos.line X.env=pure false) (hsw2:swapsWith (.Constant (.bool true) j bp) (some (.Name z zp)) zsp.line X.env=pure false) :
  BS X (.Try [.Assign [.Name y yp] (.Call (.Name x p) (e::es) [] cpos) spos] [.ExceptHandler (some (.Name cx cp)) none [.Assign [.Name z zp] (.Constant (.bool true) j bp) zsp] hpos] [] [] tpos) (zX K cr C iZ tA t):=⟨by
 subst hK
 obtain ⟨f,fd,F,hm,hk,hb⟩:=O.ex
 have h:=hn
 rw [List.all_cons,Bool.and_eq_true] at h
 exact zY hA.h F hr hg hm hk hb ha.h hstk hgD hmD hx hN hiZ hlZ hdb hdD (cw h.1) (et h.2) hsw hsw2⟩
end L2
set_option maxHeartbeats 4000000
namespace L2
open PySem PySem.Spec PyProof.Rows
def PTk (X:Cx)(e:Expr)(t:TT):Prop :=
 ∀ (pins:List (Addr×Obj)) (s:Shared) (σ:St) (H:Hp) (Q:Bool→Hp→Prop),Inv X pins σ H s→t σ H Q→wpAny (model X.prog X.w) X.A (isTrue e X.env (eval e X.env)) (fun b s'=>1≤s'.toks∧TP X pins σ Q b s') X.xe s
def PSk (X:Cx)(st:Stmt)(t:TS):Prop :=
 ∀ (pins:List (Addr×Obj)) (s:Shared) (σ:St) (H:Hp) (D:Ends),Inv X pins σ H s→1≤s.toks→t D σ H→wpAny (model X.prog X.w) X.A (exec st X.env) (SP X pins D) X.xe s
section
variable {X:Cx}
theorem jl {α:Type}{M:Model}{A:Around}{t:Sem α}{Q:α→Shared→Prop}{E:Value→Shared→Prop}{s:Shared}{n:Nat}(hn:n≤s.toks)(h:wpAny M A t Q E s):wpAny M A t (fun a s'=>n≤s'.toks∧Q a s') E s :=
 wpAny_mono (wpAny_toks_of hn h) (fun _ _ q=>q) fun _ _ q=>q.2
theorem Aa {a:Expr}{ta:TE}{pos:Pos}{op:CmpOp}{r:R2}{i:Int}{j:Nat}{p:Pos}(ho:OpR X (compareOp op) r)(ha:PE X a ta)(hm:behindInMarks op (.Constant (.int i) j p)=false):PTk X (.Compare a [op] [.Constant (.int i) j p] pos) (m3 (tOp r ta (tC (.int i)))):=by
 intro pins s σ H Q I h
 refine wpAny_isTrue_Compare1 (thn (ha pins s σ H _ I h) fun v s1 ⟨x,H1,I1,r1,q1⟩=>wpAny_Constant_int ?_) hm
 refine thn (jl (n:=1) (Nat.le_add_left 1 s1.toks) (ho pins { s1 with toks:=s1.toks+1 } σ H1 x (.int i) v (.int i s1.toks) _ (I1.tok _) r1 ⟨_,rfl⟩ q1)) fun c s3 ⟨k1,z,H3,I3,r3,k,e,q3⟩=>?_
 subst e
 cases r3
 exact wpAny_truthy_bool ⟨k1,H3,I3,q3⟩
theorem Ab {c:Expr}{a:List Stmt}{st:Stmt}{tc:TT}{t u:TS}{pos:Pos}(hc:PTk X c tc)(ha:PSs X a t)(h2:PSk X st u):PSs X [.If c a [] pos,st] (Bg (Bi tc t qF) u):=by
 intro pins s σ H D I h
 have cont:∀ (f:Flow) (s1:Shared),1≤s1.toks→SP X pins { D with nx:=u D } f s1→(match f with | .next=>wpAny (model X.prog X.w) X.A (execs [st] X.env) (SP X pins D) X.xe s1 | f=>SP X pins D f s1):=fun f s1 k q=>by
  cases f with
  | next =>
   obtain ⟨σ',H',I',q⟩:=q
   refine wpAny_execs_cons (thn (h2 pins s1 σ' H' D I' k q) fun g s2 q2=>?_)
   cases g with
   | next=>exact wpAny_execs_nil q2
   | ret v=>exact q2
   | brk=>exact q2
   | cont=>exact q2
  | ret v=>exact q
  | brk=>exact q
  | cont=>exact q
 refine wpAny_execs_cons (wpAny_If (thn (hc pins s σ H _ I h) fun d s1 ⟨k1,H1,I1,q1⟩=>?_))
 cases d with
 | true=>exact thn (jl k1 (ha pins s1 σ H1 { D with nx:=u D } I1 q1)) fun f s2 ⟨k2,q2⟩=>cont f s2 k2 q2
 | false=>exact wpAny_execs_nil (cont .next s1 k1 ⟨σ,H1,I1,q1⟩)
def Ac (a b:Str)(to:TE):TE:=fun σ H Q=>to σ H fun x H1=>∃ z:Str,x=.str z∧z.length+(z.length+1) * b.length≤16777216∧Q (.str (Txt.replace z a b)) H1
theorem nK {o:Expr} {to:TE} {a b:Str} {i j:Nat} {pa pb apos cpos pos:Pos} (hab:(a == b)=false) (ho:PE X o to) (hbase:attributeBase o "replace" X.env (eval o X.env)=eval o X.env) (hline:(apos.endLine == cpos.line)=true) :
  PSk X (.Return (some (.Call (.Attribute o "replace" apos) [.Constant (.str a) i pa,.Constant (.str b) j pb] [] cpos)) pos) (Bh (Ac a b to)):=by
 intro pins s σ H D I k h
 refine wpAny_Return_some ?_
 refine wpAny_Call_method_late hbase rfl hline rfl (thn (jl k (ho pins s σ H _ I h)) fun v s1 ⟨k1,x,H1,I1,r1,z,ex,hl,q1⟩=>?_)
 subst ex
 obtain ⟨t,rfl⟩:=r1
 refine ⟨"str", "str.replace", PySem.F.plainAttrs_str,PySem.F.slot_str_replace,by first | exact PySem.F.type_str_replace | rfl | decide +kernel,typeIs_str _ _ _,(fun _ e=>nomatch e),?_⟩
 refine Calls.callWith_builtin rfl (Calls.evalArgs_plain ?_)
 show wpAny _ _ (spliced [(false,eval (.Constant (.str a) i pa) X.env),(false,eval (.Constant (.str b) j pb) X.env)]) _ _ s1
 refine Calls.spliced_cons (Calls.Constant_str (Calls.spliced_cons (Calls.Constant_str (Calls.spliced_nil ?_))))
 exact SC.replace (by show s1.toks≠0; nofun) (by show s1.toks+1≠0; nofun) (by show s1.toks≠s1.toks+1; nofun) hab hl fun t' k'=>⟨.str _,σ,H1,I1.tok k',⟨t',rfl⟩,q1⟩
end
section
variable {K:PySem.W.Frag} {μ:List Nat}
def Dy (a b:Str)(fo:FE):FE:=fun ρ Q=>fo ρ fun r ρ1=>on1 ρ1 r fun d=>match d with
 | .str z=>z.length+(z.length+1) * b.length≤16777216∧Q (.ov (.fz (.str (Txt.replace z a b)))) ρ1
 | _=>False
theorem Ad {a b:Str}{to:TE}{fo:FE}(ho:EF K μ to fo):EF K μ (Ac a b to) (Dy a b fo):=⟨by
 intro F Z H τ σ ρ A Q P vw R h q
 refine ho.h vw R h fun r1 ρ1 x F1 H1 A1 B1 h1 s1 R1 v1 f1=>?_
 obtain ⟨d,e1,h2⟩:=dq h1
 cases d
 case str z=>exact ⟨z,(R1.acc v1 e1).str_eq,h2.1,q _ _ _ _ _ _ _ h2.2 s1 R1 (.fz (.str _)) Fresh.nil⟩
 all_goals exact False.elim h2⟩
theorem Ae {X:Cx}{a:List Stmt}{t:TS}{pos:Pos}{o:Expr}{to:TE}{x y:Str}{i j:Nat}{pa pb apos cpos rpos:Pos}{op:CmpOp}{r:R2}{n:Int}{jn:Nat}{pn cp:Pos}{e:Expr}{te:TE}(hop:BOp X (compareOp op) r)(hee:BE X e te)(hm:behindInMarks op (.Constant (.int n) jn pn)=false)
  (ha:BSs X a t) (hxy:(x == y)=false) (ho:BE X o to) (hbase:attributeBase o "replace" X.env (eval o X.env)=eval o X.env) (hline:(apos.endLine == cpos.line)=true) :
  BSs X [.If (.Compare e [op] [.Constant (.int n) jn pn] cp) a [] pos,.Return (some (.Call (.Attribute o "replace" apos) [.Constant (.str x) i pa,.Constant (.str y) j pb] [] cpos)) rpos] (Bg (Bi (m3 (tOp r te (tC (.int n)))) t qF) (Bh (Ac x y to))) :=
 ⟨Ab (Aa hop.h hee.h hm) ha.h (nK hxy ho.h hbase hline)⟩
end
end L2
set_option maxHeartbeats 4000000
namespace L2
open PySem PySem.Spec PyProof.Rows
open PySem.Builtin PySem.Builtin.Str PySem.StrLaws
def sW:R2:=fun x y H Q=>∃ (z:Str) (n:Int),x=.str z∧y=.int n∧1≤n∧0 < z.length∧z.length * n.toNat≤16777216∧Q (.str (jj z n)) H
theorem qm (z:Str):jj z 1=z:=by
 apply de
 rw [jk]
 simp
def FP:R2:=fun x y H Q=>∃ b,x=.bl b∧y=.bl true∧Q (.bl b) H
section
variable {X:Cx}
theorem qo:BOp X (binaryOp .Mult) sW:=⟨by
 intro pins s σ H x y v u Q I rx ry h
 obtain ⟨z,n,rfl,rfl,h1,h0,hl,q⟩:=h
 by_cases hn:n=1
 ·subst hn
  rw [qm] at q
  obtain ⟨t,rfl⟩:=rx
  obtain ⟨t',rfl⟩:=ry
  refine PySem.P.mul_str (by decide) (fun _ h=>absurd h (by simp)) (fun _ h=>absurd h (by simp)) ?_
  rw [if_neg (by decide),if_pos (by simp)]
  exact ⟨.str z,H,I,⟨_,rfl⟩,q⟩
 ·exact vU pins s σ H _ _ v u Q I rx ry ⟨z,n,rfl,rfl,by nofun,h0,hl,q⟩⟩
theorem Dz {j:Nat}{p pos:Pos}:BE X (.UnaryOp .USub (.Constant (.int 1) j p) pos) (tC (.int (-1))):=⟨fun pins s σ H Q I h=>Cz (X:=X) ak |>.h pins s σ H Q I ⟨1,rfl,h⟩⟩
theorem sX:BOp X (compareOp .Is) FP:=⟨by
 intro pins s σ H x y v u Q I rx ry h
 obtain ⟨b,rfl,rfl,q⟩:=h
 cases rx
 cases ry
 refine wpAny_is_plain rfl (bW I q ?_)
 cases b <;> rfl⟩
end
section
variable {K:PySem.W.Frag} {μ:List Nat}
def sZ (d e:D)(P:OV→Prop):Prop:=match d with
 | .str z=>(match e with
  | .int n=>(1≤n∧0 < z.length∧z.length * n.toNat≤16777216)∧P (.fz (.str (jj z n)))
  | _=>False)
 | _=>False
theorem qp:OpF K sW sZ:=⟨by
 intro F H x y d e Q P s hx hy f n
 cases d with
 | str z =>
  cases e with
  | int i=>exact ⟨z,i,hx.str_eq,hy.int_eq,f.1.1,f.1.2.1,f.1.2.2,bg s n (.str _) f.2⟩
  | _=>exact False.elim f
 | _=>exact False.elim f⟩
def E9 (d e:D)(P:OV→Prop):Prop:=match d with
 | .bl b=>(match e with
  | .bl true=>P (.fz (.bl b))
  | _=>False)
 | _=>False
theorem tf:OpF K FP E9:=⟨by
 intro F H x y d e Q P s hx hy f n
 cases d with
 | bl b =>
  cases e with
  | bl c =>
   cases c with
   | true=>exact ⟨b,hx.bl_eq,hy.bl_eq,bg s n (.bl b) f⟩
   | false=>exact False.elim f
  | _=>exact False.elim f
 | _=>exact False.elim f⟩
theorem tj {to:TE}{fo:FE}(ho:EF K μ to fo):EF K μ (D6 K "str" oR to) (fT0 sP fo):=⟨(vV ho).h⟩
end
theorem iA (x y:Str):((Txt.partition x y).1=x∧(Txt.partition x y).2.2=Str.empty)∨x=(Txt.partition x y).1++y++(Txt.partition x y).2.2:=by
 unfold Txt.partition
 rcases occ_head x y 1 (Nat.le_refl _) with ⟨e,_⟩ | ⟨i,s,e,h1,_⟩
 ·rw [e]; exact .inl ⟨rfl,rfl⟩
 ·rw [e]
  refine .inr ?_
  obtain ⟨h2,h3⟩:=kb.mp h1
  apply de
  show x.cps.toList=(strSub x 0 i++y++strSub x (i+y.length) x.length).cps.toList
  rw [dB,dB,strSub_toList,strSub_toList,List.drop_zero,Nat.sub_zero,← h3]
  have e1:((x.cps.toList.drop (i+y.length)).take (x.length - (i+y.length)))=x.cps.toList.drop (i+y.length):=by
   apply List.take_of_length_le
   rw [List.length_drop,← az]
   nofun
  rw [e1,← List.drop_drop,List.append_assoc,List.take_append_drop,List.take_append_drop]
end L2
set_option maxHeartbeats 4000000
namespace KR
open PySem L2
def top (i:Nat):Stmt:=PySem.Challenge.pw_keptreading_k49_whole_one_writing.main.body.getD i (.Pass ⟨0,0,0,0⟩)
structure Txt (K:PySem.W.Frag)(mg:Str→Option Value):Prop where
 n_len:mg "len" = none
 n_max:mg "max" = none
 n_min:mg "min" = none
 n_isinstance:mg "isinstance" = none
 n_all:mg "all" = none
 n_sorted:mg "sorted" = none
 n_range:mg "range" = none
 n_str:mg "str" = none
 n_list:mg "list" = none
 n_tuple:mg "tuple" = none
 n_set:mg "set" = none
 n_ord:mg "ord" = none
 n_ValueError:mg "ValueError" = none
 g_LETTERS:Glo mg "LETTERS" (.str "abcdefghijklmnopqrstuvwxyz")
 g_MOST_LETTERS:Glo mg "MOST_LETTERS" (.int 8)
 g_MOST_SIGNS:Glo mg "MOST_SIGNS" (.int 40)
 g_MOST_PARTS:Glo mg "MOST_PARTS" (.int 8)
 g_BARRED_SIGN:Glo mg "BARRED_SIGN" (.int 37)
 g_WORDS_ALONE:Ec K mg "WORDS_ALONE" [.str "none", .str "any"]
 g_WORDS_WITH_ONE:Ec K mg "WORDS_WITH_ONE" [.str "again", .str "ahead", .str "not"]
 g_WORDS_WITH_SOME:Ec K mg "WORDS_WITH_SOME" [.str "row", .str "first"]
abbrev df (b0 b1 b2:Int):OV:=.fl [.int b0,.int b1,.int b2]
def BagB (b1 b2 n:Int):Prop:=0≤b1∧b1 < 2 ^ 200∧0≤b2∧b2≤n
theorem BagB.mono {b1 b2 m n:Int}(h:BagB b1 b2 m)(e:m≤n):BagB b1 b2 n:=⟨h.1,h.2.1,h.2.2.1,Int.le_trans h.2.2.2 e⟩
theorem lez (n:Nat)(h:autoParam (n≤16777216) L2.aD._auto_1):n≤sizeLine:=by rw [sizeLine_eq]; exact h
theorem Fa {o:OV}:([o]:List OV).length=1∧∀ j o',([o]:List OV)[j]?=some o'→j ∉ ([0]:List Nat)→cY o'=true:=⟨rfl,fun j o' e hj=>by
 cases j with
 | zero=>exact absurd (List.mem_cons_self ..) hj
 | succ j=>cases e⟩
theorem Af {o:OV}{d:D}:([o,.fz d]:List OV).length=2∧∀ j o',([o,.fz d]:List OV)[j]?=some o'→j ∉ ([0]:List Nat)→cY o'=true:=⟨rfl,fun j o' e hj=>by
 cases j with
 | zero=>exact absurd (List.mem_cons_self ..) hj
 | succ j =>
  cases j with
  | zero=>cases e; rfl
  | succ j=>cases e⟩
theorem lo2 {d e:D}:([.fz d,.fz e]:List OV).length=2∧∀ j o',([.fz d,.fz e]:List OV)[j]?=some o'→j ∉ ([]:List Nat)→cY o'=true:=⟨rfl,fun j o' e hj=>by
 cases j with
 | zero=>cases e; rfl
 | succ j =>
  cases j with
  | zero=>cases e; rfl
  | succ j=>cases e⟩
@[irreducible] def bh:Ct:=fun os P=>∃ (ns:List Int) (k:Nat),os=[.fz (.lst (ns.map .int)),.fz (.int k)]∧∀ z:Int,P (.fz (.int z)) os
@[irreducible] def cB:Ct:=fun os P=>∃ (z:Int) (k:Nat),os=[.fz (.int z),.fz (.int k)]∧k≤100∧∀ b0 b1 b2,BagB b1 b2 0→P (df b0 b1 b2) os
@[irreducible] def ac:Ct:=fun os P=>∃ (b0 b1 b2 m n:Int),os=[df b0 b1 b2,.fz (.int m)]∧BagB b1 b2 n∧n < 2 ^ 40∧0 < m∧m < 1000000∧∀ r b0' b1' b2',0≤r→r < m→BagB b1' b2' (n+1)→P (.fz (.int r)) [df b0' b1' b2',.fz (.int m)]
section
variable {P:Program} {w:World} {K:PySem.W.Frag} {mg:Str→Option Value} {base:Heap}
abbrev ki:Stmt:=top 28
theorem Ag:FnScope ["script", "k"] ["script", "k"] (ai ki):=⟨rfl,rfl,rfl,by decide +kernel,rfl,by decide +kernel,by decide +kernel⟩
def x9:FS :=
  (bO (fIf (bJ (fOp (mj (fun i j=>decide (i < j)) bV) (ao 1) (fCB ig (ag (ao 0) aU))))
   (cX (fOp aIx (ao 0) (ao 1)))
   ck)
  (cX (fC (.int 0))))
theorem Ah {f:Addr} {fd:FuncData} (F:Fun K "_law_cell_at" "_law_cell_at" ki f fd) (T:Txt K mg)
  (hlen:∀ os P,bh os P→os.length=2∧∀ j o,os[j]?=some o→j ∉ ([]:List Nat)→cY o=true)
  (hc:∀ os P,bh os P→x9 { nx:=fin [] os P (.fz .non),rt:=fin [] os P } (aK 2 os)) :
  FnOk P w K mg base CX0 1 f fd ["script", "k"] (spM K bh) :=
 Fun.okG 2 [] F Ag rfl (by decide) hlen (by decide) (fun cdv A outer s H E hr=>⟨_,(af (cm (bP gK (ad 1) (ay (cT K rfl) T.n_len cS (aw (ad 0) ae rfl) rfl rfl) aP)
   (am (aN (bS K hr.units (ad 0) (ad 1) (fun _ _=>rfl) rfl)))
   aT)
  (am (aN ak))),
  (ar (cz (aX (aq cW av (bU cU (aa av ah))))
   (aO (aq bT av av))
   aQ)
  (aO aj))⟩) hc
abbrev qq:Stmt:=top 29
theorem DA:FnScope ["cell", "place"] ["cell", "place"] (ai qq):=⟨rfl,rfl,rfl,by decide +kernel,rfl,by decide +kernel,by decide +kernel⟩
def DB:FS :=
  (cX (kJ (ag (fCB E2 (ag (fC (.int 0)) (ag (fOp (aI0 fun i j=>.int (i - j)) (ao 0) (fOp (aIC BM fun i j=>.int (i ^ j.toNat)) (fC (.int 10)) (fC (.int 18)))) aU))) (ag (fOp jy (fOp (aIC (fun _ j=>0 < j) fun i j=>.int (i % j)) (ao 0) (fC (.int 170141183460469231731687303715884105727))) (fOp (aIC CMul fun i j=>.int (i * j)) (fC (.int 982451653)) (ao 1))) (ag (fC (.int 0)) aU)))))
theorem DC {f:Addr} {fd:FuncData} (F:Fun K "_law_bag" "_law_bag" qq f fd) (T:Txt K mg)
  (hlen:∀ os P,cB os P→os.length=2∧∀ j o,os[j]?=some o→j ∉ ([]:List Nat)→cY o=true)
  (hc:∀ os P,cB os P→DB { nx:=fin [] os P (.fz .non),rt:=fin [] os P } (aK 2 os)) :
  FnOk P w K mg base CX0 1 f fd ["cell", "place"] (spM K cB) :=
 Fun.okG 2 [] F DA rfl (by decide) hlen (by decide) (fun cdv A outer s H E hr=>⟨_,(am (aN (dQ (aw (ay (xF rfl) T.n_max xz (aw ak (aw (bn iR (ad 0) (bn zg ak ak)) ae rfl) rfl) rfl rfl) (aw (bn (cG K rfl) (bn iS (ad 0) ak) (bn kE ak (ad 1))) (aw ak ae rfl) rfl) rfl)))),
  (aO (dS (aa (bU xR (aa aj (aa (aq i5 av (aq zE aj aj)) ah))) (aa (aq cJ (aq i6 av aj) (aq kP aj av)) (aa aj ah)))))⟩) hc
abbrev kj:Stmt:=top 30
theorem Ai:FnScope ["bag", "many", "found", "mixed"] ["bag", "many"] (ai kj):=⟨rfl,rfl,rfl,by decide +kernel,rfl,by decide +kernel,by decide +kernel⟩
def ya:FS :=
  (bO (fIf (bJ (fOp (mj (fun i j=>decide (j < i)) fun i j=>bV j i) (fOp aIx (ao 0) (fC (.int 0))) (fC (.int 1))))
   (bO (dC (fOp (aIC (fun _ j=>0 < j) fun i j=>.int (i % j)) (fOp aIx (ao 0) (fC (.int 0))) (ao 1)) (ax 2))
  (bO (oA 0 (fOp (aIC uW fun i j=>.int (i / j)) (fOp aIx (ao 0) (fC (.int 0))) (ao 1)) (fC (.int 0)))
  (cX (ao 2))))
   ck)
  (bO (oA 0 (fOp jy (fOp aIx (ao 0) (fC (.int 2))) (fC (.int 1))) (fC (.int 2)))
  (bO (dC (fOp (aIC (fun _ j=>0 < j) fun i j=>.int (i % j)) (fOp (aIC pM fun i j=>.int (i ^ j.toNat)) (fOp jy (fOp aIx (ao 0) (fC (.int 1))) (fOp (aIC CMul fun i j=>.int (i * j)) (fC (.int 7368787)) (fOp aIx (ao 0) (fC (.int 2))))) (fC (.int 3))) (fC (.int 170141183460469231731687303715884105727))) (ax 3))
  (bO (dC (fOp (aIC (fun _ j=>0 < j) fun i j=>.int (i % j)) (fOp (aIC pM fun i j=>.int (i ^ j.toNat)) (fOp jy (ao 3) (fOp (aIC CMul fun i j=>.int (i * j)) (fC (.int 15485863)) (fOp aIx (ao 0) (fC (.int 2))))) (fC (.int 3))) (fC (.int 162259276829213363391578010288127))) (ax 3))
  (cX (fOp (aIC (fun _ j=>0 < j) fun i j=>.int (i % j)) (fOp (aIC uW fun i j=>.int (i / j)) (ao 3) (fC (.int 1024))) (ao 1)))))))
theorem nu0:List.Nodup [("bag" : Str),("many" : Str),("found" : Str),("mixed" : Str)]:=by decide +kernel
theorem Aj {f:Addr} {fd:FuncData} (F:Fun K "_law_draw" "_law_draw" kj f fd) (T:Txt K mg)
  (hlen:∀ os P,ac os P→os.length=2∧∀ j o,os[j]?=some o→j ∉ ([0]:List Nat)→cY o=true)
  (hc:∀ os P,ac os P→ya { nx:=fin [0] os P (.fz .non),rt:=fin [0] os P } (aK 4 os)) :
  FnOk P w K mg base CX0 1 f fd ["bag", "many"] (spM K ac) :=
 Fun.okG 4 [0] F Ai rfl (by decide) hlen (by decide) (fun cdv A outer s H E hr=>⟨_,(af (cm (bP sk (bS K hr.units (ad 0) ak (fun _ _=>rfl) rfl) ak aP)
   (af (aS (i:=2) nu0 rfl (Or.inl rfl) (bn iS (bS K hr.units (ad 0) ak (fun _ _=>rfl) rfl) (ad 1)) rfl (Or.inl rfl))
  (af (iQ (bn gu (bS K hr.units (ad 0) ak (fun _ _=>rfl) rfl) (ad 1)) (rG (ad 0) ak (fun _=>rfl)) rfl rfl rfl)
  (am (aN (ad 2)))))
   aT)
  (af (iQ (bn (cG K rfl) (bS K hr.units (ad 0) ak (fun _ _=>rfl) rfl) ak) (rG (ad 0) ak (fun _=>rfl)) rfl rfl rfl)
  (af (aS (i:=3) nu0 rfl (Or.inl rfl) (bn iS (bn oi (bn (cG K rfl) (bS K hr.units (ad 0) ak (fun _ _=>rfl) rfl) (bn kE ak (bS K hr.units (ad 0) ak (fun _ _=>rfl) rfl))) ak) ak) rfl (Or.inl rfl))
  (af (aS (i:=3) nu0 rfl (Or.inl rfl) (bn iS (bn oi (bn (cG K rfl) (ad 3) (bn kE ak (bS K hr.units (ad 0) ak (fun _ _=>rfl) rfl))) ak) ak) rfl (Or.inl rfl))
  (am (aN (bn iS (bn gu (ad 3) ak) (ad 1)))))))),
  (ar (cz (aX (aq cW (aq bT av aj) aj))
   (ar (aV (aq i6 (aq bT av aj) av) (cV (by decide)) (ap (by decide)))
  (ar (kN (by decide) (aq gx (aq bT av aj) av) aj)
  (aO av)))
   aQ)
  (ar (kN (by decide) (aq cJ (aq bT av aj) aj) aj)
  (ar (aV (aq i6 (aq oB (aq cJ (aq bT av aj) (aq kP aj (aq bT av aj))) aj) aj) (cV (by decide)) (ap (by decide)))
  (ar (aV (aq i6 (aq oB (aq cJ av (aq kP aj (aq bT av aj))) aj) aj) (cV (by decide)) (ap (by decide)))
  (aO (aq i6 (aq gx av aj) av))))))⟩) hc
theorem DD (os:List OV)(P:OV→List OV→Prop)(h:bh os P):os.length=2∧∀ j o,os[j]?=some o→j ∉ ([]:List Nat)→cY o=true:=by
 unfold bh at h
 obtain ⟨ns,k,rfl,_⟩:=h
 exact lo2
theorem DE (os:List OV)(P:OV→List OV→Prop)(h:bh os P):x9 { nx:=fin [] os P (.fz .non),rt:=fin [] os P } (aK 2 os):=by
 unfold bh at h
 obtain ⟨ns,k,rfl,q⟩:=h
 ac_rfl
 refine cQ ?_
 ac_rfl
 refine bD ((k:Int) < (ns.map D.int).length) (by simp) (fun hk=>?_) (fun _=>?_)
 ·ac_rfl
  have hk':k < ns.length:=by rw [List.length_map] at hk; nofun
  have e:atI (ns.map D.int) (k:Int)=some (.int ns[k]):=eX (by simp [hk'])
  show match atI (ns.map D.int) (k:Int) with
   | some d=>_
   | none=>False
  rw [e]
  exact q _
 ·ac_rfl
  exact q _
theorem Fb (os:List OV)(P:OV→List OV→Prop)(h:cB os P):os.length=2∧∀ j o,os[j]?=some o→j ∉ ([]:List Nat)→cY o=true:=by
 unfold cB at h
 obtain ⟨ns,k,rfl,_⟩:=h
 exact lo2
theorem Fc (os:List OV)(P:OV→List OV→Prop)(h:cB os P):DB { nx:=fin [] os P (.fz .non),rt:=fin [] os P } (aK 2 os):=by
 unfold cB at h
 obtain ⟨z,k,rfl,hk,q⟩:=h
 ac_rfl
 refine ⟨⟨by decide,by decide,by decide⟩,?_⟩
 ac_rfl
 refine ⟨(by decide:(0:Int) < 170141183460469231731687303715884105727),?_⟩
 ac_rfl
 refine ⟨.inl ⟨by decide,by decide⟩,?_⟩
 ac_rfl
 refine ⟨by show 3≤sizeLine; decide,?_⟩
 ac_rfl
 refine q _ _ _ ⟨?_,?_,by nofun,by nofun⟩
 ·have:=Int.emod_nonneg z (show (170141183460469231731687303715884105727:Int)≠0 by decide)
  show 0≤z % 170141183460469231731687303715884105727+982451653 * (k:Int)
  nofun
 ·have:=Int.emod_lt_of_pos z (show (0:Int) < 170141183460469231731687303715884105727 by decide)
  show z % 170141183460469231731687303715884105727+982451653 * (k:Int) < 2 ^ 200
  nofun
theorem oS {x:Int}(h0:0≤x)(h:x < 2 ^ 300):x.natAbs < 2 ^ 1000:=by
 have:(2:Nat) ^ 300 < 2 ^ 1000:=by decide +kernel
 nofun
theorem DF (os:List OV)(P:OV→List OV→Prop)(h:ac os P):os.length=2∧∀ j o,os[j]?=some o→j ∉ ([0]:List Nat)→cY o=true:=by
 unfold ac at h
 obtain ⟨b0,b1,b2,m,n,rfl,_⟩:=h
 exact Af
theorem DG (os:List OV)(P:OV→List OV→Prop)(h:ac os P):ya { nx:=fin [0] os P (.fz .non),rt:=fin [0] os P } (aK 4 os):=by
 unfold ac at h
 obtain ⟨b0,b1,b2,m,n,rfl,⟨h1,h1',h2,h2'⟩,hn,hm,hm',q⟩:=h
 ac_rfl
 refine cQ ?_
 ac_rfl
 refine bD (b0 > 1) (by simp) (fun hk=>?_) (fun hk=>?_)
 ·ac_rfl
  refine ⟨hm,?_⟩
  ac_rfl
  refine ⟨⟨hm,by nofun⟩,?_⟩
  ac_rfl
  refine ⟨rfl,?_⟩
  ac_rfl
  exact q _ _ _ _ (Int.emod_nonneg _ (by nofun)) (Int.emod_lt_of_pos _ hm) ⟨h1,h1',h2,by nofun⟩
 ·ac_rfl
  refine ⟨rfl,?_⟩
  ac_rfl
  refine ⟨.inl ⟨by decide,by decide⟩,?_⟩
  ac_rfl
  refine ⟨⟨by decide,by decide,oS (x:=b1+7368787 * (b2+1)) (by nofun) (by nofun)⟩,?_⟩
  ac_rfl
  refine ⟨(by decide:(0:Int) < 170141183460469231731687303715884105727),?_⟩
  have hx0:0≤(b1+7368787 * (b2+1)) ^ (3:Int).toNat % 170141183460469231731687303715884105727:=Int.emod_nonneg _ (by decide)
  have hx1:(b1+7368787 * (b2+1)) ^ (3:Int).toNat % 170141183460469231731687303715884105727 < 170141183460469231731687303715884105727:=Int.emod_lt_of_pos _ (by decide)
  ac_rfl
  refine ⟨.inl ⟨by decide,by decide⟩,?_⟩
  ac_rfl
  refine ⟨⟨by decide,by decide,oS (x:=(b1+7368787 * (b2+1)) ^ (3:Int).toNat % 170141183460469231731687303715884105727+15485863 * (b2+1)) (by nofun) (by nofun)⟩,?_⟩
  ac_rfl
  refine ⟨(by decide:(0:Int) < 162259276829213363391578010288127),?_⟩
  ac_rfl
  refine ⟨⟨by decide,by decide⟩,?_⟩
  ac_rfl
  refine ⟨hm,?_⟩
  ac_rfl
  exact q _ _ _ _ (Int.emod_nonneg _ (by nofun)) (Int.emod_lt_of_pos _ hm) ⟨h1,h1',by nofun,by nofun⟩
theorem bF {b0 b1 b2 m:Int}(n:Int){P:OV→List OV→Prop}(hb:BagB b1 b2 n)(hn:n < 2 ^ 40)(hm:0 < m)(hm':m < 1000000)(h:∀ r b0' b1' b2',0≤r→r < m→BagB b1' b2' (n+1)→P (.fz (.int r)) [df b0' b1' b2',.fz (.int m)]) :
  ac [df b0 b1 b2,.fz (.int m)] P:=by
 unfold ac
 exact ⟨b0,b1,b2,m,n,rfl,hb,hn,hm,hm',h⟩
end
end KR
set_option maxHeartbeats 4000000
namespace KR
open PySem L2
def uN (l:List Nat):Prop:=∀ c ∈ l,97≤c∧c≤122
def db (z:Str):Prop:=1≤z.cps.toList.length∧z.cps.toList.length≤8∧uN z.cps.toList
theorem iB {a b:List Nat}(ha:uN a)(hb:uN b):uN (a++b):=fun c h=>(List.mem_append.mp h).elim (ha c) (hb c)
abbrev abc:Str := "abcdefghijklmnopqrstuvwxyz"
theorem tm:uN abc.cps.toList:=by
 have h:(abc.cps.toList.all fun c=>decide (97≤c∧c≤122))=true:=by decide +kernel
 intro c hc
 exact of_decide_eq_true (List.all_eq_true.mp h c hc)
theorem tp:abc.cps.toList.length=26:=by decide +kernel
theorem gk (z:Str)(lo hi:Option Int):(oF z lo hi).cps.toList=dP z.cps.toList lo hi:=by simp [oF]
theorem dD:sizeLine=16777216:=sizeLine_eq
@[irreducible] def bX:Ct:=fun os P=>∃ (b0 b1 b2 n:Int) (last:Str),os=[df b0 b1 b2,.fz (.str last)]∧BagB b1 b2 n∧n < 2 ^ 39∧uN last.cps.toList∧last.cps.toList.length≤8∧∀ z b0' b1' b2',db z→BagB b1' b2' (n+12)→P (.fz (.str z)) [df b0' b1' b2',.fz (.str last)]
section
variable {P:Program} {w:World} {K:PySem.W.Frag} {mg:Str→Option Value} {base:Heap}
abbrev km:Stmt:=top 31
theorem Ak:FnScope ["bag", "last", "letters", "way", "letter", "at"] ["bag", "last"] (ai km):=⟨rfl,rfl,rfl,by decide +kernel,rfl,by decide +kernel,by decide +kernel⟩
def yb:FS :=
  (bO (dC (fC (.str "abcdefghijklmnopqrstuvwxyz")) (ax 2))
  (bO (dC (bd ac (ag (ao 0) (ag (fC (.int 6)) aU))) (ax 3))
  (bO (dC (fOp aIx (ao 2) (bd ac (ag (ao 0) (ag (fC (.int 26)) aU)))) (ax 4))
  (bO (fIf (Ed (bJ (fOp aEq (ao 3) (fC (.int 0)))) (bJ (jX (mj (fun i j=>decide (i < j)) bV) (mj (fun i j=>decide (i < j)) bV) (fC (.int 0)) (fCB ig (ag (ao 1) aU)) (fC (.int 8)))))
   (cX (fOp jy (ao 1) (ao 4)))
   ck)
  (bO (fIf (Ed (bJ (fOp aEq (ao 3) (fC (.int 1)))) (bJ (fOp (mj (fun i j=>decide (j < i)) fun i j=>bV j i) (fCB ig (ag (ao 1) aU)) (fC (.int 1)))))
   (cX (fSl aSl (ao 1) (dg (fC (.int 1))) cj))
   ck)
  (bO (fIf (Ed (bJ (fOp aEq (ao 3) (fC (.int 2)))) (bJ (fOp aNe (ao 1) (fC (.str "")))))
   (bO (dC (bd ac (ag (ao 0) (ag (fFz (fCB ig (ag (ao 1) aU))) aU))) (ax 5))
  (cX (fOp jy (fOp jy (fSl aSl (ao 1) cj (dg (ao 5))) (ao 4)) (fSl aSl (ao 1) (dg (fOp jy (ao 5) (fC (.int 1)))) cj))))
   ck)
  (cX (fOp jy (ao 4) (nF (fC (.str "")) (gc 1 (fW (ag (bd ac (ag (ao 0) (ag (fC (.int 8)) aU))) aU)) (ax 0) nt (fOp aIx (ao 3) (bd ac (ag (ao 1) (ag (fC (.int 26)) aU))))))))))))))
theorem nu1:List.Nodup [("bag" : Str),("last" : Str),("letters" : Str),("way" : Str),("letter" : Str),("at" : Str)]:=by decide +kernel
theorem Al {f:Addr} {fd:FuncData} (F:Fun K "_law_name" "_law_name" km f fd) (T:Txt K mg) (O_law_draw:Own P w K mg base "_law_draw" 1 ["bag", "many"] (spM K ac))
  (hlen:∀ os P,bX os P→os.length=2∧∀ j o,os[j]?=some o→j ∉ ([0]:List Nat)→cY o=true)
  (hc:∀ os P,bX os P→yb { nx:=fin [0] os P (.fz .non),rt:=fin [0] os P } (aK 6 os)) :
  FnOk P w K mg base CX0 2 f fd ["bag", "last"] (spM K bX) :=
 Fun.okG 6 [0] F Ak rfl (by decide) hlen (by decide) (fun cdv A outer s H E hr=>⟨_,(af (aS (i:=2) nu1 rfl (Or.inr rfl) aB rfl (Or.inl rfl))
  (af (aS (i:=3) nu1 rfl (Or.inl rfl) (aA O_law_draw (hr.mono (by decide)) (aw (cy 0 rfl (Or.inr (Or.inl rfl))) (aw ak ae rfl) rfl) rfl rfl) rfl (Or.inl rfl))
  (af (aS (i:=4) nu1 rfl (Or.inl rfl) (bS K hr.units (cy 2 rfl (Or.inr (Or.inl rfl))) (aA O_law_draw (hr.mono (by decide)) (aw (cy 0 rfl (Or.inr (Or.inl rfl))) (aw ak ae rfl) rfl) rfl rfl) (fun _ _=>rfl) rfl) rfl (Or.inl rfl))
  (af (cm (xD (rE (bP (cg K hr.units rfl) (ad 3) ak aP) (nk (kD gK gK ak (ay (cT K rfl) T.n_len cS (aw (ad 1) ae rfl) rfl rfl) ak (by with_unfolding_all rfl)))))
   (am (aN (bn (cG K rfl) (ad 1) (ad 4))))
   aT)
  (af (cm (xD (rE (bP (cg K hr.units rfl) (ad 3) ak aP) (nk (bP sk (ay (cT K rfl) T.n_len cS (aw (ad 1) ae rfl) rfl rfl) ak aP))))
   (am (aN (im K (ad 1) (bC ak) cq rfl)))
   aT)
  (af (cm (xD (rE (bP (cg K hr.units rfl) (ad 3) ak aP) (nk (bP (oj K hr.units rfl) (ad 1) aB aP))))
   (af (aS (i:=5) nu1 rfl (Or.inl rfl) (aA O_law_draw (hr.mono (by decide)) (aw (cy 0 rfl (Or.inr (Or.inl rfl))) (aw (ay (cT K rfl) T.n_len cS (aw (ad 1) ae rfl) rfl rfl) ae rfl) rfl) rfl rfl) rfl (Or.inl rfl))
  (am (aN (bn (cG K rfl) (bn (cG K rfl) (im K (ad 1) cq (bC (ad 5)) rfl) (ad 4)) (im K (ad 1) (bC (bn (cG K rfl) (ad 5) ak)) cq rfl)))))
   aT)
  (am (aN (bn (cG K rfl) (ad 4) (cn K PySem.F.plainAttrs_str PySem.F.slot_str_join PySem.F.type_str_join (gG K rfl) aB (aw (d7 (T:=["k"]) (F:=["letters", "bag"]) (ixs:=[2,0]) rfl (CompScope.of rfl rfl rfl) (dR rfl T.n_range (aw (aA O_law_draw (hr.mono (by decide)) (aw (cy 0 rfl (Or.inr (Or.inl rfl))) (aw ak ae rfl) rfl) rfl rfl) ae rfl) rfl) (fun _ _ _ _=>(bz (i:=0) (show List.Nodup [("k" : Str),("letters" : Str),("bag" : Str)] from by decide +kernel) rfl (Or.inl rfl) (Or.inr rfl))) (fun _ _ _ _=>dH) (fun _ _ _ _=>(bS K hr.units (cy 1 rfl (Or.inr (Or.inl rfl))) (aA O_law_draw (hr.mono (by decide)) (aw (cy 2 rfl (Or.inr (Or.inl rfl))) (aw ak ae rfl) rfl) rfl rfl) (fun _ _=>rfl) rfl)) (fun _=>rfl)) ae rfl) rfl rfl rfl (by decide) rfl)))))))))),
  (ar (aV aJ (cV (by decide)) (ap (by decide)))
  (ar (aV (au (c:=ac) (aa av (aa aj ah))) (cV (by decide)) (ap (by decide)))
  (ar (aV (aq bT av (au (c:=ac) (aa av (aa aj ah)))) (cV (by decide)) (ap (by decide)))
  (ar (cz (r9 (aX (aq ci av aj)) (aX (gv cW cW aj (bU cU (aa av ah)) aj)))
   (aO (aq cJ av av))
   aQ)
  (ar (cz (r9 (aX (aq ci av aj)) (aX (aq cW (bU cU (aa av ah)) aj)))
   (aO (dI ge av (bE aj) cu))
   aQ)
  (ar (cz (r9 (aX (aq ci av aj)) (aX (aq oD av aJ)))
   (ar (aV (au (c:=ac) (aa av (aa (ce (bU cU (aa av ah))) ah))) (cV (by decide)) (ap (by decide)))
  (aO (aq cJ (aq cJ (dI ge av cu (bE av)) av) (dI ge av (bE (aq cJ av aj)) cu))))
   aQ)
  (aO (aq cJ av (gO aJ (ef (no:=1) (ixs:=[2,0]) (eK (aa (au (c:=ac) (aa av (aa aj ah))) ah)) (dc (by decide)) (dt (i:=0) (by decide) (by decide)) (ii (by decide)) eQ (aq bT (cL (i:=3) (by decide)) (au (c:=ac) (aa (cL (i:=1) (by decide)) (aa aj ah))))))))))))))⟩) hc
theorem DH (os:List OV)(P:OV→List OV→Prop)(h:bX os P):os.length=2∧∀ j o,os[j]?=some o→j ∉ ([0]:List Nat)→cY o=true:=by
 unfold bX at h
 obtain ⟨b0,b1,b2,n,last,rfl,_⟩:=h
 exact Af
theorem DI (os:List OV)(P:OV→List OV→Prop)(h:bX os P):yb { nx:=fin [0] os P (.fz .non),rt:=fin [0] os P } (aK 6 os):=by
 unfold bX at h
 obtain ⟨b0,b1,b2,n,last,rfl,hb,hn,hlow,hlen,q⟩:=h
 have sz:=dD
 have hll:last.length=last.cps.toList.length:=eI last
 have hn0:0≤n:=Int.le_trans hb.2.2.1 hb.2.2.2
 ac_rfl
 refine bF n hb (by nofun) (by decide) (by decide) fun way b0 b1 b2 w0 w1 hb1=>?_
 ac_rfl
 refine bF (n+1) hb1 (by nofun) (by decide) (by decide) fun r b0 b1 b2 r0 r1 hb2=>?_
 ac_rfl
 refine ⟨by decide +kernel,?_⟩
 refine jc r0 (by rw [show (Str.ofString "abcdefghijklmnopqrstuvwxyz").cps.toList.length=26 from tp]; exact r1) fun c hcm=>?_
 have hcl:=tm c hcm
 have cl1:uN [c]:=fun d hd=>by
  have:d=c:=by first|exact List.mem_singleton.mp hd|simpa using hd
  rw [this]; exact hcl
 have cs:(⟨#[c]⟩:Str).cps.toList=[c]:=rfl
 have cl:(⟨#[c]⟩:Str).length=1:=rfl
 ac_rfl
 refine du True (fun _=>?_) (fun rest=>?_)
 rotate_left
 ·-- way == 0 and 0 < len(last) < 8
  ac_rfl
  refine ⟨bQ,?_⟩
  ac_rfl
  refine bD (way=0) cA (fun hw=>?_) (fun _=>?_)
  ·ac_rfl
   refine ⟨by nofun,?_⟩
   ac_rfl
   refine bD ((0:Int) < last.length) (by simp) (fun h1=>?_) (fun _=>?_)
   ·ac_rfl
    refine bD ((last.length:Int) < 8) (by simp) (fun h2=>?_) (fun _=>?_)
    ·ac_rfl
     refine ⟨by nofun,?_⟩
     ac_rfl
     refine q _ _ _ _ ⟨?_,?_,?_⟩ (hb2.mono (by nofun))
     ·rw [dO,List.length_append,cs,List.length_singleton]; nofun
     ·rw [dO,List.length_append,cs,List.length_singleton]; nofun
     ·rw [dO,cs]; exact iB hlow cl1
    ·exact rest trivial
   ·ac_rfl
    exact jE (rest trivial)
  ·ac_rfl
   exact jE (rest trivial)
 ac_rfl
 refine du True (fun _=>?_) (fun rest=>?_)
 rotate_left
 ·-- way == 1 and len(last) > 1
  ac_rfl
  refine ⟨bQ,?_⟩
  ac_rfl
  refine bD (way=1) cA (fun hw=>?_) (fun _=>?_)
  ·ac_rfl
   refine ⟨by nofun,?_⟩
   ac_rfl
   refine bD ((1:Int) < last.length) (by simp) (fun h1=>?_) (fun _=>?_)
   ·ac_rfl
    refine ⟨by nofun,?_⟩
    ac_rfl
    refine q _ _ _ _ ⟨?_,?_,?_⟩ (hb2.mono (by nofun))
    ·rw [gk,show (1:Int)=((1:Nat):Int) from rfl,iM,List.length_drop]; nofun
    ·rw [gk]; exact Nat.le_trans (kC _ _ _) hlen
    ·rw [gk]; exact fun d hd=>hlow d (og hd)
   ·exact rest trivial
  ·ac_rfl
   exact jE (rest trivial)
 ac_rfl
 refine du True (fun _=>?_) (fun rest=>?_)
 rotate_left
 ·-- way == 2 and last != ''
  ac_rfl
  refine ⟨bQ,?_⟩
  ac_rfl
  refine bD (way=2) cA (fun hw=>?_) (fun _=>?_)
  ·ac_rfl
   refine ⟨cN,?_⟩
   ac_rfl
   refine bD (last ≠ "") vC (fun h1=>?_) (fun _=>?_)
   ·have h1':0 < last.cps.toList.length:=by
     refine Nat.pos_of_ne_zero fun z=>h1 (gF ?_)
     rw [List.eq_nil_of_length_eq_zero z]
     rfl
    ac_rfl
    refine ⟨by nofun,?_⟩
    ac_rfl
    refine bF (n+1+1) hb2 (by nofun) (by nofun) (by nofun) fun at' b0 b1 b2 a0 a1 hb3=>?_
    obtain ⟨k,rfl⟩:=Int.eq_ofNat_of_zero_le a0
    ac_rfl
    refine ⟨by nofun,?_⟩
    have hy1:=(gk last none (some (k:Int))).trans (ng last.cps.toList k)
    have l1:(oF last none (some (k:Int))).length=k:=by rw [nh hy1,List.length_take]; nofun
    ac_rfl
    refine ⟨by rw [l1,cl]; nofun,?_⟩
    ac_rfl
    refine ⟨by nofun,?_⟩
    have hy2:=(gk last (some ((k:Int)+1)) none).trans (iM last.cps.toList (k+1))
    have l2:(oF last (some ((k:Int)+1)) none).length=last.cps.toList.length - (k+1):=by rw [nh hy2,List.length_drop]
    have l12:(oF last none (some (k:Int))++(⟨#[c]⟩:Str)).length=k+1:=by rw [eI,dO,List.length_append,← eI,l1]; rfl
    ac_rfl
    refine ⟨by rw [l12,l2]; nofun,?_⟩
    ac_rfl
    refine q _ _ _ _ ⟨?_,?_,?_⟩ (hb3.mono (by nofun))
    ·rw [dO,List.length_append,← eI,← eI,l12,l2]; nofun
    ·rw [dO,List.length_append,← eI,← eI,l12,l2]; nofun
    ·rw [dO,dO,hy1,hy2]
     exact iB (iB (fun d hd=>hlow d (List.mem_of_mem_take hd)) cl1) fun d hd=>hlow d (List.mem_of_mem_drop hd)
   ·exact rest trivial
  ·ac_rfl
   exact jE (rest trivial)
 -- the last row
 ac_rfl
 refine bF (n+1+1) hb2 (by nofun) (by decide) (by decide) fun many b0 b1 b2 m0 m1 hb3=>?_
 ac_rfl
 refine ⟨⟨by nofun,by nofun⟩,?_⟩
 ac_rfl
 refine dz (fun i as ρ=>∃ (zs:List Str) (x:Option OV) (b0 b1 b2:Int),as=zs.map .str∧zs.length=i∧(∀ z ∈ zs,z.cps.toList.length=1∧uN z.cps.toList)∧BagB b1 b2 (n+3+i) ∧
   ρ=[x,some (df b0 b1 b2),some (.fz (.str last)),some (.fz (.str abc)),some (.fz (.int way)),some (.fz (.str ⟨#[c]⟩)),none])
  ⟨[],none,b0,b1,b2,rfl,rfl,(fun _ h=>by cases h),hb3.mono (by nofun),rfl⟩ ?_ ?_
 ·rintro i d as ρ R hd ⟨zs,x,b0,b1,b2,rfl,hl,hz,hb4,rfl⟩ k
  obtain ⟨hi,rfl⟩:=dA hd
  ac_rfl
  refine iY ?_
  ac_rfl
  refine bF _ hb4 (by nofun) (by decide) (by decide) fun r5 b0 b1 b2 r50 r51 hb5=>?_
  ac_rfl
  refine ⟨by decide +kernel,?_⟩
  refine jc r50 (by rw [show (Str.ofString "abcdefghijklmnopqrstuvwxyz").cps.toList.length=26 from tp]; exact r51) fun d hdm=>?_
  ac_rfl
  refine ⟨by rw [List.length_map]; nofun,k _ _ ⟨zs++[⟨#[d]⟩],some (.fz (.int (0+i))),b0,b1,b2,by rw [List.map_append]; rfl,by simp [hl],fun z hz'=>?_,hb5.mono (by nofun),rfl⟩⟩
  rcases List.mem_append.mp hz' with h | h
  ·exact hz z h
  ·have:z=⟨#[d]⟩:=by first|exact List.mem_singleton.mp h|simpa using h
   rw [this]
   exact ⟨rfl,fun y hy=>by
    have:y=d:=by first|exact List.mem_singleton.mp hy|simpa using hy
    rw [this]; exact tm d hdm⟩
 ·rintro as ρ ⟨zs,x,b0,b1,b2,rfl,hl,hz,hb4,rfl⟩
  rw [ez] at hl hb4
  have hlz:(zs.map fun z=>z.cps.toList).flatten.length=zs.length:=by
   rw [List.length_flatten,List.map_map]
   have:zs.map ((fun l:List Nat=>l.length) ∘ fun z:Str=>z.cps.toList)=zs.map fun _=>1:=List.map_congr_left fun z hz'=>(hz z hz').1
   rw [show (List.map (List.length ∘ fun z:Str=>z.cps.toList) zs)=zs.map fun _=>1 from this]
   exact il zs
  have hls:(zs.map (·.length)).sum=zs.length:=by
   have:zs.map (·.length)=zs.map fun _=>1:=List.map_congr_left fun z hz'=>by rw [eI]; exact (hz z hz').1
   rw [this]
   exact il zs
  have hg:(Builtin.Str.glued (Str.ofString "") zs).cps.toList=(zs.map fun z=>z.cps.toList).flatten:=lO zs
  have hgl:(Builtin.Str.glued (Str.ofString "") zs).length=zs.length:=by rw [nh hg,hlz]
  ac_rfl
  refine fu ⟨by rw [hls]; show zs.length+zs.length * 0≤_; nofun,?_⟩
  ac_rfl
  refine ⟨by rw [cl,hgl]; nofun,?_⟩
  ac_rfl
  refine q _ _ _ _ ⟨?_,?_,?_⟩ (hb4.mono (by nofun))
  ·rw [dO,List.length_append,cs,List.length_singleton]; nofun
  ·rw [dO,List.length_append,cs,List.length_singleton,← eI,hgl]; nofun
  ·rw [dO,cs,hg]
   refine iB cl1 fun y hy=>?_
   obtain ⟨l,hl',hy'⟩:=List.mem_flatten.mp hy
   obtain ⟨z,hz',rfl⟩:=List.mem_map.mp hl'
   exact (hz z hz').2 y hy'
theorem Am {b0 b1 b2 n:Int}{last:Str}{P:OV→List OV→Prop}(hb:BagB b1 b2 n)(hn:n < 2 ^ 39)(hl:uN last.cps.toList)(h8:last.cps.toList.length≤8)(h:∀ z b0' b1' b2',db z→BagB b1' b2' (n+12)→P (.fz (.str z)) [df b0' b1' b2',.fz (.str last)]) :
  bX [df b0 b1 b2,.fz (.str last)] P:=by
 unfold bX
 exact ⟨b0,b1,b2,n,last,rfl,hb,hn,hl,h8,h⟩
@[irreducible] def bG:Ct:=fun os P=>∃ (b0 b1 b2 n:Int) (k:Nat),os=[df b0 b1 b2,.fz (.int k)]∧BagB b1 b2 n∧n < 2 ^ 38∧k≤100∧∀ (zs:List Str) (b0' b1' b2':Int),zs.Nodup→(1≤k→1≤zs.length)→zs.length≤k→(∀ z ∈ zs,db z)→BagB b1' b2' (n+12 * k)→P (.fl (zs.map .str)) [df b0' b1' b2',.fz (.int k)]
abbrev gT:Stmt:=top 32
theorem v9:FnScope ["bag", "many", "found", "name", "k"] ["bag", "many"] (ai gT):=⟨rfl,rfl,rfl,by decide +kernel,rfl,by decide +kernel,by decide +kernel⟩
def tq:FS :=
  (bO (jI 2 CK)
  (bO (dC (fC (.str "")) (ax 3))
  (bO (Bk (fW (ag (ao 1) aU)) (ax 4)
   (bO (dC (bd bX (ag (ao 0) (ag (fFz (ao 3)) aU))) (ax 3))
  (CU 2 (fC (.bl true)) (ao 3))))
  (cX (fCB zF (ag (ao 2) aU))))))
theorem nu2:List.Nodup [("bag" : Str),("many" : Str),("found" : Str),("name" : Str),("k" : Str)]:=by decide +kernel
theorem wa {f:Addr} {fd:FuncData} (F:Fun K "_law_names" "_law_names" gT f fd) (T:Txt K mg) (O_law_name:Own P w K mg base "_law_name" 2 ["bag", "last"] (spM K bX))
  (hlen:∀ os P,bG os P→os.length=2∧∀ j o,os[j]?=some o→j ∉ ([0]:List Nat)→cY o=true)
  (hc:∀ os P,bG os P→tq { nx:=fin [0] os P (.fz .non),rt:=fin [0] os P } (aK 5 os)) :
  FnOk P w K mg base CX0 3 f fd ["bag", "many"] (spM K bG) :=
 Fun.okG 5 [0] F v9 rfl (by decide) hlen (by decide) (fun cdv A outer s H E hr=>⟨_,(af (aS (i:=2) nu2 rfl (Or.inl rfl) ze rfl (Or.inl rfl))
  (af (aS (i:=3) nu2 rfl (Or.inl rfl) aB rfl (Or.inl rfl))
  (af (lV PassesOwn.never rfl (dR rfl T.n_range (aw (ad 1) ae rfl) rfl) (bz (i:=4) nu2 rfl (Or.inl rfl) (Or.inl rfl))
   (af (aS (i:=3) nu2 rfl (Or.inl rfl) (aA O_law_name (hr.mono (by decide)) (aw (ad 0) (aw (ad 3) ae rfl) rfl) rfl rfl) rfl (Or.inl rfl))
  (am (zq (EO hr) (ad 2) (ad 3) eY rfl))) (fun _=>rfl))
  (am (aN (fH (rV K rfl rfl) T.n_list nc (aw (ad 2) ae rfl) rfl rfl)))))),
  (ar (gb zu (by decide))
  (ar (aV aJ (cV (by decide)) (ap (by decide)))
  (ar (mh (eK (aa av ah)) (cV (by decide)) (ap (by decide))
   (ar (aV (au (c:=bX) (aa av (aa (ce av) ah))) (cV (by decide)) (ap (by decide)))
  (zy e7 av)))
  (aO (bU sr (aa av ah))))))⟩) hc
theorem An (os:List OV)(P:OV→List OV→Prop)(h:bG os P):os.length=2∧∀ j o,os[j]?=some o→j ∉ ([0]:List Nat)→cY o=true:=by
 unfold bG at h
 obtain ⟨b0,b1,b2,n,k,rfl,_⟩:=h
 exact Af
theorem Ao (os:List OV)(P:OV→List OV→Prop)(h:bG os P):tq { nx:=fin [0] os P (.fz .non),rt:=fin [0] os P } (aK 5 os):=by
 unfold bG at h
 obtain ⟨b0,b1,b2,n,k,rfl,hb,hn,hk,q⟩:=h
 have sz:=dD
 have hn0:0≤n:=Int.le_trans hb.2.2.1 hb.2.2.2
 ac_rfl
 refine ⟨⟨by nofun,by nofun⟩,?_⟩
 refine gB (fun i ρ=>∃ (zs:List Str) (ds:List D) (name:Str) (x:Option OV) (b0 b1 b2:Int),zs.Nodup∧(∀ z ∈ zs,db z)∧zs.length≤i∧(1≤i→1≤zs.length)∧uN name.cps.toList∧name.cps.toList.length≤8∧BagB b1 b2 (n+12 * i) ∧
   ρ=[some (df b0 b1 b2),some (.fz (.int k)),some (.fd (zs.map Sum.inr) ds),some (.fz (.str name)),x])
  ⟨[],[], "", none,b0,b1,b2,List.nodup_nil,by simp,by simp,by nofun,(by intro c hc; cases hc),Nat.zero_le _,hb.mono (by nofun),rfl⟩ ?_ ?_
 ·rintro i d ρ R hd ⟨zs,ds,name,x,b0,b1,b2,hnd,hnm,hzl,hz1,hlow,hl8,hb1,rfl⟩ kk
  obtain ⟨hi,rfl⟩:=dA hd
  ac_rfl
  refine Am hb1 (by nofun) hlow hl8 fun z b0 b1 b2 hz hb2=>?_
  ac_rfl
  refine ⟨rfl,?_⟩
  ac_rfl
  refine ⟨by rw [List.length_map]; nofun,?_⟩
  obtain ⟨l1,l2,l3⟩:=jV zs z
  refine kk _ ⟨KS.dedup1 zs z,(xO (zs.map Sum.inr) ds (.inr z) (.bl true)).2,z,some (.fz (.int (0+i))),b0,b1,b2,hV hnd,fun y hy=>?_,by nofun,fun _=>l3,hz.2.2,hz.2.1,hb2.mono (by nofun),?_⟩
  ·rcases jU.mp hy with h | h
   ·exact hnm y h
   ·rw [h]; exact hz
  ·rw [← sx (ds:=ds) (d:=.bl true)]; rfl
 ·rintro ρ ⟨zs,ds,name,x,b0,b1,b2,hnd,hnm,hzl,hz1,hlow,hl8,hb1,rfl⟩
  rw [ez] at hzl hz1 hb1
  ac_rfl
  have e:(zs.map Sum.inr).map Eg=zs.map D.str:=sy zs
  have hq:=q zs b0 b1 b2 hnd (fun h=>hz1 (by nofun)) (by nofun) hnm (hb1.mono (by nofun))
  rw [← e] at hq
  exact hq
theorem wb {b0 b1 b2 n:Int}{k:Nat}{P:OV→List OV→Prop}(hb:BagB b1 b2 n)(hn:n < 2 ^ 38)(hk:k≤100)(h:∀ (zs:List Str) (b0' b1' b2':Int),zs.Nodup→(1≤k→1≤zs.length)→zs.length≤k→(∀ z ∈ zs,db z)→BagB b1' b2' (n+12 * k)→P (.fl (zs.map .str)) [df b0' b1' b2',.fz (.int k)]) :
  bG [df b0 b1 b2,.fz (.int k)] P:=by
 unfold bG
 exact ⟨b0,b1,b2,n,k,rfl,hb,hn,hk,h⟩
end
end KR
set_option maxHeartbeats 4000000
namespace KR
open PySem L2
def fB (z:Str):Prop:=1≤z.cps.toList.length∧z.cps.toList.length≤40∧z.cps.toList.Pairwise (· < ·)∧∀ c ∈ z.cps.toList,32≤c∧c≤126∧c≠37
abbrev tt:Str := " !\"#$&'()*+,-./0123456789:;<=>?\x40ABCDEFGHIJKLMNOPQRSTUVWXYZ[\\]^_`abcdefghijklmnopqrstuvwxyz{|}~"
theorem tw:tt.cps.toList.length=94:=by decide +kernel
theorem wc:∀ c ∈ tt.cps.toList,32≤c∧c≤126∧c≠37:=by
 have h:(tt.cps.toList.all fun c=>decide (32≤c∧c≤126∧c≠37))=true:=by decide +kernel
 intro c hc
 exact of_decide_eq_true (List.all_eq_true.mp h c hc)
theorem we {z:Str}(h:z.cps.toList.length=1):∃ c,z=⟨#[c]⟩:=by
 obtain ⟨c,hc⟩:=List.length_eq_one_iff.mp h
 exact ⟨c,gF (by rw [hc])⟩
theorem oU:∀ {ss:List Str},(∀ z ∈ ss,z.cps.toList.length=1)→∃ cs:List Nat,ss=cs.map fun c=>(⟨#[c]⟩:Str)
 | [],_=>⟨[],rfl⟩
 | s::ss,h=>by
  obtain ⟨c,rfl⟩:=we (h s (List.mem_cons_self ..))
  obtain ⟨cs,rfl⟩:=oU (ss:=ss) fun z hz=>h z (List.mem_cons_of_mem _ hz)
  exact ⟨c::cs,rfl⟩
theorem kn:∀ cs:List Nat,((cs.map fun c=>(⟨#[c]⟩:Str)).map fun z=>z.cps.toList).flatten=cs
 | []=>rfl
 | c::cs=>by simp only [List.map_cons,List.flatten_cons,kn cs]; rfl
theorem qr {cs:List Nat}(h:(cs.map fun c=>(⟨#[c]⟩:Str)).Pairwise fun a b=>ev a b=true)(hn:(cs.map fun c=>(⟨#[c]⟩:Str)).Nodup):cs.Pairwise (· < ·):=by
 rw [List.Nodup] at hn
 have h2:=h.and hn
 rw [List.pairwise_map] at h2
 refine h2.imp fun {a b} hab=>?_
 have h3:¬ ([b] < [a]):=e9.mp hab.1
 have h4:¬ (b < a):=fun z=>h3 (List.Lex.rel z)
 have h5:a≠b:=fun z=>hab.2 (by rw [z])
 nofun
@[irreducible] def bL:Ct:=fun os P=>∃ (b0 b1 b2 n:Int),os=[df b0 b1 b2]∧BagB b1 b2 n∧n < 2 ^ 38∧∀ (z:Str) (b0' b1' b2':Int),fB z→BagB b1' b2' (n+42)→P (.fz (.str z)) [df b0' b1' b2']
section
variable {P:Program} {w:World} {K:PySem.W.Frag} {mg:Str→Option Value} {base:Heap}
abbrev gU:Stmt:=top 33
theorem wf:FnScope ["bag", "some", "many"] ["bag"] (ai gU):=⟨rfl,rfl,rfl,by decide +kernel,rfl,by decide +kernel,by decide +kernel⟩
def tz:FS :=
  (bO (dC (fC (.str " !\"#$&'()*+,-./0123456789:;<=>?\x40ABCDEFGHIJKLMNOPQRSTUVWXYZ[\\]^_`abcdefghijklmnopqrstuvwxyz{|}~")) (ax 1))
  (bO (dC (fOp jy (fC (.int 1)) (bd ac (ag (ao 0) (ag (fFz (fOp aIx (kJ (ag (fC (.int 6)) (ag (fC (.int 40)) aU))) (fOp (aIC uW fun i j=>.int (i / j)) (bd ac (ag (ao 0) (ag (fC (.int 8)) aU))) (fC (.int 7))))) aU)))) (ax 2))
  (cX (nF (fC (.str "")) (kU (gc 1 (fW (ag (ao 2) aU)) (ax 0) nt (fOp aIx (ao 2) (bd ac (ag (ao 1) (ag (fC (.int 94)) aU))))))))))
theorem nu3:List.Nodup [("bag" : Str),("some" : Str),("many" : Str)]:=by decide +kernel
theorem wg {f:Addr} {fd:FuncData} (F:Fun K "_law_signs" "_law_signs" gU f fd) (T:Txt K mg) (O_law_draw:Own P w K mg base "_law_draw" 1 ["bag", "many"] (spM K ac))
  (hlen:∀ os P,bL os P→os.length=1∧∀ j o,os[j]?=some o→j ∉ ([0]:List Nat)→cY o=true)
  (hc:∀ os P,bL os P→tz { nx:=fin [0] os P (.fz .non),rt:=fin [0] os P } (aK 3 os)) :
  FnOk P w K mg base CX0 2 f fd ["bag"] (spM K bL) :=
 Fun.okG 3 [0] F wf rfl (by decide) hlen (by decide) (fun cdv A outer s H E hr=>⟨_,(af (aS (i:=1) nu3 rfl (Or.inr rfl) aB rfl (Or.inl rfl))
  (af (aS (i:=2) nu3 rfl (Or.inl rfl) (bn (cG K rfl) ak (aA O_law_draw (hr.mono (by decide)) (aw (cy 0 rfl (Or.inr (Or.inl rfl))) (aw (bS K hr.units (dQ (aw ak (aw ak ae rfl) rfl)) (bn gu (aA O_law_draw (hr.mono (by decide)) (aw (cy 0 rfl (Or.inr (Or.inl rfl))) (aw ak ae rfl) rfl) rfl rfl) ak) (fun _ _=>rfl) rfl) ae rfl) rfl) rfl rfl)) rfl (Or.inl rfl))
  (am (aN (cn K PySem.F.plainAttrs_str PySem.F.slot_str_join PySem.F.type_str_join (gG K rfl) aB (aw (ay (vB P w K rfl rfl rfl rfl) T.n_sorted lQ (aw (fH (CG P w K rfl rfl rfl rfl) T.n_set Cu (aw (d7 (T:=["k"]) (F:=["some", "bag"]) (ixs:=[1,0]) rfl (CompScope.of rfl rfl rfl) (dR rfl T.n_range (aw (ad 2) ae rfl) rfl) (fun _ _ _ _=>(bz (i:=0) (show List.Nodup [("k" : Str),("some" : Str),("bag" : Str)] from by decide +kernel) rfl (Or.inl rfl) (Or.inr rfl))) (fun _ _ _ _=>dH) (fun _ _ _ _=>(bS K hr.units (cy 1 rfl (Or.inr (Or.inl rfl))) (aA O_law_draw (hr.mono (by decide)) (aw (cy 2 rfl (Or.inr (Or.inl rfl))) (aw ak ae rfl) rfl) rfl rfl) (fun _ _=>rfl) rfl)) (fun _=>rfl)) ae rfl) rfl rfl) ae rfl) rfl rfl) ae rfl) rfl rfl rfl (by decide) rfl))))),
  (ar (aV aJ (cV (by decide)) (ap (by decide)))
  (ar (aV (aq cJ aj (au (c:=ac) (aa av (aa (ce (aq bT (dS (aa aj (aa aj ah))) (aq gx (au (c:=ac) (aa av (aa aj ah))) aj))) ah)))) (cV (by decide)) (ap (by decide)))
  (aO (gO aJ (nE (ef (no:=1) (ixs:=[1,0]) (eK (aa av ah)) (dc (by decide)) (dt (i:=0) (by decide) (by decide)) (ii (by decide)) eQ (aq bT (cL (i:=2) (by decide)) (au (c:=ac) (aa (cL (i:=1) (by decide)) (aa aj ah))))))))))⟩) hc
theorem Ap (os:List OV)(P:OV→List OV→Prop)(h:bL os P):os.length=1∧∀ j o,os[j]?=some o→j ∉ ([0]:List Nat)→cY o=true:=by
 unfold bL at h
 obtain ⟨b0,b1,b2,n,rfl,_⟩:=h
 exact Fa
theorem wj {a b:Int}{i:Int}{Q:D→Prop}(h0:0≤i)(h:i < 2)(q:∀ m,(m=a∨m=b)→Q (.int m)):match atI [D.int a,D.int b] i with
  | some d=>Q d
  | none=>False:=kX h0 h fun d hd=>by
 simp only [List.mem_cons,List.not_mem_nil,or_false] at hd
 rcases hd with rfl | rfl
 ·exact q a (.inl rfl)
 ·exact q b (.inr rfl)
theorem Aq (os:List OV)(P:OV→List OV→Prop)(h:bL os P):tz { nx:=fin [0] os P (.fz .non),rt:=fin [0] os P } (aK 3 os):=by
 unfold bL at h
 obtain ⟨b0,b1,b2,n,rfl,hb,hn,q⟩:=h
 have sz:=dD
 have hn0:0≤n:=Int.le_trans hb.2.2.1 hb.2.2.2
 ac_rfl
 refine ⟨lez 2,?_⟩
 ac_rfl
 refine bF n hb (by nofun) (by decide) (by decide) fun r b0 b1 b2 r0 r1 hb1=>?_
 ac_rfl
 refine ⟨⟨by decide,by decide⟩,?_⟩
 ac_rfl
 refine wj (by nofun) (by nofun) fun m hm=>?_
 ac_rfl
 refine bF (n+1) hb1 (by nofun) (by nofun) (by nofun) fun r3 b0 b1 b2 r30 r31 hb3=>?_
 ac_rfl
 refine ⟨⟨by nofun,by nofun⟩,?_⟩
 ac_rfl
 refine dz (fun i as ρ=>∃ (zs:List Str) (x:Option OV) (b0 b1 b2:Int),as=zs.map .str∧zs.length=i∧(∀ z ∈ zs,z.cps.toList.length=1∧∀ c ∈ z.cps.toList,32≤c∧c≤126∧c≠37)∧BagB b1 b2 (n+2+i) ∧
   ρ=[x,some (df b0 b1 b2),some (.fz (.str tt)),some (.fz (.int (1+r3)))])
  ⟨[],none,b0,b1,b2,rfl,rfl,(fun _ h=>by cases h),hb3.mono (by nofun),rfl⟩ ?_ ?_
 ·rintro i d as ρ R hd ⟨zs,x,b0,b1,b2,rfl,hl,hz,hb4,rfl⟩ k
  obtain ⟨hi,rfl⟩:=dA hd
  ac_rfl
  refine iY ?_
  ac_rfl
  refine bF _ hb4 (by nofun) (by decide) (by decide) fun r5 b0 b1 b2 r50 r51 hb5=>?_
  ac_rfl
  refine ⟨by decide +kernel,?_⟩
  refine jc r50 (by rw [show tt.cps.toList.length=94 from tw]; exact r51) fun d hdm=>?_
  ac_rfl
  refine ⟨by rw [List.length_map]; nofun,k _ _ ⟨zs++[⟨#[d]⟩],some (.fz (.int (0+i))),b0,b1,b2,by rw [List.map_append]; rfl,by simp [hl],fun z hz'=>?_,hb5.mono (by nofun),rfl⟩⟩
  rcases List.mem_append.mp hz' with h | h
  ·exact hz z h
  ·have:z=⟨#[d]⟩:=by first|exact List.mem_singleton.mp h|simpa using h
   rw [this]
   exact ⟨rfl,fun y hy=>by
    have:y=d:=by first|exact List.mem_singleton.mp hy|simpa using hy
    rw [this]; exact wc d hdm⟩
 ·rintro as ρ ⟨zs,x,b0,b1,b2,rfl,hl,hz,hb4,rfl⟩
  rw [ez] at hl hb4
  have hsub:(kT zs).length≤zs.length:=vD zs
  ac_rfl
  refine fu ⟨⟨by show _ < 4096; nofun,by nofun⟩,?_⟩
  have hmz:∀ z ∈ kT zs,z.cps.toList.length=1∧∀ c ∈ z.cps.toList,32≤c∧c≤126∧c≠37:=fun z hz'=>hz z (iq.mp hz')
  have hpos:1≤(kT zs).length:=by
   have h0:1≤zs.length:=by nofun
   cases zs with
   | nil=>simp at h0
   | cons z zs=>exact List.length_pos_of_mem (iq.mpr (List.mem_cons_self ..))
  have hs1:=nB zs
  have hs2:=gM zs
  generalize kT zs=ss at hsub hmz hpos hs1 hs2 ⊢
  obtain ⟨cs,rfl⟩:=oU fun z hz'=>(hmz z hz').1
  have hpw:=qr hs1 hs2
  rw [List.length_map] at hsub hpos
  ac_rfl
  have hls:((cs.map fun c=>(⟨#[c]⟩:Str)).map (·.length)).sum=cs.length:=by
   rw [List.map_map]
   exact il cs
  refine fu ⟨by rw [hls,List.length_map]; show cs.length+cs.length * 0≤_; nofun,?_⟩
  have hg:(Builtin.Str.glued (Str.ofString "") (cs.map fun c=>(⟨#[c]⟩:Str))).cps.toList=cs:=(lO _).trans (kn cs)
  ac_rfl
  refine q _ _ _ _ ⟨by rw [hg]; nofun,by rw [hg]; nofun,by rw [hg]; exact hpw,fun c hc=>?_⟩ (hb4.mono (by nofun))
  rw [hg] at hc
  exact (hmz ⟨#[c]⟩ (List.mem_map.mpr ⟨c,hc,rfl⟩)).2 c (by simp)
theorem wl {b0 b1 b2 n:Int}{P:OV→List OV→Prop}(hb:BagB b1 b2 n)(hn:n < 2 ^ 38)(h:∀ (z:Str) (b0' b1' b2':Int),fB z→BagB b1' b2' (n+42)→P (.fz (.str z)) [df b0' b1' b2']) :
  bL [df b0 b1 b2] P:=by
 unfold bL
 exact ⟨b0,b1,b2,n,rfl,hb,hn,h⟩
def tD (zs:List Str)(word:Str)(rest:List Str):Prop :=
 ((word = "none" ∨ word = "any")∧rest=[])∨(word = "signs" ∧ ∃ z,rest=[z]∧fB z) ∨
 ((word = "again" ∨ word = "ahead" ∨ word = "not")∧rest.length=1∧∀ z ∈ rest,z ∈ zs)∨((word = "row" ∨ word = "first")∧1≤rest.length∧rest.length≤8∧∀ z ∈ rest,z ∈ zs)
abbrev eV (word:Str)(rest:List Str):D:=.tup (.str word::rest.map .str)
@[irreducible] def bY:Ct:=fun os P=>∃ (b0 b1 b2 n:Int) (zs:List Str),os=[df b0 b1 b2,.fz (.lst (zs.map .str))]∧BagB b1 b2 n∧n < 2 ^ 37∧1≤zs.length∧zs.length≤1000 ∧
 ∀ (word:Str) (rest:List Str) (b0' b1' b2':Int),tD zs word rest→BagB b1' b2' (n+50)→P (.fz (eV word rest)) [df b0' b1' b2',.fz (.lst (zs.map .str))]
abbrev ko:Stmt:=top 34
theorem Ar:FnScope ["bag", "names", "words", "word", "many"] ["bag", "names"] (ai ko):=⟨rfl,rfl,rfl,by decide +kernel,rfl,by decide +kernel,by decide +kernel⟩
def yc:FS :=
  (bO (dC (kJ (ag (fC (.str "none")) (ag (fC (.str "any")) (ag (fC (.str "signs")) (ag (fC (.str "row")) (ag (fC (.str "row")) (ag (fC (.str "first")) (ag (fC (.str "first")) (ag (fC (.str "again")) (ag (fC (.str "ahead")) (ag (fC (.str "not")) aU))))))))))) (ax 2))
  (bO (dC (fOp aIx (ao 2) (bd ac (ag (ao 0) (ag (fC (.int 10)) aU)))) (ax 3))
  (bO (fIf (fOr (bJ (fOp aEq (ao 3) (fC (.str "none")))) (bJ (fOp aEq (ao 3) (fC (.str "any")))))
   (cX (vo (ag (ao 3) aU)))
   ck)
  (bO (fIf (bJ (fOp aEq (ao 3) (fC (.str "signs"))))
   (cX (vo (ag (ao 3) (ag (bd bL (ag (ao 0) aU)) aU))))
   ck)
  (bO (dC (fC (.int 1)) (ax 4))
  (bO (fIf (fOr (bJ (fOp aEq (ao 3) (fC (.str "row")))) (bJ (fOp aEq (ao 3) (fC (.str "first")))))
   (dC (fOp jy (fC (.int 1)) (bd ac (ag (ao 0) (ag (fFz (fOp aIx (kJ (ag (fC (.int 3)) (ag (fC (.int 8)) aU))) (bd ac (ag (ao 0) (ag (fC (.int 2)) aU))))) aU)))) (ax 4))
   ck)
  (cX (fCB j2 (ag (fOp jy (kJ (ag (ao 3) aU)) (gc 1 (fW (ag (ao 4) aU)) (ax 0) nt (fOp aIx (ao 2) (bd ac (ag (ao 1) (ag (fFz (fCB ig (ag (ao 2) aU))) aU)))))) aU)))))))))
theorem nu4:List.Nodup [("bag" : Str),("names" : Str),("words" : Str),("word" : Str),("many" : Str)]:=by decide +kernel
theorem As {f:Addr} {fd:FuncData} (F:Fun K "_law_form" "_law_form" ko f fd) (T:Txt K mg) (O_law_draw:Own P w K mg base "_law_draw" 1 ["bag", "many"] (spM K ac)) (O_law_signs:Own P w K mg base "_law_signs" 2 ["bag"] (spM K bL))
  (hlen:∀ os P,bY os P→os.length=2∧∀ j o,os[j]?=some o→j ∉ ([0]:List Nat)→cY o=true)
  (hc:∀ os P,bY os P→yc { nx:=fin [0] os P (.fz .non),rt:=fin [0] os P } (aK 5 os)) :
  FnOk P w K mg base CX0 3 f fd ["bag", "names"] (spM K bY) :=
 Fun.okG 5 [0] F Ar rfl (by decide) hlen (by decide) (fun cdv A outer s H E hr=>⟨_,(af (aS (i:=2) nu4 rfl (Or.inl rfl) (dQ (aw aB (aw aB (aw aB (aw aB (aw aB (aw aB (aw aB (aw aB (aw aB (aw aB ae rfl) rfl) rfl) rfl) rfl) rfl) rfl) rfl) rfl) rfl)) rfl (Or.inl rfl))
  (af (aS (i:=3) nu4 rfl (Or.inl rfl) (bS K hr.units (ad 2) (aA O_law_draw (hr.mono (by decide)) (aw (cy 0 rfl (Or.inr (Or.inl rfl))) (aw ak ae rfl) rfl) rfl rfl) (fun _ _=>rfl) rfl) rfl (Or.inl rfl))
  (af (cm (xD (rF (bP (cg K hr.units rfl) (ad 3) aB aP) (lS (bP (cg K hr.units rfl) (ad 3) aB aP))))
   (am (aN (iN (aw (ad 3) ae rfl))))
   aT)
  (af (cm (bP (cg K hr.units rfl) (ad 3) aB aP)
   (am (aN (iN (aw (ad 3) (aw (aA O_law_signs (hr.mono (by decide)) (aw (cy 0 rfl (Or.inr (Or.inl rfl))) ae rfl) rfl rfl) ae rfl) rfl))))
   aT)
  (af (aS (i:=4) nu4 rfl (Or.inl rfl) ak rfl (Or.inl rfl))
  (af (cm (xD (rF (bP (cg K hr.units rfl) (ad 3) aB aP) (lS (bP (cg K hr.units rfl) (ad 3) aB aP))))
   (am (aS (i:=4) nu4 rfl (Or.inl rfl) (bn (cG K rfl) ak (aA O_law_draw (hr.mono (by decide)) (aw (cy 0 rfl (Or.inr (Or.inl rfl))) (aw (bS K hr.units (dQ (aw ak (aw ak ae rfl) rfl)) (aA O_law_draw (hr.mono (by decide)) (aw (cy 0 rfl (Or.inr (Or.inl rfl))) (aw ak ae rfl) rfl) rfl rfl) (fun _ _=>rfl) rfl) ae rfl) rfl) rfl rfl)) rfl (Or.inl rfl)))
   aT)
  (am (aN (fH (kH K rfl) T.n_tuple gr (aw (bn (cG K rfl) (dQ (aw (ad 3) ae rfl)) (d7 (T:=["k"]) (F:=["names", "bag"]) (ixs:=[1,0]) rfl (CompScope.of rfl rfl rfl) (dR rfl T.n_range (aw (ad 4) ae rfl) rfl) (fun _ _ _ _=>(bz (i:=0) (show List.Nodup [("k" : Str),("names" : Str),("bag" : Str)] from by decide +kernel) rfl (Or.inl rfl) (Or.inr rfl))) (fun _ _ _ _=>dH) (fun _ _ _ _=>(bS K hr.units (cy 1 rfl (Or.inr (Or.inl rfl))) (aA O_law_draw (hr.mono (by decide)) (aw (cy 2 rfl (Or.inr (Or.inl rfl))) (aw (ay (cT K rfl) T.n_len cS (aw (cy 1 rfl (Or.inr (Or.inl rfl))) ae rfl) rfl rfl) ae rfl) rfl) rfl rfl) (fun _ _=>rfl) rfl)) (fun _=>rfl))) ae rfl) rfl rfl))))))))),
  (ar (aV (dS (aa aJ (aa aJ (aa aJ (aa aJ (aa aJ (aa aJ (aa aJ (aa aJ (aa aJ (aa aJ ah))))))))))) (cV (by decide)) (ap (by decide)))
  (ar (aV (aq bT av (au (c:=ac) (aa av (aa aj ah)))) (cV (by decide)) (ap (by decide)))
  (ar (cz (sd (aX (aq ci av aJ)) (aX (aq ci av aJ)))
   (aO (jZ (aa av ah)))
   aQ)
  (ar (cz (aX (aq ci av aJ))
   (aO (jZ (aa av (aa (au (c:=bL) (aa av ah)) ah))))
   aQ)
  (ar (aV aj (cV (by decide)) (ap (by decide)))
  (ar (cz (sd (aX (aq ci av aJ)) (aX (aq ci av aJ)))
   (aV (aq cJ aj (au (c:=ac) (aa av (aa (ce (aq bT (dS (aa aj (aa aj ah))) (au (c:=ac) (aa av (aa aj ah))))) ah)))) (cV (by decide)) (ap (by decide)))
   aQ)
  (aO (bU kS (aa (aq cJ (dS (aa av ah)) (ef (no:=1) (ixs:=[1,0]) (eK (aa av ah)) (dc (by decide)) (dt (i:=0) (by decide) (by decide)) (ii (by decide)) eQ (aq bT (cL (i:=2) (by decide)) (au (c:=ac) (aa (cL (i:=1) (by decide)) (aa (ce (bU cU (aa (cL (i:=2) (by decide)) ah))) ah)))))) ah)))))))))⟩) hc
theorem DJ (os:List OV)(P:OV→List OV→Prop)(h:bY os P):os.length=2∧∀ j o,os[j]?=some o→j ∉ ([0]:List Nat)→cY o=true:=by
 unfold bY at h
 obtain ⟨b0,b1,b2,n,zs,rfl,_⟩:=h
 exact Af
abbrev mI:List Str:=["none", "any", "signs", "row", "row", "first", "first", "again", "ahead", "not"]
theorem DK (os:List OV)(P:OV→List OV→Prop)(h:bY os P):yc { nx:=fin [0] os P (.fz .non),rt:=fin [0] os P } (aK 5 os):=by
  unfold bY at h
  obtain ⟨B0,B1,B2,n,zs,rfl,hb,hn,hz1,hz,ret⟩:=h
  have sz:=dD
  have hn0:0≤n:=Int.le_trans hb.2.2.1 hb.2.2.2
  ac_rfl
  refine ⟨lez 10,?_⟩
  ac_rfl
  refine bF n hb (by nofun) (by decide) (by decide) fun r b0 b1 b2 r0 r1 hb1=>?_
  ac_rfl
  refine kX (xs:=mI.map D.str) r0 (by show r < 10; exact r1) fun c hcm=>?_
  obtain ⟨word,hw,rfl⟩:=List.mem_map.mp hcm
  ac_rfl
  refine du (word ≠ "none" ∧ word ≠ "any") (fun hw1=>?_) (fun rest=>?_)
  rotate_left
  · ac_rfl
    refine ⟨cN,?_⟩
    ac_rfl
    refine bD (word = "none") dJ (fun hw'=>?_) (fun ha=>?_)
    · ac_rfl
      refine iY ?_
      ac_rfl
      refine ⟨lez 1,?_⟩
      ac_rfl
      exact ret word [] _ _ _ (.inl ⟨.inl hw',rfl⟩) (hb1.mono (by nofun))
    · ac_rfl
      refine ⟨cN,?_⟩
      ac_rfl
      refine bD (word = "any") dJ (fun hw'=>?_) (fun hb'=>?_)
      · ac_rfl
        refine ⟨lez 1,?_⟩
        ac_rfl
        exact ret word [] _ _ _ (.inl ⟨.inr hw',rfl⟩) (hb1.mono (by nofun))
      · exact rest ⟨ha,hb'⟩
  ac_rfl
  refine du (word ≠ "signs") (fun hw2=>?_) (fun rest=>?_)
  rotate_left
  · ac_rfl
    refine ⟨cN,?_⟩
    ac_rfl
    refine bD (word = "signs") dJ (fun hw'=>?_) (fun ha=>?_)
    · ac_rfl
      refine wl hb1 (by nofun) fun z b0 b1 b2 hz3 hb3=>?_
      ac_rfl
      refine ⟨lez 2,?_⟩
      ac_rfl
      exact ret word [z] _ _ _ (.inr (.inl ⟨hw',z,rfl,hz3⟩)) (hb3.mono (by nofun))
    · exact rest ha
  -- the last row,by how many
  have last:∀ (m:Nat) (b0 b1 b2:Int),1≤m→m≤8→(m=1∨word = "row" ∨ word = "first")→BagB b1 b2 (n+3) →
      (cX (fCB j2 (ag (fOp jy (kJ (ag (ao 3) aU)) (gc 1 (fW (ag (ao 4) aU)) (ax 0) nt (fOp aIx (ao 2) (bd ac (ag (ao 1) (ag (fFz (fCB ig (ag (ao 2) aU))) aU)))))) aU)))
        { nx:=fin [0] [df B0 B1 B2,.fz (.lst (zs.map .str))] P (.fz .non),rt:=fin [0] [df B0 B1 B2,.fz (.lst (zs.map .str))] P }
        [some (df b0 b1 b2),some (.fz (.lst (zs.map .str))),some (.fz (.lst (mI.map .str))),some (.fz (.str word)),some (.fz (.int m))]:=by
    intro m b0 b1 b2 hm1 hm8 hmw hb3
    ac_rfl
    refine ⟨lez 1,?_⟩
    ac_rfl
    refine ⟨⟨by nofun,by nofun⟩,?_⟩
    ac_rfl
    refine dz (fun i as ρ=>∃ (ys:List Str) (x:Option OV) (b0 b1 b2:Int),as=ys.map .str∧ys.length=i∧(∀ y ∈ ys,y ∈ zs)∧BagB b1 b2 (n+3+i) ∧
        ρ=[x,some (df b0 b1 b2),some (.fz (.lst (zs.map .str))),some (.fz (.lst (mI.map .str))),some (.fz (.str word)),some (.fz (.int m))])
      ⟨[],none,b0,b1,b2,rfl,rfl,(fun _ h=>by cases h),hb3.mono (by nofun),rfl⟩ ?_ ?_
    · rintro i d as ρ R hd ⟨ys,x,b0,b1,b2,rfl,hl,hy,hb5,rfl⟩ k
      obtain ⟨hi,rfl⟩:=dA hd
      ac_rfl
      refine iY ?_
      ac_rfl
      have el:((zs.map D.str).length:Int)=zs.length:=by rw [List.length_map]
      refine bF (m:=((zs.map D.str).length:Int)) _ hb5 (by nofun) (by nofun) (by nofun) fun r6 b0 b1 b2 r60 r61 hb6=>?_
      ac_rfl
      refine kX r60 r61 fun c hcm=>?_
      obtain ⟨y,hyz,rfl⟩:=List.mem_map.mp hcm
      ac_rfl
      refine ⟨by rw [List.length_map]; nofun,k _ _ ⟨ys++[y],some (.fz (.int (0+i))),b0,b1,b2,by rw [List.map_append]; rfl,by simp [hl],fun y' hy'=>?_,hb6.mono (by nofun),rfl⟩⟩
      rcases List.mem_append.mp hy' with h | h
      · exact hy y' h
      · have:y'=y:=by first|exact List.mem_singleton.mp h|simpa using h
        rw [this]; exact hyz
    · rintro as ρ ⟨ys,x,b0,b1,b2,rfl,hl,hy,hb5,rfl⟩
      rw [ez] at hl hb5
      have hl':ys.length=m:=by nofun
      ac_rfl
      refine ⟨by rw [sz,List.length_map]; show 1+_≤_; nofun,?_⟩
      ac_rfl
      refine ret word ys _ _ _ ?_ (hb5.mono (by nofun))
      have hw9:word = "none" ∨ word = "any" ∨ word = "signs" ∨ word = "row" ∨ word = "first" ∨ word = "again" ∨ word = "ahead" ∨ word = "not" := by
        simp only [mI,List.mem_cons,List.not_mem_nil,or_false] at hw
        rcases hw with h | h | h | h | h | h | h | h | h | h <;> simp [h]
      rcases hw9 with h | h | h | h | h | h | h | h
      · exact absurd h hw1.1
      · exact absurd h hw1.2
      · exact absurd h hw2
      · exact .inr (.inr (.inr ⟨.inl h,by nofun,by nofun,hy⟩))
      · exact .inr (.inr (.inr ⟨.inr h,by nofun,by nofun,hy⟩))
      all_goals
        have hm':m=1:=by
          rcases hmw with z | z | z
          · exact z
          · rw [h] at z; exact absurd z (by decide)
          · rw [h] at z; exact absurd z (by decide)
        refine .inr (.inr (.inl ⟨?_,by nofun,hy⟩))
        simp [h]
  ac_rfl
  refine du True (fun _=>(dL _ _).mpr (last 1 _ _ _ (by nofun) (by nofun) (.inl rfl) (hb1.mono (by nofun)))) (fun rest=>?_)
  have more:(word = "row" ∨ word = "first")→(dC (fOp jy (fC (.int 1)) (bd ac (ag (ao 0) (ag (fFz (fOp aIx (kJ (ag (fC (.int 3)) (ag (fC (.int 8)) aU))) (bd ac (ag (ao 0) (ag (fC (.int 2)) aU))))) aU)))) (ax 4))
        { nx:=fun ρ'=>jH ρ' ((cX (fCB j2 (ag (fOp jy (kJ (ag (ao 3) aU)) (gc 1 (fW (ag (ao 4) aU)) (ax 0) nt (fOp aIx (ao 2) (bd ac (ag (ao 1) (ag (fFz (fCB ig (ag (ao 2) aU))) aU)))))) aU)))
            { nx:=fin [0] [df B0 B1 B2,.fz (.lst (zs.map .str))] P (.fz .non),rt:=fin [0] [df B0 B1 B2,.fz (.lst (zs.map .str))] P }),rt:=fin [0] [df B0 B1 B2,.fz (.lst (zs.map .str))] P }
        [some (df b0 b1 b2),some (.fz (.lst (zs.map .str))),some (.fz (.lst (mI.map .str))),some (.fz (.str word)),some (.fz (.int 1))]:=by
    intro hw'
    ac_rfl
    refine ⟨lez 2,?_⟩
    ac_rfl
    refine bF _ hb1 (by nofun) (by decide) (by decide) fun r4 b0 b1 b2 r40 r41 hb4=>?_
    ac_rfl
    refine wj r40 r41 fun m hm=>?_
    ac_rfl
    refine bF _ hb4 (by nofun) (by nofun) (by nofun) fun r5 b0 b1 b2 r50 r51 hb5=>?_
    obtain ⟨k,rfl⟩:=Int.eq_ofNat_of_zero_le r50
    have:=last (k+1) b0 b1 b2 (by nofun) (by nofun) (.inr hw') (hb5.mono (by nofun))
    rw [show ((k+1:Nat):Int)=1+(k:Int) by nofun] at this
    exact (dL _ _).mpr this
  ac_rfl
  refine ⟨cN,?_⟩
  ac_rfl
  refine bD (word = "row") dJ (fun hw'=>?_) (fun ha=>?_)
  · ac_rfl
    exact iY (more (.inl hw'))
  · ac_rfl
    refine ⟨cN,?_⟩
    ac_rfl
    refine bD (word = "first") dJ (fun hw'=>?_) (fun hb'=>?_)
    · exact more (.inr hw')
    · exact rest trivial
theorem tE {b0 b1 b2 n:Int}{zs:List Str}{P:OV→List OV→Prop}(hb:BagB b1 b2 n)(hn:n < 2 ^ 37)(h1:1≤zs.length)(h2:zs.length≤1000)(h:∀ (word:Str) (rest:List Str) (b0' b1' b2':Int),tD zs word rest→BagB b1' b2' (n+50)→P (.fz (eV word rest)) [df b0' b1' b2',.fz (.lst (zs.map .str))]) :
  bY [df b0 b1 b2,.fz (.lst (zs.map .str))] P:=by
 unfold bY
 exact ⟨b0,b1,b2,n,zs,rfl,hb,hn,h1,h2,h⟩
end
end KR
set_option maxHeartbeats 4000000
namespace KR
open PySem L2
abbrev Rw:=Str×Str×List Str
abbrev eW (r:Rw):D:=.tup [.str r.1,eV r.2.1 r.2.2]
def wm (zs:List Str)(word:Str)(rest:List Str):Prop:=(∀ z ∈ zs,db z)∧tD zs word rest
def cH (word:Str)(rest:List Str):Prop:=∃ zs:List Str,wm zs word rest
theorem qt {ws zs:List Str}{word:Str}{rest:List Str}(h:tD ws word rest)(s:∀ z ∈ ws,z ∈ zs):tD zs word rest:=by
 rcases h with h | h | ⟨h1,h2,h3⟩ | ⟨h1,h2,h3,h4⟩
 ·exact .inl h
 ·exact .inr (.inl h)
 ·exact .inr (.inr (.inl ⟨h1,h2,fun z hz=>s z (h3 z hz)⟩))
 ·exact .inr (.inr (.inr ⟨h1,h2,h3,fun z hz=>s z (h4 z hz)⟩))
structure BookL (rows:List Rw):Prop where
 nd:(rows.map (·.1)).Nodup
 ok:∀ r ∈ rows,db r.1∧cH r.2.1 r.2.2
 few:rows.length≤30
 pool:∃ zs:List Str,zs.length≤45∧∀ r ∈ rows,wm zs r.2.1 r.2.2
theorem BookL.perm {rows rows':List Rw}(h:BookL rows)(p:rows'.Perm rows):BookL rows':=⟨((p.map (·.1)).nodup_iff).mpr h.nd,fun r hr=>h.ok r (p.mem_iff.mp hr),by rw [p.length_eq]; exact h.few,by
 obtain ⟨zs,hl,hp⟩:=h.pool
 exact ⟨zs,hl,fun r hr=>hp r (p.mem_iff.mp hr)⟩⟩
@[irreducible] def bZ:Ct:=fun os P=>∃ (b0 b1 b2 n:Int),os=[df b0 b1 b2]∧BagB b1 b2 n∧n < 2 ^ 36∧∀ (rows:List Rw) (b0' b1' b2':Int),BookL rows→la (rows.map (·.1))→BagB b1' b2' (n+5000)→P (.fl (rows.map eW)) [df b0' b1' b2']
section
variable {P:Program} {w:World} {K:PySem.W.Frag} {mg:Str→Option Value} {base:Heap}
theorem jm {α β:Type}(f:α→β)(xs:List α)(lo hi:Option Int):dP (xs.map f) lo hi=(dP xs lo hi).map f:=by
 unfold dP
 rw [List.length_map,List.map_take,List.map_drop]
abbrev kq:Stmt:=top 35
theorem Au:FnScope ["bag", "later", "most", "many", "names", "found", "k"] ["bag"] (ai kq):=⟨rfl,rfl,rfl,by decide +kernel,rfl,by decide +kernel,by decide +kernel⟩
def yd:FS :=
  (bO (dC (bd ac (ag (ao 0) (ag (fC (.int 2)) aU))) (ax 1))
  (bO (dC (fOp aIx (kJ (ag (fC (.int 9)) (ag (fC (.int 31)) aU))) (fOp (aIC uW fun i j=>.int (i / j)) (bd ac (ag (ao 0) (ag (fC (.int 8)) aU))) (fC (.int 7)))) (ax 2))
  (bO (dC (bd ac (ag (ao 0) (ag (fFz (ao 2)) aU))) (ax 3))
  (bO (dC (bd bG (ag (ao 0) (ag (fFz (fOp jy (ao 3) (fOp aIx (kJ (ag (fC (.int 2)) (ag (fC (.int 10)) aU))) (fOp (aIC uW fun i j=>.int (i / j)) (bd ac (ag (ao 0) (ag (fC (.int 4)) aU))) (fC (.int 3)))))) aU))) (ax 4))
  (bO (dC (fCB E3 (ag (ao 3) (ag (fCB ig (ag (ao 4) aU)) aU))) (ax 3))
  (bO (jI 5 (kJ aU))
  (bO (Bk (fW (ag (ao 3) aU)) (ax 6)
   (CP (EY 5 (vo (ag (fOp aIx (ao 4) (ao 6)) (ag (bd bY (ag (ao 0) (ag (fFz (FH (fSl aSl (ao 4) (dg (fOp (aIC CMul fun i j=>.int (i * j)) (fOp jy (ao 6) (fC (.int 1))) (ao 1))) cj) (ao 4))) aU))) aU))))))
  (cX (fCB mF (ag (ao 5) aU))))))))))
theorem nu5:List.Nodup [("bag" : Str),("later" : Str),("most" : Str),("many" : Str),("names" : Str),("found" : Str),("k" : Str)]:=by decide +kernel
theorem Av {f:Addr} {fd:FuncData} (F:Fun K "_law_book" "_law_book" kq f fd) (T:Txt K mg) (O_law_draw:Own P w K mg base "_law_draw" 1 ["bag", "many"] (spM K ac)) (O_law_names:Own P w K mg base "_law_names" 3 ["bag", "many"] (spM K bG)) (O_law_form:Own P w K mg base "_law_form" 3 ["bag", "names"] (spM K bY))
  (hlen:∀ os P,bZ os P→os.length=1∧∀ j o,os[j]?=some o→j ∉ ([0]:List Nat)→cY o=true)
  (hc:∀ os P,bZ os P→yd { nx:=fin [0] os P (.fz .non),rt:=fin [0] os P } (aK 7 os)) :
  FnOk P w K mg base CX0 4 f fd ["bag"] (spM K bZ) :=
 Fun.okG 7 [0] F Au rfl (by decide) hlen (by decide) (fun cdv A outer s H E hr=>⟨_,(af (aS (i:=1) nu5 rfl (Or.inl rfl) (aA O_law_draw (hr.mono (by decide)) (aw (ad 0) (aw ak ae rfl) rfl) rfl rfl) rfl (Or.inl rfl))
  (af (aS (i:=2) nu5 rfl (Or.inl rfl) (bS K hr.units (dQ (aw ak (aw ak ae rfl) rfl)) (bn gu (aA O_law_draw (hr.mono (by decide)) (aw (ad 0) (aw ak ae rfl) rfl) rfl rfl) ak) (fun _ _=>rfl) rfl) rfl (Or.inl rfl))
  (af (aS (i:=3) nu5 rfl (Or.inl rfl) (aA O_law_draw (hr.mono (by decide)) (aw (ad 0) (aw (ad 2) ae rfl) rfl) rfl rfl) rfl (Or.inl rfl))
  (af (aS (i:=4) nu5 rfl (Or.inl rfl) (aA O_law_names (hr.mono (by decide)) (aw (ad 0) (aw (bn (cG K rfl) (ad 3) (bS K hr.units (dQ (aw ak (aw ak ae rfl) rfl)) (bn gu (aA O_law_draw (hr.mono (by decide)) (aw (ad 0) (aw ak ae rfl) rfl) rfl rfl) ak) (fun _ _=>rfl) rfl)) ae rfl) rfl) rfl rfl) rfl (Or.inl rfl))
  (af (aS (i:=3) nu5 rfl (Or.inl rfl) (ay (xG rfl) T.n_min xA (aw (ad 3) (aw (ay (cT K rfl) T.n_len cS (aw (ad 4) ae rfl) rfl rfl) ae rfl) rfl) rfl rfl) rfl (Or.inl rfl))
  (af (aS (i:=5) nu5 rfl (Or.inl rfl) (dQ ae) rfl (Or.inl rfl))
  (af (lV PassesOwn.never rfl (dR rfl T.n_range (aw (ad 3) ae rfl) rfl) (bz (i:=6) nu5 rfl (Or.inl rfl) (Or.inl rfl))
   (am (zf (cn K PySem.F.plainAttrs_list PySem.F.slot_list_append PySem.F.type_list_append (rH K rfl) (ad 5) (aw (iN (aw (bS K hr.units (ad 4) (ad 6) (fun _ _=>rfl) rfl) (aw (aA O_law_form (hr.mono (by decide)) (aw (ad 0) (aw (Dc K (im K (ad 4) (bC (bn kE (bn (cG K rfl) (ad 6) ak) (ad 1))) cq rfl) (eO (ad 4)) rfl) ae rfl) rfl) rfl rfl) ae rfl) rfl)) ae rfl) rfl rfl rfl (by decide) rfl) rfl)) (fun _=>rfl))
  (am (aN (ay (vQ K rfl) T.n_sorted lQ (aw (ad 5) ae rfl) rfl rfl)))))))))),
  (ar (aV (au (c:=ac) (aa av (aa aj ah))) (cV (by decide)) (ap (by decide)))
  (ar (aV (aq bT (dS (aa aj (aa aj ah))) (aq gx (au (c:=ac) (aa av (aa aj ah))) aj)) (cV (by decide)) (ap (by decide)))
  (ar (aV (au (c:=ac) (aa av (aa (ce av) ah))) (cV (by decide)) (ap (by decide)))
  (ar (aV (au (c:=bG) (aa av (aa (ce (aq cJ av (aq bT (dS (aa aj (aa aj ah))) (aq gx (au (c:=ac) (aa av (aa aj ah))) aj)))) ah))) (cV (by decide)) (ap (by decide)))
  (ar (aV (bU xS (aa av (aa (bU cU (aa av ah)) ah))) (cV (by decide)) (ap (by decide)))
  (ar (gb (dS ah) (by decide))
  (ar (mh (eK (aa av ah)) (cV (by decide)) (ap (by decide))
   (zx (zG (by decide) (jZ (aa (aq bT av av) (aa (au (c:=bY) (aa av (aa (ce (Dd (dI ge av (bE (aq kP (aq cJ av aj) av)) cu) av)) ah))) ah))))))
  (aO (bU vR (aa av ah))))))))))⟩) hc
theorem DL (os:List OV)(P:OV→List OV→Prop)(h:bZ os P):os.length=1∧∀ j o,os[j]?=some o→j ∉ ([0]:List Nat)→cY o=true:=by
 unfold bZ at h
 obtain ⟨b0,b1,b2,n,rfl,_⟩:=h
 exact Fa
theorem DM (os:List OV)(P:OV→List OV→Prop)(h:bZ os P):yd { nx:=fin [0] os P (.fz .non),rt:=fin [0] os P } (aK 7 os):=by
 unfold bZ at h
 obtain ⟨B0,B1,B2,n,rfl,hb,hn,q⟩:=h
 have sz:=dD
 have hn0:0≤n:=Int.le_trans hb.2.2.1 hb.2.2.2
 ac_rfl
 refine bF n hb (by nofun) (by decide) (by decide) fun later b0 b1 b2 la0 la1 hb1=>?_
 ac_rfl
 refine ⟨lez 2,?_⟩
 ac_rfl
 refine bF _ hb1 (by nofun) (by decide) (by decide) fun r b0 b1 b2 r0 r1 hb2=>?_
 ac_rfl
 refine ⟨⟨by decide,by decide⟩,?_⟩
 ac_rfl
 refine wj (by nofun) (by nofun) fun most hmost=>?_
 ac_rfl
 refine bF _ hb2 (by nofun) (by nofun) (by nofun) fun many b0 b1 b2 m0 m1 hb3=>?_
 ac_rfl
 refine ⟨lez 2,?_⟩
 ac_rfl
 refine bF _ hb3 (by nofun) (by decide) (by decide) fun r b0 b1 b2 r0 r1 hb4=>?_
 ac_rfl
 refine ⟨⟨by decide,by decide⟩,?_⟩
 ac_rfl
 refine wj (by nofun) (by nofun) fun ext hext=>?_
 obtain ⟨nn,hnn⟩:=Int.eq_ofNat_of_zero_le (show 0≤many+ext by nofun)
 have e0:many+ext=(nn:Int):=hnn
 ac_rfl
 show bG [df b0 b1 b2,.fz (.int (many+ext))] _
 rw [e0]
 refine wb (k:=nn) hb4 (by nofun) (by nofun) fun zs b0 b1 b2 hnd hz1 hzl hnm hb5=>?_
 have hz1':=hz1 (by nofun)
 ac_rfl
 refine ⟨Nat.zero_le _,?_⟩
 have em:∃ mm:Nat,(if ((zs.map D.str).length:Int) < many then ((zs.map D.str).length:Int) else many)=(mm:Int)∧mm≤zs.length∧mm≤30:=by
  rw [List.length_map]
  split
  ·exact ⟨zs.length,rfl,by nofun,by nofun⟩
  ·exact ⟨many.toNat,by nofun,by nofun,by nofun⟩
 obtain ⟨mm,hmm,hmz,hm30⟩:=em
 ac_rfl
 rw [hmm]
 refine ⟨⟨by nofun,by nofun⟩,?_⟩
 ac_rfl
 refine gB (fun i ρ=>∃ (rows:List Rw) (x:Option OV) (b0 b1 b2:Int),rows.map (·.1)=zs.take i∧(∀ r ∈ rows,db r.1∧wm zs r.2.1 r.2.2)∧BagB b1 b2 (n+5+12 * 40+50 * i) ∧
   ρ=[some (df b0 b1 b2),some (.fz (.int later)),some (.fz (.int most)),some (.fz (.int (mm:Int))),some (.fz (.lst (zs.map .str))),some (.fl (rows.map eW)),x])
  ⟨[],none,b0,b1,b2,by simp,(fun _ h=>by cases h),hb5.mono (by nofun),rfl⟩ ?_ ?_
 ·rintro i d ρ R hd ⟨rows,x,b0,b1,b2,hrz,hrok,hb6,rfl⟩ kk
  obtain ⟨hi,rfl⟩:=dA hd
  have hrl:rows.length=i:=by have:=congrArg List.length hrz; rw [List.length_map,List.length_take] at this; nofun
  have hiz:i < zs.length:=by nofun
  have ei:atI (zs.map D.str) (0+(i:Int))=some (.str zs[i]):=by rw [Int.zero_add]; exact eX (by simp [hiz])
  have item:∀ {Q:D→Prop},Q (.str zs[i])→match atI (zs.map D.str) (0+(i:Int)) with
    | some d=>Q d
    | none=>False:=fun {Q} q=>by rw [ei]; exact q
  have more:∀ (word:Str) (rest:List Str) (b0 b1 b2:Int),wm zs word rest→BagB b1 b2 (n+5+12 * 40+50 * i+50)→((rows.map eW).length < sizeLine∧R [some (df b0 b1 b2),some (.fz (.int later)),some (.fz (.int most)),some (.fz (.int (mm:Int))),some (.fz (.lst (zs.map .str))),some (.fl (rows.map eW++[.tup [.str zs[i],eV word rest]])),some (.fz (.int (0+(i:Int))))]):=by
   intro word rest b0 b1 b2 hf hb7
   refine ⟨by rw [List.length_map]; nofun,kk _ ⟨rows++[(zs[i],word,rest)],some (.fz (.int (0+(i:Int)))),b0,b1,b2,?_,fun r hr=>?_,hb7.mono (by nofun),by rw [List.map_append]; rfl⟩⟩
   ·rw [List.map_append,hrz,List.take_succ,List.getElem?_eq_getElem hiz]; rfl
   ·rcases List.mem_append.mp hr with h | h
    ·exact hrok r h
    ·have:r=(zs[i],word,rest):=by first|exact List.mem_singleton.mp h|simpa using h
     rw [this]; exact ⟨hnm _ (List.getElem_mem hiz),hf⟩
  ac_rfl
  refine ⟨rfl,?_⟩
  ac_rfl
  refine item ?_
  ac_rfl
  refine ⟨.inl ⟨by nofun,by nofun⟩,?_⟩
  ac_rfl
  show br (!(dP (zs.map D.str) (some ((0+(i:Int)+1) * later)) none).isEmpty) _ _
  rw [jm]
  have hsub:∀ z ∈ dP zs (some ((0+(i:Int)+1) * later)) none,z ∈ zs:=fun z hz=>og hz
  have hle:=kC zs (some ((0+(i:Int)+1) * later)) none
  generalize dP zs (some ((0+(i:Int)+1) * later)) none=ws at hsub hle
  refine bD (1≤ws.length) (by cases ws <;> simp) (fun h1=>?_) (fun _=>?_)
  ·ac_rfl
   refine tE hb6 (by nofun) h1 (by nofun) fun word rest b0 b1 b2 hf hb7=>?_
   ac_rfl
   refine ⟨lez 2,?_⟩
   ac_rfl
   exact more word rest b0 b1 b2 ⟨hnm,qt hf hsub⟩ hb7
  ·ac_rfl
   refine tE hb6 (by nofun) hz1' (by nofun) fun word rest b0 b1 b2 hf hb7=>?_
   ac_rfl
   refine ⟨lez 2,?_⟩
   ac_rfl
   exact more word rest b0 b1 b2 ⟨hnm,hf⟩ hb7
 ·rintro ρ ⟨rows,x,b0,b1,b2,hrz,hrok,hb6,rfl⟩
  rw [ez] at hrz hb6
  have hrl:rows.length=mm:=by have:=congrArg List.length hrz; rw [List.length_map,List.length_take] at this; nofun
  ac_rfl
  have hB:BookL rows:=⟨by rw [hrz]; exact hnd.sublist (List.take_sublist ..),fun r hr=>⟨(hrok r hr).1,zs,(hrok r hr).2⟩,by nofun,zs,by nofun,fun r hr=>(hrok r hr).2⟩
  refine qj (name:=fun r:Rw=>r.1) (rest:=fun r:Rw=>[eV r.2.1 r.2.2]) hB.nd (by nofun) fun rows' hp hris=>?_
  ac_rfl
  exact q rows' _ _ _ (hB.perm hp) hris (hb6.mono (by nofun))
theorem Aw {b0 b1 b2 n:Int}{P:OV→List OV→Prop}(hb:BagB b1 b2 n)(hn:n < 2 ^ 36)(h:∀ (rows:List Rw) (b0' b1' b2':Int),BookL rows→la (rows.map (·.1))→BagB b1' b2' (n+5000)→P (.fl (rows.map eW)) [df b0' b1' b2']) :
  bZ [df b0 b1 b2] P:=by
 unfold bZ
 exact ⟨b0,b1,b2,n,rfl,hb,hn,h⟩
end
end KR
set_option maxHeartbeats 4000000
namespace KR
open PySem L2
def lc:D→Prop
 | .str z=>db z
 | _=>False
def oV:D→Prop
 | .str z=>fB z
 | _=>False
def mJ (word:Str)(rest:List D):Prop :=
 ((word = "none" ∨ word = "any")∧rest=[])∨(word = "signs" ∧ ∃ x,rest=[x]∧oV x)∨((word = "again" ∨ word = "ahead" ∨ word = "not")∧∃ x,rest=[x]∧lc x) ∨
  ((word = "row" ∨ word = "first")∧1≤rest.length∧rest.length≤8∧∀ x ∈ rest,lc x)
def mK (d:D):Prop:=∃ (word:Str) (rest:List D),d=.tup (.str word::rest)∧mJ word rest
theorem oW {word:Str}{rest:List D}:mK (.tup (.str word::rest))↔mJ word rest:=by
 constructor
 ·rintro ⟨w,r,e,h⟩
  cases e
  exact h
 ·exact fun h=>⟨word,rest,rfl,h⟩
theorem Ax {word:Str} {rest:List D} (hw:word = "none" ∨ word = "any"):mJ word rest↔rest=[]:=by
 constructor
 ·intro h
  rcases h with ⟨_,h⟩ | ⟨h,_⟩ | ⟨h,_⟩ | ⟨h,_⟩
  ·exact h
  all_goals (rcases hw with rfl | rfl <;> exact absurd h (by decide))
 ·exact fun h=>.inl ⟨hw,h⟩
theorem oX {word:Str} {rest:List D} (hw:word = "signs"):mJ word rest↔∃ x,rest=[x]∧oV x:=by
 constructor
 ·intro h
  rcases h with ⟨h,_⟩ | ⟨_,h⟩ | ⟨h,_⟩ | ⟨h,_⟩
  ·rw [hw] at h; exact absurd h (by decide)
  ·exact h
  all_goals (rw [hw] at h; exact absurd h (by decide))
 ·exact fun h=>.inr (.inl ⟨hw,h⟩)
theorem ye {word:Str} {rest:List D} (hw:word = "again" ∨ word = "ahead" ∨ word = "not"):mJ word rest↔∃ x,rest=[x]∧lc x:=by
 constructor
 ·intro h
  rcases h with ⟨h,_⟩ | ⟨h,_⟩ | ⟨_,h⟩ | ⟨h,_⟩
  ·rcases hw with rfl | rfl | rfl <;> exact absurd h (by decide)
  ·rcases hw with rfl | rfl | rfl <;> exact absurd h (by decide)
  ·exact h
  ·rcases hw with rfl | rfl | rfl <;> exact absurd h (by decide)
 ·exact fun h=>.inr (.inr (.inl ⟨hw,h⟩))
theorem nL {word:Str} {rest:List D} (hw:word = "row" ∨ word = "first"):mJ word rest↔1≤rest.length∧rest.length≤8∧∀ x ∈ rest,lc x:=by
 constructor
 ·intro h
  rcases h with ⟨h,_⟩ | ⟨h,_⟩ | ⟨h,_⟩ | ⟨_,h⟩
  ·rcases hw with rfl | rfl <;> exact absurd h (by decide)
  ·rcases hw with rfl | rfl <;> exact absurd h (by decide)
  ·rcases hw with rfl | rfl <;> exact absurd h (by decide)
  ·exact h
 ·exact fun h=>.inr (.inr (.inr ⟨hw,h⟩))
theorem Ay {word:Str} {rest:List D} (h1:¬ (word = "none" ∨ word = "any")) (h2:word ≠ "signs") (h3:¬ (word = "again" ∨ word = "ahead" ∨ word = "not")) (h4:¬ (word = "row" ∨ word = "first")):¬ mJ word rest:=by
 rintro (⟨h,_⟩ | ⟨h,_⟩ | ⟨h,_⟩ | ⟨h,_⟩)
 ·exact h1 h
 ·exact h2 h
 ·exact h3 h
 ·exact h4 h
theorem tF {α:Type}{xs:List α}:((xs.length+1:Nat):Int)=2↔∃ x,xs=[x]:=by
 constructor
 ·intro h
  exact List.length_eq_one_iff.mp (by nofun)
 ·rintro ⟨x,rfl⟩
  rfl
mutual
def smD:D→Bool
 | .str z=>decide (z.length≤1000000)
 | .lst xs=>decide (xs.length≤1000000) && smDs xs
 | .tup xs=>decide (xs.length≤1000000) && smDs xs
 | .dct _ _=>false
 | .ty _=>false
 | _=>true
def smDs:List D→Bool
 | []=>true
 | d::ds=>smD d && smDs ds
end
theorem lf:∀ {ds:List D} {d:D},smDs ds=true→d ∈ ds→smD d=true
 | [],_,_,h=>nomatch h
 | c::ds,d,h,hd=>by
  simp only [smDs,Bool.and_eq_true] at h
  rcases List.mem_cons.mp hd with rfl | hd
  ·exact h.1
  ·exact lf h.2 hd
theorem jo:∀ {ds:List D},(∀ d ∈ ds,smD d=true)→smDs ds=true
 | [],_=>rfl
 | c::ds,h=>by
  simp only [smDs,Bool.and_eq_true]
  exact ⟨h c (List.mem_cons_self ..),jo fun d hd=>h d (List.mem_cons_of_mem _ hd)⟩
theorem tG {d:D}(h:smD d=true):xP (tyD d)=true:=by cases d <;> first | rfl | (simp [smD] at h)
theorem tH {d:D}:isT (tyD d) "str" = true↔∃ z,d=.str z:=by
 cases d <;> first | exact ⟨fun _=>⟨_,rfl⟩,fun _=>rfl⟩ | exact ⟨fun h=>absurd h (by simp [tyD]; decide),fun ⟨_,h⟩=>nomatch h⟩
theorem yf {d:D}:isT (tyD d) "tuple" = true↔∃ xs,d=.tup xs:=by
 cases d <;> first | exact ⟨fun _=>⟨_,rfl⟩,fun _=>rfl⟩ | exact ⟨fun h=>absurd h (by simp [tyD]; decide),fun ⟨_,h⟩=>nomatch h⟩
theorem fzo {d:D}:([OV.fz d]:List OV).length=1∧∀ j o,([OV.fz d]:List OV)[j]?=some o→j ∉ ([]:List Nat)→cY o=true:=⟨rfl,fun j o h _=>by
 match j,h with
 | 0,h=>cases h; rfl⟩
theorem jL {p:Prop}(h:¬ p):(false=true↔p):=⟨fun z=>(Bool.false_ne_true z).elim,fun z=>(h z).elim⟩
theorem iC {α:Type}{ds:List α}{i:Nat}{d:α}(e:ds[i]?=some d){p:α→Prop}:(∀ x ∈ ds.take (i+1),p x)↔(∀ x ∈ ds.take i,p x)∧p d:=by
 rw [List.take_succ,e]
 constructor
 ·exact fun h=>⟨fun x hx=>h x (List.mem_append_left _ hx),h d (by simp)⟩
 ·rintro ⟨h1,h2⟩ x hx
  rcases List.mem_append.mp hx with h | h
  ·exact h1 x h
  ·have e:x=d:=by first|exact List.mem_singleton.mp h|simpa using h
   rw [e]; exact h2
theorem fK {bs:List Bool}{b:Bool}:(bs++[b]).all id=true↔bs.all id=true∧b=true:=by
 rw [List.all_append,Bool.and_eq_true]
 simp
theorem tI {z:Str}{i:Nat}{d:D}(h:(fV z)[i]?=some d):∃ c,z.cps.toList[i]?=some c∧d=.str ⟨#[c]⟩:=by
 unfold fV at h
 rw [List.getElem?_map,Option.map_eq_some_iff] at h
 obtain ⟨r,h1,h2⟩:=h
 exact ⟨r,h1,h2.symm⟩
theorem jp (z:Str):(fV z).length=z.cps.toList.length:=by unfold fV; rw [List.length_map]
theorem tJ (z:Str):z.length=z.cps.toList.length:=by rw [Array.length_toList]; rfl
abbrev lg:Str := "abcdefghijklmnopqrstuvwxyz"
theorem nM {c:Nat}:c ∈ lg.cps.toList↔97≤c∧c≤122:=by
 have e:lg.cps.toList=List.range' 97 26:=by decide +kernel
 rw [e,List.mem_range'_1]
 nofun
@[irreducible] def bK:Ct:=fun os P=>∃ d:D,os=[.fz d]∧smD d=true∧∀ b:Bool,(b=true↔lc d)→P (.fz (.bl b)) os
@[irreducible] def cD:Ct:=fun os P=>∃ d:D,os=[.fz d]∧smD d=true∧∀ b:Bool,(b=true↔∃ z,d=.str z∧∀ c ∈ z.cps.toList,32≤c∧c≤126∧c≠37)→P (.fz (.bl b)) os
@[irreducible] def aE:Ct:=fun os P=>∃ d:D,os=[.fz d]∧smD d=true∧∀ b:Bool,(b=true↔oV d)→P (.fz (.bl b)) os
@[irreducible] def cE:Ct:=fun os P=>∃ c:Nat,os=[.fz (.str ⟨#[c]⟩)]∧∀ b:Bool,(b=true↔32≤c∧c≤126∧c≠37)→P (.fz (.bl b)) os
section
variable {P:Program} {w:World} {K:PySem.W.Frag} {mg:Str→Option Value} {base:Heap}
abbrev fL:Stmt:=top 12
theorem tK:FnScope ["thing"] ["thing"] (ai fL):=⟨rfl,rfl,rfl,by decide +kernel,rfl,by decide +kernel,by decide +kernel⟩
def oZ:FS :=
  (bO (fIf (jY (bJ (fCB cIs (ag (ao 0) (ag (fC (.ty "str")) aU)))))
   (cX (fC (.bl false)))
   ck)
  (bO (fIf (jY (bJ (jX (mj (fun i j=>decide (i≤j)) fun i j=>!bV j i) (mj (fun i j=>decide (i≤j)) fun i j=>!bV j i) (fC (.int 1)) (fCB ig (ag (ao 0) aU)) (fC (.int 8)))))
   (cX (fC (.bl false)))
   ck)
  (cX (fCB xT (ag (gc 1 (zv (ao 0)) (ax 0) nt (fOp aIn (ao 0) (fC (.str "abcdefghijklmnopqrstuvwxyz")))) aU)))))
theorem tL {f:Addr} {fd:FuncData} (F:Fun K "is_name" "is_name" fL f fd) (T:Txt K mg)
  (hlen:∀ os P,bK os P→os.length=1∧∀ j o,os[j]?=some o→j ∉ ([]:List Nat)→cY o=true)
  (hc:∀ os P,bK os P→oZ { nx:=fin [] os P (.fz .non),rt:=fin [] os P } (aK 1 os)) :
  FnOk P w K mg base CX0 1 f fd ["thing"] (spM K bK) :=
 Fun.okG 1 [] F tK rfl (by decide) hlen (by decide) (fun cdv A outer s H E hr=>⟨_,(af (cm (di (cP (ay (fX K rfl) T.n_isinstance bM (aw (ad 0) (aw (jA T.n_str iL rfl) ae rfl) rfl) rfl rfl)))
   (am (aN eY))
   aT)
  (af (cm (di (kD e8 e8 ak (ay (cT K rfl) T.n_len cS (aw (ad 0) ae rfl) rfl rfl) (lR T.g_MOST_LETTERS rfl) (by with_unfolding_all rfl)))
   (am (aN eY))
   aT)
  (am (aN (ay (jS K rfl rfl) T.n_all jR (aw (d7 (T:=["letter"]) (F:=[]) (ixs:=[]) rfl (CompScope.of rfl rfl rfl) (xE K (ad 0) rfl) (fun _ _ _ _=>(bz (i:=0) (show List.Nodup [("letter" : Str)] from by decide +kernel) rfl (Or.inl rfl) (Or.inr rfl))) (fun _ _ _ _=>dH) (fun _ _ _ _=>(eP (kO K hr.units rfl) (ad 0) (lR T.g_LETTERS rfl) rfl)) (fun _=>rfl)) ae rfl) rfl rfl))))),
  (ar (cz (dr (lZ (bU jJ (aa av (aa jG ah)))))
   (aO e7)
   aQ)
  (ar (cz (dr (aX (gv cW cW aj (bU cU (aa av ah)) aj)))
   (aO e7)
   aQ)
  (aO (bU j1 (aa (ef (no:=1) (ixs:=[]) (sh av) (dc (by decide)) (dt (i:=0) (by decide) (by decide)) (ii (by decide)) eQ (aq oE (cL (i:=0) (by decide)) aJ)) ah)))))⟩) hc
theorem wn (os:List OV)(P:OV→List OV→Prop)(h:bK os P):os.length=1∧∀ j o,os[j]?=some o→j ∉ ([]:List Nat)→cY o=true:=by
 unfold bK at h
 obtain ⟨d,rfl,_⟩:=h
 exact fzo
theorem wo (os:List OV)(P:OV→List OV→Prop)(h:bK os P):oZ { nx:=fin [] os P (.fz .non),rt:=fin [] os P } (aK 1 os):=by
 unfold bK at h
 obtain ⟨d,rfl,sm,q⟩:=h
 have sz:=dD
 ac_rfl
 refine cQ ?_
 ac_rfl
 refine ⟨⟨tG sm,rfl⟩,?_⟩
 ac_rfl
 refine bD (¬ ∃ z,d=.str z) (by rw [Bool.not_eq_true',Bool.eq_false_iff,Ne,tH]) (fun hn=>?_) (fun hn=>?_)
 ·ac_rfl
  refine q false (jL fun h=>?_)
  cases d <;> first | exact absurd ⟨_,rfl⟩ hn | exact (h:False).elim
 ·obtain ⟨z,rfl⟩:∃ z,d=.str z:=Classical.not_not.mp hn
  have hz:z.length≤1000000:=by simpa [smD] using sm
  have hle:=tJ z
  ac_rfl
  refine cQ ?_
  ac_rfl
  refine ⟨by nofun,?_⟩
  ac_rfl
  refine bD ((1:Int)≤z.length) decide_eq_true_iff (fun h1=>?_) (fun h1=>?_)
  ·ac_rfl
   refine bD (¬ (z.length:Int)≤8) (by rw [Bool.not_eq_true',decide_eq_false_iff_not]) (fun h2=>?_) (fun h2=>?_)
   ·ac_rfl
    refine q false (jL fun h=>?_)
    have h:db z:=h
    have:=h.2.1
    nofun
   ·ac_rfl
    refine dz (fun i as ρ=>∃ (bs:List Bool) (x:Option OV),as=bs.map .bl∧bs.length=i∧(bs.all id=true↔∀ c ∈ z.cps.toList.take i,97≤c∧c≤122)∧ρ=[x,some (.fz (.str z))]) ⟨[],none,rfl,rfl,by simp,rfl⟩ ?_ ?_
    ·rintro i d as ρ R hd ⟨bs,x,rfl,hl,hb,rfl⟩ k
     obtain ⟨c,hc,rfl⟩:=tI hd
     have hi:=(List.getElem?_eq_some_iff.mp hc).1
     ac_rfl
     refine iY ?_
     ac_rfl
     refine ⟨by rw [List.length_map]; nofun,k _ _ ⟨bs++[decide (c ∈ lg.cps.toList)],_,by rw [List.map_append]; rfl,by rw [List.length_append,hl]; rfl,?_,rfl⟩⟩
     rw [fK,iC hc,hb,decide_eq_true_iff,nM]
    ·rintro as ρ ⟨bs,x,rfl,hl,hb,rfl⟩
     rw [jp] at hl
     rw [jp,List.take_of_length_le (Nat.le_refl _)] at hb
     ac_rfl
     refine j6 ?_
     ac_rfl
     refine q _ (hb.trans ⟨fun h=>?_,fun h=>?_⟩)
     ·exact (show db z from ⟨by nofun,by nofun,h⟩)
     ·have h:db z:=h
      exact h.2.2
  ·ac_rfl
   refine iY ?_
   ac_rfl
   refine q false (jL fun h=>?_)
   have h:db z:=h
   have:=h.1
   nofun
theorem jq {d:D}{P:OV→List OV→Prop}(sm:smD d=true)(h:∀ b:Bool,(b=true↔lc d)→P (.fz (.bl b)) [.fz d]):bK [.fz d] P:=by
 unfold bK
 exact ⟨d,rfl,sm,h⟩
theorem tM {a b:Nat}:bV ⟨#[a]⟩ ⟨#[b]⟩=decide (a < b):=by
 unfold bV
 rw [decide_eq_decide]
 simp [List.cons_lt_cons_iff]
theorem e_32:Str.ofString " " = ⟨#[32]⟩:=by decide +kernel
theorem Fd:Str.ofString "~" = ⟨#[126]⟩:=by decide +kernel
theorem Fe {c:Nat}:(!bV ⟨#[c]⟩ (Str.ofString " "))=true↔32≤c:=by
 rw [e_32,tM,Bool.not_eq_true',decide_eq_false_iff_not]; nofun
theorem DN {c:Nat}:(!bV (Str.ofString "~") ⟨#[c]⟩)=true↔c≤126:=by
 rw [Fd,tM,Bool.not_eq_true',decide_eq_false_iff_not]; nofun
abbrev fM:Stmt:=top 13
theorem tN:FnScope ["sign"] ["sign"] (ai fM):=⟨rfl,rfl,rfl,by decide +kernel,rfl,by decide +kernel,by decide +kernel⟩
def o3:FS :=
  (cX (jF (jX (mj (fun i j=>decide (i≤j)) fun i j=>!bV j i) (mj (fun i j=>decide (i≤j)) fun i j=>!bV j i) (fC (.str " ")) (ao 0) (fC (.str "~"))) (fOp aNe (fCB E4 (ag (ao 0) aU)) (fC (.int 37)))))
theorem tO {f:Addr} {fd:FuncData} (F:Fun K "is_sign" "is_sign" fM f fd) (T:Txt K mg)
  (hlen:∀ os P,cE os P→os.length=1∧∀ j o,os[j]?=some o→j ∉ ([]:List Nat)→cY o=true)
  (hc:∀ os P,cE os P→o3 { nx:=fin [] os P (.fz .non),rt:=fin [] os P } (aK 1 os)) :
  FnOk P w K mg base CX0 1 f fd ["sign"] (spM K cE) :=
 Fun.okG 1 [] F tN rfl (by decide) hlen (by decide) (fun cdv A outer s H E hr=>⟨_,(am (aN (gt (oh e8 e8 aB (ad 0) aB (by with_unfolding_all rfl)) (eO (eP (oj K hr.units rfl) (ay C4 T.n_ord C5 (aw (ad 0) ae rfl) rfl rfl) (lR T.g_BARRED_SIGN rfl) aP))))),
  (aO (eJ (gv cW cW aJ av aJ) (aq oD (bU Db (aa av ah)) aj)))⟩) hc
theorem wp (os:List OV)(P:OV→List OV→Prop)(h:cE os P):os.length=1∧∀ j o,os[j]?=some o→j ∉ ([]:List Nat)→cY o=true:=by
 unfold cE at h
 obtain ⟨d,rfl,_⟩:=h
 exact fzo
theorem wq (os:List OV)(P:OV→List OV→Prop)(h:cE os P):o3 { nx:=fin [] os P (.fz .non),rt:=fin [] os P } (aK 1 os):=by
 unfold cE at h
 obtain ⟨c,rfl,q⟩:=h
 ac_rfl
 refine bD (32≤c) Fe (fun h1=>?_) (fun h1=>?_)
 ·ac_rfl
  refine bD (c≤126) DN (fun h2=>?_) (fun h2=>?_)
  ·ac_rfl
   refine ⟨bQ,?_⟩
   ac_rfl
   refine q _ ?_
   rw [Bool.not_eq_true',Bool.eq_false_iff,Ne,cA]
   exact ⟨fun h=>⟨h1,h2,fun e=>h (by rw [e]; rfl)⟩,fun h e=>h.2.2 (Int.ofNat.inj e)⟩
  ·ac_rfl
   exact q false (jL fun h=>h2 h.2.1)
 ·ac_rfl
  refine jE ?_
  ac_rfl
  exact q false (jL fun h=>h1 h.1)
theorem tP {c:Nat}{P:OV→List OV→Prop}(h:∀ b:Bool,(b=true↔32≤c∧c≤126∧c≠37)→P (.fz (.bl b)) [.fz (.str ⟨#[c]⟩)]):cE [.fz (.str ⟨#[c]⟩)] P:=by
 unfold cE
 exact ⟨c,rfl,h⟩
abbrev fN:Stmt:=top 14
theorem tQ:FnScope ["thing"] ["thing"] (ai fN):=⟨rfl,rfl,rfl,by decide +kernel,rfl,by decide +kernel,by decide +kernel⟩
def o4:FS :=
  (cX (jF (fCB cIs (ag (ao 0) (ag (fC (.ty "str")) aU))) (fCB xT (ag (gc 1 (zv (ao 0)) (ax 0) nt (bd cE (ag (fFz (ao 0)) aU))) aU))))
theorem tR {f:Addr} {fd:FuncData} (F:Fun K "is_text" "is_text" fN f fd) (T:Txt K mg) (O_is_sign:Own P w K mg base "is_sign" 1 ["sign"] (spM K cE))
  (hlen:∀ os P,cD os P→os.length=1∧∀ j o,os[j]?=some o→j ∉ ([]:List Nat)→cY o=true)
  (hc:∀ os P,cD os P→o4 { nx:=fin [] os P (.fz .non),rt:=fin [] os P } (aK 1 os)) :
  FnOk P w K mg base CX0 2 f fd ["thing"] (spM K cD) :=
 Fun.okG 1 [] F tQ rfl (by decide) hlen (by decide) (fun cdv A outer s H E hr=>⟨_,(am (aN (gt (ay (fX K rfl) T.n_isinstance bM (aw (ad 0) (aw (jA T.n_str iL rfl) ae rfl) rfl) rfl rfl) (eO (ay (jS K rfl rfl) T.n_all jR (aw (d7 (T:=["sign"]) (F:=[]) (ixs:=[]) rfl (CompScope.of rfl rfl rfl) (xE K (ad 0) rfl) (fun _ _ _ _=>(bz (i:=0) (show List.Nodup [("sign" : Str)] from by decide +kernel) rfl (Or.inl rfl) (Or.inr rfl))) (fun _ _ _ _=>dH) (fun _ _ _ _=>(aA O_is_sign (hr.mono (by decide)) (aw (ad 0) ae rfl) rfl rfl)) (fun _=>rfl)) ae rfl) rfl rfl))))),
  (aO (eJ (bU jJ (aa av (aa jG ah))) (bU j1 (aa (ef (no:=1) (ixs:=[]) (sh av) (dc (by decide)) (dt (i:=0) (by decide) (by decide)) (ii (by decide)) eQ (au (c:=cE) (aa (ce (cL (i:=0) (by decide))) ah))) ah))))⟩) hc
theorem wt (os:List OV)(P:OV→List OV→Prop)(h:cD os P):os.length=1∧∀ j o,os[j]?=some o→j ∉ ([]:List Nat)→cY o=true:=by
 unfold cD at h
 obtain ⟨d,rfl,_⟩:=h
 exact fzo
theorem wu (os:List OV)(P:OV→List OV→Prop)(h:cD os P):o4 { nx:=fin [] os P (.fz .non),rt:=fin [] os P } (aK 1 os):=by
 unfold cD at h
 obtain ⟨d,rfl,sm,q⟩:=h
 have sz:=dD
 ac_rfl
 refine ⟨⟨tG sm,rfl⟩,?_⟩
 ac_rfl
 refine bD (∃ z,d=.str z) tH (fun hn=>?_) (fun hn=>?_)
 ·obtain ⟨z,rfl⟩:=hn
  have hz:z.length≤1000000:=by simpa [smD] using sm
  have hle:=tJ z
  ac_rfl
  refine dz (fun i as ρ=>∃ (bs:List Bool) (x:Option OV),as=bs.map .bl∧bs.length=i∧(bs.all id=true↔∀ c ∈ z.cps.toList.take i,32≤c∧c≤126∧c≠37)∧ρ=[x,some (.fz (.str z))]) ⟨[],none,rfl,rfl,by simp,rfl⟩ ?_ ?_
  ·rintro i d as ρ R hd ⟨bs,x,rfl,hl,hb,rfl⟩ k
   obtain ⟨c,hc,rfl⟩:=tI hd
   have hi:=(List.getElem?_eq_some_iff.mp hc).1
   ac_rfl
   refine iY ?_
   ac_rfl
   refine tP fun b hbc=>?_
   ac_rfl
   refine ⟨by rw [List.length_map]; nofun,k _ _ ⟨bs++[b],_,by rw [List.map_append]; rfl,by rw [List.length_append,hl]; rfl,?_,rfl⟩⟩
   rw [fK,iC hc,hb,hbc]
  ·rintro as ρ ⟨bs,x,rfl,hl,hb,rfl⟩
   rw [jp,List.take_of_length_le (Nat.le_refl _)] at hb
   ac_rfl
   refine j6 ?_
   ac_rfl
   refine q _ (hb.trans ⟨fun h=>⟨z,rfl,h⟩,fun ⟨z',e,h⟩=>?_⟩)
   cases e
   exact h
 ·ac_rfl
  exact q false (jL fun ⟨z,e,_⟩=>hn ⟨z,e⟩)
theorem tS {d:D}{P:OV→List OV→Prop}(sm:smD d=true)(h:∀ b:Bool,(b=true↔∃ z,d=.str z∧∀ c ∈ z.cps.toList,32≤c∧c≤126∧c≠37)→P (.fz (.bl b)) [.fz d]):cD [.fz d] P:=by
 unfold cD
 exact ⟨d,rfl,sm,h⟩
theorem tT {l:List Nat}:l.Pairwise (· < ·)↔∀ k a b,l[k]?=some a→l[k+1]?=some b→a < b:=by
 constructor
 ·intro h k a b ha hb
  obtain ⟨h1,e1⟩:=List.getElem?_eq_some_iff.mp ha
  obtain ⟨h2,e2⟩:=List.getElem?_eq_some_iff.mp hb
  rw [← e1,← e2]
  exact List.pairwise_iff_getElem.mp h k (k+1) h1 h2 (Nat.lt_succ_self k)
 ·intro h
  have step:∀ (n i:Nat) (a b:Nat),l[i]?=some a→l[i+n+1]?=some b→a < b:=by
   intro n
   induction n with
   | zero=>intro i a b ha hb; exact h i a b ha hb
   | succ n ih =>
    intro i a b ha hb
    have hlt:i+n+1 < l.length:=by have:=(List.getElem?_eq_some_iff.mp hb).1; nofun
    have hm:l[i+n+1]?=some (l[i+n+1]'hlt):=List.getElem?_eq_getElem hlt
    exact Nat.lt_trans (ih i a _ ha hm) (h (i+n+1) _ b hm hb)
  refine List.pairwise_iff_getElem.mpr fun i j hi hj hij=>?_
  exact step (j - i - 1) i _ _ (List.getElem?_eq_getElem hi) (by rw [show i+(j - i - 1)+1=j by nofun]; exact List.getElem?_eq_getElem hj)
abbrev fO:Stmt:=top 15
theorem tU:FnScope ["thing"] ["thing"] (ai fO):=⟨rfl,rfl,rfl,by decide +kernel,rfl,by decide +kernel,by decide +kernel⟩
def o5:FS :=
  (bO (fIf (jY (bJ (bd cD (ag (fFz (ao 0)) aU))))
   (cX (fC (.bl false)))
   ck)
  (bO (fIf (jY (bJ (jX (mj (fun i j=>decide (i≤j)) fun i j=>!bV j i) (mj (fun i j=>decide (i≤j)) fun i j=>!bV j i) (fC (.int 1)) (fCB ig (ag (ao 0) aU)) (fC (.int 40)))))
   (cX (fC (.bl false)))
   ck)
  (cX (fCB xT (ag (gc 1 (se (ag (fC (.int 1)) (ag (fCB ig (ag (ao 0) aU)) aU))) (ax 0) nt (fOp (mj (fun i j=>decide (i < j)) bV) (fOp aIx (ao 1) (fOp (aI0 fun i j=>.int (i - j)) (ao 0) (fC (.int 1)))) (fOp aIx (ao 1) (ao 0)))) aU)))))
theorem tV {f:Addr} {fd:FuncData} (F:Fun K "are_rising_signs" "are_rising_signs" fO f fd) (T:Txt K mg) (O_is_text:Own P w K mg base "is_text" 2 ["thing"] (spM K cD))
  (hlen:∀ os P,aE os P→os.length=1∧∀ j o,os[j]?=some o→j ∉ ([]:List Nat)→cY o=true)
  (hc:∀ os P,aE os P→o5 { nx:=fin [] os P (.fz .non),rt:=fin [] os P } (aK 1 os)) :
  FnOk P w K mg base CX0 3 f fd ["thing"] (spM K aE) :=
 Fun.okG 1 [] F tU rfl (by decide) hlen (by decide) (fun cdv A outer s H E hr=>⟨_,(af (cm (di (cP (aA O_is_text (hr.mono (by decide)) (aw (cy 0 rfl (Or.inr (Or.inl rfl))) ae rfl) rfl rfl)))
   (am (aN eY))
   aT)
  (af (cm (di (kD e8 e8 ak (ay (cT K rfl) T.n_len cS (aw (cy 0 rfl (Or.inr (Or.inl rfl))) ae rfl) rfl rfl) (lR T.g_MOST_SIGNS rfl) (by with_unfolding_all rfl)))
   (am (aN eY))
   aT)
  (am (aN (ay (jS K rfl rfl) T.n_all jR (aw (d7 (T:=["k"]) (F:=["thing"]) (ixs:=[0]) rfl (CompScope.of rfl rfl rfl) (lU rfl T.n_range (aw ak (aw (ay (cT K rfl) T.n_len cS (aw (cy 0 rfl (Or.inr (Or.inl rfl))) ae rfl) rfl rfl) ae rfl) rfl) rfl rfl) (fun _ _ _ _=>(bz (i:=0) (show List.Nodup [("k" : Str),("thing" : Str)] from by decide +kernel) rfl (Or.inl rfl) (Or.inr rfl))) (fun _ _ _ _=>dH) (fun _ _ _ _=>(eP gK (bS K hr.units (cy 1 rfl (Or.inr (Or.inl rfl))) (bn iR (ad 0) ak) (fun _ _=>rfl) rfl) (bS K hr.units (cy 1 rfl (Or.inr (Or.inl rfl))) (ad 0) (fun _ _=>rfl) rfl) aP)) (fun _=>rfl)) ae rfl) rfl rfl))))),
  (ar (cz (dr (lZ (au (c:=cD) (aa (ce av) ah))))
   (aO e7)
   aQ)
  (ar (cz (dr (aX (gv cW cW aj (bU cU (aa av ah)) aj)))
   (aO e7)
   aQ)
  (aO (bU j1 (aa (ef (no:=1) (ixs:=[0]) (ox (aa aj (aa (bU cU (aa av ah)) ah))) (dc (by decide)) (dt (i:=0) (by decide) (by decide)) (ii (by decide)) eQ (aq cW (aq bT (cL (i:=1) (by decide)) (aq i5 (cL (i:=0) (by decide)) aj)) (aq bT (cL (i:=1) (by decide)) (cL (i:=0) (by decide))))) ah)))))⟩) hc
theorem wv (os:List OV)(P:OV→List OV→Prop)(h:aE os P):os.length=1∧∀ j o,os[j]?=some o→j ∉ ([]:List Nat)→cY o=true:=by
 unfold aE at h
 obtain ⟨d,rfl,_⟩:=h
 exact fzo
theorem ww (os:List OV)(P:OV→List OV→Prop)(h:aE os P):o5 { nx:=fin [] os P (.fz .non),rt:=fin [] os P } (aK 1 os):=by
 unfold aE at h
 obtain ⟨d,rfl,sm,q⟩:=h
 have sz:=dD
 ac_rfl
 refine cQ ?_
 ac_rfl
 refine tS sm fun b hb=>?_
 ac_rfl
 refine bD (b=false) (by cases b <;> simp) (fun e=>?_) (fun e=>?_)
 ·ac_rfl
  refine q false (jL fun h=>?_)
  have:b=true:=hb.mpr (by
   cases d <;> first | exact (h:False).elim | exact ⟨_,rfl,(show fB _ from h).2.2.2⟩)
  rw [e] at this
  cases this
 ·obtain ⟨z,rfl,hok⟩:=hb.mp (by cases b <;> simp_all)
  have hz:z.length≤1000000:=by simpa [smD] using sm
  have hle:=tJ z
  ac_rfl
  refine cQ ?_
  ac_rfl
  refine ⟨by nofun,?_⟩
  ac_rfl
  refine bD ((1:Int)≤z.length) decide_eq_true_iff (fun h1=>?_) (fun h1=>?_)
  ·ac_rfl
   refine bD (¬ (z.length:Int)≤40) (by rw [Bool.not_eq_true',decide_eq_false_iff_not]) (fun h2=>?_) (fun h2=>?_)
   ·ac_rfl
    refine q false (jL fun h=>?_)
    have h:fB z:=h
    have:=h.2.1
    nofun
   ·ac_rfl
    refine ⟨by nofun,?_⟩
    ac_rfl
    refine ⟨⟨by nofun,by nofun,by nofun,by nofun⟩,?_⟩
    ac_rfl
    refine dz (fun i as ρ=>∃ (bs:List Bool) (x:Option OV),as=bs.map .bl∧bs.length=i∧(bs.all id=true↔∀ k a b,k < i→z.cps.toList[k]?=some a→z.cps.toList[k+1]?=some b→a < b)∧ρ=[x,some (.fz (.str z))]) ⟨[],none,rfl,rfl,⟨fun _ k _ _ hk=>absurd hk (Nat.not_lt_zero k),fun _=>rfl⟩,rfl⟩ ?_ ?_
    ·rintro i d as ρ R hd ⟨bs,x,rfl,hl,hb2,rfl⟩ k
     obtain ⟨hi,rfl⟩:=dA hd
     have hi':i+1 < z.cps.toList.length:=by nofun
     have g1:z.cps.toList[i]?=some (z.cps.toList[i]'(by nofun)):=List.getElem?_eq_getElem _
     have g2:z.cps.toList[i+1]?=some (z.cps.toList[i+1]'hi'):=List.getElem?_eq_getElem _
     have e1:atI z.cps.toList ((1:Int)+i - 1)=some (z.cps.toList[i]'(by nofun)):=by
      rw [show (1:Int)+i - 1=((i:Nat):Int) by nofun]; exact eX g1
     have e2:atI z.cps.toList ((1:Int)+i)=some (z.cps.toList[i+1]'hi'):=by
      rw [show (1:Int)+i=((i+1:Nat):Int) by nofun]; exact eX g2
     ac_rfl
     refine iY ?_
     ac_rfl
     refine ⟨by nofun,?_⟩
     rw [e1]
     ac_rfl
     refine ⟨by nofun,?_⟩
     rw [e2]
     ac_rfl
     refine ⟨by rw [List.length_map]; nofun,k _ _ ⟨bs++[_],_,by rw [List.map_append]; rfl,by rw [List.length_append,hl]; rfl,?_,rfl⟩⟩
     rw [fK,hb2,tM,decide_eq_true_iff]
     constructor
     ·rintro ⟨h3,h4⟩ k a b hk ha hb3
      by_cases hki:k=i
      ·subst hki
       rw [g1] at ha
       rw [g2] at hb3
       cases ha
       cases hb3
       exact h4
      ·exact h3 k a b (by nofun) ha hb3
     ·intro h3
      exact ⟨fun k a b hk=>h3 k a b (by nofun),h3 i _ _ (Nat.lt_succ_self i) g1 g2⟩
    ·rintro as ρ ⟨bs,x,rfl,hl,hb2,rfl⟩
     ac_rfl
     refine j6 ?_
     ac_rfl
     refine q _ (hb2.trans ?_)
     have el:(dE 1 ((z.length:Int) - 1).toNat).length=z.cps.toList.length - 1:=by
      unfold dE; rw [List.length_map,List.length_range]; nofun
     rw [el]
     constructor
     ·intro h
      exact (show fB z from ⟨by nofun,by nofun,tT.mpr fun k a b ha hb3=>h k a b (by have:=(List.getElem?_eq_some_iff.mp hb3).1; nofun) ha hb3,hok⟩)
     ·intro h k a b _ ha hb3
      have h:fB z:=h
      exact tT.mp h.2.2.1 k a b ha hb3
  ·ac_rfl
   refine iY ?_
   ac_rfl
   refine q false (jL fun h=>?_)
   have h:fB z:=h
   have:=h.1
   nofun
theorem tW {d:D}{P:OV→List OV→Prop}(sm:smD d=true)(h:∀ b:Bool,(b=true↔oV d)→P (.fz (.bl b)) [.fz d]):aE [.fz d] P:=by
 unfold aE
 exact ⟨d,rfl,sm,h⟩
end
end KR
set_option maxHeartbeats 4000000
namespace KR
open PySem L2
@[irreducible] def bi:Ct:=fun os P=>∃ d:D,os=[.fz d]∧smD d=true∧∀ b:Bool,(b=true↔mK d)→P (.fz (.bl b)) os
theorem yg {xs:List D}(h:smD (.tup xs)=true):xs.length≤1000000∧∀ d ∈ xs,smD d=true:=by
 simp only [smD,Bool.and_eq_true,decide_eq_true_iff] at h
 exact ⟨h.1,fun d hd=>lf h.2 hd⟩
theorem yh {xs:List D}(h:smD (.lst xs)=true):xs.length≤1000000∧∀ d ∈ xs,smD d=true:=by
 simp only [smD,Bool.and_eq_true,decide_eq_true_iff] at h
 exact ⟨h.1,fun d hd=>lf h.2 hd⟩
theorem tX {α:Type}{x:α}{r:List α}:dP (x::r) (some 1) none=r:=by
 unfold dP
 rw [show HT.sIx (x::r).length 0 (some 1)=1 from by show min 1 (r.length+1)=1; nofun,HT.sIx_none]
 simp
section
variable {P:Program} {w:World} {K:PySem.W.Frag} {mg:Str→Option Value} {base:Heap}
abbrev fP:Stmt:=top 16
theorem tY:FnScope ["thing", "word"] ["thing"] (ai fP):=⟨rfl,rfl,rfl,by decide +kernel,rfl,by decide +kernel,by decide +kernel⟩
def o7:FS :=
  (bO (fIf (fOr (jY (bJ (fCB cIs (ag (ao 0) (ag (fC (.ty "tuple")) aU))))) (bJ (fOp aEq (fCB ig (ag (ao 0) aU)) (fC (.int 0)))))
   (cX (fC (.bl false)))
   ck)
  (bO (dC (fOp aIx (ao 0) (fC (.int 0))) (ax 1))
  (bO (fIf (jY (bJ (fCB cIs (ag (ao 1) (ag (fC (.ty "str")) aU)))))
   (cX (fC (.bl false)))
   ck)
  (bO (fIf (bJ (fOp aIn (ao 1) (fC (.tup [.str "none", .str "any"]))))
   (cX (fOp aEq (fCB ig (ag (ao 0) aU)) (fC (.int 1))))
   ck)
  (bO (fIf (bJ (fOp aEq (ao 1) (fC (.str "signs"))))
   (cX (jF (fOp aEq (fCB ig (ag (ao 0) aU)) (fC (.int 2))) (bd aE (ag (fFz (fOp aIx (ao 0) (fC (.int 1)))) aU))))
   ck)
  (bO (fIf (bJ (fOp aIn (ao 1) (fC (.tup [.str "again", .str "ahead", .str "not"]))))
   (cX (jF (fOp aEq (fCB ig (ag (ao 0) aU)) (fC (.int 2))) (bd bK (ag (fFz (fOp aIx (ao 0) (fC (.int 1)))) aU))))
   ck)
  (bO (fIf (bJ (fOp aIn (ao 1) (fC (.tup [.str "row", .str "first"]))))
   (cX (jF (jX (mj (fun i j=>decide (i≤j)) fun i j=>!bV j i) (mj (fun i j=>decide (i≤j)) fun i j=>!bV j i) (fC (.int 1)) (fOp (aI0 fun i j=>.int (i - j)) (fCB ig (ag (ao 0) aU)) (fC (.int 1))) (fC (.int 8))) (fCB xT (ag (gc 1 (CO (fSl jg (ao 0) (dg (fC (.int 1))) cj)) (ax 0) nt (bd bK (ag (fFz (ao 0)) aU))) aU))))
   ck)
  (cX (fC (.bl false))))))))))
theorem tZ {f:Addr} {fd:FuncData} (F:Fun K "is_form" "is_form" fP f fd) (T:Txt K mg) (O_are_rising_signs:Own P w K mg base "are_rising_signs" 3 ["thing"] (spM K aE)) (O_is_name:Own P w K mg base "is_name" 1 ["thing"] (spM K bK))
  (hlen:∀ os P,bi os P→os.length=1∧∀ j o,os[j]?=some o→j ∉ ([]:List Nat)→cY o=true)
  (hc:∀ os P,bi os P→o7 { nx:=fin [] os P (.fz .non),rt:=fin [] os P } (aK 2 os)) :
  FnOk P w K mg base CX0 4 f fd ["thing"] (spM K bi) :=
 Fun.okG 2 [] F tY rfl (by decide) hlen (by decide) (fun cdv A outer s H E hr=>⟨_,(af (cm (xD (rF (di (cP (ay (fX K rfl) T.n_isinstance bM (aw (ad 0) (aw (jA T.n_tuple gr rfl) ae rfl) rfl) rfl rfl))) (lS (bP (cg K hr.units rfl) (ay (cT K rfl) T.n_len cS (aw (ad 0) ae rfl) rfl rfl) ak aP))))
   (am (aN eY))
   aT)
  (af (aS (i:=1) (show List.Nodup [("thing" : Str),("word" : Str)] from by decide +kernel) rfl (Or.inl rfl) (bS K hr.units (ad 0) ak (fun _ _=>rfl) rfl) rfl (Or.inl rfl))
  (af (cm (di (cP (ay (fX K rfl) T.n_isinstance bM (aw (ad 1) (aw (jA T.n_str iL rfl) ae rfl) rfl) rfl rfl)))
   (am (aN eY))
   aT)
  (af (cm (bP (kO K hr.units rfl) (ad 1) (nv T.g_WORDS_ALONE rfl) rfl)
   (am (aN (eP (cg K hr.units rfl) (ay (cT K rfl) T.n_len cS (aw (ad 0) ae rfl) rfl rfl) ak aP)))
   aT)
  (af (cm (bP (cg K hr.units rfl) (ad 1) aB aP)
   (am (aN (gt (eP (cg K hr.units rfl) (ay (cT K rfl) T.n_len cS (aw (ad 0) ae rfl) rfl rfl) ak aP) (eO (aA O_are_rising_signs (hr.mono (by decide)) (aw (bS K hr.units (ad 0) ak (fun _ _=>rfl) rfl) ae rfl) rfl rfl)))))
   aT)
  (af (cm (bP (kO K hr.units rfl) (ad 1) (nv T.g_WORDS_WITH_ONE rfl) rfl)
   (am (aN (gt (eP (cg K hr.units rfl) (ay (cT K rfl) T.n_len cS (aw (ad 0) ae rfl) rfl rfl) ak aP) (eO (aA O_is_name (hr.mono (by decide)) (aw (bS K hr.units (ad 0) ak (fun _ _=>rfl) rfl) ae rfl) rfl rfl)))))
   aT)
  (af (cm (bP (kO K hr.units rfl) (ad 1) (nv T.g_WORDS_WITH_SOME rfl) rfl)
   (am (aN (gt (oh e8 e8 ak (bn iR (ay (cT K rfl) T.n_len cS (aw (ad 0) ae rfl) rfl rfl) ak) (lR T.g_MOST_PARTS rfl) (by with_unfolding_all rfl)) (eO (ay (jS K rfl rfl) T.n_all jR (aw (d7 (T:=["part"]) (F:=[]) (ixs:=[]) rfl (CompScope.of rfl rfl rfl) (CC K (bw K (ad 0) (bC ak) cq rfl) rfl) (fun _ _ _ _=>(bz (i:=0) (show List.Nodup [("part" : Str)] from by decide +kernel) rfl (Or.inl rfl) (Or.inr rfl))) (fun _ _ _ _=>dH) (fun _ _ _ _=>(aA O_is_name (hr.mono (by decide)) (aw (ad 0) ae rfl) rfl rfl)) (fun _=>rfl)) ae rfl) rfl rfl)))))
   aT)
  (am (aN eY))))))))),
  (ar (cz (sd (dr (lZ (bU jJ (aa av (aa jG ah))))) (aX (aq ci (bU cU (aa av ah)) aj)))
   (aO e7)
   aQ)
  (ar (aV (aq bT av aj) (cV (by decide)) (ap (by decide)))
  (ar (cz (dr (lZ (bU jJ (aa av (aa jG ah)))))
   (aO e7)
   aQ)
  (ar (cz (aX (aq oE av (zD fun _=>Dens.strs ["none", "any"])))
   (aO (aq ci (bU cU (aa av ah)) aj))
   aQ)
  (ar (cz (aX (aq ci av aJ))
   (aO (eJ (aq ci (bU cU (aa av ah)) aj) (au (c:=aE) (aa (ce (aq bT av aj)) ah))))
   aQ)
  (ar (cz (aX (aq oE av (zD fun _=>Dens.strs ["again", "ahead", "not"])))
   (aO (eJ (aq ci (bU cU (aa av ah)) aj) (au (c:=bK) (aa (ce (aq bT av aj)) ah))))
   aQ)
  (ar (cz (aX (aq oE av (zD fun _=>Dens.strs ["row", "first"])))
   (aO (eJ (gv cW cW aj (aq i5 (bU cU (aa av ah)) aj) aj) (bU j1 (aa (ef (no:=1) (ixs:=[]) (zw (dI en av (bE aj) cu)) (dc (by decide)) (dt (i:=0) (by decide) (by decide)) (ii (by decide)) eQ (au (c:=bK) (aa (ce (cL (i:=0) (by decide))) ah))) ah))))
   aQ)
  (aO e7))))))))⟩) hc
theorem wx (os:List OV)(P:OV→List OV→Prop)(h:bi os P):os.length=1∧∀ j o,os[j]?=some o→j ∉ ([]:List Nat)→cY o=true:=by
 unfold bi at h
 obtain ⟨d,rfl,_⟩:=h
 exact fzo
theorem wy (os:List OV)(P:OV→List OV→Prop)(h:bi os P):o7 { nx:=fin [] os P (.fz .non),rt:=fin [] os P } (aK 2 os):=by
 unfold bi at h
 obtain ⟨d,rfl,sm,q⟩:=h
 have sz:=dD
 ac_rfl
 refine du (∃ x xs,d=.tup (x::xs)) ?_ ?_
 ·rintro ⟨x,xs,rfl⟩
  obtain ⟨hl,hm⟩:=yg sm
  rw [List.length_cons] at hl
  ac_rfl
  refine zH ?_
  ac_rfl
  refine du (∃ word,x=.str word) ?_ ?_
  ·rintro ⟨word,rfl⟩
   have q':∀ b:Bool,(b=true↔mJ word xs)→P (.fz (.bl b)) [.fz (.tup (.str word::xs))]:=fun b hb=>q b (hb.trans oW.symm)
   ac_rfl
   refine cQ ?_
   ac_rfl
   refine ⟨⟨rfl,rfl⟩,?_⟩
   ac_rfl
   refine bD (word = "none" ∨ word = "any") ((kY (zs:=["none", "any"])).trans (by simp)) (fun hw=>?_) (fun h1=>?_)
   ·ac_rfl
    refine ⟨bQ,?_⟩
    ac_rfl
    refine q' _ (cA.trans (Iff.trans ?_ (Ax hw).symm))
    exact ⟨fun h=>List.eq_nil_of_length_eq_zero (by rw [List.length_cons] at h; nofun),fun h=>by rw [h]; rfl⟩
   ·ac_rfl
    refine cQ ?_
    ac_rfl
    refine ⟨cN,?_⟩
    ac_rfl
    refine bD (word = "signs") dJ (fun hw=>?_) (fun h2=>?_)
    ·ac_rfl
     refine ⟨bQ,?_⟩
     ac_rfl
     refine bD (∃ x,xs=[x]) (cA.trans (by rw [List.length_cons]; exact tF)) (fun h=>?_) (fun h=>?_)
     ·obtain ⟨x,rfl⟩:=h
      ac_rfl
      refine tW (hm x (by simp)) fun b hb=>?_
      ac_rfl
      refine q' _ (hb.trans (Iff.trans ?_ (oX hw).symm))
      exact ⟨fun h=>⟨x,rfl,h⟩,fun ⟨y,e,h⟩=>by cases e; exact h⟩
     ·ac_rfl
      exact q' _ (jL fun hh=>by obtain ⟨y,e,_⟩:=(oX hw).mp hh; exact h ⟨y,e⟩)
    ·ac_rfl
     refine cQ ?_
     ac_rfl
     refine ⟨⟨rfl,rfl⟩,?_⟩
     ac_rfl
     refine bD (word = "again" ∨ word = "ahead" ∨ word = "not") ((kY (zs:=["again", "ahead", "not"])).trans (by simp)) (fun hw=>?_) (fun h3=>?_)
     ·ac_rfl
      refine ⟨bQ,?_⟩
      ac_rfl
      refine bD (∃ x,xs=[x]) (cA.trans (by rw [List.length_cons]; exact tF)) (fun h=>?_) (fun h=>?_)
      ·obtain ⟨x,rfl⟩:=h
       ac_rfl
       refine jq (hm x (by simp)) fun b hb=>?_
       ac_rfl
       refine q' _ (hb.trans (Iff.trans ?_ (ye hw).symm))
       exact ⟨fun h=>⟨x,rfl,h⟩,fun ⟨y,e,h⟩=>by cases e; exact h⟩
      ·ac_rfl
       exact q' _ (jL fun hh=>by obtain ⟨y,e,_⟩:=(ye hw).mp hh; exact h ⟨y,e⟩)
     ·ac_rfl
      refine cQ ?_
      ac_rfl
      refine ⟨⟨rfl,rfl⟩,?_⟩
      ac_rfl
      refine bD (word = "row" ∨ word = "first") ((kY (zs:=["row", "first"])).trans (by simp)) (fun hw=>?_) (fun h4=>?_)
      ·ac_rfl
       rw [List.length_cons]
       refine bD ((1:Int)≤((xs.length+1:Nat):Int) - 1) decide_eq_true_iff (fun g1=>?_) (fun g1=>?_)
       ·ac_rfl
        refine bD (((xs.length+1:Nat):Int) - 1≤8) decide_eq_true_iff (fun g2=>?_) (fun g2=>?_)
        ·ac_rfl
         rw [tX]
         ac_rfl
         refine dz (fun i as ρ=>∃ (bs:List Bool) (x y:Option OV),as=bs.map .bl∧bs.length=i∧(bs.all id=true↔∀ c ∈ xs.take i,lc c)∧ρ=[x,some (.fz (.tup (.str word::xs))),y]) ⟨[],none,_,rfl,rfl,by simp,rfl⟩ ?_ ?_
         ·rintro i d as ρ R hd ⟨bs,x,y,rfl,hbl,hb,rfl⟩ k
          have hi:=(List.getElem?_eq_some_iff.mp hd).1
          ac_rfl
          refine iY ?_
          ac_rfl
          refine jq (hm d (List.mem_cons_of_mem _ (List.mem_of_getElem? hd))) fun b hb2=>?_
          ac_rfl
          refine ⟨by rw [List.length_map]; nofun,k _ _ ⟨bs++[b],_,_,by rw [List.map_append]; rfl,by rw [List.length_append,hbl]; rfl,?_,rfl⟩⟩
          rw [fK,iC hd,hb,hb2]
         ·rintro as ρ ⟨bs,x,y,rfl,hbl,hb,rfl⟩
          rw [List.take_of_length_le (Nat.le_refl _)] at hb
          ac_rfl
          refine j6 ?_
          ac_rfl
          refine q' _ (hb.trans (Iff.trans ?_ (nL hw).symm))
          exact ⟨fun h=>⟨by nofun,by nofun,h⟩,fun h=>h.2.2⟩
        ·ac_rfl
         exact q' _ (jL fun hh=>by have:=(nL hw).mp hh; nofun)
       ·ac_rfl
        refine jE ?_
        ac_rfl
        exact q' _ (jL fun hh=>by have:=(nL hw).mp hh; nofun)
      ·ac_rfl
       exact q' _ (jL (Ay h1 h2 h3 h4))
  ·intro rest
   ac_rfl
   refine ⟨⟨tG (hm x (by simp)),rfl⟩,?_⟩
   ac_rfl
   refine bD (¬ ∃ z,x=.str z) (by rw [Bool.not_eq_true',Bool.eq_false_iff,Ne,tH]) (fun hn=>?_) (fun hn=>rest (Classical.not_not.mp hn))
   ac_rfl
   refine q _ (jL fun ⟨word,r,e,_⟩=>?_)
   cases e
   exact hn ⟨_,rfl⟩
 ·intro rest
  ac_rfl
  refine ⟨⟨tG sm,rfl⟩,?_⟩
  ac_rfl
  refine bD (¬ ∃ z,d=.tup z) (by rw [Bool.not_eq_true',Bool.eq_false_iff,Ne,yf]) (fun hn=>?_) (fun hn=>?_)
  ·ac_rfl
   refine iY ?_
   ac_rfl
   exact q _ (jL fun ⟨word,r,e,_⟩=>hn ⟨_,e⟩)
  ·obtain ⟨xs,rfl⟩:∃ z,d=.tup z:=Classical.not_not.mp hn
   ac_rfl
   refine ⟨bQ,?_⟩
   ac_rfl
   refine bD (xs=[]) (cA.trans ⟨fun h=>List.eq_nil_of_length_eq_zero (by nofun),fun h=>by rw [h]; rfl⟩) (fun h=>?_) (fun h=>?_)
   ·subst h
    ac_rfl
    exact q _ (jL fun ⟨word,r,e,_⟩=>nomatch e)
   ·match xs,h with
    | x::xs,_=>exact rest ⟨x,xs,rfl⟩
theorem eA {d:D}{P:OV→List OV→Prop}(sm:smD d=true)(h:∀ b:Bool,(b=true↔mK d)→P (.fz (.bl b)) [.fz d]):bi [.fz d] P:=by
 unfold bi
 exact ⟨d,rfl,sm,h⟩
end
end KR
set_option maxHeartbeats 4000000
namespace KR
open PySem L2
def lh (d:D):Prop:=∃ n f,d=.tup [n,f]∧lc n∧mK f
def mL (ds:List D):Prop:=∀ k n f n' f',ds[k]?=some (.tup [.str n,f])→ds[k+1]?=some (.tup [.str n',f'])→bV n n'=true
def qu (d:D):Prop:=∃ ds,d=.lst ds∧(∀ r ∈ ds,lh r)∧mL ds
theorem mM {d:D}(h:lh d):∃ n f,d=.tup [.str n,f]:=by
 obtain ⟨n,f,rfl,hn,_⟩:=h
 cases n <;> first | exact ⟨_,_,rfl⟩ | exact (hn:False).elim
@[irreducible] def cF:Ct:=fun os P=>∃ d:D,os=[.fz d]∧smD d=true∧∀ b:Bool,(b=true↔lh d)→P (.fz (.bl b)) os
@[irreducible] def bx:Ct:=fun os P=>∃ ds:List D,os=[.fl ds]∧smD (.lst ds)=true∧(∀ r ∈ ds,lh r)∧∀ b:Bool,(b=true↔mL ds)→P (.fz (.bl b)) os
@[irreducible] def bH:Ct:=fun os P=>∃ ds:List D,os=[.fl ds]∧smD (.lst ds)=true∧∀ b:Bool,(b=true↔qu (.lst ds))→P (.fz (.bl b)) os
theorem flo {ds:List D}:([.fl ds]:List OV).length=1∧∀ j o,([.fl ds]:List OV)[j]?=some o→j ∉ ([0]:List Nat)→cY o=true:=⟨rfl,fun j o e hj=>by
 match j,e with
 | 0,e=>exact absurd (by simp) hj⟩
section
variable {P:Program} {w:World} {K:PySem.W.Frag} {mg:Str→Option Value} {base:Heap}
abbrev fQ:Stmt:=top 18
theorem t4:FnScope ["thing"] ["thing"] (ai fQ):=⟨rfl,rfl,rfl,by decide +kernel,rfl,by decide +kernel,by decide +kernel⟩
def o8:FS :=
  (bO (fIf (fOr (jY (bJ (fCB cIs (ag (ao 0) (ag (fC (.ty "tuple")) aU))))) (bJ (fOp aNe (fCB ig (ag (ao 0) aU)) (fC (.int 2)))))
   (cX (fC (.bl false)))
   ck)
  (cX (jF (bd bK (ag (fFz (fOp aIx (ao 0) (fC (.int 0)))) aU)) (bd bi (ag (fFz (fOp aIx (ao 0) (fC (.int 1)))) aU)))))
theorem t6 {f:Addr} {fd:FuncData} (F:Fun K "is_rule" "is_rule" fQ f fd) (T:Txt K mg) (O_is_name:Own P w K mg base "is_name" 1 ["thing"] (spM K bK)) (O_is_form:Own P w K mg base "is_form" 4 ["thing"] (spM K bi))
  (hlen:∀ os P,cF os P→os.length=1∧∀ j o,os[j]?=some o→j ∉ ([]:List Nat)→cY o=true)
  (hc:∀ os P,cF os P→o8 { nx:=fin [] os P (.fz .non),rt:=fin [] os P } (aK 1 os)) :
  FnOk P w K mg base CX0 5 f fd ["thing"] (spM K cF) :=
 Fun.okG 1 [] F t4 rfl (by decide) hlen (by decide) (fun cdv A outer s H E hr=>⟨_,(af (cm (xD (rF (di (cP (ay (fX K rfl) T.n_isinstance bM (aw (ad 0) (aw (jA T.n_tuple gr rfl) ae rfl) rfl) rfl rfl))) (lS (bP (oj K hr.units rfl) (ay (cT K rfl) T.n_len cS (aw (ad 0) ae rfl) rfl rfl) ak aP))))
   (am (aN eY))
   aT)
  (am (aN (gt (aA O_is_name (hr.mono (by decide)) (aw (bS K hr.units (ad 0) ak (fun _ _=>rfl) rfl) ae rfl) rfl rfl) (eO (aA O_is_form (hr.mono (by decide)) (aw (bS K hr.units (ad 0) ak (fun _ _=>rfl) rfl) ae rfl) rfl rfl)))))),
  (ar (cz (sd (dr (lZ (bU jJ (aa av (aa jG ah))))) (aX (aq oD (bU cU (aa av ah)) aj)))
   (aO e7)
   aQ)
  (aO (eJ (au (c:=bK) (aa (ce (aq bT av aj)) ah)) (au (c:=bi) (aa (ce (aq bT av aj)) ah)))))⟩) hc
theorem wz (os:List OV)(P:OV→List OV→Prop)(h:cF os P):os.length=1∧∀ j o,os[j]?=some o→j ∉ ([]:List Nat)→cY o=true:=by
 unfold cF at h
 obtain ⟨d,rfl,_⟩:=h
 exact fzo
theorem wA (os:List OV)(P:OV→List OV→Prop)(h:cF os P):o8 { nx:=fin [] os P (.fz .non),rt:=fin [] os P } (aK 1 os):=by
 unfold cF at h
 obtain ⟨d,rfl,sm,q⟩:=h
 ac_rfl
 refine du (∃ n f,d=.tup [n,f]) ?_ ?_
 ·rintro ⟨n,f,rfl⟩
  have hm:=(yg sm).2
  ac_rfl
  refine jq (hm n (by simp)) fun b hb=>?_
  ac_rfl
  refine bD (lc n) hb (fun hn=>?_) (fun hn=>?_)
  ·ac_rfl
   refine eA (hm f (by simp)) fun b2 hb2=>?_
   ac_rfl
   exact q _ (hb2.trans ⟨fun h=>⟨n,f,rfl,hn,h⟩,fun ⟨n',f',e,_,h⟩=>by cases e; exact h⟩)
  ·ac_rfl
   exact q _ (jL fun ⟨n',f',e,h,_⟩=>by cases e; exact hn h)
 ·intro rest
  ac_rfl
  refine ⟨⟨tG sm,rfl⟩,?_⟩
  ac_rfl
  refine bD (¬ ∃ z,d=.tup z) (by rw [Bool.not_eq_true',Bool.eq_false_iff,Ne,yf]) (fun hn=>?_) (fun hn=>?_)
  ·ac_rfl
   refine iY ?_
   ac_rfl
   exact q _ (jL fun ⟨n',f',e,_⟩=>hn ⟨_,e⟩)
  ·obtain ⟨xs,rfl⟩:∃ z,d=.tup z:=Classical.not_not.mp hn
   ac_rfl
   refine ⟨bQ,?_⟩
   ac_rfl
   refine bD (xs.length≠2) (by rw [Bool.not_eq_true',Bool.eq_false_iff,Ne,cA]; nofun) (fun h=>?_) (fun h=>?_)
   ·ac_rfl
    exact q _ (jL fun ⟨n',f',e,_⟩=>by cases e; exact h rfl)
   ·match xs,Classical.not_not.mp h with
    | [n,f],_=>exact rest ⟨n,f,rfl⟩
theorem t7 {d:D}{P:OV→List OV→Prop}(sm:smD d=true)(h:∀ b:Bool,(b=true↔lh d)→P (.fz (.bl b)) [.fz d]):cF [.fz d] P:=by
 unfold cF
 exact ⟨d,rfl,sm,h⟩
abbrev gW:Stmt:=top 19
theorem wB:FnScope ["rows"] ["rows"] (ai gW):=⟨rfl,rfl,rfl,by decide +kernel,rfl,by decide +kernel,by decide +kernel⟩
def t8:FS :=
  (cX (fCB xT (ag (gc 1 (se (ag (fC (.int 1)) (ag (fCB ig (ag (ao 0) aU)) aU))) (ax 0) nt (fOp (mj (fun i j=>decide (i < j)) bV) (fOp aIx (fOp aIx (ao 1) (fOp (aI0 fun i j=>.int (i - j)) (ao 0) (fC (.int 1)))) (fC (.int 0))) (fOp aIx (fOp aIx (ao 1) (ao 0)) (fC (.int 0))))) aU)))
theorem wC {f:Addr} {fd:FuncData} (F:Fun K "names_rise" "names_rise" gW f fd) (T:Txt K mg)
  (hlen:∀ os P,bx os P→os.length=1∧∀ j o,os[j]?=some o→j ∉ ([0]:List Nat)→cY o=true)
  (hc:∀ os P,bx os P→t8 { nx:=fin [0] os P (.fz .non),rt:=fin [0] os P } (aK 1 os)) :
  FnOk P w K mg base CX0 1 f fd ["rows"] (spM K bx) :=
 Fun.okG 1 [0] F wB rfl (by decide) hlen (by decide) (fun cdv A outer s H E hr=>⟨_,(am (aN (ay (jS K rfl rfl) T.n_all jR (aw (d7 (T:=["k"]) (F:=["rows"]) (ixs:=[0]) rfl (CompScope.of rfl rfl rfl) (lU rfl T.n_range (aw ak (aw (ay (cT K rfl) T.n_len cS (aw (cy 0 rfl (Or.inr (Or.inl rfl))) ae rfl) rfl rfl) ae rfl) rfl) rfl rfl) (fun _ _ _ _=>(bz (i:=0) (show List.Nodup [("k" : Str),("rows" : Str)] from by decide +kernel) rfl (Or.inl rfl) (Or.inr rfl))) (fun _ _ _ _=>dH) (fun _ _ _ _=>(eP gK (bS K hr.units (bS K hr.units (cy 1 rfl (Or.inr (Or.inl rfl))) (bn iR (ad 0) ak) (fun _ _=>rfl) rfl) ak (fun _ _=>rfl) rfl) (bS K hr.units (bS K hr.units (cy 1 rfl (Or.inr (Or.inl rfl))) (ad 0) (fun _ _=>rfl) rfl) ak (fun _ _=>rfl) rfl) aP)) (fun _=>rfl)) ae rfl) rfl rfl))),
  (aO (bU j1 (aa (ef (no:=1) (ixs:=[0]) (ox (aa aj (aa (bU cU (aa av ah)) ah))) (dc (by decide)) (dt (i:=0) (by decide) (by decide)) (ii (by decide)) eQ (aq cW (aq bT (aq bT (cL (i:=1) (by decide)) (aq i5 (cL (i:=0) (by decide)) aj)) aj) (aq bT (aq bT (cL (i:=1) (by decide)) (cL (i:=0) (by decide))) aj))) ah)))⟩) hc
theorem Az (os:List OV)(P:OV→List OV→Prop)(h:bx os P):os.length=1∧∀ j o,os[j]?=some o→j ∉ ([0]:List Nat)→cY o=true:=by
 unfold bx at h
 obtain ⟨d,rfl,_⟩:=h
 exact flo
theorem AA (os:List OV)(P:OV→List OV→Prop)(h:bx os P):t8 { nx:=fin [0] os P (.fz .non),rt:=fin [0] os P } (aK 1 os):=by
 unfold bx at h
 obtain ⟨ds,rfl,sm,hr,q⟩:=h
 have sz:=dD
 have hl:=(yh sm).1
 ac_rfl
 refine ⟨⟨by nofun,by nofun,by nofun,by nofun⟩,?_⟩
 ac_rfl
 refine dz (fun i as ρ=>∃ (bs:List Bool) (x:Option OV),as=bs.map .bl∧bs.length=i∧(bs.all id=true↔∀ k n f n' f',k < i→ds[k]?=some (.tup [.str n,f])→ds[k+1]?=some (.tup [.str n',f'])→bV n n'=true)∧ρ=[x,some (.fl ds)]) ⟨[],none,rfl,rfl,⟨fun _ k _ _ _ _ hk=>absurd hk (Nat.not_lt_zero k),fun _=>rfl⟩,rfl⟩ ?_ ?_
 ·rintro i d as ρ R hd ⟨bs,x,rfl,hbl,hb2,rfl⟩ k
  obtain ⟨hi,rfl⟩:=dA hd
  have hi':i+1 < ds.length:=by nofun
  have g1:ds[i]?=some (ds[i]'(by nofun)):=List.getElem?_eq_getElem _
  have g2:ds[i+1]?=some (ds[i+1]'hi'):=List.getElem?_eq_getElem _
  obtain ⟨n,f,e1⟩:=mM (hr _ (List.mem_of_getElem? g1))
  obtain ⟨n',f',e2⟩:=mM (hr _ (List.mem_of_getElem? g2))
  rw [e1] at g1
  rw [e2] at g2
  have a1:atI ds ((1:Int)+i - 1)=some (.tup [.str n,f]):=by
   rw [show (1:Int)+i - 1=((i:Nat):Int) by nofun]; exact eX g1
  have a2:atI ds ((1:Int)+i)=some (.tup [.str n',f']):=by
   rw [show (1:Int)+i=((i+1:Nat):Int) by nofun]; exact eX g2
  ac_rfl
  refine iY ?_
  ac_rfl
  rw [a1]
  ac_rfl
  rw [a2]
  ac_rfl
  refine ⟨by rw [List.length_map]; nofun,k _ _ ⟨bs++[_],_,by rw [List.map_append]; rfl,by rw [List.length_append,hbl]; rfl,?_,rfl⟩⟩
  rw [fK,hb2]
  constructor
  ·rintro ⟨h3,h4⟩ k m g m' g' hk ha hb3
   by_cases hki:k=i
   ·subst hki
    rw [g1] at ha
    rw [g2] at hb3
    cases ha
    cases hb3
    exact h4
   ·exact h3 k m g m' g' (by nofun) ha hb3
  ·intro h3
   exact ⟨fun k m g m' g' hk=>h3 k m g m' g' (by nofun),h3 i _ _ _ _ (Nat.lt_succ_self i) g1 g2⟩
 ·rintro as ρ ⟨bs,x,rfl,hbl,hb2,rfl⟩
  ac_rfl
  refine j6 ?_
  ac_rfl
  refine q _ (hb2.trans ?_)
  have el:(dE 1 ((ds.length:Int) - 1).toNat).length=ds.length - 1:=by
   unfold dE; rw [List.length_map,List.length_range]; nofun
  rw [el]
  exact ⟨fun h k n f n' f' ha hb=>h k n f n' f' (by have:=(List.getElem?_eq_some_iff.mp hb).1; nofun) ha hb,fun h k n f n' f' _=>h k n f n' f'⟩
theorem wD {ds:List D}{P:OV→List OV→Prop}(sm:smD (.lst ds)=true)(hr:∀ r ∈ ds,lh r)(h:∀ b:Bool,(b=true↔mL ds)→P (.fz (.bl b)) [.fl ds]):bx [.fl ds] P:=by
 unfold bx
 exact ⟨ds,rfl,sm,hr,h⟩
abbrev fR:Stmt:=top 20
theorem t9:FnScope ["thing"] ["thing"] (ai fR):=⟨rfl,rfl,rfl,by decide +kernel,rfl,by decide +kernel,by decide +kernel⟩
def o9:FS :=
  (bO (fIf (jY (bJ (fCB cIs (ag (ao 0) (ag (fC (.ty "list")) aU)))))
   (cX (fC (.bl false)))
   ck)
  (cX (jF (fCB xT (ag (oM 1 0 (ax 0) nt (bd cF (ag (fFz (ao 0)) aU))) aU)) (bd bx (ag (ao 0) aU)))))
theorem ua {f:Addr} {fd:FuncData} (F:Fun K "is_book" "is_book" fR f fd) (T:Txt K mg) (O_is_rule:Own P w K mg base "is_rule" 5 ["thing"] (spM K cF)) (O_names_rise:Own P w K mg base "names_rise" 1 ["rows"] (spM K bx))
  (hlen:∀ os P,bH os P→os.length=1∧∀ j o,os[j]?=some o→j ∉ ([0]:List Nat)→cY o=true)
  (hc:∀ os P,bH os P→o9 { nx:=fin [0] os P (.fz .non),rt:=fin [0] os P } (aK 1 os)) :
  FnOk P w K mg base CX0 6 f fd ["thing"] (spM K bH) :=
 Fun.okG 1 [0] F t9 rfl (by decide) hlen (by decide) (fun cdv A outer s H E hr=>⟨_,(af (cm (di (cP (ay (fX K rfl) T.n_isinstance bM (aw (ad 0) (aw (jA T.n_list nc rfl) ae rfl) rfl) rfl rfl)))
   (am (aN eY))
   aT)
  (am (aN (gt (ay (jS K rfl rfl) T.n_all jR (aw (d7 (T:=["row"]) (F:=[]) (ixs:=[]) rfl (CompScope.of rfl rfl rfl) (iP K (ad 0) rfl) (fun _ _ _ _=>(bz (i:=0) (show List.Nodup [("row" : Str)] from by decide +kernel) rfl (Or.inl rfl) (Or.inr rfl))) (fun _ _ _ _=>dH) (fun _ _ _ _=>(aA O_is_rule (hr.mono (by decide)) (aw (ad 0) ae rfl) rfl rfl)) (fun _=>rfl)) ae rfl) rfl rfl) (eO (aA O_names_rise (hr.mono (by decide)) (aw (ad 0) ae rfl) rfl rfl)))))),
  (ar (cz (dr (lZ (bU jJ (aa av (aa jG ah)))))
   (aO e7)
   aQ)
  (aO (eJ (bU j1 (aa (sA (no:=1) (ixs:=[]) (by decide) (dc (by decide)) (dt (i:=0) (by decide) (by decide)) (ii (by decide)) eQ (au (c:=cF) (aa (ce (cL (i:=0) (by decide))) ah))) ah)) (au (c:=bx) (aa av ah)))))⟩) hc
theorem wE (os:List OV)(P:OV→List OV→Prop)(h:bH os P):os.length=1∧∀ j o,os[j]?=some o→j ∉ ([0]:List Nat)→cY o=true:=by
 unfold bH at h
 obtain ⟨d,rfl,_⟩:=h
 exact flo
theorem wF (os:List OV)(P:OV→List OV→Prop)(h:bH os P):o9 { nx:=fin [0] os P (.fz .non),rt:=fin [0] os P } (aK 1 os):=by
 unfold bH at h
 obtain ⟨ds,rfl,sm,q⟩:=h
 have sz:=dD
 ac_rfl
 refine cQ ?_
 ac_rfl
 refine ⟨⟨rfl,rfl⟩,?_⟩
 ac_rfl
 refine jE ?_
 ·
  obtain ⟨hl,hm⟩:=yh sm
  ac_rfl
  refine sB (fun i as ρ=>∃ (bs:List Bool) (x:Option OV),as=bs.map .bl∧bs.length=i∧(bs.all id=true↔∀ c ∈ ds.take i,lh c)∧ρ=[x,some (.fl ds)]) (by rintro i as ρ ⟨bs,x,_,_,_,rfl⟩; rfl) ⟨[],none,rfl,rfl,by simp,rfl⟩ ?_ ?_
  ·rintro i d as ρ R hd ⟨bs,x,rfl,hbl,hb,rfl⟩ k
   have hi:=(List.getElem?_eq_some_iff.mp hd).1
   ac_rfl
   refine iY ?_
   ac_rfl
   refine t7 (hm d (List.mem_of_getElem? hd)) fun b hb2=>?_
   ac_rfl
   refine ⟨by rw [List.length_map]; nofun,k _ _ ⟨bs++[b],_,by rw [List.map_append]; rfl,by rw [List.length_append,hbl]; rfl,?_,rfl⟩⟩
   rw [fK,iC hd,hb,hb2]
  ·rintro as ρ ⟨bs,x,rfl,hbl,hb,rfl⟩
   rw [List.take_of_length_le (Nat.le_refl _)] at hb
   ac_rfl
   refine j6 ?_
   ac_rfl
   refine bD (∀ c ∈ ds,lh c) hb (fun hr=>?_) (fun hr=>?_)
   ·ac_rfl
    refine wD sm hr fun b hb2=>?_
    ac_rfl
    exact q _ (hb2.trans ⟨fun h=>⟨ds,rfl,hr,h⟩,fun ⟨ds',e,_,h⟩=>by cases e; exact h⟩)
   ·ac_rfl
    exact q _ (jL fun ⟨ds',e,h,_⟩=>by cases e; exact hr h)
theorem jr {ds:List D}{P:OV→List OV→Prop}(sm:smD (.lst ds)=true)(h:∀ b:Bool,(b=true↔qu (.lst ds))→P (.fz (.bl b)) [.fl ds]):bH [.fl ds] P:=by
 unfold bH
 exact ⟨ds,rfl,sm,h⟩
end
end KR
set_option maxHeartbeats 4000000
namespace KR
open PySem L2
abbrev cR (word:Str)(rest:List Str):Str:=Builtin.Str.glued (Str.ofString " ") (word::rest)
abbrev gE (r:Rw):Str:=r.1++Str.ofString " = " ++ cR r.2.1 r.2.2
abbrev eD (rows:List Rw):Str:=Builtin.Str.glued (Str.ofString "; ") (rows.map gE)
theorem ub:2≤sizeLine:=by rw [dD]; decide
theorem pc {z:Str}(h:db z){c:Nat}(hc:c < 97):c ∉ z.cps.toList:=fun hm=>by have:=h.2.2 c hm; nofun
theorem uc {word:Str}{rest:List Str}(h:cH word rest):word ∈ (["none", "any", "signs", "again", "ahead", "not", "row", "first"]:List Str):=by
 obtain ⟨zs,_,h⟩:=h
 rcases h with ⟨e,_⟩ | ⟨e,_⟩ | ⟨e,_⟩ | ⟨e,_⟩
 ·rcases e with rfl | rfl <;> simp
 ·rw [e]; simp
 ·rcases e with rfl | rfl | rfl <;> simp
 ·rcases e with rfl | rfl <;> simp
theorem fE {word:Str}{rest:List Str}(h:cH word rest):word.length≤5∧32 ∉ word.cps.toList∧59 ∉ word.cps.toList:=by
 have all:∀ y ∈ (["none", "any", "signs", "again", "ahead", "not", "row", "first"]:List Str),y.length≤5∧32 ∉ y.cps.toList∧59 ∉ y.cps.toList:=by decide +kernel
 exact all word (uc h)
theorem dW {word:Str}{rest:List Str}(h:cH word rest):(word ≠ "signs" ∧ rest.length≤8∧∀ z ∈ rest,db z)∨(word = "signs" ∧ ∃ z,rest=[z]∧fB z):=by
 obtain ⟨zs,hz,h⟩:=h
 rcases h with ⟨e,rfl⟩ | ⟨e,z,rfl,hs⟩ | ⟨e,hl,hr⟩ | ⟨e,_,hl,hr⟩
 ·exact .inl ⟨by rcases e with rfl | rfl <;> decide +kernel,Nat.zero_le _,fun _ h=>nomatch h⟩
 ·exact .inr ⟨e,z,rfl,hs⟩
 ·exact .inl ⟨by rcases e with rfl | rfl | rfl <;> decide +kernel,by nofun,fun z h=>hz z (hr z h)⟩
 ·exact .inl ⟨by rcases e with rfl | rfl <;> decide +kernel,hl,fun z h=>hz z (hr z h)⟩
theorem li:(Str.ofString " ").cps.toList=[32]:=by decide +kernel
theorem AB:(Str.ofString " = ").cps.toList=[32,61,32]:=by decide +kernel
theorem AC:(Str.ofString "; ").cps.toList=[59,32]:=by decide +kernel
theorem mO:(Str.ofString " ").length=1:=by decide +kernel
theorem ud:(Str.ofString " = ").length=3:=by decide +kernel
theorem ue:(Str.ofString "; ").length=2:=by decide +kernel
theorem cf (a b:Str):(a++b).length=a.length+b.length:=by
 rw [az,az,az,dB,List.length_append]
theorem uf {B:Nat}:∀ {zs:List Str},(∀ z ∈ zs,z.length≤B)→(zs.map (·.length)).sum≤zs.length * B
 | [],_=>Nat.zero_le _
 | z::zs,h=>by
  have h1:=h z (List.mem_cons_self ..)
  have h2:=uf fun y hy=>h y (List.mem_cons_of_mem z hy)
  rw [List.map_cons,List.sum_cons,List.length_cons,Nat.succ_mul]
  nofun
theorem js {word:Str}{rest:List Str}(h:cH word rest):((word::rest).map (·.length)).sum+(word::rest).length * 1≤100:=by
 have hw:=(fE h).1
 rw [List.map_cons,List.sum_cons,List.length_cons]
 rcases dW h with ⟨_,hl,hr⟩ | ⟨_,z,rfl,hs⟩
 ·have:=uf (B:=8) (zs:=rest) fun z hz=>by rw [az]; exact (hr z hz).2.1
  have:rest.length * 8≤8 * 8:=Nat.mul_le_mul_right _ hl
  nofun
 ·have:z.length≤40:=by rw [az]; exact hs.2.1
  simp only [List.map_cons,List.map_nil,List.sum_cons,List.sum_nil,List.length_cons,List.length_nil]
  nofun
theorem lj {word:Str}{rest:List Str}(h:cH word rest):(cR word rest).length≤100:=by
 have e:cR word rest=Str.join (Str.ofString " ") (word::rest):=StrLaws.glued_eq_join _ _
 rw [e]
 have h1:=StrLaws.join_length_le (Str.ofString " ") (word::rest)
 rw [mO] at h1
 exact Nat.le_trans h1 (js h)
theorem qv {word:Str} {rest:List Str} (h:cH word rest) (hw:word ≠ "signs"):Txt.split (cR word rest) (Str.ofString " ")=word::rest:=by
 have e:cR word rest=Str.join (Str.ofString " ") (word::rest):=StrLaws.glued_eq_join _ _
 rw [e]
 refine kc _ (by decide +kernel) (by decide +kernel) _ (by simp) fun p hp=>?_
 rw [li]
 refine fJ ?_
 rcases List.mem_cons.mp hp with rfl | hp
 ·exact (fE h).2.1
 ·rcases dW h with ⟨_,_,hr⟩ | ⟨e,_⟩
  ·exact pc (hr p hp) (by decide)
  ·exact absurd e hw
theorem ll (z:Str):(⟨z.cps.toList.toArray⟩:Str)=z:=by cases z; simp
theorem ug {word:Str}{rest:List Str}(h:cH word rest):(Txt.partition (cR word rest) (Str.ofString " ")).1=word:=by
 have e:cR word rest=Str.join (Str.ofString " ") (word::rest):=StrLaws.glued_eq_join _ _
 have hw:=(fE h).2.1
 cases rest with
 | nil =>
  have e2:cR word []=word:=e
  rw [e2]
  exact sK (qf li hw)
 | cons q r =>
  rw [e,nH (p:=word.cps.toList) (da ..) (by rw [li]; exact fJ hw)]
theorem qw {z:Str}:Txt.partition (cR "signs" [z]) (Str.ofString " ")=(Str.ofString "signs", Str.ofString " ", z):=by
 have e:cR "signs" [z]=Str.join (Str.ofString " ") ["signs", z]:=StrLaws.glued_eq_join _ _
 rw [e,nH (p:=("signs" : Str).cps.toList) (r:=z.cps.toList) (da ..) (by rw [li]; exact fJ (by decide +kernel)),ll,ll]
theorem mP {word:Str}{rest:List Str}(h:cH word rest):mK (eV word rest):=by
 refine ⟨word,rest.map .str,rfl,?_⟩
 obtain ⟨zs,hz,h⟩:=h
 rcases h with ⟨e,rfl⟩ | ⟨e,z,rfl,hs⟩ | ⟨e,hl,hr⟩ | ⟨e,h1,hl,hr⟩
 ·exact .inl ⟨e,rfl⟩
 ·exact .inr (.inl ⟨e,_,rfl,hs⟩)
 ·match rest,hl,hr with
  | [x],_,hr=>exact .inr (.inr (.inl ⟨e,_,rfl,hz x (hr x (List.mem_cons_self ..))⟩))
 ·refine .inr (.inr (.inr ⟨e,by rw [List.length_map]; exact h1,by rw [List.length_map]; exact hl,fun x hx=>?_⟩))
  obtain ⟨z,hz',rfl⟩:=List.mem_map.mp hx
  exact hz z (hr z hz')
theorem jt {word:Str}{rest:List Str}(h:cH word rest):smD (eV word rest)=true:=by
 have hp:=js h
 have hl:rest.length≤8:=by
  rcases dW h with ⟨_,hl,_⟩ | ⟨_,z,rfl,_⟩
  ·exact hl
  ·exact Nat.le_of_ble_eq_true rfl
 simp only [smD,Bool.and_eq_true,decide_eq_true_iff]
 refine ⟨by rw [List.length_cons,List.length_map]; nofun,jo fun d hd=>?_⟩
 have str:∀ z:Str,z.length≤100→smD (.str z)=true:=fun z hz=>by simp only [smD,decide_eq_true_iff]; nofun
 rcases List.mem_cons.mp hd with rfl | hd
 ·exact str _ (by have:=(fE h).1; nofun)
 ·obtain ⟨z,hz,rfl⟩:=List.mem_map.mp hd
  refine str z ?_
  rcases dW h with ⟨_,_,hr⟩ | ⟨_,z',rfl,hs⟩
  ·rw [az]; exact Nat.le_trans (hr z hz).2.1 (by decide)
  ·have e:z=z':=by first|exact List.mem_singleton.mp hz|simpa using hz
   rw [e,az]; exact Nat.le_trans hs.2.1 (by decide)
@[irreducible] def bo:Ct:=fun os P=>∃ (word:Str) (rest:List Str),os=[.fz (eV word rest)]∧cH word rest∧P (.fz (.str (cR word rest))) os
@[irreducible] def bq:Ct:=fun os P=>∃ (word:Str) (rest:List Str),os=[.fz (.str (cR word rest))]∧cH word rest∧P (.fz (eV word rest)) os
section
variable {P:Program} {w:World} {K:PySem.W.Frag} {mg:Str→Option Value} {base:Heap}
abbrev gX:Stmt:=top 22
theorem wG:FnScope ["form"] ["form"] (ai gX):=⟨rfl,rfl,rfl,by decide +kernel,rfl,by decide +kernel,by decide +kernel⟩
def uh:FS :=
  (cX (fT1 sH (fC (.str " ")) (ao 0)))
theorem wH {f:Addr} {fd:FuncData} (F:Fun K "show_form" "show_form" gX f fd) (T:Txt K mg)
  (hlen:∀ os P,bo os P→os.length=1∧∀ j o,os[j]?=some o→j ∉ ([]:List Nat)→cY o=true)
  (hc:∀ os P,bo os P→uh { nx:=fin [] os P (.fz .non),rt:=fin [] os P } (aK 1 os)) :
  FnOk P w K mg base CX0 1 f fd ["form"] (spM K bo) :=
 Fun.okG 1 [] F wG rfl (by decide) hlen (by decide) (fun cdv A outer s H E hr=>⟨_,(am (aN (cn K PySem.F.plainAttrs_str PySem.F.slot_str_join PySem.F.type_str_join (vK K rfl) aB (aw (ad 0) ae rfl) rfl rfl rfl (by decide) rfl))),
  (aO (gQ vL aJ av))⟩) hc
theorem AD (os:List OV)(P:OV→List OV→Prop)(h:bo os P):os.length=1∧∀ j o,os[j]?=some o→j ∉ ([]:List Nat)→cY o=true:=by
 unfold bo at h
 obtain ⟨word,rest,rfl,_⟩:=h
 exact fzo
theorem AE (os:List OV)(P:OV→List OV→Prop)(h:bo os P):uh { nx:=fin [] os P (.fz .non),rt:=fin [] os P } (aK 1 os):=by
 unfold bo at h
 obtain ⟨word,rest,rfl,hf,q⟩:=h
 have hp:=js hf
 ac_rfl
 refine fu (zs:=word::rest) ⟨by rw [mO]; nofun,?_⟩
 ac_rfl
 exact q
theorem pd {word:Str}{rest:List Str}{P:OV→List OV→Prop}(hf:cH word rest)(h:P (.fz (.str (cR word rest))) [.fz (eV word rest)]):bo [.fz (eV word rest)] P:=by
 unfold bo
 exact ⟨word,rest,rfl,hf,h⟩
abbrev gl:Stmt:=top 23
theorem pe:FnScope ["text", "word", "blank", "rest", "form"] ["text"] (ai gl):=⟨rfl,rfl,rfl,by decide +kernel,rfl,by decide +kernel,by decide +kernel⟩
def uk:FS :=
  (bO (fIf (jY (bJ (fCB cIs (ag (ao 0) (ag (fC (.ty "str")) aU)))))
   mx
   ck)
  (bO (dC (fT1 ka (ao 0) (fC (.str " "))) (p7 3 (dU (ax 1) (dU (ax 2) (dU (ax 3) p6)))))
  (bO (dC (EX (bJ (fOp aEq (ao 1) (fC (.str "signs")))) (vo (ag (ao 1) (ag (ao 3) aU))) (fCB j2 (ag (fT1 fZ (ao 0) (fC (.str " "))) aU))) (ax 4))
  (bO (fIf (jY (bJ (bd bi (ag (fFz (ao 4)) aU))))
   mx
   ck)
  (cX (ao 4))))))
theorem nu6:List.Nodup [("text" : Str),("word" : Str),("blank" : Str),("rest" : Str),("form" : Str)]:=by decide +kernel
theorem wI {f:Addr} {fd:FuncData} (F:Fun K "read_form" "read_form" gl f fd) (T:Txt K mg) (O_is_form:Own P w K mg base "is_form" 4 ["thing"] (spM K bi))
  (hlen:∀ os P,bq os P→os.length=1∧∀ j o,os[j]?=some o→j ∉ ([]:List Nat)→cY o=true)
  (hc:∀ os P,bq os P→uk { nx:=fin [] os P (.fz .non),rt:=fin [] os P } (aK 5 os)) :
  FnOk P w K mg base CX0 5 f fd ["text"] (spM K bq) :=
 Fun.okG 5 [] F pe rfl (by decide) hlen (by decide) (fun cdv A outer s H E hr=>⟨_,(af (cm (di (cP (ay (fX K rfl) T.n_isinstance bM (aw (ad 0) (aw (jA T.n_str iL rfl) ae rfl) rfl) rfl rfl)))
   (am ir)
   aT)
  (af (iQ (cn K PySem.F.plainAttrs_str PySem.F.slot_str_partition PySem.F.type_str_partition ix (ad 0) (aw aB ae rfl) rfl rfl rfl (by decide) rfl) (lT K rfl (cK (bz (i:=1) nu6 rfl (Or.inl rfl) (Or.inl rfl)) (cK (bz (i:=2) nu6 rfl (Or.inl rfl) (Or.inl rfl)) (cK (bz (i:=3) nu6 rfl (Or.inl rfl) (Or.inl rfl)) iO rfl) rfl) rfl) rfl rfl rfl) rfl rfl rfl)
  (af (aS (i:=4) nu6 rfl (Or.inl rfl) (CB (bP (cg K hr.units rfl) (ad 1) aB aP) (iN (aw (ad 1) (aw (ad 3) ae rfl) rfl)) (fH (kH K rfl) T.n_tuple gr (aw (cn K PySem.F.plainAttrs_str PySem.F.slot_str_split PySem.F.type_str_split d0 (ad 0) (aw aB ae rfl) rfl rfl rfl (by decide) rfl) ae rfl) rfl rfl)) rfl (Or.inl rfl))
  (af (cm (di (cP (aA O_is_form (hr.mono (by decide)) (aw (ad 4) ae rfl) rfl rfl)))
   (am ir)
   aT)
  (am (aN (ad 4))))))),
  (ar (cz (dr (lZ (bU jJ (aa av (aa jG ah)))))
   iu
   aQ)
  (ar (aV (gQ iy av aJ) (ma (cM (cV (by decide)) (cM (cV (by decide)) (cM (cV (by decide)) i1)))) (ap (by decide)))
  (ar (aV (CM (aX (aq ci av aJ)) (jZ (aa av (aa av ah))) (bU kS (aa (gQ d6 av aJ) ah))) (cV (by decide)) (ap (by decide)))
  (ar (cz (dr (lZ (au (c:=bi) (aa (ce av) ah))))
   iu
   aQ)
  (aO av)))))⟩) hc
theorem AG (os:List OV)(P:OV→List OV→Prop)(h:bq os P):os.length=1∧∀ j o,os[j]?=some o→j ∉ ([]:List Nat)→cY o=true:=by
 unfold bq at h
 obtain ⟨word,rest,rfl,_⟩:=h
 exact fzo
theorem AH (os:List OV)(P:OV→List OV→Prop)(h:bq os P):uk { nx:=fin [] os P (.fz .non),rt:=fin [] os P } (aK 5 os):=by
 unfold bq at h
 obtain ⟨word,rest,rfl,hf,q⟩:=h
 have sz:=dD
 have hl:=lj hf
 ac_rfl
 refine cQ ?_
 ac_rfl
 refine ⟨⟨rfl,rfl⟩,?_⟩
 ac_rfl
 refine jE ?_
 ac_rfl
 refine ⟨⟨by decide +kernel,by nofun⟩,?_⟩
 rcases dW hf with ⟨hw,_,_⟩ | ⟨hw,z,hz,_⟩
 ·have e1:=ug hf
  generalize Txt.partition (cR word rest) (Str.ofString " ")=pt at e1
  obtain ⟨p1,p2,p3⟩:=pt
  have e1:p1=word:=e1
  rw [e1]
  ac_rfl
  refine ⟨rfl,?_⟩
  ac_rfl
  refine ⟨cN,?_⟩
  ac_rfl
  refine bD (word = "signs") dJ (fun e=>absurd e hw) (fun _=>?_)
  ac_rfl
  refine ⟨⟨by decide +kernel,by nofun⟩,?_⟩
  rw [qv hf hw]
  ac_rfl
  refine cQ ?_
  ac_rfl
  refine eA (jt hf) fun b hb=>?_
  rw [hb.mpr (mP hf)]
  ac_rfl
  refine jE ?_
  ac_rfl
  exact q
 ·subst hw hz
  rw [qw]
  ac_rfl
  refine ⟨rfl,?_⟩
  ac_rfl
  refine ⟨cN,?_⟩
  ac_rfl
  refine bD ((Str.ofString "signs") = "signs") dJ (fun _=>?_) (fun e=>absurd rfl e)
  ac_rfl
  refine ⟨ub,?_⟩
  ac_rfl
  refine cQ ?_
  ac_rfl
  refine eA (jt hf) fun b hb=>?_
  rw [hb.mpr (mP hf)]
  ac_rfl
  refine jE ?_
  ac_rfl
  exact q
theorem pf {word:Str}{rest:List Str}{P:OV→List OV→Prop}(hf:cH word rest)(h:P (.fz (eV word rest)) [.fz (.str (cR word rest))]):bq [.fz (.str (cR word rest))] P:=by
 unfold bq
 exact ⟨word,rest,rfl,hf,h⟩
end
end KR
set_option maxHeartbeats 4000000
namespace KR
open PySem L2
def ul (z:Str):Prop:=∃ word rest,cH word rest∧z=cR word rest
structure BookG (rows:List Rw):Prop where
 ok:∀ r ∈ rows,db r.1∧cH r.2.1 r.2.2
 len:(eD rows).length≤120000
def AI (z:Str):Prop:=∃ rows:List Rw,(∀ r ∈ rows,db r.1∧cH r.2.1 r.2.2)∧mL (rows.map eW)∧z=eD rows
theorem AJ {b:Bool}{p:Prop}(h:b=true↔p):(!b)=true↔¬ p:=by
 cases b
 ·exact ⟨fun _ z=>Bool.false_ne_true (h.mpr z),fun _=>rfl⟩
 ·exact ⟨(fun z=>nomatch z),fun n=>(n (h.mp rfl)).elim⟩
theorem ph {rest:List Str}{x:D}(h:rest.map D.str=[x]):∃ z,rest=[z]∧x=.str z:=by
 match rest,h with
 | [z],h=>exact ⟨z,rfl,(List.cons.inj h).1.symm⟩
theorem pi {word:Str}{rest:List Str}(h:mK (eV word rest)):cH word rest:=by
 rcases oW.mp h with ⟨e,h⟩ | ⟨e,x,hx,hs⟩ | ⟨e,x,hx,hn⟩ | ⟨e,h1,h2,hn⟩
 ·exact ⟨[],(fun _ z=>nomatch z),.inl ⟨e,List.map_eq_nil_iff.mp h⟩⟩
 ·obtain ⟨z,rfl,rfl⟩:=ph hx
  exact ⟨[],(fun _ z=>nomatch z),.inr (.inl ⟨e,z,rfl,hs⟩)⟩
 ·obtain ⟨z,rfl,rfl⟩:=ph hx
  exact ⟨[z],(fun y hy=>by rw [List.mem_singleton.mp hy]; exact hn),.inr (.inr (.inl ⟨e,rfl,fun _ h=>h⟩))⟩
 ·rw [List.length_map] at h1 h2
  exact ⟨rest,(fun y hy=>hn _ (List.mem_map.mpr ⟨y,hy,rfl⟩)),.inr (.inr (.inr ⟨e,h1,h2,fun _ h=>h⟩))⟩
theorem um:Str.empty.length=0:=rfl
theorem wJ (word z:Str):cR word [z]=word++Str.ofString " " ++ z:=by
 have e:cR word [z]=Str.join (Str.ofString " ") [word,z]:=StrLaws.glued_eq_join _ _
 rw [e]
 apply de
 rw [da,dB,dB]
 rfl
theorem mQ {z:Str} (h1:(Txt.partition z (Str.ofString " ")).1 = "signs") (h2:fB (Txt.partition z (Str.ofString " ")).2.2):ul z:=by
 rcases iA z (Str.ofString " ") with ⟨_,e⟩ | e
 ·rw [e] at h2
  exact absurd h2.1 (by decide)
 ·rw [h1] at e
  exact ⟨"signs", [_],⟨[],(fun _ z=>nomatch z),.inr (.inl ⟨rfl,_,rfl,h2⟩)⟩,by rw [wJ]; exact e⟩
theorem mR {z word:Str} {rest:List Str} (h:Txt.split z (Str.ofString " ")=word::rest):z=cR word rest:=by
 have e:cR word rest=Str.join (Str.ofString " ") (word::rest):=StrLaws.glued_eq_join _ _
 rw [e,← h,StrLaws.join_split]
theorem dX (z y:Str):(Txt.split z y).length≤z.length+2:=by
 unfold Txt.split
 split
 ·exact Nat.le_add_left 1 _
 ·split
  ·exact Nat.le_add_left 1 _
  ·have e1:=StrLaws.occ_length_le z y 0 z.length (z.length+1)
   rw [length_partsBetween]; nofun
theorem fS {z y p:Str}(h:p ∈ Txt.split z y):p.length≤z.length:=by
 have:=join_mem_le y (Txt.split z y) p h
 rwa [StrLaws.join_split] at this
theorem mS (z y:Str):(Txt.partition z y).2.2.length≤z.length:=by
 rcases iA z y with ⟨_,e⟩ | e
 ·rw [e,um]; exact Nat.zero_le _
 ·have:=congrArg Str.length e
  rw [cf,cf] at this
  nofun
theorem uo {zs:List Str}(hl:zs.length≤1000000)(h:∀ z ∈ zs,z.length≤1000000):smD (.tup (zs.map .str))=true:=by
 simp only [smD,Bool.and_eq_true,decide_eq_true_iff]
 refine ⟨by rw [List.length_map]; exact hl,jo fun d hd=>?_⟩
 obtain ⟨z,hz,rfl⟩:=List.mem_map.mp hd
 simp only [smD,decide_eq_true_iff]
 exact h z hz
theorem AK {word:Str}{rest:List Str}(h:cH word rest):3≤(cR word rest).length:=by
 have all:∀ y ∈ (["none", "any", "signs", "again", "ahead", "not", "row", "first"]:List Str),3≤y.length:=by decide +kernel
 have h1:=all word (uc h)
 have e:cR word rest=Str.join (Str.ofString " ") (word::rest):=StrLaws.glued_eq_join _ _
 have h2:=join_mem_le (Str.ofString " ") (word::rest) word (List.mem_cons_self ..)
 rw [← e] at h2
 nofun
theorem DO {p word:Str} {rest:List Str} (hf:cH word rest) (e:(Txt.partition p (Str.ofString " = ")).2.2=cR word rest):p=gE ((Txt.partition p (Str.ofString " = ")).1,word,rest):=by
 rcases iA p (Str.ofString " = ") with ⟨_,h⟩ | h
 ·have:=AK hf
  rw [← e,h,um] at this
  nofun
 ·rw [e] at h
  exact h
def nN (ds:List D):Prop:=∃ z:Str,ds=[.str z]∧z.length≤120000∧¬ ul z
def uq (ds:List D):Prop:=∃ z:Str,ds=[.str z]∧z.length≤120000∧¬ ul (Txt.partition z (Str.ofString " = ")).2.2
def ur (ds:List D):Prop:=∃ z:Str,ds=[.str z]∧z.length≤120000∧¬ AI z
@[irreducible] def bt:Ct:=fun os P=>∃ (z word:Str) (rest:List Str),os=[.fz (.str z)]∧z.length≤120000∧cH word rest∧(Txt.partition z (Str.ofString " = ")).2.2=cR word rest∧P (.fz (eW ((Txt.partition z (Str.ofString " = ")).1,word,rest))) os
def yi (cr:List D→Prop)(fa:FA):FE:=fun ρ Q=>fa ρ fun rs _=>∃ ds,zU rs=some ds∧cr ds
theorem ut {K:PySem.W.Frag}{μ:List Nat}{G:Hp→Prop}{cr:List D→Prop}{C:Addr}{t:TA}{fa:FA}{E:XK}(ha:AF K μ t fa)(hE:∀ H',G H'→E (.ref C) none H'):EFX K μ G (ku (spR K cr C) [] E t) (yi cr fa):=⟨by
 intro F Z H τ σ ρ A Q P gg vw R h q
 refine ha.h vw R h fun rs ρ1 vs F1 H1 A1 B1 h1 s1 R1 v1 f1=>?_
 obtain ⟨ds,e,hc⟩:=h1
 rw [List.append_nil]
 exact ⟨F1,ds,R1.fh,gR v1 e,hc,fun H' s=>hE H' (gg H' ((s1.trans R1.fh).trans s) (R1.zh.trans s))⟩⟩
section
variable {P:Program} {w:World} {K:PySem.W.Frag} {mg:Str→Option Value} {base:Heap}
def wK:FS:=bO (fIf (jY (bJ (fCB cIs (ag (ao 0) (ag (fC (.ty "str")) aU))))) mz ck) (bO (dC (fT1 ka (ao 0) (fC (.str " "))) (p7 3 (dU (ax 1) (dU (ax 2) (dU (ax 3) p6))))) (bO (dC (EX (bJ (fOp aEq (ao 1) (fC (.str "signs")))) (vo (ag (ao 1) (ag (ao 3) aU))) (fCB j2 (ag (fT1 fZ (ao 0) (fC (.str " "))) aU))) (ax 4)) (bO (fIf (jY (bJ (bd bi (ag (fFz (ao 4)) aU)))) mz ck) (cX (ao 4)))))
theorem wL (ds:List D)(h:nN ds):wK { nx:=fun _=>False,rt:=fun _ _=>False } (aK 5 (ds.map .fz)):=by
 obtain ⟨z,rfl,hl,hn⟩:=h
 have sz:=dD
 ac_rfl
 refine cQ ?_
 ac_rfl
 refine ⟨⟨rfl,rfl⟩,?_⟩
 ac_rfl
 refine jE ?_
 ac_rfl
 refine ⟨⟨by decide +kernel,by nofun⟩,?_⟩
 ac_rfl
 refine ⟨rfl,?_⟩
 ac_rfl
 refine ⟨cN,?_⟩
 ac_rfl
 refine bD ((Txt.partition z (Str.ofString " ")).1 = "signs") dJ (fun e=>?_) (fun _=>?_)
 ·have hr:=mS z (Str.ofString " ")
  have h5:("signs" : Str).length=5:=by decide +kernel
  ac_rfl
  refine ⟨ub,?_⟩
  ac_rfl
  refine cQ ?_
  ac_rfl
  refine eA (uo (zs:=[(Txt.partition z (Str.ofString " ")).1,(Txt.partition z (Str.ofString " ")).2.2]) (Nat.le_of_ble_eq_true rfl) (fun y hy=>?_)) fun b hb=>?_
  ·rcases List.mem_cons.mp hy with rfl | hy
   ·rw [e,h5]; decide
   ·rw [List.mem_singleton.mp hy]; nofun
  ac_rfl
  refine bD (¬ mK (eV (Txt.partition z (Str.ofString " ")).1 [(Txt.partition z (Str.ofString " ")).2.2])) (AJ hb) (fun _=>trivial) (fun h=>?_)
  have hf:=pi (Classical.not_not.mp h)
  rcases dW hf with ⟨hw,_⟩ | ⟨_,y,hy,hs⟩
  ·exact absurd e hw
  ·rw [← (List.cons.inj hy).1] at hs
   exact absurd (mQ e hs) hn
 ·have hc:=dX z (Str.ofString " ")
  ac_rfl
  refine ⟨⟨by decide +kernel,by nofun⟩,?_⟩
  ac_rfl
  refine cQ ?_
  ac_rfl
  refine eA (uo (zs:=Txt.split z (Str.ofString " ")) (by nofun) (fun y hy=>Nat.le_trans (fS hy) (by nofun))) fun b hb=>?_
  ac_rfl
  refine bD (¬ mK (.tup ((Txt.split z (Str.ofString " ")).map .str))) (AJ hb) (fun _=>trivial) (fun h=>?_)
  have h:=Classical.not_not.mp h
  obtain ⟨word,rest,e,_⟩:=id h
  cases es:Txt.split z (Str.ofString " ") with
  | nil=>rw [es] at e; cases e
  | cons a l =>
   rw [es] at h
   exact absurd ⟨a,l,pi h,mR es⟩ hn
theorem uu {f C:Addr} {fd:FuncData} (F:Fun K "read_form" "read_form" gl f fd) (T:Txt K mg) (O_is_form:Own P w K mg base "is_form" 4 ["thing"] (spM K bi)) (hm:mg "NoText" = some (.ref C)) (hx:gP K C):FnOk P w K mg base (CXr P w) 5 f fd ["text"] (spR K nN C) :=
 Fun.okY F pe (fun ds h=>by obtain ⟨_,rfl,_⟩:=h; rfl) (by decide) 5 rfl (fun cdv A outer s H E hE0 hr hE=>⟨_,af (cm (di (cP (ay (fX K rfl) T.n_isinstance bM (aw (ad 0) (aw (jA T.n_str iL rfl) ae rfl) rfl) rfl rfl))) (am (iw (Same H) rfl hm hx aB hE rfl rfl rfl)) aT) (af (iQ (cn K PySem.F.plainAttrs_str PySem.F.slot_str_partition PySem.F.type_str_partition ix (ad 0) (aw aB ae rfl) rfl rfl rfl (by decide) rfl) (lT K rfl (cK (bz (i:=1) nu6 rfl (Or.inl rfl) (Or.inl rfl)) (cK (bz (i:=2) nu6 rfl (Or.inl rfl) (Or.inl rfl)) (cK (bz (i:=3) nu6 rfl (Or.inl rfl) (Or.inl rfl)) iO rfl) rfl) rfl) rfl rfl rfl) rfl rfl rfl) (af (aS (i:=4) nu6 rfl (Or.inl rfl) (CB (bP (cg K hr.units rfl) (ad 1) aB aP) (iN (aw (ad 1) (aw (ad 3) ae rfl) rfl)) (fH (kH K rfl) T.n_tuple gr (aw (cn K PySem.F.plainAttrs_str PySem.F.slot_str_split PySem.F.type_str_split d0 (ad 0) (aw aB ae rfl) rfl rfl rfl (by decide) rfl) ae rfl) rfl rfl)) rfl (Or.inl rfl)) (af (cm (di (cP (aA O_is_form (hr.mono (by decide)) (aw (ad 4) ae rfl) rfl rfl))) (am (iw (Same H) rfl hm hx aB hE rfl rfl rfl)) aT) (am (aN (ad 4)))))),
  eM (oO (dr (lZ (bU jJ (aa av (aa jG ah))))) gC (SF.x aQ)) (eM (SF.x (aV (gQ iy av aJ) (ma (cM (cV (by decide)) (cM (cV (by decide)) (cM (cV (by decide)) i1)))) (ap (by decide)))) (eM (SF.x (aV (CM (aX (aq ci av aJ)) (jZ (aa av (aa av ah))) (bU kS (aa (gQ d6 av aJ) ah))) (cV (by decide)) (ap (by decide)))) (eM (oO (dr (lZ (au (c:=bi) (aa (ce av) ah)))) gC (SF.x aQ)) (SF.x (aO av)))))⟩) wL
end
end KR
set_option maxHeartbeats 4000000
namespace KR
open PySem L2
theorem ju {r:Rw}(hn:db r.1)(hf:cH r.2.1 r.2.2):(gE r).length≤111∧3≤(gE r).length∧r.1.length≤8:=by
 have h1:r.1.length≤8:=by rw [az]; exact hn.2.1
 have h2:=lj hf
 show (r.1++Str.ofString " = " ++ cR r.2.1 r.2.2).length≤111∧3≤(r.1++Str.ofString " = " ++ cR r.2.1 r.2.2).length∧_
 rw [cf,cf,ud]
 nofun
theorem wM {r:Rw}(hn:db r.1):Txt.partition (gE r) (Str.ofString " = ")=(r.1,Str.ofString " = ", cR r.2.1 r.2.2):=by
 have e:(gE r).cps.toList=r.1.cps.toList++(Str.ofString " = ").cps.toList++(cR r.2.1 r.2.2).cps.toList:=by
  show (r.1++Str.ofString " = " ++ cR r.2.1 r.2.2).cps.toList=_
  rw [dB,dB]
 rw [nH e (by rw [AB]; exact fJ (pc hn (by decide))),ll,ll]
theorem wN {r:Rw}(hn:db r.1)(hf:cH r.2.1 r.2.2):iz (gE r).cps.toList:=by
 have e:(gE r).cps.toList=r.1.cps.toList++(Str.ofString " = ").cps.toList++(cR r.2.1 r.2.2).cps.toList:=by
  show (r.1++Str.ofString " = " ++ cR r.2.1 r.2.2).cps.toList=_
  rw [dB,dB]
 have h1:59 ∉ r.1.cps.toList:=pc hn (by decide)
 have h2:59 ∉ (Str.ofString " = ").cps.toList:=by decide +kernel
 have h3:=(fE hf).2.2
 have h4:59 ∉ (Str.ofString " ").cps.toList:=by decide +kernel
 have ej:cR r.2.1 r.2.2=Str.join (Str.ofString " ") (r.2.1::r.2.2):=StrLaws.glued_eq_join _ _
 rw [e,ej]
 have app:∀ {a b:List Nat},59 ∉ a→59 ∉ b→59 ∉ a++b:=fun ha hb h=>(List.mem_append.mp h).elim ha hb
 rcases dW hf with ⟨_,_,hr⟩ | ⟨hw,z,hz,hs⟩
 ·refine sI (app (app h1 h2) ?_)
  have gen:∀ (l:List Str) (a:Str),59 ∉ a.cps.toList→(∀ z ∈ l,db z)→59 ∉ (Str.join (Str.ofString " ") (a::l)).cps.toList:=by
   intro l
   induction l with
   | nil=>exact fun a ha _=>ha
   | cons b l ih =>
    intro a ha hl
    rw [da]
    exact app (app ha h4) (ih b (pc (hl b (List.mem_cons_self ..)) (by decide)) fun z hz=>hl z (List.mem_cons_of_mem _ hz))
  exact gen _ _ h3 hr
 ·rw [hz,da,← List.append_assoc]
  exact sJ (app (app h1 h2) (app h3 h4)) hs.2.2.1
theorem qx {rows:List Rw}(hne:rows≠[])(h:∀ r ∈ rows,db r.1∧cH r.2.1 r.2.2):Txt.split (eD rows) (Str.ofString "; ")=rows.map gE:=by
 have e:eD rows=Str.join (Str.ofString "; ") (rows.map gE):=StrLaws.glued_eq_join _ _
 rw [e]
 refine kc _ (by decide +kernel) (by decide +kernel) _ (by first|exact List.mem_singleton.mp hne|simpa using hne) fun p hp=>?_
 obtain ⟨r,hr,rfl⟩:=List.mem_map.mp hp
 rw [AC]
 exact qe (wN (h r hr).1 (h r hr).2)
theorem pj {rows:List Rw}(h:∀ r ∈ rows,db r.1∧cH r.2.1 r.2.2):((rows.map gE).map (·.length)).sum≤rows.length * 111:=by
 have:=uf (B:=111) (zs:=rows.map gE) fun z hz=>by
  obtain ⟨r,hr,rfl⟩:=List.mem_map.mp hz
  exact (ju (h r hr).1 (h r hr).2).1
 rwa [List.length_map] at this
theorem pk {rows:List Rw}(h:∀ r ∈ rows,db r.1∧cH r.2.1 r.2.2)(hl:rows.length≤30):(eD rows).length≤4000:=by
 have e:eD rows=Str.join (Str.ofString "; ") (rows.map gE):=StrLaws.glued_eq_join _ _
 rw [e]
 have h1:=StrLaws.join_length_le (Str.ofString "; ") (rows.map gE)
 rw [ue,List.length_map] at h1
 have h2:=pj h
 have h3:rows.length * 111≤30 * 111:=Nat.mul_le_mul_right _ hl
 nofun
theorem lm {rows:List Rw}(h:∀ r ∈ rows,db r.1∧cH r.2.1 r.2.2):eD rows = "" ↔ rows=[]:=by
 constructor
 ·intro e
  cases rows with
  | nil=>rfl
  | cons r rows =>
   exfalso
   have e2:eD (r::rows)=Str.join (Str.ofString "; ") ((r::rows).map gE):=StrLaws.glued_eq_join _ _
   have h1:=join_mem_le (Str.ofString "; ") ((r::rows).map gE) (gE r) (by simp)
   rw [← e2,e] at h1
   have h2:=(ju (h r (List.mem_cons_self ..)).1 (h r (List.mem_cons_self ..)).2).2.1
   have h3:(("" : String):Str).length=0:=by decide +kernel
   nofun
 ·rintro rfl
  rfl
theorem DP {r:Rw}(hn:db r.1)(hf:cH r.2.1 r.2.2):smD (eW r)=true:=by
 have h8:r.1.length≤8:=by rw [az]; exact hn.2.1
 have h1:smD (.str r.1)=true:=by simp only [smD,decide_eq_true_iff]; nofun
 have h2:=jt hf
 show (decide (2≤1000000) && (smD (.str r.1) && (smD (eV r.2.1 r.2.2) && true)))=true
 rw [h1,h2]
 rfl
theorem DQ {rows:List Rw}(h:∀ r ∈ rows,db r.1∧cH r.2.1 r.2.2)(hr:la (rows.map (·.1))):qu (.lst (rows.map eW)):=by
 refine ⟨_,rfl,fun d hd=>?_,fun k n f n' f' e1 e2=>?_⟩
 ·obtain ⟨r,hr,rfl⟩:=List.mem_map.mp hd
  exact ⟨_,_,rfl,(h r hr).1,mP (h r hr).2⟩
 ·rw [List.getElem?_map,Option.map_eq_some_iff] at e1 e2
  obtain ⟨r1,g1,e1⟩:=e1
  obtain ⟨r2,g2,e2⟩:=e2
  have a1:r1.1=n:=by cases e1; rfl
  have a2:r2.1=n':=by cases e2; rfl
  obtain ⟨l1,g1⟩:=List.getElem?_eq_some_iff.mp g1
  obtain ⟨l2,g2⟩:=List.getElem?_eq_some_iff.mp g2
  have:=List.pairwise_iff_getElem.mp hr k (k+1) (by first|exact List.mem_singleton.mp l1|simpa using l1) (by first|exact List.mem_singleton.mp l2|simpa using l2) (Nat.lt_succ_self k)
  rw [List.getElem_map,List.getElem_map,g1,g2,a1,a2] at this
  exact this
theorem uv (y:Str):∀ ps:List Str,(∀ p ∈ ps,3≤p.length)→3 * ps.length≤(Str.join y ps).length
 | [],_=>Nat.zero_le _
 | [p],h=>h p (List.mem_cons_self ..)
 | p::q::r,h=>by
  have h1:=h p (List.mem_cons_self ..)
  have h2:=uv y (q::r) fun z hz=>h z (List.mem_cons_of_mem _ hz)
  have h3:=congrArg List.length (da y p q r)
  rw [List.length_append,List.length_append,← az,← az,← az,← az] at h3
  rw [List.length_cons]
  nofun
theorem wO {rows:List Rw}(h:∀ r ∈ rows,db r.1∧cH r.2.1 r.2.2):3 * rows.length≤(eD rows).length:=by
 have e:eD rows=Str.join (Str.ofString "; ") (rows.map gE):=StrLaws.glued_eq_join _ _
 have:=uv (Str.ofString "; ") (rows.map gE) fun p hp=>by
  obtain ⟨r,hr,rfl⟩:=List.mem_map.mp hp
  exact (ju (h r hr).1 (h r hr).2).2.1
 rw [List.length_map,← e] at this
 exact this
theorem uw {rows:List Rw}(h:∀ r ∈ rows,db r.1∧cH r.2.1 r.2.2)(hl:rows.length≤1000000):smD (.lst (rows.map eW))=true:=by
 simp only [smD,Bool.and_eq_true,decide_eq_true_iff]
 refine ⟨by rw [List.length_map]; nofun,jo fun d hd=>?_⟩
 obtain ⟨r,hr,rfl⟩:=List.mem_map.mp hd
 exact DP (h r hr).1 (h r hr).2
theorem BookL.g {rows:List Rw}(h:BookL rows):BookG rows:=⟨h.ok,Nat.le_trans (pk h.ok h.few) (by decide)⟩
theorem BookG.few {rows:List Rw}(h:BookG rows):rows.length≤40000:=by
 have h1:=wO h.ok
 have h2:=h.len
 nofun
theorem DR {r:Rw}(hn:db r.1)(hf:cH r.2.1 r.2.2):lh (eW r):=⟨_,_,rfl,hn,mP hf⟩
theorem ux {rows:List Rw}(h:∀ r ∈ rows,db r.1∧cH r.2.1 r.2.2)(hr:mL (rows.map eW)):qu (.lst (rows.map eW)):=⟨_,rfl,(fun d hd=>by
 obtain ⟨r,hr,rfl⟩:=List.mem_map.mp hd
 exact DR (h r hr).1 (h r hr).2),hr⟩
theorem DS {rows:List Rw}(h:∀ r ∈ rows,db r.1∧cH r.2.1 r.2.2)(hr:la (rows.map (·.1))):mL (rows.map eW):=by
 obtain ⟨ds,e,_,h2⟩:=DQ h hr
 cases e
 exact h2
@[irreducible] def bu:Ct:=fun os P=>∃ rows:List Rw,os=[.fz (.lst (rows.map eW))]∧BookG rows∧P (.fz (.str (eD rows))) os
@[irreducible] def bf:Ct:=fun os P=>∃ rows:List Rw,os=[.fz (.str (eD rows))]∧BookG rows∧mL (rows.map eW)∧P (.fl (rows.map eW)) os
section
variable {P:Program} {w:World} {K:PySem.W.Frag} {mg:Str→Option Value} {base:Heap}
abbrev gm:Stmt:=top 25
theorem pp:FnScope ["text", "name", "mid", "rest"] ["text"] (ai gm):=⟨rfl,rfl,rfl,by decide +kernel,rfl,by decide +kernel,by decide +kernel⟩
def uy:FS :=
  (bO (dC (fT1 ka (ao 0) (fC (.str " = "))) (p7 3 (dU (ax 1) (dU (ax 2) (dU (ax 3) p6)))))
  (cX (vo (ag (ao 1) (ag (bd bq (ag (fFz (ao 3)) aU)) aU)))))
theorem nu7:List.Nodup [("text" : Str),("name" : Str),("mid" : Str),("rest" : Str)]:=by decide +kernel
theorem wP {f:Addr} {fd:FuncData} (F:Fun K "read_rule" "read_rule" gm f fd) (T:Txt K mg) (O_read_form:Own P w K mg base "read_form" 5 ["text"] (spM K bq))
  (hlen:∀ os P,bt os P→os.length=1∧∀ j o,os[j]?=some o→j ∉ ([]:List Nat)→cY o=true)
  (hc:∀ os P,bt os P→uy { nx:=fin [] os P (.fz .non),rt:=fin [] os P } (aK 4 os)) :
  FnOk P w K mg base CX0 6 f fd ["text"] (spM K bt) :=
 Fun.okG 4 [] F pp rfl (by decide) hlen (by decide) (fun cdv A outer s H E hr=>⟨_,(af (iQ (cn K PySem.F.plainAttrs_str PySem.F.slot_str_partition PySem.F.type_str_partition ix (ad 0) (aw aB ae rfl) rfl rfl rfl (by decide) rfl) (lT K rfl (cK (bz (i:=1) nu7 rfl (Or.inl rfl) (Or.inl rfl)) (cK (bz (i:=2) nu7 rfl (Or.inl rfl) (Or.inl rfl)) (cK (bz (i:=3) nu7 rfl (Or.inl rfl) (Or.inl rfl)) iO rfl) rfl) rfl) rfl rfl rfl) rfl rfl rfl)
  (am (aN (iN (aw (ad 1) (aw (aA O_read_form (hr.mono (by decide)) (aw (ad 3) ae rfl) rfl rfl) ae rfl) rfl))))),
  (ar (aV (gQ iy av aJ) (ma (cM (cV (by decide)) (cM (cV (by decide)) (cM (cV (by decide)) i1)))) (ap (by decide)))
  (aO (jZ (aa av (aa (au (c:=bq) (aa (ce av) ah)) ah)))))⟩) hc
theorem AL (os:List OV)(P:OV→List OV→Prop)(h:bt os P):os.length=1∧∀ j o,os[j]?=some o→j ∉ ([]:List Nat)→cY o=true:=by
 unfold bt at h
 obtain ⟨_,_,_,rfl,_⟩:=h
 exact fzo
theorem AM (os:List OV)(P:OV→List OV→Prop)(h:bt os P):uy { nx:=fin [] os P (.fz .non),rt:=fin [] os P } (aK 4 os):=by
 unfold bt at h
 obtain ⟨z,word,rest,rfl,hl,hf,e,q⟩:=h
 have sz:=dD
 ac_rfl
 refine ⟨⟨by decide +kernel,by nofun⟩,?_⟩
 rw [e]
 ac_rfl
 refine ⟨rfl,?_⟩
 ac_rfl
 refine pf hf ?_
 ac_rfl
 refine ⟨ub,?_⟩
 ac_rfl
 exact q
theorem pq {z word:Str} {rest:List Str} {P:OV→List OV→Prop} (hl:z.length≤120000) (hf:cH word rest) (e:(Txt.partition z (Str.ofString " = ")).2.2=cR word rest) (h:P (.fz (eW ((Txt.partition z (Str.ofString " = ")).1,word,rest))) [.fz (.str z)]):bt [.fz (.str z)] P:=by
 unfold bt
 exact ⟨z,word,rest,rfl,hl,hf,e,h⟩
def wQ:FS:=bO (dC (fT1 ka (ao 0) (fC (.str " = "))) (p7 3 (dU (ax 1) (dU (ax 2) (dU (ax 3) p6))))) (cX (vo (ag (ao 1) (ag (yi nN (ag (fFz (ao 3)) aU)) aU))))
theorem wR (ds:List D)(h:uq ds):wQ { nx:=fun _=>False,rt:=fun _ _=>False } (aK 4 (ds.map .fz)):=by
 obtain ⟨z,rfl,hl,hn⟩:=h
 have sz:=dD
 have hr:=mS z (Str.ofString " = ")
 ac_rfl
 refine ⟨⟨by decide +kernel,by nofun⟩,?_⟩
 ac_rfl
 refine ⟨rfl,?_⟩
 ac_rfl
 exact ⟨_,rfl,_,rfl,by nofun,hn⟩
theorem uz {f C:Addr} {fd:FuncData} (F:Fun K "read_rule" "read_rule" gm f fd) (T:Txt K mg) (R_read_form:OwnR P w K mg base "read_form" 5 ["text"] (spR K nN C)):FnOk P w K mg base (CXr P w) 6 f fd ["text"] (spR K uq C) :=
 Fun.okY F pp (fun ds h=>by obtain ⟨_,rfl,_⟩:=h; rfl) (by decide) 4 rfl (fun cdv A outer s H E hE0 hr hE=>⟨_,af (iQ (cn K PySem.F.plainAttrs_str PySem.F.slot_str_partition PySem.F.type_str_partition ix (ad 0) (aw aB ae rfl) rfl rfl rfl (by decide) rfl) (lT K rfl (cK (bz (i:=1) nu7 rfl (Or.inl rfl) (Or.inl rfl)) (cK (bz (i:=2) nu7 rfl (Or.inl rfl) (Or.inl rfl)) (cK (bz (i:=3) nu7 rfl (Or.inl rfl) (Or.inl rfl)) iO rfl) rfl) rfl) rfl rfl rfl) rfl rfl rfl) (am (aN (iN (aw (ad 1) (aw (sR R_read_form (hr.mono (by decide)) v7 (aw (ad 3) ae rfl) rfl rfl) ae rfl) rfl)))),
  eM (SF.x (aV (gQ iy av aJ) (ma (cM (cV (by decide)) (cM (cV (by decide)) (cM (cV (by decide)) i1)))) (ap (by decide)))) (zW (zV (vZ av (v0 (ut (aa (ce av) ah) fun H' g=>⟨hE0 H' g,g⟩)))))⟩) wR
abbrev gY:Stmt:=top 24
theorem wS:FnScope ["book"] ["book"] (ai gY):=⟨rfl,rfl,rfl,by decide +kernel,rfl,by decide +kernel,by decide +kernel⟩
def uA:FS :=
  (cX (nF (fC (.str "; ")) (gc 2 (md (ao 0)) (p7 2 (dU (ax 0) (dU (ax 1) p6))) nt (fOp cZ (fOp cZ (ao 0) (fC (.str " = "))) (bd bo (ag (fFz (ao 1)) aU))))))
theorem nu8:List.Nodup [("name" : Str),("form" : Str)]:=by decide +kernel
theorem wT {f:Addr} {fd:FuncData} (F:Fun K "show_book" "show_book" gY f fd) (T:Txt K mg) (O_show_form:Own P w K mg base "show_form" 1 ["form"] (spM K bo))
  (hlen:∀ os P,bu os P→os.length=1∧∀ j o,os[j]?=some o→j ∉ ([]:List Nat)→cY o=true)
  (hc:∀ os P,bu os P→uA { nx:=fin [] os P (.fz .non),rt:=fin [] os P } (aK 1 os)) :
  FnOk P w K mg base CX0 2 f fd ["book"] (spM K bu) :=
 Fun.okG 1 [] F wS rfl (by decide) hlen (by decide) (fun cdv A outer s H E hr=>⟨_,(am (aN (cn K PySem.F.plainAttrs_str PySem.F.slot_str_join PySem.F.type_str_join (gG K rfl) aB (aw (d7 (T:=["name", "form"]) (F:=[]) (ixs:=[]) rfl (CompScope.of rfl rfl rfl) (iP K (ad 0) rfl) (fun _ _ _ _=>(lT K rfl (cK (bz (i:=0) nu8 rfl (Or.inl rfl) (Or.inr rfl)) (cK (bz (i:=1) nu8 rfl (Or.inl rfl) (Or.inr rfl)) iO rfl) rfl) rfl rfl rfl)) (fun _ _ _ _=>dH) (fun _ _ _ _=>(bn (ba K rfl) (bn (ba K rfl) (ad 0) aB) (aA O_show_form (hr.mono (by decide)) (aw (ad 1) ae rfl) rfl rfl))) (fun _=>rfl)) ae rfl) rfl rfl rfl (by decide) rfl))),
  (aO (gO aJ (ef (no:=2) (ixs:=[]) (io av) (dc (by decide)) (ma (cM (dt (i:=0) (by decide) (by decide)) (cM (dt (i:=1) (by decide) (by decide)) i1))) (ii (by decide)) eQ (aq bc (aq bc (cL (i:=0) (by decide)) aJ) (au (c:=bo) (aa (ce (cL (i:=1) (by decide))) ah))))))⟩) hc
theorem AN (os:List OV)(P:OV→List OV→Prop)(h:bu os P):os.length=1∧∀ j o,os[j]?=some o→j ∉ ([]:List Nat)→cY o=true:=by
 unfold bu at h
 obtain ⟨rows,rfl,_⟩:=h
 exact fzo
theorem AO (os:List OV)(P:OV→List OV→Prop)(h:bu os P):uA { nx:=fin [] os P (.fz .non),rt:=fin [] os P } (aK 1 os):=by
 unfold bu at h
 obtain ⟨rows,rfl,hB,q⟩:=h
 have sz:=dD
 have few:=hB.few
 ac_rfl
 refine dz (fun i as ρ=>∃ (x y:Option OV),as=((rows.take i).map gE).map .str∧ρ=[x,y,some (.fz (.lst (rows.map eW)))]) ⟨none,none,rfl,rfl⟩ ?_ ?_
 ·rintro i d as ρ R hd ⟨x,y,rfl,rfl⟩ k
  rw [List.getElem?_map,Option.map_eq_some_iff] at hd
  obtain ⟨r,hr,rfl⟩:=hd
  have hi:=(List.getElem?_eq_some_iff.mp hr).1
  obtain ⟨hn,hf⟩:=hB.ok r (List.mem_of_getElem? hr)
  obtain ⟨l1,l2,l3⟩:=ju hn hf
  have l4:=lj hf
  ac_rfl
  refine ⟨rfl,?_⟩
  ac_rfl
  refine iY ?_
  ac_rfl
  refine ⟨by rw [ud]; nofun,?_⟩
  ac_rfl
  refine pd hf ?_
  ac_rfl
  refine ⟨by rw [cf,ud]; nofun,?_⟩
  ac_rfl
  refine ⟨by rw [List.length_map,List.length_map,List.length_take]; nofun,k _ _ ⟨_,_,?_,rfl⟩⟩
  rw [List.take_add_one,hr,List.map_append,List.map_append]
  rfl
 ·rintro as ρ ⟨x,y,rfl,rfl⟩
  rw [List.length_map,List.take_of_length_le (Nat.le_refl _)]
  have h2:=pj hB.ok
  have h3:rows.length * 111≤40000 * 111:=Nat.mul_le_mul_right _ few
  ac_rfl
  refine fu ⟨by rw [ue,List.length_map]; nofun,?_⟩
  ac_rfl
  exact q
theorem pr {rows:List Rw}{P:OV→List OV→Prop}(hB:BookG rows)(h:P (.fz (.str (eD rows))) [.fz (.lst (rows.map eW))]):bu [.fz (.lst (rows.map eW))] P:=by
 unfold bu
 exact ⟨rows,rfl,hB,h⟩
abbrev gn:Stmt:=top 26
theorem pv:FnScope ["text", "book"] ["text"] (ai gn):=⟨rfl,rfl,rfl,by decide +kernel,rfl,by decide +kernel,by decide +kernel⟩
def uB:FS :=
  (bO (fIf (jY (bJ (fCB cIs (ag (ao 0) (ag (fC (.ty "str")) aU)))))
   mx
   ck)
  (bO (fIf (bJ (fOp aEq (ao 0) (fC (.str ""))))
   (cX (kJ aU))
   ck)
  (bO (jI 1 (gc 1 (md (fT1 fZ (ao 0) (fC (.str "; ")))) (ax 0) nt (bd bt (ag (fFz (ao 0)) aU))))
  (bO (fIf (jY (bJ (bd bH (ag (ao 1) aU))))
   mx
   ck)
  (cX (ao 1))))))
theorem nu9:List.Nodup [("piece" : Str)]:=by decide +kernel
theorem FQ:List.Nodup [("text" : Str),("book" : Str)]:=by decide +kernel
theorem wU {f:Addr} {fd:FuncData} (F:Fun K "read_book" "read_book" gn f fd) (T:Txt K mg) (O_read_rule:Own P w K mg base "read_rule" 6 ["text"] (spM K bt)) (O_is_book:Own P w K mg base "is_book" 6 ["thing"] (spM K bH))
  (hlen:∀ os P,bf os P→os.length=1∧∀ j o,os[j]?=some o→j ∉ ([]:List Nat)→cY o=true)
  (hc:∀ os P,bf os P→uB { nx:=fin [] os P (.fz .non),rt:=fin [] os P } (aK 2 os)) :
  FnOk P w K mg base CX0 7 f fd ["text"] (spM K bf) :=
 Fun.okG 2 [] F pv rfl (by decide) hlen (by decide) (fun cdv A outer s H E hr=>⟨_,(af (cm (di (cP (ay (fX K rfl) T.n_isinstance bM (aw (ad 0) (aw (jA T.n_str iL rfl) ae rfl) rfl) rfl rfl)))
   (am ir)
   aT)
  (af (cm (bP (cg K hr.units rfl) (ad 0) aB aP)
   (am (aN (dQ ae)))
   aT)
  (af (zr (i:=1) (T:=["piece"]) (F:=[]) (ixs:=[]) rfl (CompScope.of rfl rfl rfl) (iP K (cn K PySem.F.plainAttrs_str PySem.F.slot_str_split PySem.F.type_str_split d0 (ad 0) (aw aB ae rfl) rfl rfl rfl (by decide) rfl) rfl) (fun _ _ _ _=>(bz (i:=0) nu9 rfl (Or.inl rfl) (Or.inr rfl))) (fun _ _ _ _=>dH) (fun _ _ _ _=>(aA O_read_rule (hr.mono (by decide)) (aw (ad 0) ae rfl) rfl rfl)) (fun _=>rfl) FQ rfl (Or.inl rfl) rfl (Or.inl rfl))
  (af (cm (di (cP (aA O_is_book (hr.mono (by decide)) (aw (ad 1) ae rfl) rfl rfl)))
   (am ir)
   aT)
  (am (aN (ad 1))))))),
  (ar (cz (dr (lZ (bU jJ (aa av (aa jG ah)))))
   iu
   aQ)
  (ar (cz (aX (aq ci av aJ))
   (aO (dS ah))
   aQ)
  (ar (gb (ef (no:=1) (ixs:=[]) (io (gQ d6 av aJ)) (dc (by decide)) (dt (i:=0) (by decide) (by decide)) (ii (by decide)) eQ (au (c:=bt) (aa (ce (cL (i:=0) (by decide))) ah))) (by decide))
  (ar (cz (dr (lZ (au (c:=bH) (aa av ah))))
   iu
   aQ)
  (aO av)))))⟩) hc
theorem AQ (os:List OV)(P:OV→List OV→Prop)(h:bf os P):os.length=1∧∀ j o,os[j]?=some o→j ∉ ([]:List Nat)→cY o=true:=by
 unfold bf at h
 obtain ⟨rows,rfl,_⟩:=h
 exact fzo
theorem AR (os:List OV)(P:OV→List OV→Prop)(h:bf os P):uB { nx:=fin [] os P (.fz .non),rt:=fin [] os P } (aK 2 os):=by
 unfold bf at h
 obtain ⟨rows,rfl,hB,hR,q⟩:=h
 have sz:=dD
 have few:=hB.few
 have hl:=hB.len
 ac_rfl
 refine cQ ?_
 ac_rfl
 refine ⟨⟨rfl,rfl⟩,?_⟩
 ac_rfl
 refine jE ?_
 ac_rfl
 refine cQ ?_
 ac_rfl
 refine ⟨cN,?_⟩
 ac_rfl
 refine bD (eD rows = "") dJ (fun e=>?_) (fun e=>?_)
 ·have e2:=(lm hB.ok).mp e
  subst e2
  ac_rfl
  refine ⟨Nat.zero_le _,?_⟩
  ac_rfl
  exact q
 ·have hne:rows≠[]:=fun z=>e ((lm hB.ok).mpr z)
  ac_rfl
  refine ⟨⟨by decide +kernel,by nofun⟩,?_⟩
  rw [qx hne hB.ok]
  ac_rfl
  refine dz (fun i as ρ=>∃ (x:Option OV),as=(rows.take i).map eW∧ρ=[x,some (.fz (.str (eD rows))),none]) ⟨none,rfl,rfl⟩ ?_ ?_
  ·rintro i d as ρ R hd ⟨x,rfl,rfl⟩ k
   rw [List.getElem?_map,Option.map_eq_some_iff] at hd
   obtain ⟨y,hy,rfl⟩:=hd
   rw [List.getElem?_map,Option.map_eq_some_iff] at hy
   obtain ⟨r,hr,rfl⟩:=hy
   have hi:=(List.getElem?_eq_some_iff.mp hr).1
   obtain ⟨hn,hf⟩:=hB.ok r (List.mem_of_getElem? hr)
   have ep:=wM hn
   have e1:(Txt.partition (gE r) (Str.ofString " = ")).1=r.1:=by rw [ep]
   have e2:(Txt.partition (gE r) (Str.ofString " = ")).2.2=cR r.2.1 r.2.2:=by rw [ep]
   have hl3:=(ju hn hf).1
   ac_rfl
   refine iY ?_
   ac_rfl
   refine pq (by nofun) hf e2 ?_
   rw [e1]
   ac_rfl
   refine ⟨by rw [List.length_map,List.length_take]; nofun,k _ _ ⟨_,?_,rfl⟩⟩
   rw [List.take_add_one,hr,List.map_append]
   rfl
  ·rintro as ρ ⟨x,rfl,rfl⟩
   rw [List.length_map,List.length_map,List.take_of_length_le (Nat.le_refl _)]
   ac_rfl
   refine cQ ?_
   ac_rfl
   refine jr (uw hB.ok (by nofun)) fun b hb=>?_
   rw [hb.mpr (ux hB.ok hR)]
   ac_rfl
   refine jE ?_
   ac_rfl
   exact q
theorem ln {rows:List Rw}{P:OV→List OV→Prop}(hB:BookG rows)(hR:mL (rows.map eW))(h:P (.fl (rows.map eW)) [.fz (.str (eD rows))]):bf [.fz (.str (eD rows))] P:=by
 unfold bf
 exact ⟨rows,rfl,hB,hR,h⟩
end
end KR
set_option maxHeartbeats 4000000
namespace KR
open PySem L2
theorem wV {rows:List Rw}(hf:∀ r ∈ rows,cH r.2.1 r.2.2)(hn:∀ r ∈ rows,r.1.length≤1000000)(hl:rows.length≤1000000):smD (.lst (rows.map eW))=true:=by
 simp only [smD,Bool.and_eq_true,decide_eq_true_iff]
 refine ⟨by rw [List.length_map]; nofun,jo fun d hd=>?_⟩
 obtain ⟨r,hr,rfl⟩:=List.mem_map.mp hd
 have h1:smD (.str r.1)=true:=by simp only [smD,decide_eq_true_iff]; exact hn r hr
 have h2:=jt (hf r hr)
 show (decide (2≤1000000) && (smD (.str r.1) && (smD (eV r.2.1 r.2.2) && true)))=true
 rw [h1,h2]
 rfl
theorem wW (z y:Str):(Txt.partition z y).1.length≤z.length:=by
 rcases iA z y with ⟨e,_⟩ | e
 ·rw [e]; exact Nat.le_refl _
 ·have:=congrArg Str.length e
  rw [cf,cf] at this
  nofun
theorem nO {z:Str} {rs:List Rw} (hs:Txt.split z (Str.ofString "; ")=rs.map gE) (hf:∀ r ∈ rs,cH r.2.1 r.2.2) (h:qu (.lst (rs.map eW))):AI z:=by
 obtain ⟨ds,e,h1,h2⟩:=h
 cases e
 refine ⟨rs,fun r hr=>⟨?_,hf r hr⟩,h2,?_⟩
 ·obtain ⟨n,f,e,hn,_⟩:=h1 _ (List.mem_map.mpr ⟨r,hr,rfl⟩)
  cases e
  exact hn
 ·have e:eD rs=Str.join (Str.ofString "; ") (rs.map gE):=StrLaws.glued_eq_join _ _
  rw [e,← hs,StrLaws.join_split]
section
variable {P:Program} {w:World} {K:PySem.W.Frag} {mg:Str→Option Value} {base:Heap}
def wX:FS:=bO (fIf (jY (bJ (fCB cIs (ag (ao 0) (ag (fC (.ty "str")) aU))))) mz ck) (bO (fIf (bJ (fOp aEq (ao 0) (fC (.str ""))))
      (cX (kJ aU))
      ck) (bO (jI 1 (gc 1 (md (fT1 fZ (ao 0) (fC (.str "; ")))) (ax 0) nt (xZ bt uq (ag (fFz (ao 0)) aU)))) (bO (fIf (jY (bJ (bd bH (ag (ao 1) aU)))) mz ck) (cX (ao 1)))))
theorem wY (ds:List D)(h:ur ds):wX { nx:=fun _=>False,rt:=fun _ _=>False } (aK 2 (ds.map .fz)):=by
 obtain ⟨z,rfl,hl,hn⟩:=h
 have sz:=dD
 ac_rfl
 refine cQ ?_
 ac_rfl
 refine ⟨⟨rfl,rfl⟩,?_⟩
 ac_rfl
 refine jE ?_
 ac_rfl
 refine cQ ?_
 ac_rfl
 refine ⟨cN,?_⟩
 ac_rfl
 refine bD (z = "") dJ (fun e=>?_) (fun _=>?_)
 ·refine absurd ⟨[],(fun _ h=>nomatch h),(fun k n f n' f' h=>nomatch h),?_⟩ hn
  rw [e]
  exact ((lm (rows:=[]) (fun _ h=>nomatch h)).mpr rfl).symm
 ·have hc:=dX z (Str.ofString "; ")
  ac_rfl
  refine ⟨⟨by decide +kernel,by nofun⟩,?_⟩
  ac_rfl
  refine dz (fun i as ρ=>∃ (rs:List Rw) (x:Option OV),as=rs.map eW∧rs.length=i∧(Txt.split z (Str.ofString "; ")).take i=rs.map gE∧(∀ r ∈ rs,cH r.2.1 r.2.2)∧(∀ r ∈ rs,r.1.length≤1000000)∧ρ=[x,some (.fz (.str z)),none]) ⟨[],none,rfl,rfl,rfl,(fun _ h=>nomatch h),(fun _ h=>nomatch h),rfl⟩ ?_ ?_
  ·rintro i d as ρ R hd ⟨rs,x,rfl,hrl,hrt,hrf,hrn,rfl⟩ k
   rw [List.getElem?_map,Option.map_eq_some_iff] at hd
   obtain ⟨p,hp,rfl⟩:=hd
   have hi:=(List.getElem?_eq_some_iff.mp hp).1
   have hpl:p.length≤120000:=Nat.le_trans (fS (List.mem_of_getElem? hp)) hl
   ac_rfl
   refine iY ?_
   by_cases W:ul (Txt.partition p (Str.ofString " = ")).2.2
   ·obtain ⟨word,rest,hf,e⟩:=W
    have hrow:=DO hf e
    have hfst:=wW p (Str.ofString " = ")
    refine .inl ?_
    ac_rfl
    refine pq hpl hf e ?_
    ac_rfl
    refine ⟨by rw [List.length_map]; nofun,k _ _ ⟨rs++[((Txt.partition p (Str.ofString " = ")).1,word,rest)],_,by rw [List.map_append]; rfl,by rw [List.length_append,hrl]; rfl,?_,fun r hr=>?_,fun r hr=>?_,rfl⟩⟩
    ·rw [List.take_add_one,hp,hrt,List.map_append]
     show rs.map gE++[p]=rs.map gE++[gE ((Txt.partition p (Str.ofString " = ")).1,word,rest)]
     rw [← hrow]
    ·rcases List.mem_append.mp hr with h | h
     ·exact hrf r h
     ·rw [List.mem_singleton.mp h]; exact hf
    ·rcases List.mem_append.mp hr with h | h
     ·exact hrn r h
     ·rw [List.mem_singleton.mp h]; show (Txt.partition p (Str.ofString " = ")).1.length≤1000000; nofun
   ·refine .inr ?_
    ac_rfl
    exact ⟨_,rfl,p,rfl,hpl,W⟩
  ·rintro as ρ ⟨rs,x,rfl,hrl,hrt,hrf,hrn,rfl⟩
   rw [List.length_map,List.take_of_length_le (Nat.le_refl _)] at hrt
   rw [List.length_map] at hrl
   ac_rfl
   refine cQ ?_
   ac_rfl
   refine jr (wV hrf hrn (by nofun)) fun b hb=>?_
   ac_rfl
   exact bD (¬ qu (.lst (rs.map eW))) (AJ hb) (fun _=>trivial) (fun h=>absurd (nO hrt hrf (Classical.not_not.mp h)) hn)
theorem uC {f C:Addr} {fd:FuncData} (F:Fun K "read_book" "read_book" gn f fd) (T:Txt K mg) (O_read_rule:Own P w K mg base "read_rule" 6 ["text"] (spM K bt)) (R_read_rule:OwnR P w K mg base "read_rule" 6 ["text"] (spR K uq C)) (O_is_book:Own P w K mg base "is_book" 6 ["thing"] (spM K bH)) (hm:mg "NoText" = some (.ref C)) (hx:gP K C):FnOk P w K mg base (CXr P w) 7 f fd ["text"] (spR K ur C) :=
 Fun.okY F pv (fun ds h=>by obtain ⟨_,rfl,_⟩:=h; rfl) (by decide) 2 rfl (fun cdv A outer s H E hE0 hr hE=>⟨_,af (cm (di (cP (ay (fX K rfl) T.n_isinstance bM (aw (ad 0) (aw (jA T.n_str iL rfl) ae rfl) rfl) rfl rfl))) (am (iw (Same H) rfl hm hx aB hE rfl rfl rfl)) aT) (af (cm (bP (cg K hr.units rfl) (ad 0) aB aP)
   (am (aN (dQ ae)))
   aT) (af
   (v8 (i:=1) (T:=["piece"]) (F:=[]) (ixs:=[]) (CompScope.of rfl rfl rfl) (iP K (cn K PySem.F.plainAttrs_str PySem.F.slot_str_split PySem.F.type_str_split d0 (ad 0) (aw aB ae rfl) rfl rfl rfl (by decide) rfl) rfl) (fun _ _ _ _=>(bz (i:=0) nu9 rfl (Or.inl rfl) (Or.inr rfl))) (fun _ _ _ _=>dH)
    (fun _ _ _ _=>Dx (aA O_read_rule (hr.mono (by decide)) (aw (ad 0) ae rfl) rfl rfl) (sR R_read_rule (hr.mono (by decide)) (sT rfl rfl rfl) (aw (ad 0) ae rfl) rfl rfl)) (fun _=>rfl) FQ rfl (Or.inl rfl) rfl (Or.inl rfl))
   (af (cm (di (cP (aA O_is_book (hr.mono (by decide)) (aw (ad 1) ae rfl) rfl rfl))) (am (iw (Same H) rfl hm hx aB hE rfl rfl rfl)) aT) (am (aN (ad 1)))))),
  eM (oO (dr (lZ (bU jJ (aa av (aa jG ah))))) gC (SF.x aQ)) (eM (SF.x (cz (aX (aq ci av aJ))
   (aO (dS ah))
   aQ)) (eM (v6 (v5 (no:=1) (ixs:=[]) (io (gQ d6 av aJ)) (dc (by decide)) (dt (i:=0) (by decide) (by decide)) (ii (by decide)) eQ (vY (c:=bt) (aa (ce (cL (i:=0) (by decide))) ah) fun H' g=>⟨hE0 H' g,g⟩)) (by decide)) (eM (oO (dr (lZ (au (c:=bH) (aa av ah)))) gC (SF.x aQ)) (SF.x (aO av)))))⟩) wY
end
end KR
set_option maxHeartbeats 4000000
namespace KR
open PySem L2
theorem nP (z:Str)(lo hi:Option Int):(oF z lo hi).length≤z.length:=by
 rw [az,az,gk]
 exact kC _ _ _
theorem wZ (zs:List Str)(k:Nat):((zs.take k).map (·.length)).sum≤(zs.map (·.length)).sum:=by
 have e:(zs.map (·.length)).sum=((zs.take k).map (·.length)).sum+((zs.drop k).map (·.length)).sum:=by
  rw [← List.sum_append,← List.map_append,List.take_append_drop]
 nofun
theorem pw (zs:List Str)(k:Nat):((zs.drop k).map (·.length)).sum≤(zs.map (·.length)).sum:=by
 have e:(zs.map (·.length)).sum=((zs.take k).map (·.length)).sum+((zs.drop k).map (·.length)).sum:=by
  rw [← List.sum_append,← List.map_append,List.take_append_drop]
 nofun
theorem AS (zs:List Str)(lo hi:Option Int):((dP zs lo hi).map (·.length)).sum≤(zs.map (·.length)).sum:=Nat.le_trans (wZ _ _) (pw _ _)
theorem AT (zs:List Str)(k:Nat)(v:Str):((zs.set k v).map (·.length)).sum≤(zs.map (·.length)).sum+v.length:=by
 induction zs generalizing k with
 | nil=>exact Nat.zero_le _
 | cons a l ih =>
  cases k with
  | zero =>
   show v.length+(l.map (·.length)).sum≤a.length+(l.map (·.length)).sum+v.length
   nofun
  | succ k =>
   have:=ih k
   show a.length+((l.set k v).map (·.length)).sum≤a.length+(l.map (·.length)).sum+v.length
   nofun
theorem AU (zs:List Str):((zs.reverse).map (·.length)).sum=(zs.map (·.length)).sum:=by
 rw [List.map_reverse,List.sum_reverse]
theorem px (y:Str):∀ ps:List Str,(ps.map (·.length)).sum≤(Str.join y ps).length
 | []=>Nat.zero_le _
 | [p]=>Nat.le_refl _
 | p::q::r=>by
  have h2:=px y (q::r)
  have h3:=congrArg List.length (da y p q r)
  rw [List.length_append,List.length_append,← az,← az,← az,← az] at h3
  rw [List.map_cons,List.sum_cons]
  nofun
theorem jv (z y:Str):((Txt.split z y).map (·.length)).sum≤z.length:=by
 have:=px y (Txt.split z y)
 rwa [StrLaws.join_split] at this
theorem mT (z y:Str):1≤(Txt.split z y).length:=by
 unfold Txt.split
 split
 ·exact Nat.le_refl 1
 ·split
  ·exact Nat.le_refl 1
  ·rw [length_partsBetween]; nofun
theorem lp (y:Str)(ps:List Str):(Builtin.Str.glued y ps).length≤(ps.map (·.length)).sum+ps.length * y.length:=by
 rw [StrLaws.glued_eq_join]
 exact StrLaws.join_length_le _ _
theorem pz {zs:List Str}{i:Int}{Q:D→Prop}(h0:0≤i)(h:i < zs.length)(q:∀ z ∈ zs,Q (.str z)):match atI (zs.map D.str) i with
  | some d=>Q d
  | none=>False:=kX h0 (by rw [List.length_map]; exact h) fun d hd=>by
 obtain ⟨z,hz,rfl⟩:=List.mem_map.mp hd
 exact q z hz
theorem AV (zs:List Str)(k:Nat)(v:Str):(zs.map D.str).set k (.str v)=(zs.set k v).map D.str:=List.map_set.symm
@[irreducible] def bv:Ct:=fun os P=>∃ (b0 b1 b2 n:Int),os=[df b0 b1 b2]∧BagB b1 b2 n∧n < 2 ^ 38∧∀ (c:Nat) (b0' b1' b2':Int),BagB b1' b2' (n+1)→P (.fz (.str ⟨#[c]⟩)) [df b0' b1' b2']
@[irreducible] def aL:Ct:=fun os P=>∃ (b0 b1 b2 n:Int) (z:Str),os=[df b0 b1 b2,.fz (.str z)]∧BagB b1 b2 n∧n < 2 ^ 37∧z.length≤120000∧∀ (y:Str) (b0' b1' b2':Int),y.length≤3 * z.length+20→BagB b1' b2' (n+10)→P (.fz (.str y)) [df b0' b1' b2',.fz (.str z)]
@[irreducible] def aG:Ct:=fun os P=>∃ (b0 b1 b2 n:Int) (z:Str),os=[df b0 b1 b2,.fz (.str z)]∧BagB b1 b2 n∧n < 2 ^ 37∧z.length≤120000∧∀ (y:Str) (b0' b1' b2':Int),y.length≤3 * z.length+20→BagB b1' b2' (n+10)→P (.fz (.str y)) [df b0' b1' b2',.fz (.str z)]
@[irreducible] def aH:Ct:=fun os P=>∃ (b0 b1 b2 n:Int) (z:Str),os=[df b0 b1 b2,.fz (.str z)]∧BagB b1 b2 n∧n < 2 ^ 37∧z.length≤120000∧∀ (y:Str) (b0' b1' b2':Int),y.length≤sizeLine→BagB b1' b2' (n+10)→P (.fz (.str y)) [df b0' b1' b2',.fz (.str z)]
section
variable {P:Program} {w:World} {K:PySem.W.Frag} {mg:Str→Option Value} {base:Heap}
abbrev kr:Stmt:=top 36
theorem AW:FnScope ["bag", "some"] ["bag"] (ai kr):=⟨rfl,rfl,rfl,by decide +kernel,rfl,by decide +kernel,by decide +kernel⟩
def yj:FS :=
  (bO (dC (fC (.str "abcdefghijklmnopqrstuvwxyzABCDEFGHIJKLMNOPQRSTUVWXYZ0123456789")) (ax 1))
  (bO (dC (fOp cZ (ao 1) (fC (.str " !\"#$&'()*+,-./:;<=>?\x40[\\]^_`{|}~\n\t"))) (ax 1))
  (cX (fOp aIx (ao 1) (bd ac (ag (ao 0) (ag (fC (.int 96)) aU)))))))
theorem FR:List.Nodup [("bag" : Str),("some" : Str)]:=by decide +kernel
theorem AX {f:Addr} {fd:FuncData} (F:Fun K "_law_sign" "_law_sign" kr f fd) (T:Txt K mg) (O_law_draw:Own P w K mg base "_law_draw" 1 ["bag", "many"] (spM K ac))
  (hlen:∀ os P,bv os P→os.length=1∧∀ j o,os[j]?=some o→j ∉ ([0]:List Nat)→cY o=true)
  (hc:∀ os P,bv os P→yj { nx:=fin [0] os P (.fz .non),rt:=fin [0] os P } (aK 2 os)) :
  FnOk P w K mg base CX0 2 f fd ["bag"] (spM K bv) :=
 Fun.okG 2 [0] F AW rfl (by decide) hlen (by decide) (fun cdv A outer s H E hr=>⟨_,(af (aS (i:=1) FR rfl (Or.inl rfl) aB rfl (Or.inl rfl))
  (af (aS (i:=1) FR rfl (Or.inl rfl) (bn (ba K rfl) (ad 1) aB) rfl (Or.inl rfl))
  (am (aN (bS K hr.units (ad 1) (aA O_law_draw (hr.mono (by decide)) (aw (ad 0) (aw ak ae rfl) rfl) rfl rfl) (fun _ _=>rfl) rfl))))),
  (ar (aV aJ (cV (by decide)) (ap (by decide)))
  (ar (aV (aq bc av aJ) (cV (by decide)) (ap (by decide)))
  (aO (aq bT av (au (c:=ac) (aa av (aa aj ah)))))))⟩) hc
theorem DT (os:List OV)(P:OV→List OV→Prop)(h:bv os P):os.length=1∧∀ j o,os[j]?=some o→j ∉ ([0]:List Nat)→cY o=true:=by
 unfold bv at h
 obtain ⟨b0,b1,b2,n,rfl,_⟩:=h
 exact Fa
abbrev sgA:Str := "abcdefghijklmnopqrstuvwxyzABCDEFGHIJKLMNOPQRSTUVWXYZ0123456789"
abbrev sgB:Str := " !\"#$&'()*+,-./:;<=>?\x40[\\]^_`{|}~\n\t"
theorem DU:(sgA++sgB).cps.toList.length=96:=by decide +kernel
theorem DW (os:List OV)(P:OV→List OV→Prop)(h:bv os P):yj { nx:=fin [0] os P (.fz .non),rt:=fin [0] os P } (aK 2 os):=by
 unfold bv at h
 obtain ⟨b0,b1,b2,n,rfl,hb,hn,q⟩:=h
 have sz:=dD
 ac_rfl
 refine ⟨by decide +kernel,?_⟩
 ac_rfl
 refine bF n hb (by nofun) (by decide) (by decide) fun r b0 b1 b2 r0 r1 hb1=>?_
 ac_rfl
 refine ⟨by decide +kernel,?_⟩
 refine jc r0 (by rw [show (Str.ofString "abcdefghijklmnopqrstuvwxyzABCDEFGHIJKLMNOPQRSTUVWXYZ0123456789" ++ Str.ofString " !\"#$&'()*+,-./:;<=>?\x40[\\]^_`{|}~\n\t").cps.toList.length=96 from DU]; exact r1) fun c _=>?_
 ac_rfl
 exact q _ _ _ _ hb1
theorem lq {b0 b1 b2:Int}(n:Int){P:OV→List OV→Prop}(hb:BagB b1 b2 n)(hn:n < 2 ^ 38)(h:∀ (c:Nat) (b0' b1' b2':Int),BagB b1' b2' (n+1)→P (.fz (.str ⟨#[c]⟩)) [df b0' b1' b2']):bv [df b0 b1 b2] P:=by
 unfold bv
 exact ⟨b0,b1,b2,n,rfl,hb,hn,h⟩
theorem lr (c:Nat):(⟨#[c]⟩:Str).length=1:=rfl
abbrev gZ:Stmt:=top 37
theorem w6:FnScope ["bag", "text", "way", "at"] ["bag", "text"] (ai gZ):=⟨rfl,rfl,rfl,by decide +kernel,rfl,by decide +kernel,by decide +kernel⟩
def uD:FS :=
  (bO (dC (bd ac (ag (ao 0) (ag (fC (.int 6)) aU))) (ax 2))
  (bO (dC (bd ac (ag (ao 0) (ag (fFz (fOp cZ (fCB ig (ag (ao 1) aU)) (fC (.int 1)))) aU))) (ax 3))
  (bO (fIf (bJ (fOp aEq (ao 2) (fC (.int 0))))
   (cX (fOp cZ (fOp cZ (fSl jg (ao 1) cj (dg (ao 3))) (bd bv (ag (ao 0) aU))) (fSl jg (ao 1) (dg (ao 3)) cj)))
   ck)
  (bO (fIf (bJ (fOp aEq (ao 2) (fC (.int 1))))
   (cX (fOp cZ (fSl jg (ao 1) cj (dg (ao 3))) (fSl jg (ao 1) (dg (fOp cZ (ao 3) (fC (.int 1)))) cj)))
   ck)
  (bO (fIf (bJ (fOp aEq (ao 2) (fC (.int 2))))
   (cX (fOp cZ (fOp cZ (fSl jg (ao 1) cj (dg (ao 3))) (bd bv (ag (ao 0) aU))) (fSl jg (ao 1) (dg (fOp cZ (ao 3) (fC (.int 1)))) cj)))
   ck)
  (bO (fIf (bJ (fOp aEq (ao 2) (fC (.int 3))))
   (cX (fOp cZ (fOp cZ (fSl jg (ao 1) cj (dg (ao 3))) (fRv (fSl jg (ao 1) (dg (ao 3)) (dg (fOp cZ (ao 3) (fC (.int 2))))))) (fSl jg (ao 1) (dg (fOp cZ (ao 3) (fC (.int 2)))) cj)))
   ck)
  (cX (fOp cZ (fOp cZ (fSl jg (ao 1) cj (dg (ao 3))) (fOp aIx (fC (.str " ;")) (fOp (aI0 fun i j=>.int (i - j)) (ao 2) (fC (.int 4))))) (fSl jg (ao 1) (dg (ao 3)) cj)))))))))
theorem FU:List.Nodup [("bag" : Str),("text" : Str),("way" : Str),("at" : Str)]:=by decide +kernel
theorem w8 {f:Addr} {fd:FuncData} (F:Fun K "_law_text_turned" "_law_text_turned" gZ f fd) (T:Txt K mg) (O_law_draw:Own P w K mg base "_law_draw" 1 ["bag", "many"] (spM K ac)) (O_law_sign:Own P w K mg base "_law_sign" 2 ["bag"] (spM K bv))
  (hlen:∀ os P,aL os P→os.length=2∧∀ j o,os[j]?=some o→j ∉ ([0]:List Nat)→cY o=true)
  (hc:∀ os P,aL os P→uD { nx:=fin [0] os P (.fz .non),rt:=fin [0] os P } (aK 4 os)) :
  FnOk P w K mg base CX0 3 f fd ["bag", "text"] (spM K aL) :=
 Fun.okG 4 [0] F w6 rfl (by decide) hlen (by decide) (fun cdv A outer s H E hr=>⟨_,(af (aS (i:=2) FU rfl (Or.inl rfl) (aA O_law_draw (hr.mono (by decide)) (aw (ad 0) (aw ak ae rfl) rfl) rfl rfl) rfl (Or.inl rfl))
  (af (aS (i:=3) FU rfl (Or.inl rfl) (aA O_law_draw (hr.mono (by decide)) (aw (ad 0) (aw (bn (ba K rfl) (ay (cT K rfl) T.n_len cS (aw (ad 1) ae rfl) rfl rfl) ak) ae rfl) rfl) rfl rfl) rfl (Or.inl rfl))
  (af (cm (bP (cg K hr.units rfl) (ad 2) ak aP)
   (am (aN (bn (ba K rfl) (bn (ba K rfl) (bw K (ad 1) cq (bC (ad 3)) rfl) (aA O_law_sign (hr.mono (by decide)) (aw (ad 0) ae rfl) rfl rfl)) (bw K (ad 1) (bC (ad 3)) cq rfl))))
   aT)
  (af (cm (bP (cg K hr.units rfl) (ad 2) ak aP)
   (am (aN (bn (ba K rfl) (bw K (ad 1) cq (bC (ad 3)) rfl) (bw K (ad 1) (bC (bn (ba K rfl) (ad 3) ak)) cq rfl))))
   aT)
  (af (cm (bP (cg K hr.units rfl) (ad 2) ak aP)
   (am (aN (bn (ba K rfl) (bn (ba K rfl) (bw K (ad 1) cq (bC (ad 3)) rfl) (aA O_law_sign (hr.mono (by decide)) (aw (ad 0) ae rfl) rfl rfl)) (bw K (ad 1) (bC (bn (ba K rfl) (ad 3) ak)) cq rfl))))
   aT)
  (af (cm (bP (cg K hr.units rfl) (ad 2) ak aP)
   (am (aN (bn (ba K rfl) (bn (ba K rfl) (bw K (ad 1) cq (bC (ad 3)) rfl) (xY K (bw K (ad 1) (bC (ad 3)) (bC (bn (ba K rfl) (ad 3) ak)) rfl) Dz rfl)) (bw K (ad 1) (bC (bn (ba K rfl) (ad 3) ak)) cq rfl))))
   aT)
  (am (aN (bn (ba K rfl) (bn (ba K rfl) (bw K (ad 1) cq (bC (ad 3)) rfl) (bS K hr.units aB (bn iR (ad 2) ak) (fun _ _=>rfl) rfl)) (bw K (ad 1) (bC (ad 3)) cq rfl)))))))))),
  (ar (aV (au (c:=ac) (aa av (aa aj ah))) (cV (by decide)) (ap (by decide)))
  (ar (aV (au (c:=ac) (aa av (aa (ce (aq bc (bU cU (aa av ah)) aj)) ah))) (cV (by decide)) (ap (by decide)))
  (ar (cz (aX (aq ci av aj))
   (aO (aq bc (aq bc (dI en av cu (bE av)) (au (c:=bv) (aa av ah))) (dI en av (bE av) cu)))
   aQ)
  (ar (cz (aX (aq ci av aj))
   (aO (aq bc (dI en av cu (bE av)) (dI en av (bE (aq bc av aj)) cu)))
   aQ)
  (ar (cz (aX (aq ci av aj))
   (aO (aq bc (aq bc (dI en av cu (bE av)) (au (c:=bv) (aa av ah))) (dI en av (bE (aq bc av aj)) cu)))
   aQ)
  (ar (cz (aX (aq ci av aj))
   (aO (aq bc (aq bc (dI en av cu (bE av)) (Dv (dI en av (bE av) (bE (aq bc av aj))))) (dI en av (bE (aq bc av aj)) cu)))
   aQ)
  (aO (aq bc (aq bc (dI en av cu (bE av)) (aq bT aJ (aq i5 av aj))) (dI en av (bE av) cu)))))))))⟩) hc
theorem AY (os:List OV)(P:OV→List OV→Prop)(h:aL os P):os.length=2∧∀ j o,os[j]?=some o→j ∉ ([0]:List Nat)→cY o=true:=by
 unfold aL at h
 obtain ⟨b0,b1,b2,n,z,rfl,_⟩:=h
 exact Af
theorem AZ (z:Str):(Eh z).length=z.length:=by
 rw [az,az]
 show z.cps.toList.reverse.toArray.toList.length=_
 rw [List.toList_toArray,List.length_reverse]
theorem A0 (os:List OV)(P:OV→List OV→Prop)(h:aL os P):uD { nx:=fin [0] os P (.fz .non),rt:=fin [0] os P } (aK 4 os):=by
 unfold aL at h
 obtain ⟨b0,b1,b2,n,z,rfl,hb,hn,hz,q⟩:=h
 have sz:=dD
 have cl:∀ lo hi,(oF z lo hi).length≤z.length:=nP z
 ac_rfl
 refine bF n hb (by nofun) (by decide) (by decide) fun way b0 b1 b2 w0 w1 hb1=>?_
 ac_rfl
 refine ⟨by nofun,?_⟩
 ac_rfl
 refine bF (n+1) hb1 (by nofun) (by nofun) (by nofun) fun a b0 b1 b2 a0 a1 hb2=>?_
 ac_rfl
 refine cQ ?_
 ac_rfl
 refine ⟨bQ,?_⟩
 ac_rfl
 refine bD (way=0) cA (fun _=>?_) (fun n0=>?_)
 ·have c1:=cl none (some a)
  have c2:=cl (some a) none
  ac_rfl
  refine ⟨by nofun,?_⟩
  ac_rfl
  refine lq (n+1+1) hb2 (by nofun) fun c b0 b1 b2 hb3=>?_
  have c3:=lr c
  ac_rfl
  refine ⟨by nofun,?_⟩
  ac_rfl
  refine ⟨by nofun,?_⟩
  ac_rfl
  refine ⟨by rw [cf]; nofun,?_⟩
  ac_rfl
  exact q _ _ _ _ (by rw [cf,cf]; nofun) (hb3.mono (by nofun))
 ac_rfl
 refine cQ ?_
 ac_rfl
 refine ⟨bQ,?_⟩
 ac_rfl
 refine bD (way=1) cA (fun _=>?_) (fun n1=>?_)
 ·have c1:=cl none (some a)
  have c2:=cl (some (a+1)) none
  ac_rfl
  refine ⟨by nofun,?_⟩
  ac_rfl
  refine ⟨by nofun,?_⟩
  ac_rfl
  refine ⟨by nofun,?_⟩
  ac_rfl
  exact q _ _ _ _ (by rw [cf]; nofun) (hb2.mono (by nofun))
 ac_rfl
 refine cQ ?_
 ac_rfl
 refine ⟨bQ,?_⟩
 ac_rfl
 refine bD (way=2) cA (fun _=>?_) (fun n2=>?_)
 ·have c1:=cl none (some a)
  have c2:=cl (some (a+1)) none
  ac_rfl
  refine ⟨by nofun,?_⟩
  ac_rfl
  refine lq (n+1+1) hb2 (by nofun) fun c b0 b1 b2 hb3=>?_
  have c3:=lr c
  ac_rfl
  refine ⟨by nofun,?_⟩
  ac_rfl
  refine ⟨by nofun,?_⟩
  ac_rfl
  refine ⟨by rw [cf]; nofun,?_⟩
  ac_rfl
  exact q _ _ _ _ (by rw [cf,cf]; nofun) (hb3.mono (by nofun))
 ac_rfl
 refine cQ ?_
 ac_rfl
 refine ⟨bQ,?_⟩
 ac_rfl
 refine bD (way=3) cA (fun _=>?_) (fun n3=>?_)
 ·have c1:=cl none (some a)
  have c2:=cl (some a) (some (a+2))
  have c3:=AZ (oF z (some a) (some (a+2)))
  have c4:=cl (some (a+2)) none
  ac_rfl
  refine ⟨by nofun,?_⟩
  ac_rfl
  refine ⟨by nofun,?_⟩
  ac_rfl
  refine ⟨by nofun,?_⟩
  ac_rfl
  refine ⟨by nofun,?_⟩
  ac_rfl
  refine ⟨by nofun,?_⟩
  ac_rfl
  refine ⟨by rw [cf]; nofun,?_⟩
  ac_rfl
  exact q _ _ _ _ (by rw [cf,cf]; nofun) (hb2.mono (by nofun))
 ·have c1:=cl none (some a)
  have c2:=cl (some a) none
  ac_rfl
  refine ⟨by nofun,?_⟩
  ac_rfl
  refine ⟨by decide +kernel,?_⟩
  refine jc (by nofun) (by rw [show (Str.ofString " ;").cps.toList.length=2 from by decide +kernel]; nofun) fun c _=>?_
  have c3:=lr c
  ac_rfl
  refine ⟨by nofun,?_⟩
  ac_rfl
  refine ⟨by nofun,?_⟩
  ac_rfl
  refine ⟨by rw [cf]; nofun,?_⟩
  ac_rfl
  exact q _ _ _ _ (by rw [cf,cf]; nofun) (hb2.mono (by nofun))
theorem w9 {b0 b1 b2:Int}(n:Int){z:Str}{P:OV→List OV→Prop}(hb:BagB b1 b2 n)(hn:n < 2 ^ 37)(hz:z.length≤120000)(h:∀ (y:Str) (b0' b1' b2':Int),y.length≤3 * z.length+20→BagB b1' b2' (n+10)→P (.fz (.str y)) [df b0' b1' b2',.fz (.str z)]):aL [df b0 b1 b2,.fz (.str z)] P:=by
 unfold aL
 exact ⟨b0,b1,b2,n,z,rfl,hb,hn,hz,h⟩
end
end KR
set_option maxHeartbeats 4000000
namespace KR
open PySem L2
theorem mU (y:Str):∀ ps:List Str,(ps.map (·.length)).sum+ps.length * y.length≤(Str.join y ps).length+y.length
 | []=>by show 0+0 * y.length≤_; nofun
 | [p]=>by show p.length+0+1 * y.length≤p.length+y.length; nofun
 | p::q::r=>by
  have h2:=mU y (q::r)
  have h3:=congrArg List.length (da y p q r)
  rw [List.length_append,List.length_append,← az,← az,← az,← az] at h3
  rw [List.map_cons,List.sum_cons,List.length_cons,Nat.succ_mul]
  nofun
theorem qy (z y:Str):((Txt.split z y).map (·.length)).sum+(Txt.split z y).length * y.length≤z.length+y.length:=by
 have:=mU y (Txt.split z y)
 rwa [StrLaws.join_split] at this
theorem uE {α:Type}(xs:List α){a:Int}(h:0≤a):(dP xs (some a) (some (a+1))).length≤1:=by
 obtain ⟨k,rfl⟩:=Int.eq_ofNat_of_zero_le h
 have e:dP xs (some (k:Int)) (some ((k:Int)+1))=_:=vE xs k (k+1)
 rw [e,List.length_take,List.length_drop]
 nofun
theorem DX:1≤sizeLine:=by rw [dD]; decide
theorem uF:(Str.ofString "  ").length=2:=by decide +kernel
section
variable {P:Program} {w:World} {K:PySem.W.Frag} {mg:Str→Option Value} {base:Heap}
abbrev g0:Stmt:=top 39
theorem xa:FnScope ["bag", "text", "words", "way", "at", "other", "some", "between"] ["bag", "text"] (ai g0):=⟨rfl,rfl,rfl,by decide +kernel,rfl,by decide +kernel,by decide +kernel⟩
def uG:FS :=
  (bO (dC (fT1 fZ (ao 1) (fC (.str " "))) (ax 2))
  (bO (dC (bd ac (ag (ao 0) (ag (fC (.int 4)) aU))) (ax 3))
  (bO (dC (bd ac (ag (ao 0) (ag (fFz (fCB ig (ag (ao 2) aU))) aU))) (ax 4))
  (bO (dC (bd ac (ag (ao 0) (ag (fFz (fCB ig (ag (ao 2) aU))) aU))) (ax 5))
  (bO (dC (kJ (ag (fC (.str "none")) (ag (fC (.str "any")) (ag (fC (.str "signs")) (ag (fC (.str "row")) (ag (fC (.str "first")) (ag (fC (.str "again")) (ag (fC (.str "ahead")) (ag (fC (.str "not")) (ag (fC (.str "=")) (ag (fC (.str "a")) (ag (fC (.str "zz")) (ag (fC (.str "abcdefghi")) (ag (fC (.str "Row")) aU)))))))))))))) (ax 6))
  (bO (dC (fOp cZ (ao 6) (kJ (ag (fC (.str "")) (ag (fC (.str ";")) aU)))) (ax 6))
  (bO (dC (fSl jg (ao 2) (dg (ao 5)) (dg (fOp cZ (ao 5) (fC (.int 1))))) (ax 7))
  (bO (fIf (bJ (fOp aEq (ao 3) (fC (.int 0))))
   (dC (kJ aU) (ax 7))
   ck)
  (bO (fIf (bJ (fOp aEq (ao 3) (fC (.int 1))))
   (dC (fOp cZ (fSl jg (ao 2) (dg (ao 4)) (dg (fOp cZ (ao 4) (fC (.int 1))))) (fSl jg (ao 2) (dg (ao 4)) (dg (fOp cZ (ao 4) (fC (.int 1)))))) (ax 7))
   ck)
  (bO (fIf (bJ (fOp aEq (ao 3) (fC (.int 2))))
   (dC (kJ (ag (fOp aIx (ao 6) (bd ac (ag (ao 0) (ag (fC (.int 15)) aU)))) aU)) (ax 7))
   ck)
  (cX (nF (fC (.str " ")) (fOp cZ (fOp cZ (fSl jg (ao 2) cj (dg (ao 4))) (ao 7)) (fSl jg (ao 2) (dg (fOp cZ (ao 4) (fC (.int 1)))) cj))))))))))))))
theorem uO:List.Nodup [("bag" : Str),("text" : Str),("words" : Str),("way" : Str),("at" : Str),("other" : Str),("some" : Str),("between" : Str)]:=by decide +kernel
theorem xb {f:Addr} {fd:FuncData} (F:Fun K "_law_words_turned" "_law_words_turned" g0 f fd) (T:Txt K mg) (O_law_draw:Own P w K mg base "_law_draw" 1 ["bag", "many"] (spM K ac))
  (hlen:∀ os P,aG os P→os.length=2∧∀ j o,os[j]?=some o→j ∉ ([0]:List Nat)→cY o=true)
  (hc:∀ os P,aG os P→uG { nx:=fin [0] os P (.fz .non),rt:=fin [0] os P } (aK 8 os)) :
  FnOk P w K mg base CX0 3 f fd ["bag", "text"] (spM K aG) :=
 Fun.okG 8 [0] F xa rfl (by decide) hlen (by decide) (fun cdv A outer s H E hr=>⟨_,(af (aS (i:=2) uO rfl (Or.inl rfl) (cn K PySem.F.plainAttrs_str PySem.F.slot_str_split PySem.F.type_str_split d0 (ad 1) (aw aB ae rfl) rfl rfl rfl (by decide) rfl) rfl (Or.inl rfl))
  (af (aS (i:=3) uO rfl (Or.inl rfl) (aA O_law_draw (hr.mono (by decide)) (aw (ad 0) (aw ak ae rfl) rfl) rfl rfl) rfl (Or.inl rfl))
  (af (aS (i:=4) uO rfl (Or.inl rfl) (aA O_law_draw (hr.mono (by decide)) (aw (ad 0) (aw (ay (cT K rfl) T.n_len cS (aw (ad 2) ae rfl) rfl rfl) ae rfl) rfl) rfl rfl) rfl (Or.inl rfl))
  (af (aS (i:=5) uO rfl (Or.inl rfl) (aA O_law_draw (hr.mono (by decide)) (aw (ad 0) (aw (ay (cT K rfl) T.n_len cS (aw (ad 2) ae rfl) rfl rfl) ae rfl) rfl) rfl rfl) rfl (Or.inl rfl))
  (af (aS (i:=6) uO rfl (Or.inl rfl) (dQ (aw aB (aw aB (aw aB (aw aB (aw aB (aw aB (aw aB (aw aB (aw aB (aw aB (aw aB (aw aB (aw aB ae rfl) rfl) rfl) rfl) rfl) rfl) rfl) rfl) rfl) rfl) rfl) rfl) rfl)) rfl (Or.inl rfl))
  (af (aS (i:=6) uO rfl (Or.inl rfl) (bn (ba K rfl) (ad 6) (dQ (aw aB (aw aB ae rfl) rfl))) rfl (Or.inl rfl))
  (af (aS (i:=7) uO rfl (Or.inl rfl) (bw K (ad 2) (bC (ad 5)) (bC (bn (ba K rfl) (ad 5) ak)) rfl) rfl (Or.inl rfl))
  (af (cm (bP (cg K hr.units rfl) (ad 3) ak aP)
   (am (aS (i:=7) uO rfl (Or.inl rfl) (dQ ae) rfl (Or.inl rfl)))
   aT)
  (af (cm (bP (cg K hr.units rfl) (ad 3) ak aP)
   (am (aS (i:=7) uO rfl (Or.inl rfl) (bn (ba K rfl) (bw K (ad 2) (bC (ad 4)) (bC (bn (ba K rfl) (ad 4) ak)) rfl) (bw K (ad 2) (bC (ad 4)) (bC (bn (ba K rfl) (ad 4) ak)) rfl)) rfl (Or.inl rfl)))
   aT)
  (af (cm (bP (cg K hr.units rfl) (ad 3) ak aP)
   (am (aS (i:=7) uO rfl (Or.inl rfl) (dQ (aw (bS K hr.units (ad 6) (aA O_law_draw (hr.mono (by decide)) (aw (ad 0) (aw ak ae rfl) rfl) rfl rfl) (fun _ _=>rfl) rfl) ae rfl)) rfl (Or.inl rfl)))
   aT)
  (am (aN (cn K PySem.F.plainAttrs_str PySem.F.slot_str_join PySem.F.type_str_join (gG K rfl) aB (aw (bn (ba K rfl) (bn (ba K rfl) (bw K (ad 2) cq (bC (ad 4)) rfl) (ad 7)) (bw K (ad 2) (bC (bn (ba K rfl) (ad 4) ak)) cq rfl)) ae rfl) rfl rfl rfl (by decide) rfl))))))))))))),
  (ar (aV (gQ d6 av aJ) (cV (by decide)) (ap (by decide)))
  (ar (aV (au (c:=ac) (aa av (aa aj ah))) (cV (by decide)) (ap (by decide)))
  (ar (aV (au (c:=ac) (aa av (aa (ce (bU cU (aa av ah))) ah))) (cV (by decide)) (ap (by decide)))
  (ar (aV (au (c:=ac) (aa av (aa (ce (bU cU (aa av ah))) ah))) (cV (by decide)) (ap (by decide)))
  (ar (aV (dS (aa aJ (aa aJ (aa aJ (aa aJ (aa aJ (aa aJ (aa aJ (aa aJ (aa aJ (aa aJ (aa aJ (aa aJ (aa aJ ah)))))))))))))) (cV (by decide)) (ap (by decide)))
  (ar (aV (aq bc av (dS (aa aJ (aa aJ ah)))) (cV (by decide)) (ap (by decide)))
  (ar (aV (dI en av (bE av) (bE (aq bc av aj))) (cV (by decide)) (ap (by decide)))
  (ar (cz (aX (aq ci av aj))
   (aV (dS ah) (cV (by decide)) (ap (by decide)))
   aQ)
  (ar (cz (aX (aq ci av aj))
   (aV (aq bc (dI en av (bE av) (bE (aq bc av aj))) (dI en av (bE av) (bE (aq bc av aj)))) (cV (by decide)) (ap (by decide)))
   aQ)
  (ar (cz (aX (aq ci av aj))
   (aV (dS (aa (aq bT av (au (c:=ac) (aa av (aa aj ah)))) ah)) (cV (by decide)) (ap (by decide)))
   aQ)
  (aO (gO aJ (aq bc (aq bc (dI en av cu (bE av)) av) (dI en av (bE (aq bc av aj)) cu))))))))))))))⟩) hc
theorem A6 (os:List OV)(P:OV→List OV→Prop)(h:aG os P):os.length=2∧∀ j o,os[j]?=some o→j ∉ ([0]:List Nat)→cY o=true:=by
 unfold aG at h
 obtain ⟨b0,b1,b2,n,z,rfl,_⟩:=h
 exact Af
abbrev nQ:List Str:=["none", "any", "signs", "row", "first", "again", "ahead", "not", "=", "a", "zz", "abcdefghi", "Row", "", ";"]
theorem xc:∀ z ∈ nQ,z.length≤9:=by decide +kernel
theorem A7 (os:List OV)(P:OV→List OV→Prop)(h:aG os P):uG { nx:=fin [0] os P (.fz .non),rt:=fin [0] os P } (aK 8 os):=by
 unfold aG at h
 obtain ⟨b0,b1,b2,n,z,rfl,hb,hn,hz,q⟩:=h
 have sz:=dD
 have hc:=dX z (Str.ofString " ")
 have hp:=mT z (Str.ofString " ")
 have hs:=jv z (Str.ofString " ")
 have hf:=qy z (Str.ofString " ")
 rw [mO,Nat.mul_one] at hf
 have hsp:=mO
 ac_rfl
 refine ⟨⟨by decide +kernel,by nofun⟩,?_⟩
 generalize hW:Txt.split z (Str.ofString " ")=W at hc hp hs hf
 have cl:∀ lo hi,(dP W lo hi).length≤W.length:=kC W
 have cs:∀ lo hi,((dP W lo hi).map (·.length)).sum≤(W.map (·.length)).sum:=AS W
 ac_rfl
 refine bF n hb (by nofun) (by decide) (by decide) fun way b0 b1 b2 w0 w1 hb1=>?_
 ac_rfl
 rw [List.length_map]
 refine bF (n+1) hb1 (by nofun) (by nofun) (by nofun) fun a b0 b1 b2 a0 a1 hb2=>?_
 ac_rfl
 rw [List.length_map]
 refine bF (n+1+1) hb2 (by nofun) (by nofun) (by nofun) fun oth b0 b1 b2 o0 o1 hb3=>?_
 ac_rfl
 refine ⟨by show 13≤sizeLine; nofun,?_⟩
 ac_rfl
 refine ⟨by show 2≤sizeLine; nofun,?_⟩
 ac_rfl
 refine ⟨by show 13+2≤sizeLine; nofun,?_⟩
 ac_rfl
 rw [jm]
 have base:∃ (B:List Str),dP W (some oth) (some (oth+1))=B∧B.length≤1∧(B.map (·.length)).sum≤z.length:=⟨_,rfl,uE W o0,Nat.le_trans (cs _ _) hs⟩
 obtain ⟨B,eB,hBl,hBs⟩:=base
 rw [eB]
 have eS:∀ c0 c1 c2:Int,∀ B:List Str,B.length≤2→(B.map (·.length)).sum≤2 * z.length+9→BagB c1 c2 (n+4)→∃ (B':List Str) (b0 b1 b2:Int),B'.length≤2∧(B'.map (·.length)).sum≤2 * z.length+9∧BagB b1 b2 (n+4)∧([some (df c0 c1 c2),some (.fz (.str z)),some (.fz (.lst (W.map .str))),some (.fz (.int way)),some (.fz (.int a)),some (.fz (.int oth)),some (.fz (.lst (nQ.map .str))),some (.fz (.lst (B.map .str)))]:FSt)=[some (df b0 b1 b2),some (.fz (.str z)),some (.fz (.lst (W.map .str))),some (.fz (.int way)),some (.fz (.int a)),some (.fz (.int oth)),some (.fz (.lst (nQ.map .str))),some (.fz (.lst (B'.map .str)))]:=fun c0 c1 c2 B h1 h2 h3=>⟨B,c0,c1,c2,h1,h2,h3,rfl⟩
 ac_rfl
 refine nG (fun ρ=>∃ (B:List Str) (b0 b1 b2:Int),B.length≤2∧(B.map (·.length)).sum≤2 * z.length+9∧BagB b1 b2 (n+4)∧ρ=[some (df b0 b1 b2),some (.fz (.str z)),some (.fz (.lst (W.map .str))),some (.fz (.int way)),some (.fz (.int a)),some (.fz (.int oth)),some (.fz (.lst (nQ.map .str))),some (.fz (.lst (B.map .str)))]) ?_ ?_
 ·rintro ρ ⟨B,c0,c1,c2,hBl,hBs,hb4,rfl⟩
  ac_rfl
  refine nG (fun ρ=>∃ (B:List Str) (b0 b1 b2:Int),B.length≤2∧(B.map (·.length)).sum≤2 * z.length+9∧BagB b1 b2 (n+4)∧ρ=[some (df b0 b1 b2),some (.fz (.str z)),some (.fz (.lst (W.map .str))),some (.fz (.int way)),some (.fz (.int a)),some (.fz (.int oth)),some (.fz (.lst (nQ.map .str))),some (.fz (.lst (B.map .str)))]) ?_ ?_
  ·rintro ρ ⟨B,c0,c1,c2,hBl,hBs,hb4,rfl⟩
   ac_rfl
   refine nG (fun ρ=>∃ (B:List Str) (b0 b1 b2:Int),B.length≤2∧(B.map (·.length)).sum≤2 * z.length+9∧BagB b1 b2 (n+5)∧ρ=[some (df b0 b1 b2),some (.fz (.str z)),some (.fz (.lst (W.map .str))),some (.fz (.int way)),some (.fz (.int a)),some (.fz (.int oth)),some (.fz (.lst (nQ.map .str))),some (.fz (.lst (B.map .str)))]) ?_ ?_
   ·rintro ρ ⟨B,c0,c1,c2,hBl,hBs,hb5,rfl⟩
    have k1:(dP W none (some a)).length+(dP W (some (a+1)) none).length≤W.length∧((dP W none (some a)).map (·.length)).sum+((dP W (some (a+1)) none).map (·.length)).sum≤(W.map (·.length)).sum:=by
     obtain ⟨k,rfl⟩:=Int.eq_ofNat_of_zero_le a0
     have e1:=ng W k
     have e2:=iM W (k+1)
     have e3:=pw (W.drop k) 1
     rw [List.drop_drop] at e3
     have e4:(W.map (·.length)).sum=((W.take k).map (·.length)).sum+((W.drop k).map (·.length)).sum:=by
      rw [← List.sum_append,← List.map_append,List.take_append_drop]
     have e2':dP W (some ((k:Int)+1)) none=W.drop (k+1):=e2
     rw [e1,e2']
     refine ⟨?_,by nofun⟩
     rw [List.length_take,List.length_drop]
     nofun
    generalize hX:dP W none (some a)=X1 at k1
    generalize hY:dP W (some (a+1)) none=X2 at k1
    ac_rfl
    rw [jm,hX]
    ac_rfl
    refine ⟨by rw [List.length_map,List.length_map]; nofun,?_⟩
    rw [← List.map_append]
    ac_rfl
    rw [jm,hY]
    ac_rfl
    refine ⟨by rw [List.length_map,List.length_map,List.length_append]; nofun,?_⟩
    rw [← List.map_append]
    have t1:((X1++B++X2).map (·.length)).sum=(X1.map (·.length)).sum+(B.map (·.length)).sum+(X2.map (·.length)).sum:=by
     rw [List.map_append,List.map_append,List.sum_append,List.sum_append]
    have t2:(X1++B++X2).length=X1.length+B.length+X2.length:=by
     rw [List.length_append,List.length_append]
    have t3:=lp (Str.ofString " ") (X1++B++X2)
    refine fu ⟨by rw [hsp,Nat.mul_one]; nofun,?_⟩
    ac_rfl
    refine q _ _ _ _ ?_ (hb5.mono (by nofun))
    rw [hsp,Nat.mul_one] at t3
    nofun
   ·intro rest
    ac_rfl
    refine ⟨bQ,?_⟩
    ac_rfl
    refine bD (way=2) cA (fun _=>?_) (fun _=>?_)
    ·ac_rfl
     refine bF (n+4) hb4 (by nofun) (by decide) (by decide) fun r b0 b1 b2 r0 r1 hb5=>?_
     ac_rfl
     refine pz (zs:=nQ) r0 (by show r < 15; exact r1) fun y hy=>?_
     ac_rfl
     refine ⟨DX,?_⟩
     have hy9:=xc y hy
     exact rest _ ⟨[y],b0,b1,b2,by decide +revert,by show y.length+0≤_; nofun,hb5.mono (by nofun),rfl⟩
    ·exact rest _ ⟨B,c0,c1,c2,hBl,hBs,hb4.mono (by nofun),rfl⟩
  ·intro rest
   ac_rfl
   refine ⟨bQ,?_⟩
   ac_rfl
   refine bD (way=1) cA (fun _=>?_) (fun _=>?_)
   ·have ca:=uE W a0
    have cb:=cs (some a) (some (a+1))
    ac_rfl
    rw [jm]
    ac_rfl
    refine ⟨by rw [List.length_map]; nofun,?_⟩
    rw [← List.map_append]
    exact rest _ (eS _ _ _ (dP W (some a) (some (a+1))++dP W (some a) (some (a+1))) (by rw [List.length_append]; nofun) (by rw [List.map_append,List.sum_append]; nofun) hb4)
   ·exact rest _ (eS _ _ _ B hBl hBs hb4)
 ·intro rest
  ac_rfl
  refine ⟨bQ,?_⟩
  ac_rfl
  refine bD (way=0) cA (fun _=>?_) (fun _=>?_)
  ·ac_rfl
   refine ⟨Nat.zero_le _,?_⟩
   exact rest _ (eS _ _ _ [] (Nat.zero_le _) (Nat.zero_le _) (hb3.mono (by nofun)))
  ·exact rest _ (eS _ _ _ B (by nofun) (by nofun) (hb3.mono (by nofun)))
theorem xf {b0 b1 b2:Int}(n:Int){z:Str}{P:OV→List OV→Prop}(hb:BagB b1 b2 n)(hn:n < 2 ^ 37)(hz:z.length≤120000)(h:∀ (y:Str) (b0' b1' b2':Int),y.length≤3 * z.length+20→BagB b1' b2' (n+10)→P (.fz (.str y)) [df b0' b1' b2',.fz (.str z)]):aG [df b0 b1 b2,.fz (.str z)] P:=by
 unfold aG
 exact ⟨b0,b1,b2,n,z,rfl,hb,hn,hz,h⟩
abbrev g5:Stmt:=top 38
theorem xg:FnScope ["bag", "text", "way", "words", "at", "place"] ["bag", "text"] (ai g5):=⟨rfl,rfl,rfl,by decide +kernel,rfl,by decide +kernel,by decide +kernel⟩
def uH:FS :=
  (bO (dC (bd ac (ag (ao 0) (ag (fC (.int 4)) aU))) (ax 2))
  (bO (jI 3 (fT1 fZ (ao 1) (fC (.str " "))))
  (bO (dC (bd ac (ag (ao 0) (ag (fFz (fCB ig (ag (ao 3) aU))) aU))) (ax 4))
  (bO (dC (bd ac (ag (ao 0) (ag (fFz (fOp cZ (fCB ig (ag (ao 1) aU)) (fC (.int 1)))) aU))) (ax 5))
  (bO (fIf (bJ (fOp aEq (ao 2) (fC (.int 0))))
   (bO (oA 3 (fT0 sP (fOp aIx (ao 3) (ao 4))) (ao 4))
  (cX (nF (fC (.str " ")) (ao 3))))
   ck)
  (bO (fIf (bJ (fOp aEq (ao 2) (fC (.int 1))))
   (cX (fOp cZ (fOp cZ (fSl jg (ao 1) cj (dg (ao 5))) (fOp sZ (bd bv (ag (ao 0) aU)) (fOp cZ (fC (.int 1)) (bd ac (ag (ao 0) (ag (fC (.int 40)) aU)))))) (fSl jg (ao 1) (dg (ao 5)) cj)))
   ck)
  (bO (fIf (bJ (fOp aEq (ao 2) (fC (.int 2))))
   (cX (nF (fC (.str "; ")) (fRv (fT1 fZ (ao 1) (fC (.str "; "))))))
   ck)
  (cX (Dy " " "  " (ao 1))))))))))
theorem Ei:List.Nodup [("bag" : Str),("text" : Str),("way" : Str),("words" : Str),("at" : Str),("place" : Str)]:=by decide +kernel
theorem xh {f:Addr} {fd:FuncData} (F:Fun K "_law_whole_turned" "_law_whole_turned" g5 f fd) (T:Txt K mg) (O_law_draw:Own P w K mg base "_law_draw" 1 ["bag", "many"] (spM K ac)) (O_law_sign:Own P w K mg base "_law_sign" 2 ["bag"] (spM K bv))
  (hlen:∀ os P,aH os P→os.length=2∧∀ j o,os[j]?=some o→j ∉ ([0]:List Nat)→cY o=true)
  (hc:∀ os P,aH os P→uH { nx:=fin [0] os P (.fz .non),rt:=fin [0] os P } (aK 6 os)) :
  FnOk P w K mg base CX0 3 f fd ["bag", "text"] (spM K aH) :=
 Fun.okG 6 [0] F xg rfl (by decide) hlen (by decide) (fun cdv A outer s H E hr=>⟨_,(af (aS (i:=2) Ei rfl (Or.inl rfl) (aA O_law_draw (hr.mono (by decide)) (aw (ad 0) (aw ak ae rfl) rfl) rfl rfl) rfl (Or.inl rfl))
  (af (aS (i:=3) Ei rfl (Or.inl rfl) (cn K PySem.F.plainAttrs_str PySem.F.slot_str_split PySem.F.type_str_split d0 (ad 1) (aw aB ae rfl) rfl rfl rfl (by decide) rfl) rfl (Or.inl rfl))
  (af (aS (i:=4) Ei rfl (Or.inl rfl) (aA O_law_draw (hr.mono (by decide)) (aw (ad 0) (aw (ay (cT K rfl) T.n_len cS (aw (ad 3) ae rfl) rfl rfl) ae rfl) rfl) rfl rfl) rfl (Or.inl rfl))
  (af (aS (i:=5) Ei rfl (Or.inl rfl) (aA O_law_draw (hr.mono (by decide)) (aw (ad 0) (aw (bn (ba K rfl) (ay (cT K rfl) T.n_len cS (aw (ad 1) ae rfl) rfl rfl) ak) ae rfl) rfl) rfl rfl) rfl (Or.inl rfl))
  (af (cm (bP (cg K hr.units rfl) (ad 2) ak aP)
   (af (iQ (vg K PySem.F.plainAttrs_str PySem.F.slot_str_upper PySem.F.type_str_upper vT (bS K hr.units (ad 3) (ad 4) (fun _ _=>rfl) rfl) rfl rfl rfl) (rG (ad 3) (ad 4) (fun _=>rfl)) rfl rfl rfl)
  (am (aN (cn K PySem.F.plainAttrs_str PySem.F.slot_str_join PySem.F.type_str_join (gG K rfl) aB (aw (ad 3) ae rfl) rfl rfl rfl (by decide) rfl))))
   aT)
  (af (cm (bP (cg K hr.units rfl) (ad 2) ak aP)
   (am (aN (bn (ba K rfl) (bn (ba K rfl) (bw K (ad 1) cq (bC (ad 5)) rfl) (bn qo (aA O_law_sign (hr.mono (by decide)) (aw (ad 0) ae rfl) rfl rfl) (bn (ba K rfl) ak (aA O_law_draw (hr.mono (by decide)) (aw (ad 0) (aw ak ae rfl) rfl) rfl rfl)))) (bw K (ad 1) (bC (ad 5)) cq rfl))))
   aT)
  (Ae (cg K hr.units rfl) (ad 2) aP (am (aN (cn K PySem.F.plainAttrs_str PySem.F.slot_str_join PySem.F.type_str_join (gG K rfl) aB (aw (xY K (cn K PySem.F.plainAttrs_str PySem.F.slot_str_split PySem.F.type_str_split d0 (ad 1) (aw aB ae rfl) rfl rfl rfl (by decide) rfl) Dz rfl) ae rfl) rfl rfl rfl (by decide) rfl))) (by decide +kernel) (ad 1) rfl rfl))))))),
  (ar (aV (au (c:=ac) (aa av (aa aj ah))) (cV (by decide)) (ap (by decide)))
  (ar (gb (gQ d6 av aJ) (by decide))
  (ar (aV (au (c:=ac) (aa av (aa (ce (bU cU (aa av ah))) ah))) (cV (by decide)) (ap (by decide)))
  (ar (aV (au (c:=ac) (aa av (aa (ce (aq bc (bU cU (aa av ah)) aj)) ah))) (cV (by decide)) (ap (by decide)))
  (ar (cz (aX (aq ci av aj))
   (ar (kN (by decide) (tj (aq bT av av)) av)
  (aO (gO aJ av)))
   aQ)
  (ar (cz (aX (aq ci av aj))
   (aO (aq bc (aq bc (dI en av cu (bE av)) (aq qp (au (c:=bv) (aa av ah)) (aq bc aj (au (c:=ac) (aa av (aa aj ah)))))) (dI en av (bE av) cu)))
   aQ)
  (ar (cz (aX (aq ci av aj))
   (aO (gO aJ (Dv (gQ d6 av aJ))))
   aQ)
  (aO (Ad av)))))))))⟩) hc
theorem A8 (os:List OV)(P:OV→List OV→Prop)(h:aH os P):os.length=2∧∀ j o,os[j]?=some o→j ∉ ([0]:List Nat)→cY o=true:=by
 unfold aH at h
 obtain ⟨b0,b1,b2,n,z,rfl,_⟩:=h
 exact Af
theorem A9 {z:Str}(hz:z.length≤120000):(Txt.replace z (Str.ofString " ") (Str.ofString "  ")).length≤sizeLine:=by
 have sz:=dD
 unfold Txt.replace
 split
 ·nofun
 ·exact fits_replaced _ (by rw [uF]; nofun)
theorem Ba (os:List OV)(P:OV→List OV→Prop)(h:aH os P):uH { nx:=fin [0] os P (.fz .non),rt:=fin [0] os P } (aK 6 os):=by
 unfold aH at h
 obtain ⟨b0,b1,b2,n,z,rfl,hb,hn,hz,q⟩:=h
 have sz:=dD
 have hc:=dX z (Str.ofString " ")
 have hp:=mT z (Str.ofString " ")
 have hs:=jv z (Str.ofString " ")
 have hsp:=mO
 have cl:∀ lo hi,(oF z lo hi).length≤z.length:=nP z
 ac_rfl
 refine bF n hb (by nofun) (by decide) (by decide) fun way b0 b1 b2 w0 w1 hb1=>?_
 ac_rfl
 refine ⟨⟨by decide +kernel,by nofun⟩,?_⟩
 generalize hW:Txt.split z (Str.ofString " ")=W at hc hp hs
 have hWp:∀ y ∈ W,y.length≤z.length:=fun y hy=>fS (y:=Str.ofString " ") (by rw [hW]; exact hy)
 ac_rfl
 rw [List.length_map]
 refine bF (n+1) hb1 (by nofun) (by nofun) (by nofun) fun a b0 b1 b2 a0 a1 hb2=>?_
 ac_rfl
 refine ⟨by nofun,?_⟩
 ac_rfl
 refine bF (n+1+1) hb2 (by nofun) (by nofun) (by nofun) fun pl b0 b1 b2 p0 p1 hb3=>?_
 ac_rfl
 refine cQ ?_
 ac_rfl
 refine ⟨bQ,?_⟩
 ac_rfl
 refine bD (way=0) cA (fun _=>?_) (fun n0=>?_)
 ·ac_rfl
  refine pz (zs:=W) a0 a1 fun y hy=>?_
  have hyl:=hWp y hy
  have hu:=PyProof.Rows.len_upper y
  ac_rfl
  refine ⟨PyProof.Rows.fit_upper (by nofun),?_⟩
  have x1:ixN (W.map D.str).length a=some a.toNat:=by unfold ixN; rw [if_pos a0,if_pos (by rw [List.length_map]; exact a1)]
  ac_rfl
  refine ⟨rfl,?_⟩
  ac_rfl
  rw [x1]
  ac_rfl
  rw [AV]
  have t1:=AT W a.toNat (Txt.upper y)
  have t2:=lp (Str.ofString " ") (W.set a.toNat (Txt.upper y))
  rw [List.length_set,hsp,Nat.mul_one] at t2
  refine fu ⟨by rw [List.length_set,hsp,Nat.mul_one]; nofun,?_⟩
  ac_rfl
  exact q _ _ _ _ (by nofun) (hb3.mono (by nofun))
 ac_rfl
 refine cQ ?_
 ac_rfl
 refine ⟨bQ,?_⟩
 ac_rfl
 refine bD (way=1) cA (fun _=>?_) (fun n1=>?_)
 ·have c1:=cl none (some pl)
  have c2:=cl (some pl) none
  ac_rfl
  refine ⟨by nofun,?_⟩
  ac_rfl
  refine lq (n+1+1+1) hb3 (by nofun) fun c b0 b1 b2 hb4=>?_
  have c3:=lr c
  ac_rfl
  refine bF (n+1+1+1+1) hb4 (by nofun) (by decide) (by decide) fun r b0 b1 b2 r0 r1 hb5=>?_
  have c4:=kg ⟨#[c]⟩ (1+r)
  rw [c3,Nat.one_mul] at c4
  ac_rfl
  refine ⟨⟨by nofun,by nofun,by rw [c3]; nofun⟩,?_⟩
  ac_rfl
  refine ⟨by nofun,?_⟩
  ac_rfl
  refine ⟨by nofun,?_⟩
  ac_rfl
  refine ⟨by rw [cf]; nofun,?_⟩
  ac_rfl
  exact q _ _ _ _ (by rw [cf,cf]; nofun) (hb5.mono (by nofun))
 ac_rfl
 refine cQ ?_
 ac_rfl
 refine ⟨bQ,?_⟩
 ac_rfl
 refine bD (way=2) cA (fun _=>?_) (fun n2=>?_)
 ·have d1:=dX z (Str.ofString "; ")
  have d2:=jv z (Str.ofString "; ")
  have d3:=ue
  ac_rfl
  refine ⟨⟨by decide +kernel,by nofun⟩,?_⟩
  generalize Txt.split z (Str.ofString "; ")=V at d1 d2
  ac_rfl
  rw [← List.map_reverse]
  have d4:=AU V
  have d5:=lp (Str.ofString "; ") V.reverse
  rw [List.length_reverse,d3] at d5
  refine fu ⟨by rw [List.length_reverse,d3]; nofun,?_⟩
  ac_rfl
  exact q _ _ _ _ (by nofun) (hb3.mono (by nofun))
 ·ac_rfl
  refine ⟨by rw [uF]; nofun,?_⟩
  ac_rfl
  exact q _ _ _ _ (A9 hz) (hb3.mono (by nofun))
theorem xi {b0 b1 b2:Int}(n:Int){z:Str}{P:OV→List OV→Prop}(hb:BagB b1 b2 n)(hn:n < 2 ^ 37)(hz:z.length≤120000)(h:∀ (y:Str) (b0' b1' b2':Int),y.length≤sizeLine→BagB b1' b2' (n+10)→P (.fz (.str y)) [df b0' b1' b2',.fz (.str z)]):aH [df b0 b1 b2,.fz (.str z)] P:=by
 unfold aH
 exact ⟨b0,b1,b2,n,z,rfl,hb,hn,hz,h⟩
end
end KR
set_option maxHeartbeats 4000000
namespace KR
open PySem L2
theorem mV:∀ zs:List Str,okDs (zs.map D.str)=true
 | []=>by simp [okDs]
 | z::zs=>by rw [List.map_cons,okDs,mV zs]; rfl
theorem jw:∀ zs:List Str,deps (toDVs (zs.map D.str))=0
 | []=>by simp [toDVs,deps]
 | z::zs=>by rw [List.map_cons,toDVs,deps,jw zs]; rfl
theorem ls (d:D):dEq d d=true:=n9 _
theorem jx:∀ rows:List Rw,okDs (rows.map eW)=true
 | []=>by simp [okDs]
 | r::rows=>by
  rw [List.map_cons,okDs,jx rows,Bool.and_true]
  simp only [eW,eV,okD,okDs,mV,Bool.and_self]
theorem mW:∀ rows:List Rw,deps (toDVs (rows.map eW))≤2
 | []=>by simp [toDVs,deps]
 | r::rows=>by
  rw [List.map_cons,toDVs,deps]
  have:=mW rows
  have e:dep (vn (eW r))=2:=by
   simp only [eW,eV,vn,toDVs,dep,deps,jw]
   decide
  rw [e]; nofun
theorem uI {rows rows':List Rw}:C8 (.lst (rows.map eW)) (.lst (rows'.map eW)):=⟨by simp only [okD]; exact jx rows,by simp only [okD]; exact jx rows',by simp only [vn,dep]; have:=mW rows; nofun⟩
theorem Bb {ns:List Int}{k:Nat}{P:OV→List OV→Prop}(h:∀ z:Int,P (.fz (.int z)) [.fz (.lst (ns.map .int)),.fz (.int k)]):bh [.fz (.lst (ns.map .int)),.fz (.int k)] P:=by
 unfold bh
 exact ⟨ns,k,rfl,h⟩
theorem DY {z:Int}{k:Nat}{P:OV→List OV→Prop}(hk:k≤100)(h:∀ b0 b1 b2,BagB b1 b2 0→P (df b0 b1 b2) [.fz (.int z),.fz (.int k)]):cB [.fz (.int z),.fz (.int k)] P:=by
 unfold cB
 exact ⟨z,k,rfl,hk,h⟩
@[irreducible] def aW:Ct:=fun os P=>∃ z:Str,os=[.fz (.str z)]∧z.length≤120000∧P (.fz (.bl true)) os
@[irreducible] def aM:Ct:=fun os P=>∃ z:Str,os=[.fz (.str z)]∧z.length≤120000∧P (.fz (.bl true)) os
section
variable {P:Program} {w:World} {K:PySem.W.Frag} {mg:Str→Option Value} {base:Heap}
abbrev g6:Stmt:=top 40
theorem xj:FnScope ["text", "found", "refused"] ["text"] (ai g6):=⟨rfl,rfl,rfl,by decide +kernel,rfl,by decide +kernel,by decide +kernel⟩
def uJ:FS:=bO (jI 1 (fC .non)) (bO (dC (fC (.bl false)) (ax 2)) (bO (zZ ur 2 (jI 1 (bd bf (ag (fFz (ao 0)) aU))) (ag (fFz (ao 0)) aU)) (cX (EW (ao 2) (jF (fOp E9 (bd bH (ag (ao 1) aU)) (fC (.bl true))) (fOp aEq (bd bu (ag (fFz (ao 1)) aU)) (ao 0)))))))
theorem Bm:List.Nodup [("text" : Str),("found" : Str),("refused" : Str)]:=by decide +kernel
theorem FV:List.Nodup [("text" : Str), "found", "refused"]:=by decide +kernel
theorem xk {f C:Addr} {fd:FuncData} (F:Fun K "_law_book_kept" "_law_book_kept" g6 f fd) (T:Txt K mg) (O_read_book:Own P w K mg base "read_book" 7 ["text"] (spM K bf)) (O_is_book:Own P w K mg base "is_book" 6 ["thing"] (spM K bH)) (O_show_book:Own P w K mg base "show_book" 2 ["book"] (spM K bu))
  (R_read_book:OwnR P w K mg base "read_book" 7 ["text"] (spR K ur C)) (hm:mg "NoText" = some (.ref C)) (hx:PySem.W.exmOne K (.ref C) (.ref C)=some true)
  (hlen:∀ os P,aW os P→os.length=1∧∀ j o,os[j]?=some o→j ∉ ([]:List Nat)→cY o=true)
  (hc:∀ os P,aW os P→uJ { nx:=fin [] os P (.fz .non),rt:=fin [] os P } (aK 3 os)):FnOk P w K mg base CX0 8 f fd ["text"] (spM K aW) :=
 Fun.okG 3 [] F xj rfl (by decide) hlen (by decide) (fun cdv A outer s H E hr=>⟨_,af (aS (i:=1) Bm rfl (Or.inl rfl) xC rfl (Or.inl rfl)) (af (aS (i:=2) Bm rfl (Or.inl rfl) eY rfl (Or.inl rfl)) (af
   (sV (iZ:=2) K rfl (aS (i:=1) Bm rfl (Or.inl rfl) (aA O_read_book (hr.mono (by decide)) (aw (ad 0) ae rfl) rfl rfl) rfl (Or.inl rfl)) R_read_book (hr.mono (by decide)) rfl (aw (ad 0) ae rfl) ⟨rfl,rfl⟩ rfl hm hx FV rfl rfl rfl rfl rfl rfl rfl)
   (am (aN (CA (ad 2) (eO (gt (eP sX (aA O_is_book (hr.mono (by decide)) (aw (ad 1) ae rfl) rfl rfl) eY aP) (eO (eP (cg K hr.units rfl) (aA O_show_book (hr.mono (by decide)) (aw (ad 1) ae rfl) rfl rfl) (ad 0) aP))))))))),
  ar (gb xM (by decide)) (ar (aV e7 (cV (by decide)) (ap (by decide))) (ar (sU (gb (au (c:=bf) (aa (ce av) ah)) (by decide)) (aa (ce av) ah) (by decide)) (aO (xN av (eJ (aq tf (au (c:=bH) (aa av ah)) e7) (aq ci (au (c:=bu) (aa (ce av) ah)) av))))))⟩) hc
theorem Bc (os:List OV)(P:OV→List OV→Prop)(h:aW os P):os.length=1∧∀ j o,os[j]?=some o→j ∉ ([]:List Nat)→cY o=true:=by
 unfold aW at h
 obtain ⟨z,rfl,_⟩:=h
 exact fzo
theorem Bd (os:List OV)(P:OV→List OV→Prop)(h:aW os P):uJ { nx:=fin [] os P (.fz .non),rt:=fin [] os P } (aK 3 os):=by
 unfold aW at h
 obtain ⟨z,rfl,hl,q⟩:=h
 have sz:=dD
 ac_rfl
 by_cases W:AI z
 ·obtain ⟨rows,hok,hR,rfl⟩:=W
  have hB:BookG rows:=⟨hok,hl⟩
  have few:=hB.few
  refine .inl ?_
  ac_rfl
  refine ln hB hR ?_
  ac_rfl
  refine jE ?_
  ac_rfl
  refine jr (uw hB.ok (by nofun)) fun b hb=>?_
  rw [hb.mpr (ux hB.ok hR)]
  ac_rfl
  refine iY ?_
  ac_rfl
  refine pr hB ?_
  ac_rfl
  refine ⟨cN,?_⟩
  rw [ls]
  ac_rfl
  exact q
 ·refine .inr ?_
  ac_rfl
  refine ⟨_,rfl,⟨z,rfl,hl,W⟩,?_⟩
  ac_rfl
  refine iY ?_
  ac_rfl
  exact q
theorem xl {z:Str}{P:OV→List OV→Prop}(hl:z.length≤120000)(h:P (.fz (.bl true)) [.fz (.str z)]):aW [.fz (.str z)] P:=by
 unfold aW
 exact ⟨z,rfl,hl,h⟩
abbrev g7:Stmt:=top 41
theorem xn:FnScope ["text", "found", "refused"] ["text"] (ai g7):=⟨rfl,rfl,rfl,by decide +kernel,rfl,by decide +kernel,by decide +kernel⟩
def uK:FS:=bO (dC (fC .non) (ax 1)) (bO (dC (fC (.bl false)) (ax 2)) (bO (zZ nN 2 (dC (bd bq (ag (fFz (ao 0)) aU)) (ax 1)) (ag (fFz (ao 0)) aU)) (cX (EW (ao 2) (jF (fOp E9 (bd bi (ag (fFz (ao 1)) aU)) (fC (.bl true))) (fOp aEq (bd bo (ag (fFz (ao 1)) aU)) (ao 0)))))))
theorem xo {f C:Addr} {fd:FuncData} (F:Fun K "_law_form_kept" "_law_form_kept" g7 f fd) (T:Txt K mg) (O_read_form:Own P w K mg base "read_form" 5 ["text"] (spM K bq)) (O_is_form:Own P w K mg base "is_form" 4 ["thing"] (spM K bi)) (O_show_form:Own P w K mg base "show_form" 1 ["form"] (spM K bo))
  (R_read_form:OwnR P w K mg base "read_form" 5 ["text"] (spR K nN C)) (hm:mg "NoText" = some (.ref C)) (hx:PySem.W.exmOne K (.ref C) (.ref C)=some true)
  (hlen:∀ os P,aM os P→os.length=1∧∀ j o,os[j]?=some o→j ∉ ([]:List Nat)→cY o=true)
  (hc:∀ os P,aM os P→uK { nx:=fin [] os P (.fz .non),rt:=fin [] os P } (aK 3 os)):FnOk P w K mg base CX0 8 f fd ["text"] (spM K aM) :=
 Fun.okG 3 [] F xn rfl (by decide) hlen (by decide) (fun cdv A outer s H E hr=>⟨_,af (aS (i:=1) Bm rfl (Or.inl rfl) xC rfl (Or.inl rfl)) (af (aS (i:=2) Bm rfl (Or.inl rfl) eY rfl (Or.inl rfl)) (af
   (sV (iZ:=2) K rfl (aS (i:=1) Bm rfl (Or.inl rfl) (aA O_read_form (hr.mono (by decide)) (aw (ad 0) ae rfl) rfl rfl) rfl (Or.inl rfl)) R_read_form (hr.mono (by decide)) rfl (aw (ad 0) ae rfl) ⟨rfl,rfl⟩ rfl hm hx FV rfl rfl rfl rfl rfl rfl rfl)
   (am (aN (CA (ad 2) (eO (gt (eP sX (aA O_is_form (hr.mono (by decide)) (aw (ad 1) ae rfl) rfl rfl) eY aP) (eO (eP (cg K hr.units rfl) (aA O_show_form (hr.mono (by decide)) (aw (ad 1) ae rfl) rfl rfl) (ad 0) aP))))))))),
  ar (aV xM (cV (by decide)) (ap (by decide))) (ar (aV e7 (cV (by decide)) (ap (by decide))) (ar (sU (aV (au (c:=bq) (aa (ce av) ah)) (cV (by decide)) (ap (by decide))) (aa (ce av) ah) (by decide)) (aO (xN av (eJ (aq tf (au (c:=bi) (aa (ce av) ah)) e7) (aq ci (au (c:=bo) (aa (ce av) ah)) av))))))⟩) hc
theorem Be (os:List OV)(P:OV→List OV→Prop)(h:aM os P):os.length=1∧∀ j o,os[j]?=some o→j ∉ ([]:List Nat)→cY o=true:=by
 unfold aM at h
 obtain ⟨z,rfl,_⟩:=h
 exact fzo
theorem Bf (os:List OV)(P:OV→List OV→Prop)(h:aM os P):uK { nx:=fin [] os P (.fz .non),rt:=fin [] os P } (aK 3 os):=by
 unfold aM at h
 obtain ⟨z,rfl,hl,q⟩:=h
 have sz:=dD
 ac_rfl
 by_cases W:ul z
 ·obtain ⟨word,rest,hf,rfl⟩:=W
  refine .inl ?_
  ac_rfl
  refine pf hf ?_
  ac_rfl
  refine jE ?_
  ac_rfl
  refine eA (jt hf) fun b hb=>?_
  rw [hb.mpr (mP hf)]
  ac_rfl
  refine iY ?_
  ac_rfl
  refine pd hf ?_
  ac_rfl
  refine ⟨cN,?_⟩
  rw [ls]
  ac_rfl
  exact q
 ·refine .inr ?_
  ac_rfl
  refine ⟨_,rfl,⟨z,rfl,hl,W⟩,?_⟩
  ac_rfl
  refine iY ?_
  ac_rfl
  exact q
theorem pA {z:Str}{P:OV→List OV→Prop}(hl:z.length≤120000)(h:P (.fz (.bl true)) [.fz (.str z)]):aM [.fz (.str z)] P:=by
 unfold aM
 exact ⟨z,rfl,hl,h⟩
end
end KR
set_option maxHeartbeats 4000000
namespace KR
open PySem L2
theorem FW {i:Nat}(h:i≤3):3 ^ i≤27:=Nat.pow_le_pow_right (n:=3) (by decide) h
theorem cut4 (z:Str):(oF z none (some 4000)).length≤4000:=by
 rw [az,gk]
 have e:dP z.cps.toList none (some (4000:Int))=z.cps.toList.take 4000:=ng z.cps.toList 4000
 rw [e,List.length_take]
 nofun
theorem bk0:eD []=Str.ofString "" := (lm (rows:=[]) (fun _ h=>nomatch h)).mpr rfl
@[irreducible] def lu:Ct:=fun os P=>∃ ns:List Int,os=[.fz (.lst (ns.map .int))]∧ns.length≤63∧P (.fz (.bl true)) os
section
variable {P:Program} {w:World} {K:PySem.W.Frag} {mg:Str→Option Value} {base:Heap}
abbrev lv:Stmt:=top 42
theorem DZ:FnScope ["script", "k", "bag", "turns", "book", "text", "turn", "way", "part"] ["script"] (ai lv):=⟨rfl,rfl,rfl,by decide +kernel,rfl,by decide +kernel,by decide +kernel⟩
def D0:FS :=
  (bO (Bk (fW (ag (fCB E2 (ag (fC (.int 1)) (ag (fCB E3 (ag (fC (.int 14)) (ag (fCB ig (ag (ao 0) aU)) aU))) aU))) aU)) (ax 1)
   (bO (jI 2 (bd cB (ag (fFz (bd bh (ag (fFz (ao 0)) (ag (fFz (ao 1)) aU)))) (ag (fFz (ao 1)) aU))))
  (bO (dC (bd ac (ag (ao 2) (ag (fC (.int 4)) aU))) (ax 3))
  (bO (dC (bd bZ (ag (ao 2) aU)) (ax 4))
  (bO (dC (bd bu (ag (fFz (fCB zF (ag (ao 4) aU))) aU)) (ax 5))
  (bO (fIf (bJ (fOp aNe (bd bf (ag (fFz (ao 5)) aU)) (ao 4)))
   (cX (fC (.bl false)))
   ck)
  (bO (Bk (fW (ag (ao 3) aU)) (ax 6)
   (bO (dC (bd ac (ag (ao 2) (ag (fC (.int 4)) aU))) (ax 7))
  (fIf (bJ (fOp (mj (fun i j=>decide (i < j)) bV) (ao 7) (fC (.int 2))))
   (dC (bd aL (ag (ao 2) (ag (fFz (ao 5)) aU))) (ax 5))
   (fIf (bJ (fOp aEq (ao 7) (fC (.int 2))))
   (dC (bd aG (ag (ao 2) (ag (fFz (ao 5)) aU))) (ax 5))
   (dC (fSl jg (bd aH (ag (ao 2) (ag (fFz (ao 5)) aU))) cj (dg (fC (.int 4000)))) (ax 5))))))
  (bO (fIf (jY (bJ (bd aW (ag (fFz (ao 5)) aU))))
   (cX (fC (.bl false)))
   ck)
  (Bk (md (fT1 fZ (ao 5) (fC (.str "; ")))) (ax 8)
   (fIf (fOr (jY (bJ (bd aM (ag (fFz (ao 8)) aU)))) (jY (bJ (bd aM (ag (fFz (fSl jg (ao 8) (dg (fOp cZ (Dm (ao 8) (fC (.str "="))) (fC (.int 2)))) cj)) aU)))))
   (cX (fC (.bl false)))
   ck))))))))))
  (cX (fOp E6 (bd bf (ag (fC (.str "")) aU)) (kJ aU))))
theorem uL:List.Nodup [("script" : Str),("k" : Str),("bag" : Str),("turns" : Str),("book" : Str),("text" : Str),("turn" : Str),("way" : Str),("part" : Str)]:=by decide +kernel
theorem D1 {f:Addr} {fd:FuncData} (F:Fun K "law" "law" lv f fd) (T:Txt K mg) (O_law_cell_at:Own P w K mg base "_law_cell_at" 1 ["script", "k"] (spM K bh)) (O_law_bag:Own P w K mg base "_law_bag" 1 ["cell", "place"] (spM K cB)) (O_law_draw:Own P w K mg base "_law_draw" 1 ["bag", "many"] (spM K ac)) (O_law_book:Own P w K mg base "_law_book" 4 ["bag"] (spM K bZ)) (O_show_book:Own P w K mg base "show_book" 2 ["book"] (spM K bu)) (O_read_book:Own P w K mg base "read_book" 7 ["text"] (spM K bf)) (O_law_text_turned:Own P w K mg base "_law_text_turned" 3 ["bag", "text"] (spM K aL)) (O_law_words_turned:Own P w K mg base "_law_words_turned" 3 ["bag", "text"] (spM K aG)) (O_law_whole_turned:Own P w K mg base "_law_whole_turned" 3 ["bag", "text"] (spM K aH)) (O_law_book_kept:Own P w K mg base "_law_book_kept" 8 ["text"] (spM K aW)) (O_law_form_kept:Own P w K mg base "_law_form_kept" 8 ["text"] (spM K aM))
  (hlen:∀ os P,lu os P→os.length=1∧∀ j o,os[j]?=some o→j ∉ ([]:List Nat)→cY o=true)
  (hc:∀ os P,lu os P→D0 { nx:=fin [] os P (.fz .non),rt:=fin [] os P } (aK 9 os)) :
  FnOk P w K mg base CX0 9 f fd ["script"] (spM K lu) :=
 Fun.okG 9 [] F DZ rfl (by decide) hlen (by decide) (fun cdv A outer s H E hr=>⟨_,(af (lV PassesOwn.never rfl (dR rfl T.n_range (aw (ay (xF rfl) T.n_max xz (aw ak (aw (ay (xG rfl) T.n_min xA (aw ak (aw (ay (cT K rfl) T.n_len cS (aw (ad 0) ae rfl) rfl rfl) ae rfl) rfl) rfl rfl) ae rfl) rfl) rfl rfl) ae rfl) rfl) (bz (i:=1) uL rfl (Or.inl rfl) (Or.inl rfl))
   (af (aS (i:=2) uL rfl (Or.inl rfl) (aA O_law_bag (hr.mono (by decide)) (aw (aA O_law_cell_at (hr.mono (by decide)) (aw (ad 0) (aw (ad 1) ae rfl) rfl) rfl rfl) (aw (ad 1) ae rfl) rfl) rfl rfl) rfl (Or.inl rfl))
  (af (aS (i:=3) uL rfl (Or.inl rfl) (aA O_law_draw (hr.mono (by decide)) (aw (ad 2) (aw ak ae rfl) rfl) rfl rfl) rfl (Or.inl rfl))
  (af (aS (i:=4) uL rfl (Or.inl rfl) (aA O_law_book (hr.mono (by decide)) (aw (ad 2) ae rfl) rfl rfl) rfl (Or.inl rfl))
  (af (aS (i:=5) uL rfl (Or.inl rfl) (aA O_show_book (hr.mono (by decide)) (aw (fH (rV K rfl rfl) T.n_list nc (aw (ad 4) ae rfl) rfl rfl) ae rfl) rfl rfl) rfl (Or.inl rfl))
  (af (cm (bP (oj K hr.units rfl) (aA O_read_book (hr.mono (by decide)) (aw (ad 5) ae rfl) rfl rfl) (ad 4) aP)
   (am (aN eY))
   aT)
  (af (lV PassesOwn.never rfl (dR rfl T.n_range (aw (ad 3) ae rfl) rfl) (bz (i:=6) uL rfl (Or.inl rfl) (Or.inl rfl))
   (af (aS (i:=7) uL rfl (Or.inl rfl) (aA O_law_draw (hr.mono (by decide)) (aw (ad 2) (aw ak ae rfl) rfl) rfl rfl) rfl (Or.inl rfl))
  (am (cm (bP gK (ad 7) ak aP)
   (am (aS (i:=5) uL rfl (Or.inl rfl) (aA O_law_text_turned (hr.mono (by decide)) (aw (ad 2) (aw (ad 5) ae rfl) rfl) rfl rfl) rfl (Or.inl rfl)))
   (am (cm (bP (cg K hr.units rfl) (ad 7) ak aP)
   (am (aS (i:=5) uL rfl (Or.inl rfl) (aA O_law_words_turned (hr.mono (by decide)) (aw (ad 2) (aw (ad 5) ae rfl) rfl) rfl rfl) rfl (Or.inl rfl)))
   (am (aS (i:=5) uL rfl (Or.inl rfl) (bw K (aA O_law_whole_turned (hr.mono (by decide)) (aw (ad 2) (aw (ad 5) ae rfl) rfl) rfl rfl) cq (bC ak) rfl) rfl (Or.inl rfl)))))))) (fun _=>rfl))
  (af (cm (di (cP (aA O_law_book_kept (hr.mono (by decide)) (aw (ad 5) ae rfl) rfl rfl)))
   (am (aN eY))
   aT)
  (am (lV PassesOwn.never rfl (iP K (cn K PySem.F.plainAttrs_str PySem.F.slot_str_split PySem.F.type_str_split d0 (ad 5) (aw aB ae rfl) rfl rfl rfl (by decide) rfl) rfl) (bz (i:=8) uL rfl (Or.inl rfl) (Or.inl rfl))
   (am (cm (xD (rF (di (cP (aA O_law_form_kept (hr.mono (by decide)) (aw (ad 8) ae rfl) rfl rfl))) (lS (di (cP (aA O_law_form_kept (hr.mono (by decide)) (aw (bw K (ad 8) (bC (bn (ba K rfl) (cn K PySem.F.plainAttrs_str PySem.F.slot_str_find PySem.F.type_str_find zO (ad 8) (aw aB ae rfl) rfl rfl rfl (by decide) rfl) ak)) cq rfl) ae rfl) rfl rfl))))))
   (am (aN eY))
   aT)) (fun _=>rfl)))))))))) (fun _=>rfl))
  (am (aN (eP (zL K hr.units rfl) (aA O_read_book (hr.mono (by decide)) (aw aB ae rfl) rfl rfl) (dQ ae) aP)))),
  (ar (mh (eK (aa (bU xR (aa aj (aa (bU xS (aa aj (aa (bU cU (aa av ah)) ah))) ah))) ah)) (cV (by decide)) (ap (by decide))
   (ar (gb (au (c:=cB) (aa (ce (au (c:=bh) (aa (ce av) (aa (ce av) ah)))) (aa (ce av) ah))) (by decide))
  (ar (aV (au (c:=ac) (aa av (aa aj ah))) (cV (by decide)) (ap (by decide)))
  (ar (aV (au (c:=bZ) (aa av ah)) (cV (by decide)) (ap (by decide)))
  (ar (aV (au (c:=bu) (aa (ce (bU sr (aa av ah))) ah)) (cV (by decide)) (ap (by decide)))
  (ar (cz (aX (aq oD (au (c:=bf) (aa (ce av) ah)) av))
   (aO e7)
   aQ)
  (ar (mh (eK (aa av ah)) (cV (by decide)) (ap (by decide))
   (ar (aV (au (c:=ac) (aa av (aa aj ah))) (cV (by decide)) (ap (by decide)))
  (cz (aX (aq cW av aj))
   (aV (au (c:=aL) (aa av (aa (ce av) ah))) (cV (by decide)) (ap (by decide)))
   (cz (aX (aq ci av aj))
   (aV (au (c:=aG) (aa av (aa (ce av) ah))) (cV (by decide)) (ap (by decide)))
   (aV (dI en (au (c:=aH) (aa av (aa (ce av) ah))) cu (bE aj)) (cV (by decide)) (ap (by decide)))))))
  (ar (cz (dr (lZ (au (c:=aW) (aa (ce av) ah))))
   (aO e7)
   aQ)
  (mh (io (gQ d6 av aJ)) (cV (by decide)) (ap (by decide))
   (cz (sd (dr (lZ (au (c:=aM) (aa (ce av) ah)))) (dr (lZ (au (c:=aM) (aa (ce (dI en av (bE (aq bc (zQ av aJ) aj)) cu)) ah)))))
   (aO e7)
   aQ))))))))))
  (aO (aq zP (au (c:=bf) (aa aJ ah)) (dS ah))))⟩) hc
theorem Ff (os:List OV)(P:OV→List OV→Prop)(h:lu os P):os.length=1∧∀ j o,os[j]?=some o→j ∉ ([]:List Nat)→cY o=true:=by
 unfold lu at h
 obtain ⟨ns,rfl,_⟩:=h
 exact fzo
theorem Fg (os:List OV)(P:OV→List OV→Prop)(h:lu os P):D0 { nx:=fin [] os P (.fz .non),rt:=fin [] os P } (aK 9 os):=by
 unfold lu at h
 obtain ⟨ns,rfl,hns,q⟩:=h
 have sz:=dD
 ac_rfl
 rw [List.length_map]
 refine ⟨⟨?_,?_⟩,?_⟩
 ·split <;> split <;> nofun
 ·split <;> split <;> nofun
 ac_rfl
 refine gB (fun i ρ=>∃ x1 x2 x3 x4 x5 x6 x7 x8:Option OV,ρ=[some (.fz (.lst (ns.map .int))),x1,x2,x3,x4,x5,x6,x7,x8]) ⟨none,none,none,none,none,none,none,none,rfl⟩ ?_ ?_
 ·rintro i d ρ R hd ⟨x1,x2,x3,x4,x5,x6,x7,x8,rfl⟩ kk
  obtain ⟨hi,rfl⟩:=dA hd
  have hi':i≤40:=by split at hi <;> split at hi <;> nofun
  ac_rfl
  rw [Int.zero_add]
  refine Bb fun c=>?_
  ac_rfl
  refine DY (by nofun) fun b0 b1 b2 hb=>?_
  ac_rfl
  refine bF 0 hb (by decide) (by decide) (by decide) fun turns b0 b1 b2 t0 t1 hb1=>?_
  ac_rfl
  refine Aw hb1 (by decide) fun rows b0 b1 b2 hB hR hb2=>?_
  have few:=hB.few
  have hG:=hB.g
  have hRq:=DS hB.ok hR
  have hlen:=pk hB.ok few
  ac_rfl
  refine pr hG ?_
  ac_rfl
  refine du True (fun _=>?_) (fun rest=>?_)
  rotate_left
  ·ac_rfl
   refine ln hG hRq ?_
   ac_rfl
   refine ⟨uI,?_⟩
   rw [ls]
   ac_rfl
   exact jE (rest trivial)
  ac_rfl
  refine ⟨⟨by nofun,by nofun⟩,?_⟩
  ac_rfl
  refine gB (fun j ρ=>∃ (z:Str) (b0 b1 b2:Int) (y6 y7:Option OV),z.length+10≤4010 * 3 ^ j∧BagB b1 b2 (0+1+5000+11 * j)∧ρ=[some (.fz (.lst (ns.map .int))),some (.fz (.int i)),some (df b0 b1 b2),some (.fz (.int turns)),some (.fz (.lst (rows.map eW))),some (.fz (.str z)),y6,y7,x8]) ⟨eD rows,b0,b1,b2,_,_,by nofun,hb2.mono (by nofun),rfl⟩ ?_ ?_
  ·rintro j d ρ R2 hd2 ⟨z,b0,b1,b2,y6,y7,hz,hb3,rfl⟩ kk2
   obtain ⟨hj,rfl⟩:=dA hd2
   have hj3:j≤2:=by nofun
   have hp:=FW (i:=j) (by nofun)
   have hps:3 ^ (j+1)=3 * 3 ^ j:=by rw [Nat.pow_succ,Nat.mul_comm]
   have hp1:1≤3 ^ j:=Nat.pos_of_ne_zero (by simp)
   have hz2:z.length≤120000:=by nofun
   ac_rfl
   refine bF _ hb3 (by nofun) (by decide) (by decide) fun way b0 b1 b2 w0 w1 hb4=>?_
   ac_rfl
   refine cQ ?_
   ac_rfl
   refine bD (way < 2) decide_eq_true_iff (fun _=>?_) (fun _=>?_)
   ·ac_rfl
    refine w9 _ hb4 (by nofun) hz2 fun y b0 b1 b2 hy hb5=>?_
    exact kk2 _ ⟨y,b0,b1,b2,_,_,by rw [hps]; nofun,hb5.mono (by nofun),rfl⟩
   ·ac_rfl
    refine cQ ?_
    ac_rfl
    refine ⟨bQ,?_⟩
    ac_rfl
    refine bD (way=2) cA (fun _=>?_) (fun _=>?_)
    ·ac_rfl
     refine xf _ hb4 (by nofun) hz2 fun y b0 b1 b2 hy hb5=>?_
     exact kk2 _ ⟨y,b0,b1,b2,_,_,by rw [hps]; nofun,hb5.mono (by nofun),rfl⟩
    ·ac_rfl
     refine xi _ hb4 (by nofun) hz2 fun y b0 b1 b2 hy hb5=>?_
     ac_rfl
     refine ⟨hy,?_⟩
     have hc4:=cut4 y
     exact kk2 _ ⟨_,b0,b1,b2,_,_,by rw [hps]; nofun,hb5.mono (by nofun),rfl⟩
  ·rintro ρ ⟨z,b0,b1,b2,y6,y7,hz,hb3,rfl⟩
   have el:∀ m:Nat,(dE 0 m).length=m:=fun m=>by
    unfold dE; rw [List.length_map,List.length_range]
   rw [el] at hz
   have hp:=FW (i:=turns.toNat) (by nofun)
   have hz2:z.length≤120000:=by
    have e:(turns - 0).toNat=turns.toNat:=by rw [Int.sub_zero]
    first | nofun | (rw [e] at hz; nofun)
   ac_rfl
   refine du True (fun _=>?_) (fun rest=>?_)
   rotate_left
   ·ac_rfl
    refine xl hz2 ?_
    ac_rfl
    exact jE (rest trivial)
   ac_rfl
   refine ⟨⟨by decide +kernel,by nofun⟩,?_⟩
   ac_rfl
   refine gB (fun j ρ=>∃ y8:Option OV,ρ=[some (.fz (.lst (ns.map .int))),some (.fz (.int i)),some (df b0 b1 b2),some (.fz (.int turns)),some (.fz (.lst (rows.map eW))),some (.fz (.str z)),y6,y7,y8]) ⟨_,rfl⟩ ?_ ?_
   ·rintro j d ρ R3 hd3 ⟨y8,rfl⟩ kk3
    rw [List.getElem?_map,Option.map_eq_some_iff] at hd3
    obtain ⟨p,hp3,rfl⟩:=hd3
    have hpl:p.length≤120000:=Nat.le_trans (fS (List.mem_of_getElem? hp3)) hz2
    have hcl:=nP p
    ac_rfl
    refine cQ ?_
    ac_rfl
    refine pA hpl ?_
    ac_rfl
    refine jE ?_
    ac_rfl
    refine ⟨by nofun,?_⟩
    ac_rfl
    refine pA (Nat.le_trans (hcl _ _) hpl) ?_
    ac_rfl
    refine jE ?_
    exact kk3 _ ⟨_,rfl⟩
   ·rintro ρ ⟨y8,rfl⟩
    exact kk _ ⟨_,_,_,_,_,_,_,_,rfl⟩
 ·rintro ρ ⟨x1,x2,x3,x4,x5,x6,x7,x8,rfl⟩
  ac_rfl
  rw [← bk0]
  refine ln (rows:=[]) ⟨(fun _ h=>nomatch h),by rw [bk0]; decide +kernel⟩ (fun k n f n' f' h=>nomatch h) ?_
  ac_rfl
  refine ⟨Nat.zero_le _,?_⟩
  ac_rfl
  exact q
end
end KR
set_option maxHeartbeats 4000000
namespace KR
open PySem L2
theorem lw {α:Type}{P:List α→Prop}(h:∀ a,P [a]):∀ us:List α,us.length=1→P us
 | [a],_=>h a
theorem xp {α:Type}{P:List α→Prop}(h:∀ a b,P [a,b]):∀ us:List α,us.length=2→P us
 | [a,b],_=>h a b
def xq (K:PySem.W.Frag):Sp:=fun vs H Q _=>∃ (a:Addr) (ns:List Int),vs=[.ref a]∧SqL K H a (ns.map V.int)∧ns.length≤63∧∀ H',Q (.bl true) H'
theorem D2 {K:PySem.W.Frag}(vs:List V)(H:Hp)(Q:VK)(E:XK)(h:xq K vs H Q E):spM K lu vs H Q E:=by
 obtain ⟨a,ns,rfl,hS,hl,q⟩:=h
 refine ⟨H,fun _=>none,[.fz (.lst (ns.map .int))],[],fun o _=>o=.fz (.bl true),Same.refl H,(fun _ _ z=>nomatch z),fun _ _ _=>rfl,.cons (.fz (.lst hS (Dens.ints ns))) .nil,List.nodup_nil,(fun _ z=>nomatch z),?_,fun o os' v F' H' C' B e _ _ _ _ _ ow _ _=>?_⟩
 ·unfold lu
  exact ⟨ns,rfl,hl,rfl⟩
 ·subst e
  cases ow with
  | fz d=>rw [d.bl_eq]; exact q H'
theorem all_mk {l:PySem.W.OpenLaw} {w:World} {K:PySem.W.Frag} {h:Heap} {mg:Str→Option Value} {fa f0 f1 f2 f3 f4 f5 f6 f7 f8 f9 f10 f11 f12 f13 f14 f15 f16 f17 f18 f19 f20 f21 f22 f23 f24 f25 f26 f27:Addr} (X:K.In h) (G:h.Ns mainGlobals mg) (hfa:mg "law" = some (.ref fa))
  {od0 an0 od1 an1 od2 an2 od3 an3 od4 an4 od5 an5 od6 an6 od7 an7 od8 an8 od9 an9 od10 an10 od11 an11 od12 an12 od13 an13 od14 an14 od15 an15 od16 an16 od17 an17 od18 an18 od19 an19 od20 an20 od21 an21 od22 an22 od23 an23 od24 an24 od25 an25 od26 an26 od27 an27:Option Addr} {sl0 sl1 sl2 sl3 sl4 sl5 sl6 sl7 sl8 sl9 sl10 sl11 sl12 sl13 sl14 sl15 sl16 sl17 sl18 sl19 sl20 sl21 sl22 sl23 sl24 sl25 sl26 sl27:Array (Option Value)} {oc0 kV0 dc0 pm0 cd0 ct0 oc1 kV1 dc1 pm1 cd1 ct1 oc2 kV2 dc2 pm2 cd2 ct2 oc3 kV3 dc3 pm3 cd3 ct3 oc4 kV4 dc4 pm4 cd4 ct4 oc5 kV5 dc5 pm5 cd5 ct5 oc6 kV6 dc6 pm6 cd6 ct6 oc7 kV7 dc7 pm7 cd7 ct7 oc8 kV8 dc8 pm8 cd8 ct8 oc9 kV9 dc9 pm9 cd9 ct9 oc10 kV10 dc10 pm10 cd10 ct10 oc11 kV11 dc11 pm11 cd11 ct11 oc12 kV12 dc12 pm12 cd12 ct12 oc13 kV13 dc13 pm13 cd13 ct13 oc14 kV14 dc14 pm14 cd14 ct14 oc15 kV15 dc15 pm15 cd15 ct15 oc16 kV16 dc16 pm16 cd16 ct16 oc17 kV17 dc17 pm17 cd17 ct17 oc18 kV18 dc18 pm18 cd18 ct18 oc19 kV19 dc19 pm19 cd19 ct19 oc20 kV20 dc20 pm20 cd20 ct20 oc21 kV21 dc21 pm21 cd21 ct21 oc22 kV22 dc22 pm22 cd22 ct22 oc23 kV23 dc23 pm23 cd23 ct23 oc24 kV24 dc24 pm24 cd24 ct24 oc25 kV25 dc25 pm25 cd25 ct25 oc26 kV26 dc26 pm26 cd26 ct26 oc27 kV27 dc27 pm27 cd27 ct27:Value} {tk0 tk1 tk2 tk3 tk4:Tok}
  (a0:PySem.W.nsIn K mainGlobals "is_name" = some (some (.ref f0))) (l0:K.lookup f0=some ⟨oc0,od0,.func (PySem.W.fnOf "is_name" "is_name" (bj fL) (aY fL) (ai fL) .none kV0 dc0 pm0 an0 cd0 ct0),sl0⟩) (c0:PySem.W.codeIn K cd0 "is_name" = true) (k0:PySem.W.keepIn K (.ref f0)=true)
  (a1:PySem.W.nsIn K mainGlobals "is_sign" = some (some (.ref f1))) (l1:K.lookup f1=some ⟨oc1,od1,.func (PySem.W.fnOf "is_sign" "is_sign" (bj fM) (aY fM) (ai fM) .none kV1 dc1 pm1 an1 cd1 ct1),sl1⟩) (c1:PySem.W.codeIn K cd1 "is_sign" = true) (k1:PySem.W.keepIn K (.ref f1)=true)
  (a2:PySem.W.nsIn K mainGlobals "is_text" = some (some (.ref f2))) (l2:K.lookup f2=some ⟨oc2,od2,.func (PySem.W.fnOf "is_text" "is_text" (bj fN) (aY fN) (ai fN) .none kV2 dc2 pm2 an2 cd2 ct2),sl2⟩) (c2:PySem.W.codeIn K cd2 "is_text" = true) (k2:PySem.W.keepIn K (.ref f2)=true)
  (a3:PySem.W.nsIn K mainGlobals "are_rising_signs" = some (some (.ref f3))) (l3:K.lookup f3=some ⟨oc3,od3,.func (PySem.W.fnOf "are_rising_signs" "are_rising_signs" (bj fO) (aY fO) (ai fO) .none kV3 dc3 pm3 an3 cd3 ct3),sl3⟩) (c3:PySem.W.codeIn K cd3 "are_rising_signs" = true) (k3:PySem.W.keepIn K (.ref f3)=true)
  (a4:PySem.W.nsIn K mainGlobals "is_form" = some (some (.ref f4))) (l4:K.lookup f4=some ⟨oc4,od4,.func (PySem.W.fnOf "is_form" "is_form" (bj fP) (aY fP) (ai fP) .none kV4 dc4 pm4 an4 cd4 ct4),sl4⟩) (c4:PySem.W.codeIn K cd4 "is_form" = true) (k4:PySem.W.keepIn K (.ref f4)=true)
  (a5:PySem.W.nsIn K mainGlobals "is_rule" = some (some (.ref f5))) (l5:K.lookup f5=some ⟨oc5,od5,.func (PySem.W.fnOf "is_rule" "is_rule" (bj fQ) (aY fQ) (ai fQ) .none kV5 dc5 pm5 an5 cd5 ct5),sl5⟩) (c5:PySem.W.codeIn K cd5 "is_rule" = true) (k5:PySem.W.keepIn K (.ref f5)=true)
  (a6:PySem.W.nsIn K mainGlobals "names_rise" = some (some (.ref f6))) (l6:K.lookup f6=some ⟨oc6,od6,.func (PySem.W.fnOf "names_rise" "names_rise" (bj gW) (aY gW) (ai gW) .none kV6 dc6 pm6 an6 cd6 ct6),sl6⟩) (c6:PySem.W.codeIn K cd6 "names_rise" = true) (k6:PySem.W.keepIn K (.ref f6)=true)
  (a7:PySem.W.nsIn K mainGlobals "is_book" = some (some (.ref f7))) (l7:K.lookup f7=some ⟨oc7,od7,.func (PySem.W.fnOf "is_book" "is_book" (bj fR) (aY fR) (ai fR) .none kV7 dc7 pm7 an7 cd7 ct7),sl7⟩) (c7:PySem.W.codeIn K cd7 "is_book" = true) (k7:PySem.W.keepIn K (.ref f7)=true)
  (a8:PySem.W.nsIn K mainGlobals "show_form" = some (some (.ref f8))) (l8:K.lookup f8=some ⟨oc8,od8,.func (PySem.W.fnOf "show_form" "show_form" (bj gX) (aY gX) (ai gX) .none kV8 dc8 pm8 an8 cd8 ct8),sl8⟩) (c8:PySem.W.codeIn K cd8 "show_form" = true) (k8:PySem.W.keepIn K (.ref f8)=true)
  (a9:PySem.W.nsIn K mainGlobals "read_form" = some (some (.ref f9))) (l9:K.lookup f9=some ⟨oc9,od9,.func (PySem.W.fnOf "read_form" "read_form" (bj gl) (aY gl) (ai gl) .none kV9 dc9 pm9 an9 cd9 ct9),sl9⟩) (c9:PySem.W.codeIn K cd9 "read_form" = true) (k9:PySem.W.keepIn K (.ref f9)=true)
  (a10:PySem.W.nsIn K mainGlobals "show_book" = some (some (.ref f10))) (l10:K.lookup f10=some ⟨oc10,od10,.func (PySem.W.fnOf "show_book" "show_book" (bj gY) (aY gY) (ai gY) .none kV10 dc10 pm10 an10 cd10 ct10),sl10⟩) (c10:PySem.W.codeIn K cd10 "show_book" = true) (k10:PySem.W.keepIn K (.ref f10)=true)
  (a11:PySem.W.nsIn K mainGlobals "read_rule" = some (some (.ref f11))) (l11:K.lookup f11=some ⟨oc11,od11,.func (PySem.W.fnOf "read_rule" "read_rule" (bj gm) (aY gm) (ai gm) .none kV11 dc11 pm11 an11 cd11 ct11),sl11⟩) (c11:PySem.W.codeIn K cd11 "read_rule" = true) (k11:PySem.W.keepIn K (.ref f11)=true)
  (a12:PySem.W.nsIn K mainGlobals "read_book" = some (some (.ref f12))) (l12:K.lookup f12=some ⟨oc12,od12,.func (PySem.W.fnOf "read_book" "read_book" (bj gn) (aY gn) (ai gn) .none kV12 dc12 pm12 an12 cd12 ct12),sl12⟩) (c12:PySem.W.codeIn K cd12 "read_book" = true) (k12:PySem.W.keepIn K (.ref f12)=true)
  (a13:PySem.W.nsIn K mainGlobals "_law_cell_at" = some (some (.ref f13))) (l13:K.lookup f13=some ⟨oc13,od13,.func (PySem.W.fnOf "_law_cell_at" "_law_cell_at" (bj ki) (aY ki) (ai ki) .none kV13 dc13 pm13 an13 cd13 ct13),sl13⟩) (c13:PySem.W.codeIn K cd13 "_law_cell_at" = true) (k13:PySem.W.keepIn K (.ref f13)=true)
  (a14:PySem.W.nsIn K mainGlobals "_law_bag" = some (some (.ref f14))) (l14:K.lookup f14=some ⟨oc14,od14,.func (PySem.W.fnOf "_law_bag" "_law_bag" (bj qq) (aY qq) (ai qq) .none kV14 dc14 pm14 an14 cd14 ct14),sl14⟩) (c14:PySem.W.codeIn K cd14 "_law_bag" = true) (k14:PySem.W.keepIn K (.ref f14)=true)
  (a15:PySem.W.nsIn K mainGlobals "_law_draw" = some (some (.ref f15))) (l15:K.lookup f15=some ⟨oc15,od15,.func (PySem.W.fnOf "_law_draw" "_law_draw" (bj kj) (aY kj) (ai kj) .none kV15 dc15 pm15 an15 cd15 ct15),sl15⟩) (c15:PySem.W.codeIn K cd15 "_law_draw" = true) (k15:PySem.W.keepIn K (.ref f15)=true)
  (a16:PySem.W.nsIn K mainGlobals "_law_name" = some (some (.ref f16))) (l16:K.lookup f16=some ⟨oc16,od16,.func (PySem.W.fnOf "_law_name" "_law_name" (bj km) (aY km) (ai km) .none kV16 dc16 pm16 an16 cd16 ct16),sl16⟩) (c16:PySem.W.codeIn K cd16 "_law_name" = true) (k16:PySem.W.keepIn K (.ref f16)=true)
  (a17:PySem.W.nsIn K mainGlobals "_law_names" = some (some (.ref f17))) (l17:K.lookup f17=some ⟨oc17,od17,.func (PySem.W.fnOf "_law_names" "_law_names" (bj gT) (aY gT) (ai gT) .none kV17 dc17 pm17 an17 cd17 ct17),sl17⟩) (c17:PySem.W.codeIn K cd17 "_law_names" = true) (k17:PySem.W.keepIn K (.ref f17)=true)
  (a18:PySem.W.nsIn K mainGlobals "_law_signs" = some (some (.ref f18))) (l18:K.lookup f18=some ⟨oc18,od18,.func (PySem.W.fnOf "_law_signs" "_law_signs" (bj gU) (aY gU) (ai gU) .none kV18 dc18 pm18 an18 cd18 ct18),sl18⟩) (c18:PySem.W.codeIn K cd18 "_law_signs" = true) (k18:PySem.W.keepIn K (.ref f18)=true)
  (a19:PySem.W.nsIn K mainGlobals "_law_form" = some (some (.ref f19))) (l19:K.lookup f19=some ⟨oc19,od19,.func (PySem.W.fnOf "_law_form" "_law_form" (bj ko) (aY ko) (ai ko) .none kV19 dc19 pm19 an19 cd19 ct19),sl19⟩) (c19:PySem.W.codeIn K cd19 "_law_form" = true) (k19:PySem.W.keepIn K (.ref f19)=true)
  (a20:PySem.W.nsIn K mainGlobals "_law_book" = some (some (.ref f20))) (l20:K.lookup f20=some ⟨oc20,od20,.func (PySem.W.fnOf "_law_book" "_law_book" (bj kq) (aY kq) (ai kq) .none kV20 dc20 pm20 an20 cd20 ct20),sl20⟩) (c20:PySem.W.codeIn K cd20 "_law_book" = true) (k20:PySem.W.keepIn K (.ref f20)=true)
  (a21:PySem.W.nsIn K mainGlobals "_law_sign" = some (some (.ref f21))) (l21:K.lookup f21=some ⟨oc21,od21,.func (PySem.W.fnOf "_law_sign" "_law_sign" (bj kr) (aY kr) (ai kr) .none kV21 dc21 pm21 an21 cd21 ct21),sl21⟩) (c21:PySem.W.codeIn K cd21 "_law_sign" = true) (k21:PySem.W.keepIn K (.ref f21)=true)
  (a22:PySem.W.nsIn K mainGlobals "_law_text_turned" = some (some (.ref f22))) (l22:K.lookup f22=some ⟨oc22,od22,.func (PySem.W.fnOf "_law_text_turned" "_law_text_turned" (bj gZ) (aY gZ) (ai gZ) .none kV22 dc22 pm22 an22 cd22 ct22),sl22⟩) (c22:PySem.W.codeIn K cd22 "_law_text_turned" = true) (k22:PySem.W.keepIn K (.ref f22)=true)
  (a23:PySem.W.nsIn K mainGlobals "_law_whole_turned" = some (some (.ref f23))) (l23:K.lookup f23=some ⟨oc23,od23,.func (PySem.W.fnOf "_law_whole_turned" "_law_whole_turned" (bj g5) (aY g5) (ai g5) .none kV23 dc23 pm23 an23 cd23 ct23),sl23⟩) (c23:PySem.W.codeIn K cd23 "_law_whole_turned" = true) (k23:PySem.W.keepIn K (.ref f23)=true)
  (a24:PySem.W.nsIn K mainGlobals "_law_words_turned" = some (some (.ref f24))) (l24:K.lookup f24=some ⟨oc24,od24,.func (PySem.W.fnOf "_law_words_turned" "_law_words_turned" (bj g0) (aY g0) (ai g0) .none kV24 dc24 pm24 an24 cd24 ct24),sl24⟩) (c24:PySem.W.codeIn K cd24 "_law_words_turned" = true) (k24:PySem.W.keepIn K (.ref f24)=true)
  (a25:PySem.W.nsIn K mainGlobals "_law_book_kept" = some (some (.ref f25))) (l25:K.lookup f25=some ⟨oc25,od25,.func (PySem.W.fnOf "_law_book_kept" "_law_book_kept" (bj g6) (aY g6) (ai g6) .none kV25 dc25 pm25 an25 cd25 ct25),sl25⟩) (c25:PySem.W.codeIn K cd25 "_law_book_kept" = true) (k25:PySem.W.keepIn K (.ref f25)=true)
  (a26:PySem.W.nsIn K mainGlobals "_law_form_kept" = some (some (.ref f26))) (l26:K.lookup f26=some ⟨oc26,od26,.func (PySem.W.fnOf "_law_form_kept" "_law_form_kept" (bj g7) (aY g7) (ai g7) .none kV26 dc26 pm26 an26 cd26 ct26),sl26⟩) (c26:PySem.W.codeIn K cd26 "_law_form_kept" = true) (k26:PySem.W.keepIn K (.ref f26)=true)
  (a27:PySem.W.nsIn K mainGlobals "law" = some (some (.ref f27))) (l27:K.lookup f27=some ⟨oc27,od27,.func (PySem.W.fnOf "law" "law" (bj lv) (aY lv) (ai lv) .none kV27 dc27 pm27 an27 cd27 ct27),sl27⟩) (c27:PySem.W.codeIn K cd27 "law" = true) (k27:PySem.W.keepIn K (.ref f27)=true)
  (z0:PySem.W.nsIn K mainGlobals "len" = some none)
  (z1:PySem.W.nsIn K mainGlobals "max" = some none)
  (z2:PySem.W.nsIn K mainGlobals "min" = some none)
  (z3:PySem.W.nsIn K mainGlobals "isinstance" = some none)
  (z4:PySem.W.nsIn K mainGlobals "all" = some none)
  (z5:PySem.W.nsIn K mainGlobals "sorted" = some none)
  (z6:PySem.W.nsIn K mainGlobals "range" = some none)
  (z7:PySem.W.nsIn K mainGlobals "str" = some none)
  (z8:PySem.W.nsIn K mainGlobals "list" = some none)
  (z9:PySem.W.nsIn K mainGlobals "tuple" = some none)
  (z10:PySem.W.nsIn K mainGlobals "set" = some none)
  (z11:PySem.W.nsIn K mainGlobals "ord" = some none)
  (z12:PySem.W.nsIn K mainGlobals "ValueError" = some none)
  (gl0:PySem.W.nsIn K mainGlobals "LETTERS" = some (some (.str "abcdefghijklmnopqrstuvwxyz" tk0)))
  (gl1:PySem.W.nsIn K mainGlobals "MOST_LETTERS" = some (some (.int 8 tk1)))
  (gl2:PySem.W.nsIn K mainGlobals "MOST_SIGNS" = some (some (.int 40 tk2)))
  (gl3:PySem.W.nsIn K mainGlobals "MOST_PARTS" = some (some (.int 8 tk3)))
  (gl4:PySem.W.nsIn K mainGlobals "BARRED_SIGN" = some (some (.int 37 tk4)))
  {ta0:Addr} {odt0:Option Addr} {nt0:Nat} {slt0:Array (Option Value)} {tt0_0 tt0_1:Tok} {ta1:Addr} {odt1:Option Addr} {nt1:Nat} {slt1:Array (Option Value)} {tt1_0 tt1_1 tt1_2:Tok} {ta2:Addr} {odt2:Option Addr} {nt2:Nat} {slt2:Array (Option Value)} {tt2_0 tt2_1:Tok}
  (ga0:PySem.W.nsIn K mainGlobals "WORDS_ALONE" = some (some (.ref ta0))) (gt0:K.lookup ta0=some ⟨.type "tuple", odt0,.seq #[.str "none" tt0_0,.str "any" tt0_1] nt0,slt0⟩)
  (ga1:PySem.W.nsIn K mainGlobals "WORDS_WITH_ONE" = some (some (.ref ta1))) (gt1:K.lookup ta1=some ⟨.type "tuple", odt1,.seq #[.str "again" tt1_0,.str "ahead" tt1_1,.str "not" tt1_2] nt1,slt1⟩)
  (ga2:PySem.W.nsIn K mainGlobals "WORDS_WITH_SOME" = some (some (.ref ta2))) (gt2:K.lookup ta2=some ⟨.type "tuple", odt2,.seq #[.str "row" tt2_0,.str "first" tt2_1] nt2,slt2⟩)
  {C:Addr}
  (x0:PySem.W.nsIn K mainGlobals "NoText" = some (some (.ref C)))
  (xe:gP K C)
  (xm:PySem.W.exmOne K (.ref C) (.ref C)=some true)
  : ∃ fd:FuncData,(∀ (s:Shared) (v:Value),BindsTo s fd ⟨[v],[]⟩ [("script", v)])∧∀ base:Heap,K.In base→base.Ns mainGlobals mg→FnOk l.prog w K mg base CX0 9 fa fd ["script"] (xq K):=by
 have e:=hfa.symm.trans (PySem.W.mg_of X G a27)
 cases e
 have T:Txt K mg:=⟨PySem.W.mg_none_of X G z0,PySem.W.mg_none_of X G z1,PySem.W.mg_none_of X G z2,PySem.W.mg_none_of X G z3,PySem.W.mg_none_of X G z4,PySem.W.mg_none_of X G z5,PySem.W.mg_none_of X G z6,PySem.W.mg_none_of X G z7,PySem.W.mg_none_of X G z8,PySem.W.mg_none_of X G z9,PySem.W.mg_none_of X G z10,PySem.W.mg_none_of X G z11,PySem.W.mg_none_of X G z12,⟨_,PySem.W.mg_of X G gl0,⟨_,rfl⟩⟩,⟨_,PySem.W.mg_of X G gl1,⟨_,rfl⟩⟩,⟨_,PySem.W.mg_of X G gl2,⟨_,rfl⟩⟩,⟨_,PySem.W.mg_of X G gl3,⟨_,rfl⟩⟩,⟨_,PySem.W.mg_of X G gl4,⟨_,rfl⟩⟩,⟨ta0,PySem.W.mg_of X G ga0,fun _=>.inr ⟨_,_,_,gt0,rfl,rfl,(by show 2≤sizeLine; decide),(.cons ⟨_,rfl⟩ (.cons ⟨_,rfl⟩ Paired.nil))⟩⟩,⟨ta1,PySem.W.mg_of X G ga1,fun _=>.inr ⟨_,_,_,gt1,rfl,rfl,(by show 3≤sizeLine; decide),(.cons ⟨_,rfl⟩ (.cons ⟨_,rfl⟩ (.cons ⟨_,rfl⟩ Paired.nil)))⟩⟩,⟨ta2,PySem.W.mg_of X G ga2,fun _=>.inr ⟨_,_,_,gt2,rfl,rfl,(by show 2≤sizeLine; decide),(.cons ⟨_,rfl⟩ (.cons ⟨_,rfl⟩ Paired.nil))⟩⟩⟩
 have F0:=cv (st:=fL) l0 c0 k0
 have b0:=F0.binds (ps:=["thing"]) fun _ _ _ _ _ _=>lw fun _=>rfl
 have F1:=cv (st:=fM) l1 c1 k1
 have b1:=F1.binds (ps:=["sign"]) fun _ _ _ _ _ _=>lw fun _=>rfl
 have F2:=cv (st:=fN) l2 c2 k2
 have b2:=F2.binds (ps:=["thing"]) fun _ _ _ _ _ _=>lw fun _=>rfl
 have F3:=cv (st:=fO) l3 c3 k3
 have b3:=F3.binds (ps:=["thing"]) fun _ _ _ _ _ _=>lw fun _=>rfl
 have F4:=cv (st:=fP) l4 c4 k4
 have b4:=F4.binds (ps:=["thing"]) fun _ _ _ _ _ _=>lw fun _=>rfl
 have F5:=cv (st:=fQ) l5 c5 k5
 have b5:=F5.binds (ps:=["thing"]) fun _ _ _ _ _ _=>lw fun _=>rfl
 have F6:=cv (st:=gW) l6 c6 k6
 have b6:=F6.binds (ps:=["rows"]) fun _ _ _ _ _ _=>lw fun _=>rfl
 have F7:=cv (st:=fR) l7 c7 k7
 have b7:=F7.binds (ps:=["thing"]) fun _ _ _ _ _ _=>lw fun _=>rfl
 have F8:=cv (st:=gX) l8 c8 k8
 have b8:=F8.binds (ps:=["form"]) fun _ _ _ _ _ _=>lw fun _=>rfl
 have F9:=cv (st:=gl) l9 c9 k9
 have b9:=F9.binds (ps:=["text"]) fun _ _ _ _ _ _=>lw fun _=>rfl
 have F10:=cv (st:=gY) l10 c10 k10
 have b10:=F10.binds (ps:=["book"]) fun _ _ _ _ _ _=>lw fun _=>rfl
 have F11:=cv (st:=gm) l11 c11 k11
 have b11:=F11.binds (ps:=["text"]) fun _ _ _ _ _ _=>lw fun _=>rfl
 have F12:=cv (st:=gn) l12 c12 k12
 have b12:=F12.binds (ps:=["text"]) fun _ _ _ _ _ _=>lw fun _=>rfl
 have F13:=cv (st:=ki) l13 c13 k13
 have b13:=F13.binds (ps:=["script", "k"]) fun _ _ _ _ _ _=>xp fun _ _=>rfl
 have F14:=cv (st:=qq) l14 c14 k14
 have b14:=F14.binds (ps:=["cell", "place"]) fun _ _ _ _ _ _=>xp fun _ _=>rfl
 have F15:=cv (st:=kj) l15 c15 k15
 have b15:=F15.binds (ps:=["bag", "many"]) fun _ _ _ _ _ _=>xp fun _ _=>rfl
 have F16:=cv (st:=km) l16 c16 k16
 have b16:=F16.binds (ps:=["bag", "last"]) fun _ _ _ _ _ _=>xp fun _ _=>rfl
 have F17:=cv (st:=gT) l17 c17 k17
 have b17:=F17.binds (ps:=["bag", "many"]) fun _ _ _ _ _ _=>xp fun _ _=>rfl
 have F18:=cv (st:=gU) l18 c18 k18
 have b18:=F18.binds (ps:=["bag"]) fun _ _ _ _ _ _=>lw fun _=>rfl
 have F19:=cv (st:=ko) l19 c19 k19
 have b19:=F19.binds (ps:=["bag", "names"]) fun _ _ _ _ _ _=>xp fun _ _=>rfl
 have F20:=cv (st:=kq) l20 c20 k20
 have b20:=F20.binds (ps:=["bag"]) fun _ _ _ _ _ _=>lw fun _=>rfl
 have F21:=cv (st:=kr) l21 c21 k21
 have b21:=F21.binds (ps:=["bag"]) fun _ _ _ _ _ _=>lw fun _=>rfl
 have F22:=cv (st:=gZ) l22 c22 k22
 have b22:=F22.binds (ps:=["bag", "text"]) fun _ _ _ _ _ _=>xp fun _ _=>rfl
 have F23:=cv (st:=g5) l23 c23 k23
 have b23:=F23.binds (ps:=["bag", "text"]) fun _ _ _ _ _ _=>xp fun _ _=>rfl
 have F24:=cv (st:=g0) l24 c24 k24
 have b24:=F24.binds (ps:=["bag", "text"]) fun _ _ _ _ _ _=>xp fun _ _=>rfl
 have F25:=cv (st:=g6) l25 c25 k25
 have b25:=F25.binds (ps:=["text"]) fun _ _ _ _ _ _=>lw fun _=>rfl
 have F26:=cv (st:=g7) l26 c26 k26
 have b26:=F26.binds (ps:=["text"]) fun _ _ _ _ _ _=>lw fun _=>rfl
 have F27:=cv (st:=lv) l27 c27 k27
 have b27:=F27.binds (ps:=["script"]) fun _ _ _ _ _ _=>lw fun _=>rfl
 refine ⟨PySem.W.fnOf "law" "law" (bj lv) (aY lv) (ai lv) .none kV27 dc27 pm27 an27 cd27 ct27,fun s v=>.of_eq rfl,fun base _ _=>?_⟩
 have O_is_name:Own l.prog w K mg base "is_name" 1 ["thing"] (spM K bK):=⟨f0,_,tL F0 T wn wo,PySem.W.mg_of X G a0,k0,b0⟩
 have O_is_sign:Own l.prog w K mg base "is_sign" 1 ["sign"] (spM K cE):=⟨f1,_,tO F1 T wp wq,PySem.W.mg_of X G a1,k1,b1⟩
 have O_is_text:Own l.prog w K mg base "is_text" 2 ["thing"] (spM K cD):=⟨f2,_,tR F2 T O_is_sign wt wu,PySem.W.mg_of X G a2,k2,b2⟩
 have O_are_rising_signs:Own l.prog w K mg base "are_rising_signs" 3 ["thing"] (spM K aE):=⟨f3,_,tV F3 T O_is_text wv ww,PySem.W.mg_of X G a3,k3,b3⟩
 have O_is_form:Own l.prog w K mg base "is_form" 4 ["thing"] (spM K bi):=⟨f4,_,tZ F4 T O_are_rising_signs O_is_name wx wy,PySem.W.mg_of X G a4,k4,b4⟩
 have O_is_rule:Own l.prog w K mg base "is_rule" 5 ["thing"] (spM K cF):=⟨f5,_,t6 F5 T O_is_name O_is_form wz wA,PySem.W.mg_of X G a5,k5,b5⟩
 have O_names_rise:Own l.prog w K mg base "names_rise" 1 ["rows"] (spM K bx):=⟨f6,_,wC F6 T Az AA,PySem.W.mg_of X G a6,k6,b6⟩
 have O_is_book:Own l.prog w K mg base "is_book" 6 ["thing"] (spM K bH):=⟨f7,_,ua F7 T O_is_rule O_names_rise wE wF,PySem.W.mg_of X G a7,k7,b7⟩
 have O_show_form:Own l.prog w K mg base "show_form" 1 ["form"] (spM K bo):=⟨f8,_,wH F8 T AD AE,PySem.W.mg_of X G a8,k8,b8⟩
 have O_read_form:Own l.prog w K mg base "read_form" 5 ["text"] (spM K bq):=⟨f9,_,wI F9 T O_is_form AG AH,PySem.W.mg_of X G a9,k9,b9⟩
 have O_show_book:Own l.prog w K mg base "show_book" 2 ["book"] (spM K bu):=⟨f10,_,wT F10 T O_show_form AN AO,PySem.W.mg_of X G a10,k10,b10⟩
 have O_read_rule:Own l.prog w K mg base "read_rule" 6 ["text"] (spM K bt):=⟨f11,_,wP F11 T O_read_form AL AM,PySem.W.mg_of X G a11,k11,b11⟩
 have O_read_book:Own l.prog w K mg base "read_book" 7 ["text"] (spM K bf):=⟨f12,_,wU F12 T O_read_rule O_is_book AQ AR,PySem.W.mg_of X G a12,k12,b12⟩
 have O_law_cell_at:Own l.prog w K mg base "_law_cell_at" 1 ["script", "k"] (spM K bh):=⟨f13,_,Ah F13 T DD DE,PySem.W.mg_of X G a13,k13,b13⟩
 have O_law_bag:Own l.prog w K mg base "_law_bag" 1 ["cell", "place"] (spM K cB):=⟨f14,_,DC F14 T Fb Fc,PySem.W.mg_of X G a14,k14,b14⟩
 have O_law_draw:Own l.prog w K mg base "_law_draw" 1 ["bag", "many"] (spM K ac):=⟨f15,_,Aj F15 T DF DG,PySem.W.mg_of X G a15,k15,b15⟩
 have O_law_name:Own l.prog w K mg base "_law_name" 2 ["bag", "last"] (spM K bX):=⟨f16,_,Al F16 T O_law_draw DH DI,PySem.W.mg_of X G a16,k16,b16⟩
 have O_law_names:Own l.prog w K mg base "_law_names" 3 ["bag", "many"] (spM K bG):=⟨f17,_,wa F17 T O_law_name An Ao,PySem.W.mg_of X G a17,k17,b17⟩
 have O_law_signs:Own l.prog w K mg base "_law_signs" 2 ["bag"] (spM K bL):=⟨f18,_,wg F18 T O_law_draw Ap Aq,PySem.W.mg_of X G a18,k18,b18⟩
 have O_law_form:Own l.prog w K mg base "_law_form" 3 ["bag", "names"] (spM K bY):=⟨f19,_,As F19 T O_law_draw O_law_signs DJ DK,PySem.W.mg_of X G a19,k19,b19⟩
 have O_law_book:Own l.prog w K mg base "_law_book" 4 ["bag"] (spM K bZ):=⟨f20,_,Av F20 T O_law_draw O_law_names O_law_form DL DM,PySem.W.mg_of X G a20,k20,b20⟩
 have O_law_sign:Own l.prog w K mg base "_law_sign" 2 ["bag"] (spM K bv):=⟨f21,_,AX F21 T O_law_draw DT DW,PySem.W.mg_of X G a21,k21,b21⟩
 have O_law_text_turned:Own l.prog w K mg base "_law_text_turned" 3 ["bag", "text"] (spM K aL):=⟨f22,_,w8 F22 T O_law_draw O_law_sign AY A0,PySem.W.mg_of X G a22,k22,b22⟩
 have O_law_whole_turned:Own l.prog w K mg base "_law_whole_turned" 3 ["bag", "text"] (spM K aH):=⟨f23,_,xh F23 T O_law_draw O_law_sign A8 Ba,PySem.W.mg_of X G a23,k23,b23⟩
 have O_law_words_turned:Own l.prog w K mg base "_law_words_turned" 3 ["bag", "text"] (spM K aG):=⟨f24,_,xb F24 T O_law_draw A6 A7,PySem.W.mg_of X G a24,k24,b24⟩
 have okxread_form:=uu (P:=l.prog) (w:=w) (base:=base) F9 T O_is_form (PySem.W.mg_of X G x0) xe
 have R_read_form:OwnR l.prog w K mg base "read_form" 5 ["text"] (spR K nN C):=⟨⟨_,_,okxread_form,PySem.W.mg_of X G a9,k9,b9⟩⟩
 have okxread_rule:=uz (P:=l.prog) (w:=w) (base:=base) F11 T R_read_form
 have R_read_rule:OwnR l.prog w K mg base "read_rule" 6 ["text"] (spR K uq C):=⟨⟨_,_,okxread_rule,PySem.W.mg_of X G a11,k11,b11⟩⟩
 have okxread_book:=uC (P:=l.prog) (w:=w) (base:=base) F12 T O_read_rule R_read_rule O_is_book (PySem.W.mg_of X G x0) xe
 have R_read_book:OwnR l.prog w K mg base "read_book" 7 ["text"] (spR K ur C):=⟨⟨_,_,okxread_book,PySem.W.mg_of X G a12,k12,b12⟩⟩
 have O_law_book_kept:Own l.prog w K mg base "_law_book_kept" 8 ["text"] (spM K aW):=⟨f25,_,xk F25 T O_read_book O_is_book O_show_book R_read_book (PySem.W.mg_of X G x0) xm Bc Bd,PySem.W.mg_of X G a25,k25,b25⟩
 have O_law_form_kept:Own l.prog w K mg base "_law_form_kept" 8 ["text"] (spM K aM):=⟨f26,_,xo F26 T O_read_form O_is_form O_show_form R_read_form (PySem.W.mg_of X G x0) xm Be Bf,PySem.W.mg_of X G a26,k26,b26⟩
 exact (D1 F27 T O_law_cell_at O_law_bag O_law_draw O_law_book O_show_book O_read_book O_law_text_turned O_law_words_turned O_law_whole_turned O_law_book_kept O_law_form_kept Ff Fg).imp D2
theorem walk {l:PySem.W.OpenLaw}{q:Program}{loose:List Str}{XP:(Str→Option Value)→Heap→Prop}{YP:World→Heap→Prop}{d:DefRec}{K:Params→PySem.W.Frag}(hn:l.most=some 63)(hdf:d.params.defaults=[])
  (hY:∀ (w:World) (h:Heap),YP w h→(K w.params).In h)
  (F:∀ (w:World) (mg:Str→Option Value) (fa:Addr) (h:Heap),(K w.params).In h→h.Ns mainGlobals mg→mg d.name=some (.ref fa) →
   ∃ fd:FuncData,(∀ (s:Shared) (u:Value),BindsTo s fd ⟨[u],[]⟩ [("script", u)])∧∀ base:Heap,(K w.params).In base→base.Ns mainGlobals mg→FnOk l.prog w (K w.params) mg base CX0 9 fa fd ["script"] (xq (K w.params))) :
  PySem.W.WalkO q loose XP YP l.row.toRowW d [] (fun f vs=>PySem.call f vs) :=
 L2.walk_of (n:=63) (k:=9) (x := "script") (CX:=fun _=>CX0) (sp:=fun w=>xq (K w.params)) hn (by decide) hdf ⟨rfl,by decide,by decide,rfl⟩ hY F (fun _ _ a ns hl _ hS=>⟨a,ns,rfl,hS,hl,fun _=>rfl⟩) fun _ _ _ _ _ z=>z
end KR
open PySem PySem.W PyProof.Rows
set_option maxRecDepth 100000 in
set_option maxHeartbeats 0 in
theorem PySem.Challenge.cw_keptreading_k49_whole_one_writing_holds : PySem.Challenge.rw_keptreading_k49_whole_one_writing.Holds := by
  w_on; o_law; k_head; (case hw=>w_witness2)
  k_fill
  refine KR.walk (l:=PySem.Challenge.rw_keptreading_k49_whole_one_writing) rfl rfl (fun w h Y=>PySem.W.kIn_of Y) ?F
  case F =>
    intro w mg fa h KX G hmg
    refine' KR.all_mk KX G hmg ?a0 ?l0 ?c0 ?k0 ?a1 ?l1 ?c1 ?k1 ?a2 ?l2 ?c2 ?k2 ?a3 ?l3 ?c3 ?k3 ?a4 ?l4 ?c4 ?k4 ?a5 ?l5 ?c5 ?k5 ?a6 ?l6 ?c6 ?k6 ?a7 ?l7 ?c7 ?k7 ?a8 ?l8 ?c8 ?k8 ?a9 ?l9 ?c9 ?k9 ?a10 ?l10 ?c10 ?k10 ?a11 ?l11 ?c11 ?k11 ?a12 ?l12 ?c12 ?k12 ?a13 ?l13 ?c13 ?k13 ?a14 ?l14 ?c14 ?k14 ?a15 ?l15 ?c15 ?k15 ?a16 ?l16 ?c16 ?k16 ?a17 ?l17 ?c17 ?k17 ?a18 ?l18 ?c18 ?k18 ?a19 ?l19 ?c19 ?k19 ?a20 ?l20 ?c20 ?k20 ?a21 ?l21 ?c21 ?k21 ?a22 ?l22 ?c22 ?k22 ?a23 ?l23 ?c23 ?k23 ?a24 ?l24 ?c24 ?k24 ?a25 ?l25 ?c25 ?k25 ?a26 ?l26 ?c26 ?k26 ?a27 ?l27 ?c27 ?k27 ?z0 ?z1 ?z2 ?z3 ?z4 ?z5 ?z6 ?z7 ?z8 ?z9 ?z10 ?z11 ?z12 ?gl0 ?gl1 ?gl2 ?gl3 ?gl4 ?ga0 ?gt0 ?ga1 ?gt1 ?ga2 ?gt2 ?x0 ?xe ?xm
    (case a0=>k_is); (case l0=>k_is); (case c0=>k_is); (case k0=>k_is); (case a1=>k_is); (case l1=>k_is)
    (case c1=>k_is); (case k1=>k_is); (case a2=>k_is); (case l2=>k_is); (case c2=>k_is); (case k2=>k_is)
    (case a3=>k_is); (case l3=>k_is); (case c3=>k_is); (case k3=>k_is); (case a4=>k_is); (case l4=>k_is)
    (case c4=>k_is); (case k4=>k_is); (case a5=>k_is); (case l5=>k_is); (case c5=>k_is); (case k5=>k_is)
    (case a6=>k_is); (case l6=>k_is); (case c6=>k_is); (case k6=>k_is); (case a7=>k_is); (case l7=>k_is)
    (case c7=>k_is); (case k7=>k_is); (case a8=>k_is); (case l8=>k_is); (case c8=>k_is); (case k8=>k_is)
    (case a9=>k_is); (case l9=>k_is); (case c9=>k_is); (case k9=>k_is); (case a10=>k_is); (case l10=>k_is)
    (case c10=>k_is); (case k10=>k_is); (case a11=>k_is); (case l11=>k_is); (case c11=>k_is); (case k11=>k_is)
    (case a12=>k_is); (case l12=>k_is); (case c12=>k_is); (case k12=>k_is); (case a13=>k_is); (case l13=>k_is)
    (case c13=>k_is); (case k13=>k_is); (case a14=>k_is); (case l14=>k_is); (case c14=>k_is); (case k14=>k_is)
    (case a15=>k_is); (case l15=>k_is); (case c15=>k_is); (case k15=>k_is); (case a16=>k_is); (case l16=>k_is)
    (case c16=>k_is); (case k16=>k_is); (case a17=>k_is); (case l17=>k_is); (case c17=>k_is); (case k17=>k_is)
    (case a18=>k_is); (case l18=>k_is); (case c18=>k_is); (case k18=>k_is); (case a19=>k_is); (case l19=>k_is)
    (case c19=>k_is); (case k19=>k_is); (case a20=>k_is); (case l20=>k_is); (case c20=>k_is); (case k20=>k_is)
    (case a21=>k_is); (case l21=>k_is); (case c21=>k_is); (case k21=>k_is); (case a22=>k_is); (case l22=>k_is)
    (case c22=>k_is); (case k22=>k_is); (case a23=>k_is); (case l23=>k_is); (case c23=>k_is); (case k23=>k_is)
    (case a24=>k_is); (case l24=>k_is); (case c24=>k_is); (case k24=>k_is); (case a25=>k_is); (case l25=>k_is)
    (case c25=>k_is); (case k25=>k_is); (case a26=>k_is); (case l26=>k_is); (case c26=>k_is); (case k26=>k_is)
    (case a27=>k_is); (case l27=>k_is); (case c27=>k_is); (case k27=>k_is); (case z0=>k_is); (case z1=>k_is)
    (case z2=>k_is); (case z3=>k_is); (case z4=>k_is); (case z5=>k_is); (case z6=>k_is); (case z7=>k_is)
    (case z8=>k_is); (case z9=>k_is); (case z10=>k_is); (case z11=>k_is); (case z12=>k_is); (case gl0=>k_is)
    (case gl1=>k_is); (case gl2=>k_is); (case gl3=>k_is); (case gl4=>k_is)
    (case ga0=>k_is); (case gt0=>k_is); (case ga1=>k_is); (case gt1=>k_is); (case ga2=>k_is); (case gt2=>k_is)
    (case x0=>k_is)
    (case xe=>(show PySem.W.excIn _ _ [.type "ValueError", .type "Exception", .type "BaseException", .type "object"] "ValueError.__new__" = true; k_exc))
    (case xm=>kts_exm)
