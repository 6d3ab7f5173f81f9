import PyProof.Rows.All
import Wide.All
import OpenK.AllK
import Wide.FinOn
import Lean
import PyProof.EqAt
import PyProof.EqKinds
import PyProof.TupleCall
import PySem.Challenge.RW_keptreading_k06_begins
set_option genSizeOf false
set_option genSizeOfSpec false
set_option genInjectivity false
set_option Elab.async false
set_option linter.all false
set_option maxRecDepth 100000
set_option compiler.extract_closed false
namespace L2
theorem aF (_:True:=by first | exact .inl rfl | exact .inr rfl | assumption):True:=trivial
theorem aD (_:True:=by decide):True:=trivial
theorem aI (_:True:=by intro _; rfl):True:=trivial
theorem aR (_:True:=by rfl):True:=trivial
end L2
namespace L2
open PySem PySem.Spec PyProof.Rows
noncomputable abbrev Key:=Sum Int Str
noncomputable def keyIs:Key→Value→Bool
  | .inl k,v=>Value.isInt k v
  | .inr x,v=>Value.isStrOf x v
noncomputable def keyH (w:World):Key→Int
  | .inl k=>hashInt k
  | .inr x=>hashStr w x
theorem keyIs_shape:∀ {k:Key} {v:Value},keyIs k v=true→(∃ i t,k=Sum.inl i∧v=Value.int i t)∨(∃ x t,k=Sum.inr x∧v=Value.str x t)
  | .inl i,v,h=>by
    obtain ⟨t,e⟩:=Value.isInt_shape (k:=i) (v:=v) h
    exact .inl ⟨i,t,rfl,e⟩
  | .inr x,v,h=>by
    obtain ⟨t,e⟩:=Value.isStrOf_shape (x:=x) (v:=v) h
    exact .inr ⟨x,t,rfl,e⟩
theorem keyIs_int (i:Int) (t:Tok):keyIs (.inl i) (.int i t)=true:=by simp [keyIs,Value.isInt]
theorem keyIs_str (x:Str) (t:Tok):keyIs (.inr x) (.str x t)=true:=by simp [keyIs,Value.isStrOf]
theorem key_ll (a b:Int):decide ((Sum.inl a:Key)=Sum.inl b)=(a == b):=by
  by_cases e:a=b
  · subst e; simp
  · have h:¬ (Sum.inl a:Key)=Sum.inl b:=fun q=>e (Sum.inl.inj q)
    rw [decide_eq_false h]
    exact (beq_eq_false_iff_ne.mpr e).symm
theorem key_rr (a b:Str):decide ((Sum.inr a:Key)=Sum.inr b)=decide (a=b):=by
  by_cases e:a=b
  · subst e; simp
  · have h:¬ (Sum.inr a:Key)=Sum.inr b:=fun q=>e (Sum.inr.inj q)
    rw [decide_eq_false h,decide_eq_false e]
theorem key_lr (a:Int) (b:Str):decide ((Sum.inl a:Key)=Sum.inr b)=false:=decide_eq_false (fun q=>nomatch q)
theorem key_rl (a:Str) (b:Int):decide ((Sum.inr a:Key)=Sum.inl b)=false:=decide_eq_false (fun q=>nomatch q)
noncomputable def mixKind (prog:Program) (w:World):PySem.KeyKind prog w Key where
  is:=keyIs
  hash:=keyH w
  inj:=fun v a b ha hb=>by
    rcases keyIs_shape ha with ⟨i,t,rfl,rfl⟩ | ⟨x,t,rfl,rfl⟩
    · rcases keyIs_shape hb with ⟨j,u,rfl,e⟩ | ⟨y,u,rfl,e⟩
      · injection e with e1 _; rw [e1]
      · exact nomatch e
    · rcases keyIs_shape hb with ⟨j,u,rfl,e⟩ | ⟨y,u,rfl,e⟩
      · exact nomatch e
      · injection e with e1 _; rw [e1]
  byValue:=fun k v h=>by
    rcases keyIs_shape h with ⟨i,t,rfl,rfl⟩ | ⟨x,t,rfl,rfl⟩ <;> rfl
  pyHash:=fun hv h=>by
    rcases keyIs_shape hv with ⟨i,t,rfl,rfl⟩ | ⟨x,t,rfl,rfl⟩
    · exact wpAny_pyHash_int h
    · exact wpAny_pyHash_str h
  eqBool:=fun hu hv h=>by
    rcases keyIs_shape hu with ⟨i,t,rfl,rfl⟩ | ⟨x,t,rfl,rfl⟩
    · rcases keyIs_shape hv with ⟨j,u,rfl,rfl⟩ | ⟨y,u,rfl,rfl⟩
      · rw [key_ll] at h; exact wpAny_eqBool_int h
      · rw [key_lr] at h; exact SeqAt.EqAt.int_str i t y u _ _ _ _ h
    · rcases keyIs_shape hv with ⟨j,u,rfl,rfl⟩ | ⟨y,u,rfl,rfl⟩
      · rw [key_rl] at h; exact SeqAt.EqAt.str_int x t j u _ _ _ _ h
      · rw [key_rr] at h; exact wpAny_eqBool_str h
  «strs»:=fun k x t v h=>by
    rcases keyIs_shape h with ⟨i,u,rfl,e⟩ | ⟨y,u,rfl,e⟩
    · exact nomatch e
    · injection e with e1 _
      subst e1
      cases v <;> rfl
theorem mixKind_int (prog:Program) (w:World) (i:Int) (t:Tok):(mixKind prog w).is (.inl i) (.int i t)=true:=keyIs_int i t
theorem mixKind_str (prog:Program) (w:World) (x:Str) (t:Tok):(mixKind prog w).is (.inr x) (.str x t)=true:=keyIs_str x t
end L2
namespace L2
open PySem PySem.Spec PyProof.Rows
inductive V where
  | non | bl (b:Bool) | int (i:Int) | str (x:Str) | byt (b:Array UInt8) | flt (b:UInt64) | ref (a:Addr) | ty (n:String)
  deriving DecidableEq
noncomputable def RelV:V→Value→Prop
  | .non,u=>u=Value.none
  | .bl b,u=>u=Value.bool b
  | .int i,u=>∃ t,u=Value.int i t
  | .str x,u=>∃ t,u=Value.str x t
  | .byt b,u=>∃ t,u=Value.bytes b t
  | .flt b,u=>∃ t,u=Value.float b t
  | .ref a,u=>u=Value.ref a
  | .ty n,u=>u=Value.type n
noncomputable abbrev Vals:List V→List Value→Prop:=Paired RelV
theorem Vals.length {xs:List V} {us:List Value} (r:Vals xs us):xs.length=us.length:=Paired.length r
theorem Vals.get:∀ {xs:List V} {us:List Value} {i:Nat} {x:V},Vals xs us→xs[i]?=some x→∃ u,us[i]?=some u∧RelV x u
  | _,_,_,_,.nil,e=>by simp at e
  | _,_,0,_,.cons r _,e=>by simp at e; subst e; exact ⟨_,rfl,r⟩
  | _,_,i+1,x,.cons _ t,e=>by
    obtain ⟨u,h1,h2⟩:=Vals.get (i:=i) (x:=x) t (by first|exact e|exact List.mem_singleton.mp e|simpa using e)
    exact ⟨u,by first|exact h1|exact List.mem_singleton.mp h1|simpa using h1,h2⟩
theorem Vals.set {x:V} {u:Value} (r:RelV x u):∀ {xs:List V} {us:List Value} (i:Nat),Vals xs us→Vals (xs.set i x) (us.set i u)
  | _,_,_,.nil=>.nil
  | _,_,0,.cons _ t=>.cons r t
  | _,_,i+1,.cons q t=>.cons q (Vals.set r i t)
theorem Vals.append:∀ {xs ys:List V} {us ws:List Value},Vals xs us→Vals ys ws→Vals (xs++ys) (us++ws)
  | _,_,_,_,.nil,s=>s
  | _,_,_,_,.cons r t,s=>.cons r (Vals.append t s)
theorem Vals.take:∀ {xs:List V} {us:List Value} (n:Nat),Vals xs us→Vals (xs.take n) (us.take n)
  | _,_,0,_=>.nil
  | _,_,_+1,.nil=>.nil
  | _,_,n+1,.cons r t=>.cons r (Vals.take n t)
theorem Vals.drop:∀ {xs:List V} {us:List Value} (n:Nat),Vals xs us→Vals (xs.drop n) (us.drop n)
  | _,_,0,r=>r
  | _,_,_+1,.nil=>.nil
  | _,_,n+1,.cons _ t=>Vals.drop n t
noncomputable def RelO:Option V→Option Value→Prop
  | some v,some u=>RelV v u
  | none,none=>True
  | _,_=>False
noncomputable def KV {κ:Type}:List (κ×V)→List (κ×Value)→Prop:=Paired fun (p:κ×V) (q:κ×Value)=>p.1=q.1∧RelV p.2 q.2
noncomputable def kV:Key→V
  | .inl i=>.int i
  | .inr x=>.str x
inductive HO where
  | lst (xs:List V)
  | tup (xs:List V)
  | dK (kvs:List (Key×V)) | dT (kvs:List (List Key×V))
  | set (S:Int→Bool) (n:Nat)
  | ins (C dx:Addr) (fs:List (Str×V))
  | own (x:Addr)
  | xd (fs:List (Str×V))
  | met (f x:Addr)
  | rng (lo hi:Int)
  | frz (o:Obj) (u:HO)
  | tbl (ps:Array Value)
  | ext (φ:Heap→Prop)
noncomputable abbrev Hp:=Addr→Option HO
noncomputable def upd (H:Hp) (a:Addr) (o:HO):Hp:=fun b=>if b=a then some o else H b
theorem upd_same {H:Hp} {a:Addr} {o:HO}:upd H a o a=some o:=by unfold upd; rw [if_pos rfl]
theorem upd_ne {H:Hp} {a b:Addr} {o:HO} (h:b≠a):upd H a o b=H b:=by unfold upd; rw [if_neg h]
theorem ne_of {H:Hp} {a b:Addr} {o u:HO} (h:H a=some o) (h':H b=some u) (d:o≠u):a≠b:=by
  intro e; subst e; rw [h] at h'; exact d (Option.some.inj h')
theorem ne_of_none {H:Hp} {a b:Addr} {o:HO} (h:H a=some o) (h':H b=none):a≠b:=by
  intro e; subst e; rw [h] at h'; cases h'
section
variable (P:Program) (w:World)
noncomputable def ObjOk (H:Hp) (h:Heap) (a:Addr):HO→Prop
  | .lst xs=>xs.length≤sizeLine∧∃ (its:List Value) (n:Nat),Vals xs its∧h.get? a=some { cls:=.type "list", data:=.seq its.toArray n }
  | .tup xs=>xs.length≤sizeLine∧∃ its:List Value,Vals xs its∧IsTup h a its.toArray
  | .dK kvs=>kvs.length≤sizeLine∧(a == sysModules)=false∧∃ vs,KV kvs vs∧h.DictOf (mixKind P w) a vs
  | .dT kvs=>kvs.length≤sizeLine∧(a == sysModules)=false∧∃ xs:List (List Key×Addr×Value),
      Paired (fun (p:List Key×V) (q:List Key×Addr×Value)=>p.1=q.1∧H q.2.1=some (.tup (p.1.map kV))∧RelV p.2 q.2.2) kvs xs ∧
      ∃ o es ep,h.get? a=some o∧o.ExactDict∧o.data=.dict es ep∧es.toList=xs.map (entryOfKey (tupleKind (mixKind P w)))∧(xs.map (·.1)).Nodup
  | .set S n=>h.SetOf (intKind P w) a S n
  | .ins C dx fs=>H dx=some (.own a)∧fs.length≤1000∧dx≠a∧h.get? a=some (PySem.W.instObj C dx) ∧
      ∃ mA,h.Ns1 dx mA∧(∀ f,RelO (fs.lookup f) (mA f))∧PySem.Within mA (fs.map (·.1))
  | .own _=>∃ o,h.get? a=some o
  | .xd fs=>∃ mA,h.Ns1 a mA∧∀ f,RelO (fs.lookup f) (mA f)
  | .rng lo hi=>∃ t u v,h.get? a=some { cls:=.type "range", data:=.fields #[.int lo t,.int hi u,.int 1 v] }
  | .frz o u=>h.get? a=some o∧ObjOk H h a u
  | .tbl ps=>h.get? a=some { cls:=.none,data:=.fields ps }
  | .met f x=>h.get? a=some (PySem.W.methodObj (.ref f) (.ref x))
  | .ext φ=>φ h∧(∃ o,h.get? a=some o)∧∀ h1 h2:Heap,φ h1→(∀ o,h1.get? a=some o→h2.get? a=some o)→φ h2
noncomputable def HOk (H:Hp) (h:Heap):Prop:=∀ a o,H a=some o→ObjOk P w H h a o
end
section
variable {P:Program} {w:World} {H H':Hp} {h h':Heap} {a:Addr} {o:HO}
theorem ObjOk.lt (x:ObjOk P w H h a o):a < h.objs.size:=by
  cases o with
  | lst xs=>obtain ⟨_,_,_,_,e⟩:=x; exact Heap.lt_size e
  | tup xs=>obtain ⟨_,_,_,p⟩:=x; exact p.lt
  | dK kvs=>obtain ⟨_,_,_,_,o,_,_,e,_⟩:=x; exact Heap.lt_size e
  | dT kvs=>obtain ⟨_,_,_,_,o,_,_,e,_⟩:=x; exact Heap.lt_size e
  | set S n=>obtain ⟨o,_,_,_,e,_⟩:=x; exact Heap.lt_size e
  | ins C dx fs=>obtain ⟨_,_,_,e,_⟩:=x; exact Heap.lt_size e
  | own y=>obtain ⟨_,e⟩:=x; exact Heap.lt_size e
  | xd fs=>obtain ⟨_,⟨_,_,_,e,_⟩,_⟩:=x; exact Heap.lt_size e
  | rng lo hi=>obtain ⟨_,_,_,e⟩:=x; exact Heap.lt_size e
  | frz ob u=>obtain ⟨e,_⟩:=x; exact Heap.lt_size e
  | tbl ps=>exact Heap.lt_size (show h.get? a=some _ from x)
  | met f y=>exact Heap.lt_size (show h.get? a=some _ from x)
  | ext φ=>obtain ⟨_,⟨_,e⟩,_⟩:=x; exact Heap.lt_size e
theorem Paired.mapP {α β:Type} {F G:α→β→Prop} {l₁:List α} {l₂:List β} (h:Paired F l₁ l₂) (f:∀ a b,F a b→G a b):Paired G l₁ l₂:=by
  induction h with
  | nil=>exact .nil
  | cons r t ih=>exact .cons (f _ _ r) ih
theorem ObjOk.stay (x:ObjOk P w H h a o) (k:∀ b u,(b=a∨H b=some (.own a))→h.get? b=some u→h'.get? b=some u)
    (ho:∀ b,H b=some (.own a)→H' b=some (.own a)) (ht:∀ b xs,H b=some (.tup xs)→H' b=some (.tup xs)):ObjOk P w H' h' a o:=by
  induction o with
  | lst xs=>obtain ⟨z,its,n,r,e⟩:=x; exact ⟨z,its,n,r,k _ _ (.inl rfl) e⟩
  | tup xs=>obtain ⟨z,its,r,ob,e,c⟩:=x; exact ⟨z,its,r,ob,k _ _ (.inl rfl) e,c⟩
  | dK kvs=>obtain ⟨z,y,vs,r,ob,es,ep,e,c⟩:=x; exact ⟨z,y,vs,r,ob,es,ep,k _ _ (.inl rfl) e,c⟩
  | dT kvs =>
    obtain ⟨z,y,xs,r,ob,es,ep,e,c⟩:=x
    exact ⟨z,y,xs,Paired.mapP r fun p q z=>⟨z.1,ht _ _ z.2.1,z.2.2⟩,ob,es,ep,k _ _ (.inl rfl) e,c⟩
  | set S n=>obtain ⟨ob,es,ep,t,e,c⟩:=x; exact ⟨ob,es,ep,t,k _ _ (.inl rfl) e,c⟩
  | ins C dx fs =>
    obtain ⟨d,z,ne,e,mA,⟨od,es,ep,e2,c⟩,r⟩:=x
    exact ⟨ho _ d,z,ne,k _ _ (.inl rfl) e,mA,⟨od,es,ep,k _ _ (.inr d) e2,c⟩,r⟩
  | own y=>obtain ⟨ob,e⟩:=x; exact ⟨ob,k _ _ (.inl rfl) e⟩
  | xd fs=>obtain ⟨mA,⟨od,es,ep,e,c⟩,r⟩:=x; exact ⟨mA,⟨od,es,ep,k _ _ (.inl rfl) e,c⟩,r⟩
  | rng lo hi=>obtain ⟨t,u,v,e⟩:=x; exact ⟨t,u,v,k _ _ (.inl rfl) e⟩
  | frz ob u ih=>obtain ⟨e,q⟩:=x; exact ⟨k _ _ (.inl rfl) e,ih q⟩
  | tbl ps =>
    have e:h.get? a=some { cls:=.none,data:=.fields ps }:=x
    show h'.get? a=some { cls:=.none,data:=.fields ps }
    exact k a _ (.inl rfl) e
  | met f y =>
    have e:h.get? a=some (PySem.W.methodObj (.ref f) (.ref y)):=x
    show h'.get? a=some (PySem.W.methodObj (.ref f) (.ref y))
    exact k a _ (.inl rfl) e
  | ext φ=>obtain ⟨p,⟨o,e⟩,st⟩:=x; exact ⟨st _ _ p fun o q=>k _ _ (.inl rfl) q,⟨o,k _ _ (.inl rfl) e⟩,st⟩
theorem HOk.lt (x:HOk P w H h) (e:H a=some o):a < h.objs.size:=(x a o e).lt
theorem HOk.fresh (x:HOk P w H h) (e:h.objs.size≤a):H a=none:=by
  cases q:H a with
  | none=>rfl
  | some u=>exact absurd (Nat.lt_of_lt_of_le (x.lt q) e) (Nat.lt_irrefl _)
theorem HOk.kept (x:HOk P w H h) (k:∀ b u,h.get? b=some u→h'.get? b=some u):HOk P w H h':=fun a o e =>
  (x a o e).stay (fun b u _ q=>k b u q) (fun _ q=>q) fun _ _ q=>q
theorem HOk.laid (x:HOk P w H h) (k:∀ b u,h.get? b=some u→h'.get? b=some u) (hp:h.objs.size≤a) (new:ObjOk P w (upd H a o) h' a o):HOk P w (upd H a o) h':=fun b u e=>by
  have hn:=x.fresh hp
  by_cases hb:b=a
  · subst hb; rw [upd_same] at e; cases e; exact new
  · rw [upd_ne hb] at e
    exact (x b u e).stay (fun c v _ q=>k c v q) (fun c q=>by rw [upd_ne (ne_of_none q hn)]; exact q) fun c xs q=>by rw [upd_ne (ne_of_none q hn)]; exact q
end
noncomputable def Rd (H:Hp) (a:Addr) (u:HO):Prop:=H a=some u∨∃ o,H a=some (.frz o u)
theorem Rd.ok {P:Program} {w:World} {H:Hp} {h:Heap} {a:Addr} {u:HO} (r:Rd H a u) (x:HOk P w H h):ObjOk P w H h a u:=by
  rcases r with r | ⟨o,r⟩
  · exact x a u r
  · obtain ⟨_,q⟩:=x a _ r
    exact q
noncomputable def Mut:Option HO→Prop
  | some (.lst _)=>True
  | some (.dK _)=>True
  | some (.dT _)=>True
  | some (.set _ _)=>True
  | some (.ins _ _ _)=>True
  | some (.ext _)=>True
  | _=>False
section
variable {P:Program} {w:World} {H:Hp} {h h':Heap} {x e:Addr} {o':HO}
theorem HOk.write (ok:HOk P w H h) (mu:Mut (H x)) (he:e=x∨H e=some (.own x)) (k:∀ b u,b≠e→h.get? b=some u→h'.get? b=some u) (heo:∃ u,h'.get? e=some u)
    (new:ObjOk P w (upd H x o') h' x o'):HOk P w (upd H x o') h':=fun b u q=>by
  have nown:∀ c y,H c=some (.own y)→c≠x:=fun c y r z=>by subst z; rw [r] at mu; exact mu
  have ntup:∀ c xs,H c=some (.tup xs)→c≠x:=fun c xs r z=>by subst z; rw [r] at mu; exact mu
  by_cases hb:b=x
  · subst hb; rw [upd_same] at q; cases q; exact new
  · rw [upd_ne hb] at q
    by_cases hbe:b=e
    · have q':H b=some (.own x):=by
        rcases he with z | z
        · exact absurd (hbe.trans z) hb
        · rw [hbe]; exact z
      rw [q] at q'; cases q'
      obtain ⟨v,hv⟩:=heo
      exact ⟨v,by rw [hbe]; exact hv⟩
    · refine (ok b u q).stay (fun c v hc r=>k c v ?_ r) (fun c r=>by rw [upd_ne (nown c b r)]; exact r) fun c xs r=>by rw [upd_ne (ntup c xs r)]; exact r
      rcases hc with rfl | hc
      · exact hbe
      · rintro rfl
        rcases he with z | z
        · exact nown c b hc z
        · rw [hc] at z; cases z; exact hb rfl
end
structure Un (fs ex:List Addr) (H H':Hp) (h h':Heap):Prop where
  keep:∀ b o,h.get? b=some o→H b=none→b ∉ fs→b ∉ ex→h'.get? b=some o
  slot:∀ b o,h.get? b=some o→H b=none→b ∈ fs→b ∉ ex→∃ sl,h'.get? b=some { o with slots:=sl }
  free:∀ b o,h.get? b=some o→H b=none→b ∉ ex→H' b=none
  there:∀ b o,h.get? b=some o→b ∉ ex→∃ o',h'.get? b=some o'
  tups:∀ b xs,H b=some (.tup xs)→H' b=some (.tup xs)
  frzs:∀ b o u,H b=some (.frz o u)→H' b=some (.frz o u)
  tbls:∀ b ps,H b=some (.tbl ps)→∃ more,H' b=some (.tbl (ps++more))
section
variable {fs fs' ex ex':List Addr} {H H1 H2:Hp} {h h1 h2 h':Heap} {a x e:Addr} {o:HO}
theorem Un.any (u:Un fs ex H H1 h h1) {b:Addr} {ob:Obj} (q:h.get? b=some ob) (n:H b=none) (hx:b ∉ ex):∃ sl,h1.get? b=some { ob with slots:=sl }:=by
  by_cases hb:b ∈ fs
  · exact u.slot b ob q n hb hx
  · exact ⟨ob.slots,u.keep b ob q n hb hx⟩
theorem Un.kept (k:∀ b u,h.get? b=some u→h'.get? b=some u):Un fs ex H H h h' :=
  ⟨fun b ob q _ _ _=>k b ob q,fun b ob q _ _ _=>⟨ob.slots,k b ob q⟩,fun _ _ _ n _=>n,fun b ob q _=>⟨ob,k b ob q⟩,fun _ _ q=>q,fun _ _ _ q=>q,fun _ ps q=>⟨#[],by rw [q]; simp⟩⟩
theorem Un.refl:Un fs ex H H h h:=Un.kept fun _ _ q=>q
theorem Un.laid (k:∀ b u,h.get? b=some u→h'.get? b=some u) (hp:h.objs.size≤a) (hn:H a=none):Un fs ex H (upd H a o) h h' where
  keep:=fun b u q _ _ _=>k b u q
  slot:=fun b u q _ _ _=>⟨u.slots,k b u q⟩
  free:=fun b u q n _=>by rw [upd_ne (Nat.ne_of_lt (Nat.lt_of_lt_of_le (Heap.lt_size q) hp))]; exact n
  there:=fun b u q _=>⟨u,k b u q⟩
  tups:=fun b xs q=>by rw [upd_ne (ne_of_none q hn)]; exact q
  frzs:=fun b u xs q=>by rw [upd_ne (ne_of_none q hn)]; exact q
  tbls:=fun b ps q=>⟨#[],by rw [upd_ne (ne_of_none q hn),q]; simp⟩
theorem Un.write (mu:Mut (H x)) (he:e=x∨H e=some (.own x)) (k:∀ b u,b≠e→h.get? b=some u→h'.get? b=some u) (heo:∃ u,h'.get? e=some u):Un fs ex H (upd H x o) h h':=by
  have hx:∀ b,H b=none→b≠x:=fun b n z=>by subst z; rw [n] at mu; exact mu
  have hb:∀ b,H b=none→b≠e:=fun b n z=>by
    subst z
    rcases he with r | r
    · exact hx b n r
    · rw [n] at r; cases r
  have hm:∀ b u,H b=some u→¬ Mut (some u)→b≠x:=fun b u q nm z=>by subst z; rw [q] at mu; exact nm mu
  refine ⟨fun b u q n _ _=>k b u (hb b n) q,fun b u q n _ _=>⟨u.slots,k b u (hb b n) q⟩,fun b u q n _=>by rw [upd_ne (hx b n)]; exact n,fun b u q _=>?_,
    fun b xs q=>by rw [upd_ne (hm b _ q fun z=>z)]; exact q,fun b u xs q=>by rw [upd_ne (hm b _ q fun z=>z)]; exact q,fun b ps q=>⟨#[],by rw [upd_ne (hm b _ q fun z=>z),q]; simp⟩⟩
  by_cases hbe:b=e
  · subst hbe; exact heo
  · exact ⟨u,k b u hbe q⟩
end
noncomputable def trk (h:Heap) (H:Hp):List Addr:=(List.range h.objs.size).filter fun a=>(H a).isSome
noncomputable def hidT (h:Heap) (H:Hp):Heap:=PySem.W.hideAll h (trk h H)
theorem hidT_size (h:Heap) (H:Hp):(hidT h H).objs.size=h.objs.size:=PySem.W.hideAll_size _ _
theorem hidT_get {h:Heap} {H:Hp} {b:Addr} {o:Obj} (e:h.get? b=some o) (n:H b=none):(hidT h H).get? b=some o :=
  PySem.W.hideAll_get _ e fun hm=>by
    have q:(H b).isSome=true:=(List.mem_filter.mp hm).2
    rw [n] at q; simp at q
theorem of_hidT {h:Heap} {H:Hp} {b:Addr} {o:Obj} (e:(hidT h H).get? b=some o):h.get? b=some o∧H b=none:=by
  have e':h.get? b=some o:=PySem.W.of_hideAll (trk h H) e
  refine ⟨e',?_⟩
  cases q:H b with
  | none=>rfl
  | some x =>
    have hm:b ∈ trk h H:=List.mem_filter.mpr ⟨List.mem_range.mpr (Heap.lt_size e'),by simp [q]⟩
    have z:(hidT h H).get? b=none:=PySem.W.hideAll_none (trk h H) hm
    rw [z] at e; cases e
noncomputable def allNews (g h:Heap) (L:Addr):List (Addr×Obj):=(List.range h.objs.size).filterMap fun a=>if a=L∨(g.get? a).isSome=true then none else (h.get? a).map fun o=>(a,o)
theorem mem_allNews {g h:Heap} {L a:Addr} {o:Obj} (h1:a≠L) (h2:g.get? a=none) (h3:h.get? a=some o):(a,o) ∈ allNews g h L :=
  List.mem_filterMap.mpr ⟨a,List.mem_range.mpr (Heap.lt_size h3),by simp [h1,h2,h3]⟩
theorem of_mem_allNews {g h:Heap} {L:Addr} {p:Addr×Obj} (hp:p ∈ allNews g h L):p.1≠L∧g.get? p.1=none∧h.get? p.1=some p.2:=by
  obtain ⟨b,_,e⟩:=List.mem_filterMap.mp hp
  split at e
  · cases e
  · rename_i hn
    cases q:h.get? b with
    | none=>rw [q] at e; simp at e
    | some u =>
      rw [q] at e
      simp only [Option.map_some,Option.some.injEq] at e
      subst e
      refine ⟨fun z=>hn (.inl z),?_,q⟩
      show g.get? b=none
      cases r:g.get? b with
      | none=>rfl
      | some v=>exact (hn (.inr (by simp [r]))).elim
noncomputable def rest (g h:Heap) (L d:Addr):List (Addr×Obj):=(allNews g h L).filter fun p=>decide (p.1≠d)
theorem news_all {g h:Heap} {L:Addr}:News g L h (allNews g h L):=fun p hp=>let ⟨a,b,c⟩:=of_mem_allNews hp; ⟨c,a,b⟩
end L2
namespace L2
open PySem PySem.Spec PyProof.Rows
structure Mod (K:PySem.W.Frag) (mg:Str→Option Value) (base:Heap):Prop where
  kin:K.In base
  glob:base.Ns mainGlobals mg
  blt:∃ mb,base.Ns builtinsNs mb∧∀ x:Str,x ≠ "__name__" → mb x=bootBuiltins x
  nolimit:base.NoLimit
structure Cx where
  prog:Program
  w:World
  K:PySem.W.Frag
  mg:Str→Option Value
  base:Heap
  A:Around
  N:List Str
  s₀:Shared
  H₀:Hp
  env:Env
  outer:List Env
  stack:List Env
  ex:List Addr
  fn:Str→Bool
  calm:Bool
  pn:List (Addr×Obj)
  xe:Value→Shared→Prop
noncomputable def frs (l:List Env):List Addr:=l.filterMap (·.frame)
noncomputable abbrev Cx.fs (X:Cx):List Addr:=frs X.outer
noncomputable def Vis (sc:Scope) (x:Str):Prop:=sc.names.lookup x=some .local∨sc.names.lookup x=some .cell∨sc.names.lookup x=some .free
noncomputable def Loc (sc:Scope) (x:Str):Prop:=sc.names.lookup x=some .local∨sc.names.lookup x=some .cell
noncomputable def Look (env:Env) (h:Heap) (m:Str→Option Value) (x:Str) (u:Value):Prop :=
  (env.kindOf x=some .local∧m x=some u)∨((env.kindOf x=some .cell∨env.kindOf x=some .free)∧∃ c,env.cells.lookup x=some c∧h.IsCell c (some u))
structure Cx.Ok (X:Cx):Prop where
  mod:Mod X.K X.mg X.base
  kind:X.env.scope.kind=.function
  glob:X.env.globals=mainGlobals
  blt:X.env.builtins=builtinsNs
  above:X.s₀.heap.objs.size≤X.env.locals
  inj:∀ x y c,X.env.cells.lookup x=some c→X.env.cells.lookup y=some c→x=y
  has:∀ x,(X.env.kindOf x=some .cell∨X.env.kindOf x=some .free)→∃ c,X.env.cells.lookup x=some c
  cab:∀ x c,X.fn x=true→X.env.cells.lookup x=some c→X.s₀.heap.objs.size≤c
  hd:X.calm=true→X.A.handled=none
  frames:X.A.frames=some X.stack
  stk:X.stack=X.outer∨(X.stack=X.env::X.outer∧X.env.frame=some X.env.locals)
  exf:∀ b ∈ X.ex,b≠X.env.locals∧∀ x c,X.env.cells.lookup x=some c→c≠b
  bs:∀ b o,X.base.get? b=some o→X.s₀.heap.get? b=some o∧X.H₀ b=none
  bsz:X.base.objs.size≤X.s₀.heap.objs.size
  noex:∀ b o,X.base.get? b=some o→b ∉ X.ex
  exfs:∀ b ∈ X.ex,b ∉ X.fs
  funs:X.s₀.heap.FunFrames X.base X.outer
  frf:∀ b ∈ X.fs,X.H₀ b=none
structure Inv (X:Cx) (pins:List (Addr×Obj)) (σ:List (Option V)) (H:Hp) (s:Shared):Prop where
  ok:X.Ok
  os:s.os=X.s₀.os
  bare:AllBare s.gens
  base:Un X.fs X.ex X.H₀ H X.s₀.heap s.heap
  loc:∃ m,s.heap.Ns X.env.locals m∧∀ (i:Nat) (x:Str) (v:V),X.N[i]?=some x→σ[i]?=some (some v)→Vis X.env.scope x→∃ u,RelV v u∧Look X.env s.heap m x u
  cell:∀ x c,X.env.cells.lookup x=some c→∃ v,s.heap.IsCell c v
  free:H X.env.locals=none
  freeC:∀ x c,X.env.cells.lookup x=some c→H c=none
  pin:∀ p ∈ X.pn++pins,s.heap.get? p.1=some p.2∧H p.1=none∧p.1≠X.env.locals∧p.1 ∉ X.fs∧∀ v,p.2.data≠.cell v
  hok:HOk X.prog X.w H s.heap
  len:σ.length=X.N.length
section
variable {X:Cx} {pins:List (Addr×Obj)} {σ:List (Option V)} {H H':Hp} {s:Shared} {h':Heap}
theorem Cx.Ok.nofr (ok:X.Ok) {b:Addr} {o:Obj} (e:X.base.get? b=some o):b ∉ X.fs:=fun hb=>by
  have:=(ok.funs.mem hb).1
  rw [e] at this; cases this
theorem Inv.bs (I:Inv X pins σ H s):∀ b o,X.base.get? b=some o→s.heap.get? b=some o∧H b=none:=fun b o e =>
  ⟨I.base.keep b o (I.ok.bs b o e).1 (I.ok.bs b o e).2 (I.ok.nofr e) (I.ok.noex b o e),I.base.free b o (I.ok.bs b o e).1 (I.ok.bs b o e).2 (I.ok.noex b o e)⟩
theorem Inv.bk (I:Inv X pins σ H s):∀ b o,X.base.get? b=some o→s.heap.get? b=some o:=fun b o e=>(I.bs b o e).1
theorem Inv.mod (I:Inv X pins σ H s):Mod X.K X.mg X.base:=I.ok.mod
theorem Inv.kIn (I:Inv X pins σ H s):X.K.In s.heap:=I.ok.mod.kin.keeps I.bk
theorem Inv.lt (I:Inv X pins σ H s):X.env.locals < s.heap.objs.size:=let ⟨_,hn,_⟩:=I.loc; hn.lt
theorem Inv.sz (I:Inv X pins σ H s):X.s₀.heap.objs.size≤s.heap.objs.size:=Nat.le_trans I.ok.above (Nat.le_of_lt I.lt)
theorem Inv.nofs (I:Inv X pins σ H s) {a:Addr} (h:s.heap.objs.size≤a):a ∉ X.fs:=fun hb=>by
  obtain ⟨_,o,ho,_⟩:=I.ok.funs.mem hb
  exact absurd (Nat.lt_of_lt_of_le (Heap.lt_size ho) (Nat.le_trans I.sz h)) (Nat.lt_irrefl _)
theorem Inv.cne (I:Inv X pins σ H s):∀ x c,X.env.cells.lookup x=some c→c≠X.env.locals:=fun x c e z=>by
  obtain ⟨v,o,ho,hd⟩:=I.cell x c e
  obtain ⟨m,⟨o',es,ep,ho',hd',_⟩,_⟩:=I.loc
  rw [z,ho'] at ho; cases ho; rw [hd'] at hd; cases hd
theorem Inv.funs (I:Inv X pins σ H s):s.heap.FunFrames X.base X.outer:=by
  have all:∀ (l:List Env),(∀ b ∈ frs l,b ∈ X.fs)→X.s₀.heap.FunFrames X.base l→s.heap.FunFrames X.base l:=by
    intro l
    induction l with
    | nil=>intro _ _; trivial
    | cons env r ih =>
      intro hs hl
      obtain ⟨hk,⟨L,o,hf,hn,ho,hd⟩,hr⟩:=hl
      have hL:L ∈ X.fs:=hs L (by unfold frs; rw [List.filterMap_cons,hf]; exact List.mem_cons_self)
      obtain ⟨sl,e⟩:=I.base.slot L o ho (I.ok.frf L hL) hL fun z=>I.ok.exfs L z hL
      exact ⟨hk,⟨L,_,hf,hn,e,hd⟩,ih (fun b hb=>hs b (by unfold frs; rw [List.filterMap_cons,hf]; exact List.mem_cons_of_mem _ hb)) hr⟩
  exact all X.outer (fun _ hb=>hb) I.ok.funs
theorem Inv.stack (I:Inv X pins σ H s):s.heap.FunFrames X.base X.stack:=by
  rcases I.ok.stk with e | ⟨e,hf⟩
  · rw [e]; exact I.funs
  · rw [e]
    obtain ⟨m,hn,_⟩:=I.loc
    refine .cons (by rw [I.ok.kind]; decide) hf hn ?_ I.funs
    exact Heap.get?_none_of_le (Nat.le_trans I.ok.bsz I.ok.above)
theorem Inv.stkSub (I:Inv X pins σ H s):∀ b ∈ frs X.stack,b ∈ X.env.locals::X.fs:=fun b hb=>by
  rcases I.ok.stk with e | ⟨e,hf⟩
  · rw [e] at hb; exact List.mem_cons_of_mem _ hb
  · rw [e] at hb
    unfold frs at hb
    rw [List.filterMap_cons,hf] at hb
    exact hb
theorem Inv.stkFree (I:Inv X pins σ H s):∀ b ∈ frs X.stack,H b=none:=fun b hb=>by
  rcases List.mem_cons.mp (I.stkSub b hb) with e | hb
  · rw [e]; exact I.free
  · obtain ⟨_,o,ho,_⟩:=I.ok.funs.mem hb
    exact I.base.free b o ho (I.ok.frf b hb) fun z=>I.ok.exfs b z hb
theorem Inv.step {g':Array GenState} {t':Nat} {d':Drawn} {ch:List Addr} (I:Inv X pins σ H s)
    (hch:∀ b ∈ ch,(b ∈ X.ex∨X.s₀.heap.objs.size≤b)∧b≠X.env.locals∧(∀ x c,X.env.cells.lookup x=some c→c≠b)∧∀ p ∈ X.pn++pins,p.1≠b)
    (keep:∀ b o,b≠X.env.locals→b ∉ X.fs→b ∉ ch→s.heap.get? b=some o→H b=none→h'.get? b=some o)
    (slot:∀ b o,b≠X.env.locals→b ∈ X.fs→b ∉ ch→s.heap.get? b=some o→H b=none→∃ sl,h'.get? b=some { o with slots:=sl }) (free:∀ b o,b ∉ ch→s.heap.get? b=some o→H b=none→H' b=none)
    (there:∀ b o,b ∉ ch→s.heap.get? b=some o→∃ o',h'.get? b=some o')
    (tups:∀ b xs,H b=some (.tup xs)→H' b=some (.tup xs)) (frzs:∀ b o u,H b=some (.frz o u)→H' b=some (.frz o u)) (tbls:∀ b ps,H b=some (.tbl ps)→∃ more,H' b=some (.tbl (ps++more)))
    (ns:∀ m,s.heap.Ns X.env.locals m→h'.Ns X.env.locals m) (hok:HOk X.prog X.w H' h') (hg:AllBare g') :
    Inv X pins σ H' { s with heap:=h',gens:=g',drawn:=d',toks:=t' }:=by
  have neL:∀ b o,X.s₀.heap.get? b=some o→b≠X.env.locals:=fun b o e=>Nat.ne_of_lt (Nat.lt_of_lt_of_le (Heap.lt_size e) I.ok.above)
  have neC:∀ b o,X.s₀.heap.get? b=some o→b ∉ X.ex→b ∉ ch:=fun b o e hx hb=>by
    rcases (hch b hb).1 with z | z
    · exact hx z
    · exact absurd (Nat.lt_of_lt_of_le (Heap.lt_size e) z) (Nat.lt_irrefl _)
  have cellK:∀ x c,X.env.cells.lookup x=some c→∀ v,s.heap.IsCell c v→h'.IsCell c v:=fun x c e v ⟨o,ho,hd⟩=>by
    have nch:c ∉ ch:=fun z=>(hch c z).2.2.1 x c e rfl
    by_cases hc:c ∈ X.fs
    · obtain ⟨sl,q⟩:=slot c o (I.cne x c e) hc nch ho (I.freeC x c e)
      exact ⟨_,q,hd⟩
    · exact ⟨o,keep c o (I.cne x c e) hc nch ho (I.freeC x c e),hd⟩
  refine ⟨I.ok,I.os,hg,⟨fun b o e n hb hx=>?_,fun b o e n hb hx=>?_,fun b o e n hx=>?_,fun b o e hx=>?_,fun b xs e=>tups b xs (I.base.tups b xs e),fun b o xs e=>frzs b o xs (I.base.frzs b o xs e),fun b ps e=>?_⟩,?_,fun x c e=>?_,?_,fun x c e=>?_,fun p hp=>?_,hok,I.len⟩
  · exact keep b o (neL b o e) hb (neC b o e hx) (I.base.keep b o e n hb hx) (I.base.free b o e n hx)
  · obtain ⟨sl,e1⟩:=I.base.slot b o e n hb hx
    obtain ⟨sl',e2⟩:=slot b _ (neL b o e) hb (neC b o e hx) e1 (I.base.free b o e n hx)
    exact ⟨sl',e2⟩
  · obtain ⟨o',e1⟩:=I.base.there b o e hx
    exact free b o' (neC b o e hx) e1 (I.base.free b o e n hx)
  · obtain ⟨o',e1⟩:=I.base.there b o e hx
    exact there b o' (neC b o e hx) e1
  · obtain ⟨m1,e1⟩:=I.base.tbls b ps e
    obtain ⟨m2,e2⟩:=tbls b _ e1
    exact ⟨m1++m2,by rw [e2,Array.append_assoc]⟩
  · obtain ⟨m,hn,hl⟩:=I.loc
    refine ⟨m,ns m hn,fun i x v e1 e2 e3=>?_⟩
    obtain ⟨u,r,l⟩:=hl i x v e1 e2 e3
    refine ⟨u,r,?_⟩
    rcases l with l | ⟨k,c,e,z⟩
    · exact .inl l
    · exact .inr ⟨k,c,e,cellK x c e _ z⟩
  · obtain ⟨v,z⟩:=I.cell x c e
    exact ⟨v,cellK x c e v z⟩
  · obtain ⟨m,⟨o,_,_,ho,_⟩,_⟩:=I.loc
    exact free _ o (fun z=>(hch _ z).2.1 rfl) ho I.free
  · obtain ⟨v,o,ho,hd⟩:=I.cell x c e
    exact free c o (fun z=>(hch c z).2.2.1 x c e rfl) ho (I.freeC x c e)
  · obtain ⟨e,n,ne,nf,d⟩:=I.pin p hp
    have nch:p.1 ∉ ch:=fun z=>(hch p.1 z).2.2.2 p hp rfl
    exact ⟨keep p.1 p.2 ne nf nch e n,free p.1 p.2 nch e n,ne,nf,d⟩
theorem Inv.un {t':Nat} (I:Inv X pins σ H s) (u:Un X.fs [] H H' s.heap h') (hok:HOk X.prog X.w H' h'):Inv X pins σ H' { s with heap:=h',toks:=t' }:=by
  obtain ⟨m,⟨o,es,ep,ho,r⟩,_⟩:=id I.loc
  obtain ⟨sl,hL⟩:=u.any ho I.free (by simp)
  exact I.step (g':=s.gens) (d':=s.drawn) (ch:=[]) (fun _ z=>nomatch z) (fun b o _ hb _ e n=>u.keep b o e n hb (by simp)) (fun b o _ hb _ e n=>u.slot b o e n hb (by simp)) (fun b o _ e n=>u.free b o e n (by simp)) (fun b o _ e=>u.there b o e (by simp)) u.tups u.frzs u.tbls (fun m' hm=>by
    obtain ⟨o',es',ep',ho',r'⟩:=hm
    rw [ho] at ho'; cases ho'
    exact ⟨_,es',ep',hL,r'⟩) hok I.bare
theorem Inv.call {g':Array GenState} {t':Nat} {d':Drawn} {ch:List Addr} (I:Inv X pins σ H s) (u:Un (frs X.stack) ch H H' s.heap h') (hok:HOk X.prog X.w H' h') (hg:AllBare g')
    (hch:∀ b ∈ ch,(b ∈ X.ex∨X.s₀.heap.objs.size≤b)∧b≠X.env.locals∧(∀ x c,X.env.cells.lookup x=some c→c≠b)∧∀ p ∈ X.pn++pins,p.1≠b) :
    Inv X pins σ H' { s with heap:=h',gens:=g',drawn:=d',toks:=t' }:=by
  obtain ⟨m,⟨o,es,ep,ho,r⟩,_⟩:=id I.loc
  obtain ⟨sl,hL⟩:=u.any ho I.free fun z=>(hch _ z).2.1 rfl
  exact I.step (ch:=ch) hch (fun b o hL hb hc e n=>u.keep b o e n (fun z=>(List.mem_cons.mp (I.stkSub b z)).elim hL hb) hc) (fun b o _ _ hc e n=>u.any e n hc) (fun b o hc e n=>u.free b o e n hc) (fun b o hc e=>u.there b o e hc) u.tups u.frzs u.tbls (fun m' hm=>by
    obtain ⟨o',es',ep',ho',r'⟩:=hm
    rw [ho] at ho'; cases ho'
    exact ⟨_,es',ep',hL,r'⟩) hok hg
theorem Inv.turned {t':Nat} {it:Addr} (I:Inv X pins σ H s) (k:∀ b o,b≠it→s.heap.get? b=some o→h'.get? b=some o) (hn:H it=none) (hL:it≠X.env.locals)
    (h1:it ∈ X.ex∨X.s₀.heap.objs.size≤it) (h2:∀ x c,X.env.cells.lookup x=some c→c≠it) (h3:∀ p ∈ X.pn++pins,p.1≠it):Inv X pins σ H { s with heap:=h',toks:=t' }:=by
  have nit:∀ b u,H b=some u→b≠it:=fun b u e z=>by rw [z,hn] at e; cases e
  refine I.step (g':=s.gens) (d':=s.drawn) (ch:=[it]) (fun b hb=>?_) (fun b o _ _ hc e _=>k b o (fun z=>hc (by simp [z])) e) (fun b o _ _ hc e _=>⟨o.slots,k b o (fun z=>hc (by simp [z])) e⟩) (fun _ _ _ _ n=>n)
    (fun b o hc e=>⟨o,k b o (fun z=>hc (by simp [z])) e⟩) (fun _ _ e=>e) (fun _ _ _ e=>e) (fun b ps e=>⟨#[],by rw [e]; simp⟩) (fun m hm=>?_) (fun b u e=>?_) I.bare
  · have e:b=it:=by first|exact hb|exact List.mem_singleton.mp hb|simpa using hb
    subst e
    exact ⟨h1,hL,h2,h3⟩
  · obtain ⟨o,es,ep,ho,r⟩:=hm
    exact ⟨o,es,ep,k _ o (Ne.symm hL) ho,r⟩
  · refine (I.hok b u e).stay (fun c v hc q=>k c v ?_ q) (fun _ q=>q) fun _ _ q=>q
    rcases hc with z | z
    · rw [z]; exact nit b u e
    · exact nit c _ z
theorem Inv.tok (I:Inv X pins σ H s) (t:Nat):Inv X pins σ H { s with toks:=t }:=I.un (h':=s.heap) (t':=t) Un.refl I.hok
theorem Inv.kept {t':Nat} (I:Inv X pins σ H s) (k:∀ b u,s.heap.get? b=some u→h'.get? b=some u):Inv X pins σ H { s with heap:=h',toks:=t' }:=I.un (Un.kept k) (I.hok.kept k)
theorem Inv.laid {a:Addr} {o:HO} {t':Nat} (I:Inv X pins σ H s) (k:∀ b u,s.heap.get? b=some u→h'.get? b=some u) (hp:s.heap.objs.size≤a) (new:ObjOk X.prog X.w (upd H a o) h' a o) :
    Inv X pins σ (upd H a o) { s with heap:=h',toks:=t' }:=I.un (Un.laid k hp (I.hok.fresh hp)) (I.hok.laid k hp new)
theorem Inv.write {x e:Addr} {o:HO} {t':Nat} (I:Inv X pins σ H s) (mu:Mut (H x)) (he:e=x∨H e=some (.own x)) (k:∀ b u,b≠e→s.heap.get? b=some u→h'.get? b=some u) (heo:∃ u,h'.get? e=some u)
    (new:ObjOk X.prog X.w (upd H x o) h' x o):Inv X pins σ (upd H x o) { s with heap:=h',toks:=t' }:=I.un (Un.write mu he k heo) (I.hok.write mu he k heo new)
theorem Inv.pins_of {pins':List (Addr×Obj)} (I:Inv X pins σ H s) (h:∀ p ∈ pins',s.heap.get? p.1=some p.2∧H p.1=none∧p.1≠X.env.locals∧p.1 ∉ X.fs∧∀ v,p.2.data≠.cell v):Inv X pins' σ H s :=
  ⟨I.ok,I.os,I.bare,I.base,I.loc,I.cell,I.free,I.freeC,fun p hp=>(List.mem_append.mp hp).elim (fun z=>I.pin p (List.mem_append_left _ z)) (h p),I.hok,I.len⟩
theorem nodup_ix {N:List Str} (hN:N.Nodup) {i j:Nat} {x:Str} (a:N[i]?=some x) (b:N[j]?=some x):i=j:=by
  obtain ⟨h1,e1⟩:=List.getElem?_eq_some_iff.mp a
  obtain ⟨h2,e2⟩:=List.getElem?_eq_some_iff.mp b
  exact (List.getElem_inj hN).mp (e1.trans e2.symm)
theorem store_ok2 {M:Model} {A:Around} {E:Value→Shared→Prop} {i:Nat} {x:Str} {v:V} {u:Value} {Q:Unit→Shared→Prop} (I:Inv X pins σ H s) (hN:X.N.Nodup) (hi:X.N[i]?=some x) (hx:Loc X.env.scope x) (r:RelV v u)
    (h:∀ s',Inv X pins (σ.set i (some v)) H s'→(∃ a,Heap.SameBut a s.heap s'.heap∧(a=X.env.locals∨X.env.cells.lookup x=some a))→Q () s') (hf:autoParam (X.fn x=true∨X.env.scope.names.lookup x=some .local) L2.aF._auto_1):wpAny M A (storeName X.env x u) Q E s:=by
  obtain ⟨m,hn,hl⟩:=id I.loc
  have hcls:(X.env.scope.kind == .class || (X.env.scope.kind == .module && X.env.locals != X.env.globals))=false:=by rw [I.ok.kind]; rfl
  have hiσ:i < σ.length:=by rw [I.len]; exact (List.getElem?_eq_some_iff.mp hi).1
  have cne:=I.cne
  have tracked:∀ {a:Addr} {h':Heap},(∃ o,s.heap.get? a=some o∧H a=none)→Heap.SameBut a s.heap h'→HOk X.prog X.w H h':=fun {a h'} ha hs b ob e=>by
    obtain ⟨_,_,hfree⟩:=ha
    refine (I.hok b ob e).stay (fun c w' hc q=>(hs.2 c ?_).trans q) (fun _ q=>q) fun _ _ q=>q
    rintro rfl
    rcases hc with rfl | hc
    · rw [hfree] at e; cases e
    · rw [hfree] at hc; cases hc
  rcases hx with hk | hk
  · refine wpAny_storeName_local hk hn (fun h' hn' hs=>?_) hcls
    obtain ⟨oL,_,_,hoL,_⟩:=id hn
    refine h _ ⟨I.ok,I.os,I.bare,⟨fun b o e n hb hx=>?_,fun b o e n hb hx=>?_,I.base.free,fun b o e hx=>?_,I.base.tups,I.base.frzs,I.base.tbls⟩,⟨_,hn',fun j y v' e1 e2 e3=>?_⟩,fun y c e=>?_,I.free,I.freeC,fun p hp=>?_,tracked ⟨oL,hoL,I.free⟩ hs,by simpa using I.len⟩ ⟨_,hs,.inl rfl⟩
    · exact (hs.2 b (Nat.ne_of_lt (Nat.lt_of_lt_of_le (Heap.lt_size e) I.ok.above))).trans (I.base.keep b o e n hb hx)
    · obtain ⟨sl,e1⟩:=I.base.slot b o e n hb hx
      exact ⟨sl,(hs.2 b (Nat.ne_of_lt (Nat.lt_of_lt_of_le (Heap.lt_size e) I.ok.above))).trans e1⟩
    · obtain ⟨o',e1⟩:=I.base.there b o e hx
      exact ⟨o',(hs.2 b (Nat.ne_of_lt (Nat.lt_of_lt_of_le (Heap.lt_size e) I.ok.above))).trans e1⟩
    · by_cases hj:j=i
      · subst hj
        rw [hi] at e1; cases e1
        rw [List.getElem?_set_self hiσ] at e2
        cases e2
        exact ⟨u,r,.inl ⟨hk,by simp⟩⟩
      · rw [List.getElem?_set_ne (Ne.symm hj)] at e2
        obtain ⟨u',r',q⟩:=hl j y v' e1 e2 e3
        refine ⟨u',r',?_⟩
        rcases q with ⟨k,e⟩ | ⟨k,c,e,z⟩
        · refine .inl ⟨k,?_⟩
          have:y≠x:=fun e=>hj (nodup_ix hN e1 (e ▸ hi))
          simp [this,e]
        · exact .inr ⟨k,c,e,z.sameBut hs (cne y c e)⟩
    · obtain ⟨w',z⟩:=I.cell y c e
      exact ⟨w',z.sameBut hs (cne y c e)⟩
    · obtain ⟨e,n,ne,nf,d⟩:=I.pin p hp
      exact ⟨(hs.2 p.1 ne).trans e,n,ne,nf,d⟩
  · have hfn:X.fn x=true:=by
      rcases hf with z | z
      · exact z
      · rw [z] at hk; cases hk
    obtain ⟨c,hc⟩:=I.ok.has x (.inl hk)
    obtain ⟨w',z⟩:=I.cell x c hc
    refine wpAny_storeName_cell I.ok.kind hk hc z (fun h' hc' hs=>?_)
    obtain ⟨oc,hoc,hocd⟩:=id z
    refine h { s with heap:=h' } ⟨I.ok,I.os,I.bare,⟨fun b o e n hb hx=>?_,fun b o e n hb hx=>?_,I.base.free,fun b o e hx=>?_,I.base.tups,I.base.frzs,I.base.tbls⟩,⟨m,hn.sameBut hs (Ne.symm (cne x c hc)),fun j y v' e1 e2 e3=>?_⟩,fun y c' e=>?_,I.free,I.freeC,fun p hp=>?_,tracked ⟨oc,hoc,I.freeC x c hc⟩ hs,by simpa using I.len⟩ ⟨c,hs,.inr hc⟩
    · exact (hs.2 b (Nat.ne_of_lt (Nat.lt_of_lt_of_le (Heap.lt_size e) (I.ok.cab x c hfn hc)))).trans (I.base.keep b o e n hb hx)
    · obtain ⟨sl,e1⟩:=I.base.slot b o e n hb hx
      exact ⟨sl,(hs.2 b (Nat.ne_of_lt (Nat.lt_of_lt_of_le (Heap.lt_size e) (I.ok.cab x c hfn hc)))).trans e1⟩
    · obtain ⟨o',e1⟩:=I.base.there b o e hx
      exact ⟨o',(hs.2 b (Nat.ne_of_lt (Nat.lt_of_lt_of_le (Heap.lt_size e) (I.ok.cab x c hfn hc)))).trans e1⟩
    · by_cases hj:j=i
      · subst hj
        rw [hi] at e1; cases e1
        rw [List.getElem?_set_self hiσ] at e2
        cases e2
        exact ⟨u,r,.inr ⟨.inl hk,c,hc,hc'⟩⟩
      · rw [List.getElem?_set_ne (Ne.symm hj)] at e2
        obtain ⟨u',r',q⟩:=hl j y v' e1 e2 e3
        refine ⟨u',r',?_⟩
        rcases q with q | ⟨k,c',e,z'⟩
        · exact .inl q
        · refine .inr ⟨k,c',e,z'.sameBut hs ?_⟩
          rintro rfl
          exact hj (nodup_ix hN e1 (I.ok.inj _ _ _ e hc ▸ hi))
    · by_cases hcc:c'=c
      · subst hcc; exact ⟨_,hc'⟩
      · obtain ⟨w2,z2⟩:=I.cell y c' e
        exact ⟨w2,z2.sameBut hs hcc⟩
    · obtain ⟨e,n,ne,nf,d⟩:=I.pin p hp
      refine ⟨(hs.2 p.1 ?_).trans e,n,ne,nf,d⟩
      intro q
      rw [q,hoc] at e
      have q':oc=p.2:=Option.some.inj e
      exact d w' (by rw [← q']; exact hocd)
theorem store_ok {M:Model} {A:Around} {E:Value→Shared→Prop} {i:Nat} {x:Str} {v:V} {u:Value} {Q:Unit→Shared→Prop} (I:Inv X pins σ H s) (hN:X.N.Nodup) (hi:X.N[i]?=some x) (hx:Loc X.env.scope x) (r:RelV v u)
    (h:∀ s',Inv X pins (σ.set i (some v)) H s'→Q () s') (hf:autoParam (X.fn x=true∨X.env.scope.names.lookup x=some .local) L2.aF._auto_1):wpAny M A (storeName X.env x u) Q E s :=
  store_ok2 I hN hi hx r (fun s' I' _=>h s' I') hf
theorem Inv.call' {s':Shared} {ch:List Addr} (I:Inv X pins σ H s) (ho:s'.os=s.os) (u:Un (frs X.stack) ch H H' s.heap s'.heap) (hok:HOk X.prog X.w H' s'.heap) (hg:AllBare s'.gens)
    (hch:∀ b ∈ ch,(b ∈ X.ex∨X.s₀.heap.objs.size≤b)∧b≠X.env.locals∧(∀ x c,X.env.cells.lookup x=some c→c≠b)∧∀ p ∈ X.pn++pins,p.1≠b):Inv X pins σ H' s':=by
  obtain ⟨h',g',d',t',o'⟩:=s'
  have e:o'=s.os:=ho
  subst e
  exact I.call (g':=g') (t':=t') (d':=d') u hok hg hch
end
noncomputable abbrev XK:=Value→Option Addr→Hp→Prop
noncomputable abbrev St:=List (Option V)
noncomputable abbrev VK:=V→Hp→Prop
noncomputable abbrev TE:=St→Hp→VK→Prop
noncomputable abbrev TT:=St→Hp→(Bool→Hp→Prop)→Prop
noncomputable abbrev TA:=St→Hp→(List V→Hp→Prop)→Prop
structure Ends where
  nx:St→Hp→Prop
  rt:VK
  bk:St→Hp→Prop:=fun _ _=>False
  ct:St→Hp→Prop:=fun _ _=>False
noncomputable abbrev TS:=Ends→St→Hp→Prop
noncomputable def EP (X:Cx) (pins:List (Addr×Obj)) (σ:St) (Q:VK) (u:Value) (s':Shared):Prop:=∃ v H',Inv X pins σ H' s'∧RelV v u∧Q v H'
noncomputable def TP (X:Cx) (pins:List (Addr×Obj)) (σ:St) (Q:Bool→Hp→Prop) (b:Bool) (s':Shared):Prop:=∃ H',Inv X pins σ H' s'∧Q b H'
noncomputable def AP (X:Cx) (pins:List (Addr×Obj)) (σ:St) (Q:List V→Hp→Prop) (us:List Value) (s':Shared):Prop:=∃ vs H',Inv X pins σ H' s'∧Vals vs us∧Q vs H'
noncomputable def SP (X:Cx) (pins:List (Addr×Obj)) (D:Ends) (f:Flow) (s':Shared):Prop :=
  match f with
  | .next=>∃ σ' H',Inv X pins σ' H' s'∧D.nx σ' H'
  | .brk=>∃ σ' H',Inv X pins σ' H' s'∧D.bk σ' H'
  | .cont=>∃ σ' H',Inv X pins σ' H' s'∧D.ct σ' H'
  | .ret u=>∃ v σ' H',Inv X pins σ' H' s'∧RelV v u∧D.rt v H'
noncomputable def PE (X:Cx) (e:Expr) (t:TE):Prop :=
  ∀ (pins:List (Addr×Obj)) (s:Shared) (σ:St) (H:Hp) (Q:VK),Inv X pins σ H s→t σ H Q→wpAny (model X.prog X.w) X.A (eval e X.env) (EP X pins σ Q) X.xe s
noncomputable def PT (X:Cx) (e:Expr) (t:TT):Prop :=
  ∀ (pins:List (Addr×Obj)) (s:Shared) (σ:St) (H:Hp) (Q:Bool→Hp→Prop),Inv X pins σ H s→t σ H Q→wpAny (model X.prog X.w) X.A (isTrue e X.env (eval e X.env)) (TP X pins σ Q) X.xe s
noncomputable def PW (X:Cx) (e:Expr) (t:TT):Prop :=
  ∀ (whole:Sem Value) (pins:List (Addr×Obj)) (s:Shared) (σ:St) (H:Hp) (Q:Bool→Hp→Prop),Inv X pins σ H s→t σ H Q→wpAny (model X.prog X.w) X.A (isTrue e X.env whole) (TP X pins σ Q) X.xe s
theorem PW.pt {X:Cx} {e:Expr} {t:TT} (h:PW X e t):PT X e t:=h _
noncomputable def PA (X:Cx) (es:List Expr) (t:TA):Prop :=
  ∀ (pos:Pos) (pins:List (Addr×Obj)) (s:Shared) (σ:St) (H:Hp) (Q:List V→Hp→Prop),Inv X pins σ H s→t σ H Q→wpAny (model X.prog X.w) X.A (spliced (backTo pos (starEach es X.env))) (AP X pins σ Q) X.xe s
noncomputable def PS (X:Cx) (st:Stmt) (t:TS):Prop :=
  ∀ (pins:List (Addr×Obj)) (s:Shared) (σ:St) (H:Hp) (D:Ends),Inv X pins σ H s→t D σ H→wpAny (model X.prog X.w) X.A (exec st X.env) (SP X pins D) X.xe s
noncomputable def PSs (X:Cx) (st:List Stmt) (t:TS):Prop :=
  ∀ (pins:List (Addr×Obj)) (s:Shared) (σ:St) (H:Hp) (D:Ends),Inv X pins σ H s→t D σ H→wpAny (model X.prog X.w) X.A (execs st X.env) (SP X pins D) X.xe s
theorem thn {α:Type} {t:Sem α} {Q Q':α→Shared→Prop} {M:Model} {A:Around} {E:Value→Shared→Prop} {s:Shared} (h:wpAny M A t Q E s) (hQ:∀ a s,Q a s→Q' a s):wpAny M A t Q' E s:=wpAny_mono h hQ fun _ _ x=>x
end L2
namespace L2
open PySem PySem.Spec PyProof.Rows
section
variable {X:Cx}
theorem bin {a b:Expr} {ta tb:TE} (ha:PE X a ta) (hb:PE X b tb) {pins:List (Addr×Obj)} {s:Shared} {σ:St} {H:Hp} {R:V→V→Hp→Prop} (I:Inv X pins σ H s) (h:ta σ H fun x H1=>tb σ H1 fun y H2=>R x y H2)
    {α:Type} {Q:α→Shared→Prop} {f:Value→Value→Sem α}
    (hf:∀ v u s2 x y H2,Inv X pins σ H2 s2→RelV x v→RelV y u→R x y H2→wpAny (model X.prog X.w) X.A (f v u) Q X.xe s2) :
    wpAny (model X.prog X.w) X.A (eval a X.env) (fun v s₁=>wpAny (model X.prog X.w) X.A (eval b X.env) (fun u s₂=>wpAny (model X.prog X.w) X.A (f v u) Q X.xe s₂) X.xe s₁) X.xe s:=by
  refine thn (ha pins s σ H _ I h) fun v s1 ⟨x,H1,I1,r1,q1⟩=>?_
  refine thn (hb pins s1 σ H1 _ I1 q1) fun u s2 ⟨y,H2,I2,r2,q2⟩=>?_
  exact hf v u s2 x y H2 I2 r1 r2 q2
noncomputable def tVar (i:Nat):TE:=fun σ H Q=>∃ v,σ[i]?=some (some v)∧Q v H
noncomputable def tC (v:V):TE:=fun _ H Q=>Q v H
theorem pe_var {i:Nat} {x:Str} {pos:Pos} (hN:X.N[i]?=some x) (hv:Vis X.env.scope x) (hd:autoParam ((x == ("__debug__" : Str))=false) L2.aD._auto_1) (hcd:autoParam ((x == ("__classdict__" : Str))=false) L2.aD._auto_1):PE X (.Name x pos) (tVar i):=by
  intro pins s σ H Q I h
  obtain ⟨v,e,h⟩:=h
  obtain ⟨m,hn,hl⟩:=I.loc
  obtain ⟨u,r,l⟩:=hl i x v hN e hv
  have fin:EP X pins σ Q u s:=⟨v,H,I,r,h⟩
  rcases l with ⟨hk,hm⟩ | ⟨hk,c,hc,hcell⟩
  · exact wpAny_Name (wpAny_loadName_local I.ok.kind hk hn hm fin) hd
  · rcases hk with hk | hk
    · exact wpAny_Name (wpAny_loadName_cell I.ok.kind hk hc hcell fin) hd
    · exact wpAny_Name (wpAny_loadName_free I.ok.kind hk hc hcell fin hcd) hd
theorem pe_int {i j pos}:PE X (.Constant (.int i) j pos) (tC (.int i)):=fun _ _ _ H _ I h=>wpAny_Constant_int ⟨.int i,H,I.tok _,⟨_,rfl⟩,h⟩
theorem pe_bl {b j pos}:PE X (.Constant (.bool b) j pos) (tC (.bl b)):=fun _ _ _ H _ I h=>Constant_bool ⟨.bl b,H,I,rfl,h⟩
theorem pe_non {j pos}:PE X (.Constant .none j pos) (tC .non):=fun _ _ _ H _ I h=>Constant_none ⟨.non,H,I,rfl,h⟩
theorem pe_str {x j pos}:PE X (.Constant (.str x) j pos) (tC (.str x)):=fun _ _ _ H _ I h=>Calls.Constant_str ⟨.str x,H,I.tok _,⟨_,rfl⟩,h⟩
noncomputable def Gl (X:Cx) (x:Str):Prop:=X.env.kindOf x=some .globalImplicit
theorem ld_glob {E:Value→Shared→Prop} {pins:List (Addr×Obj)} {s:Shared} {σ:St} {H:Hp} {x:Str} {u:Value} {pos:Pos} {Q:Value→Shared→Prop} (I:Inv X pins σ H s) (hg:Gl X x) (hm:X.mg x=some u) (h:Q u s)
    (hd:autoParam ((x == ("__debug__" : Str))=false) L2.aD._auto_1):wpAny (model X.prog X.w) X.A (eval (.Name x pos) X.env) Q E s :=
  Calls.Name_function_global I.ok.kind hg (Calls.loadGlobal_global (by rw [I.ok.glob]; exact I.mod.glob.keeps I.bk) hm h) hd
theorem ld_blt {E:Value→Shared→Prop} {pins:List (Addr×Obj)} {s:Shared} {σ:St} {H:Hp} {x:Str} {u:Value} {pos:Pos} {Q:Value→Shared→Prop} (I:Inv X pins σ H s) (hg:Gl X x) (hm:X.mg x=none) (hv:bootBuiltins x=some u) (h:Q u s)
    (hn:autoParam (x ≠ "__name__") L2.aD._auto_1) (hd:autoParam ((x == ("__debug__" : Str))=false) L2.aD._auto_1):wpAny (model X.prog X.w) X.A (eval (.Name x pos) X.env) Q E s:=by
  obtain ⟨mb,h1,h2⟩:=I.mod.blt
  exact Calls.Name_function_global I.ok.kind hg (Calls.loadGlobal_builtin (by rw [I.ok.glob]; exact I.mod.glob.keeps I.bk) hm (by rw [I.ok.blt]; exact h1.keeps I.bk) ((h2 x hn).trans hv) h) hd
theorem pe_glob {x:Str} {v:V} {u:Value} {pos:Pos} (hg:Gl X x) (hm:X.mg x=some u) (r:RelV v u) (hd:autoParam ((x == ("__debug__" : Str))=false) L2.aD._auto_1):PE X (.Name x pos) (tC v) :=
  fun _ _ _ H _ I h=>ld_glob I hg hm ⟨v,H,I,r,h⟩ hd
theorem pe_bltn {x:Str} {v:V} {u:Value} {pos:Pos} (hg:Gl X x) (hm:X.mg x=none) (hv:bootBuiltins x=some u) (r:RelV v u) (hn:autoParam (x ≠ "__name__") L2.aD._auto_1) (hd:autoParam ((x == ("__debug__" : Str))=false) L2.aD._auto_1):PE X (.Name x pos) (tC v) :=
  fun _ _ _ H _ I h=>ld_blt I hg hm hv ⟨v,H,I,r,h⟩ hn hd
variable {a b:Expr} {ta tb:TE} {pos:Pos}
noncomputable def PC (X:Cx) (op:CmpOp) (a b:Expr) (t:TE):Prop :=
  ∀ (pins:List (Addr×Obj)) (s:Shared) (σ:St) (H:Hp) (Q:VK),Inv X pins σ H s→t σ H Q →
    wpAny (model X.prog X.w) X.A (eval a X.env) (fun v s₁=>wpAny (model X.prog X.w) X.A (eval b X.env) (fun u s₂=>wpAny (model X.prog X.w) X.A (compareOp op v u) (EP X pins σ Q) X.xe s₂) X.xe s₁) X.xe s
noncomputable def tB (t:TE):TT:=fun σ H Q=>t σ H fun x H1=>∃ c,x=.bl c∧Q c H1
theorem pt_cmp {op:CmpOp} {t:TE} (h:PC X op a b t) (h1:behindInMarks op b=false:=by first | exact nobehind _ (by decide) (by decide) | rfl):PT X (.Compare a [op] [b] pos) (tB t):=by
  intro pins s σ H Q I hw
  refine wpAny_isTrue_Compare1 (thn (h pins s σ H _ I hw) fun v s1 h1=>thn h1 fun u s2 h2=>thn h2 fun c s3 ⟨x,H1,I1,r1,q1⟩=>?_) h1
  obtain ⟨d,rfl,q⟩:=q1
  cases r1
  exact wpAny_truthy_bool ⟨H1,I1,q⟩
theorem pt_val {e:Expr} {t:TE} (h:PE X e t) (he:autoParam (∀ whole,isTrue e X.env whole=(do let v ← whole; standAt e.pos; holding [v] (truthy v))) L2.aI._auto_1):PT X e (tB t):=by
  intro pins s σ H Q I hw
  refine isTrue_plain (thn (h pins s σ H _ I hw) fun v s1 ⟨x,H1,I1,r1,q1⟩=>?_) (he _)
  obtain ⟨d,rfl,q⟩:=q1
  cases r1
  exact wpAny_truthy_bool ⟨H1,I1,q⟩
variable {tA tB':TT} {rest:List Expr}
noncomputable def tAnd (t u:TT):TT:=fun σ H Q=>t σ H fun c H1=>if c=true then u σ H1 Q else Q false H1
noncomputable def tOr (t u:TT):TT:=fun σ H Q=>t σ H fun c H1=>if c=true then Q true H1 else u σ H1 Q
noncomputable def tNot (t:TT):TT:=fun σ H Q=>t σ H fun c H1=>Q (!c) H1
theorem pw_and1 (ha:PT X a tA):PW X (.BoolOp .And [a] pos) tA:=by
  intro wh pins s σ H Q I h
  refine isTrue_and (thn (ha pins s σ H Q I h) fun c s1 e=>?_)
  cases c with
  | true=>exact isTrue_and_nil e
  | false=>exact e
theorem pw_or1 (ha:PT X a tA):PW X (.BoolOp .Or [a] pos) tA:=by
  intro wh pins s σ H Q I h
  refine isTrue_or (thn (ha pins s σ H Q I h) fun c s1 e=>?_)
  cases c with
  | false=>exact isTrue_or_nil e
  | true=>exact e
theorem pw_and (ha:PT X a tA) (hb:PW X (.BoolOp .And (b::rest) pos) tB'):PW X (.BoolOp .And (a::b::rest) pos) (tAnd tA tB'):=by
  intro wh pins s σ H Q I h
  refine isTrue_and (thn (ha pins s σ H _ I h) fun c s1 ⟨H1,I1,q1⟩=>?_)
  cases c with
  | true=>exact hb wh pins s1 σ H1 Q I1 q1
  | false=>exact ⟨H1,I1,q1⟩
theorem pw_or (ha:PT X a tA) (hb:PW X (.BoolOp .Or (b::rest) pos) tB'):PW X (.BoolOp .Or (a::b::rest) pos) (tOr tA tB'):=by
  intro wh pins s σ H Q I h
  refine isTrue_or (thn (ha pins s σ H _ I h) fun c s1 ⟨H1,I1,q1⟩=>?_)
  cases c with
  | true=>exact ⟨H1,I1,q1⟩
  | false=>exact hb wh pins s1 σ H1 Q I1 q1
theorem pt_not (ha:PT X a tA):PT X (.UnaryOp .Not a pos) (tNot tA):=by
  intro pins s σ H Q I h
  exact isTrue_not (ha pins s σ H (fun c H1=>Q (!c) H1) I h)
noncomputable def tAndV (ta tb:TE):TE:=fun σ H Q=>ta σ H fun x H1=>∃ c,x=.bl c∧if c=true then tb σ H1 Q else Q (.bl false) H1
theorem pe_one {op} {t:TE} (h:PE X a t):PE X (.BoolOp op [a] pos) t:=fun pins s σ H Q I hw=>BoolOp_one (h pins s σ H Q I hw)
theorem pe_and (ha:PE X a ta) (hb:PE X (.BoolOp .And (b::rest) pos) tb):PE X (.BoolOp .And (a::b::rest) pos) (tAndV ta tb):=by
  intro pins s σ H Q I h
  refine BoolOp_and (thn (ha pins s σ H _ I h) fun v s1 ⟨x,H1,I1,r1,q1⟩=>?_)
  obtain ⟨c,rfl,q1⟩:=q1
  cases r1
  refine wpAny_truthy_bool ?_
  cases c with
  | true=>exact hb pins s1 σ H1 Q I1 q1
  | false=>exact ⟨.bl false,H1,I1,rfl,q1⟩
end
end L2
namespace L2
open PySem PySem.Spec PyProof.Rows
noncomputable def SqL (K:PySem.W.Frag) (H:Hp) (a:Addr) (xs:List V):Prop :=
  Rd H a (.lst xs) ∨
    ∃ (o:Obj) (its:Array Value) (n:Nat),K.lookup a=some o∧o.cls=.type "list" ∧ o.dict=none∧o.data=.seq its n∧its.size≤sizeLine∧Vals xs its.toList
noncomputable def SqT (K:PySem.W.Frag) (H:Hp) (a:Addr) (xs:List V):Prop :=
  Rd H a (.tup xs) ∨
    ∃ (o:Obj) (its:Array Value) (n:Nat),K.lookup a=some o∧o.cls=.type "tuple" ∧ o.data=.seq its n∧its.size≤sizeLine∧Vals xs its.toList
noncomputable def absV:Value→Option V
  | .none=>some .non
  | .bool b=>some (.bl b)
  | .int i _=>some (.int i)
  | .str x _=>some (.str x)
  | .bytes b _=>some (.byt b)
  | .float b _=>some (.flt b)
  | .ref a=>some (.ref a)
  | .type n=>some (.ty n)
  | _=>none
theorem RelV.abs {x:V} {u:Value} (r:RelV x u):absV u=some x:=by
  cases x with
  | non=>cases r; rfl
  | bl _=>cases r; rfl
  | int _=>obtain ⟨t,rfl⟩:=r; rfl
  | str _=>obtain ⟨t,rfl⟩:=r; rfl
  | byt _=>obtain ⟨t,rfl⟩:=r; rfl
  | flt _=>obtain ⟨t,rfl⟩:=r; rfl
  | ref _=>cases r; rfl
  | ty _=>cases r; rfl
theorem RelV.inj {x y:V} {u:Value} (r:RelV x u) (q:RelV y u):x=y:=Option.some.inj (r.abs.symm.trans q.abs)
theorem Vals.inj {xs ys:List V} {us:List Value} (h:Vals xs us) (h':Vals ys us):xs=ys:=by
  induction h generalizing ys with
  | nil=>cases h'; rfl
  | cons r t ih=>cases h' with | cons r' t'=>rw [r.inj r',ih t']
section
variable {X:Cx} {pins:List (Addr×Obj)} {σ:St} {H:Hp} {s:Shared} {a:Addr} {xs ys:List V}
theorem SqL.of {K:PySem.W.Frag} (h:H a=some (.lst xs)):SqL K H a xs:=.inl (.inl h)
theorem SqT.of {K:PySem.W.Frag} (h:H a=some (.tup xs)):SqT K H a xs:=.inl (.inl h)
theorem Inv.list (I:Inv X pins σ H s) (h:SqL X.K H a xs):∃ its:List Value,Vals xs its∧PlainL s.heap a its.toArray∧xs.length≤sizeLine:=by
  rcases h with h | ⟨o,its,n,hk,hc,hd,hs,hz,r⟩
  · obtain ⟨z,its,n,r,e⟩:=h.ok I.hok
    exact ⟨its,r,⟨_,n,e,rfl,rfl,rfl⟩,z⟩
  · refine ⟨its.toList,r,⟨o,n,I.kIn a o hk,hc,hd,by first|exact hs|exact List.mem_singleton.mp hs|simpa using hs⟩,?_⟩
    have e:=r.length
    simp only [Array.length_toList] at e
    (first|lia|omega)
theorem Inv.tuple (I:Inv X pins σ H s) (h:SqT X.K H a xs):∃ its:List Value,Vals xs its∧IsTup s.heap a its.toArray∧xs.length≤sizeLine:=by
  rcases h with h | ⟨o,its,n,hk,hc,hs,hz,r⟩
  · obtain ⟨z,its,r,p⟩:=h.ok I.hok
    exact ⟨its,r,p,z⟩
  · refine ⟨its.toList,r,⟨o,I.kIn a o hk,hc,n,by first|exact hs|exact List.mem_singleton.mp hs|simpa using hs⟩,?_⟩
    have e:=r.length
    simp only [Array.length_toList] at e
    (first|lia|omega)
theorem Inv.list_inj (I:Inv X pins σ H s) (h:SqL X.K H a xs) (h':SqL X.K H a ys):xs=ys:=by
  obtain ⟨its,r,⟨o,n,e,_,_,d⟩,_⟩:=I.list h
  obtain ⟨its',r',⟨o',n',e',_,_,d'⟩,_⟩:=I.list h'
  rw [e] at e'; cases e'
  rw [d] at d'
  injection d' with d1 _
  have:its=its':=by simpa using congrArg Array.toList d1
  subst this
  exact r.inj r'
theorem Inv.tuple_inj (I:Inv X pins σ H s) (h:SqT X.K H a xs) (h':SqT X.K H a ys):xs=ys:=by
  obtain ⟨its,r,⟨o,e,_,n,d⟩,_⟩:=I.tuple h
  obtain ⟨its',r',⟨o',e',_,n',d'⟩,_⟩:=I.tuple h'
  rw [e] at e'; cases e'
  rw [d] at d'
  injection d' with d1 _
  have:its=its':=by simpa using congrArg Array.toList d1
  subst this
  exact r.inj r'
end
noncomputable abbrev Cx.wish (X:Cx) (E:Value→Shared→Prop):Cx:={ X with xe:=E }
noncomputable abbrev Cx.nox (X:Cx):Cx:=X.wish fun _ _=>False
theorem Cx.Ok.wish {X:Cx} (ok:X.Ok) (E:Value→Shared→Prop):(X.wish E).Ok :=
  ⟨ok.mod,ok.kind,ok.glob,ok.blt,ok.above,ok.inj,ok.has,ok.cab,ok.hd,ok.frames,ok.stk,ok.exf,ok.bs,ok.bsz,ok.noex,ok.exfs,ok.funs,ok.frf⟩
theorem Cx.Ok.unwish {X:Cx} {E:Value→Shared→Prop} (ok:(X.wish E).Ok):X.Ok :=
  ⟨ok.mod,ok.kind,ok.glob,ok.blt,ok.above,ok.inj,ok.has,ok.cab,ok.hd,ok.frames,ok.stk,ok.exf,ok.bs,ok.bsz,ok.noex,ok.exfs,ok.funs,ok.frf⟩
section
variable {X:Cx} {pins:List (Addr×Obj)} {σ:St} {H:Hp} {s:Shared} {E:Value→Shared→Prop}
theorem Inv.wish (I:Inv X pins σ H s) (E:Value→Shared→Prop):Inv (X.wish E) pins σ H s:=⟨I.ok.wish E,I.os,I.bare,I.base,I.loc,I.cell,I.free,I.freeC,I.pin,I.hok,I.len⟩
theorem Inv.unwish (I:Inv (X.wish E) pins σ H s):Inv X pins σ H s:=⟨I.ok.unwish,I.os,I.bare,I.base,I.loc,I.cell,I.free,I.freeC,I.pin,I.hok,I.len⟩
theorem SP.unwish {D:Ends} {f:Flow} {s':Shared} (h:SP (X.wish E) pins D f s'):SP X pins D f s':=by
  cases f with
  | next=>obtain ⟨σ',H',I,q⟩:=h; exact ⟨σ',H',I.unwish,q⟩
  | brk=>obtain ⟨σ',H',I,q⟩:=h; exact ⟨σ',H',I.unwish,q⟩
  | cont=>obtain ⟨σ',H',I,q⟩:=h; exact ⟨σ',H',I.unwish,q⟩
  | ret u=>obtain ⟨v,σ',H',I,r,q⟩:=h; exact ⟨v,σ',H',I.unwish,r,q⟩
theorem PSs.nox {st:List Stmt} {t:TS} (h:PSs X.nox st t):PSs X st t:=fun pins s σ H D I hw =>
  wpAny_mono (h pins s σ H D (I.wish _) hw) (fun _ _ q=>q.unwish) fun _ _ z=>False.elim z
end
section
variable {X:Cx} {st:Stmt} {rest:List Stmt} {t u:TS} {e:Expr} {te:TE} {pos:Pos}
noncomputable def tNext:TS:=fun D σ H=>D.nx σ H
noncomputable def tSeq (t u:TS):TS:=fun D σ H=>t { D with nx:=u D } σ H
theorem pss_nil:PSs X [] tNext:=fun _ _ σ H _ I h=>wpAny_execs_nil ⟨σ,H,I,h⟩
theorem pss_cons (h1:PS X st t) (h2:PSs X rest u):PSs X (st::rest) (tSeq t u):=by
  intro pins s σ H D I h
  refine wpAny_execs_cons (thn (h1 pins s σ H { D with nx:=u D } I h) fun f s1 q=>?_)
  cases f with
  | next =>
    obtain ⟨σ',H',I',q⟩:=q
    exact h2 pins s1 σ' H' D I' q
  | ret v=>exact q
  | brk=>exact q
  | cont=>exact q
theorem pss_one (h1:PS X st t):PSs X [st] t:=by
  intro pins s σ H D I h
  refine wpAny_execs_cons (thn (h1 pins s σ H D I h) fun f s1 q=>?_)
  cases f with
  | next=>exact wpAny_execs_nil q
  | ret v=>exact q
  | brk=>exact q
  | cont=>exact q
noncomputable def tBreak:TS:=fun D σ H=>D.bk σ H
theorem ps_break:PS X (.Break pos) tBreak:=fun _ _ σ H _ I h=>wpAny_Break ⟨σ,H,I,h⟩
theorem Inv.quiet {pins:List (Addr×Obj)} {σ:St} {H:Hp} {s:Shared} (I:Inv X pins σ H s):interactive X.env=false:=by simp [interactive,I.ok.kind]
noncomputable def tDrop (te:TE):TS:=fun D σ H=>te σ H fun _ H1=>D.nx σ H1
theorem ps_expr (he:PE X e te) (hs:autoParam (swapsWith e none pos.line X.env=pure false) L2.aR._auto_1):PS X (.Expr e pos) (tDrop te):=by
  intro pins s σ H D I h
  exact wpAny_Expr_any (thn (he pins s σ H _ I h) fun v s1 ⟨x,H1,I1,r1,q1⟩=>⟨σ,H1,I1,q1⟩) I.quiet hs
noncomputable def tRet (te:TE):TS:=fun D σ H=>te σ H D.rt
theorem ps_ret (he:PE X e te):PS X (.Return (some e) pos) (tRet te):=by
  intro pins s σ H D I h
  exact wpAny_Return_some (thn (he pins s σ H _ I h) fun v s1 ⟨x,H1,I1,r1,q1⟩=>⟨x,σ,H1,I1,r1,q1⟩)
noncomputable def tIfS (c:TT) (t u:TS):TS:=fun D σ H=>c σ H fun b H1=>if b=true then t D σ H1 else u D σ H1
theorem ps_if {c:Expr} {a b:List Stmt} {tc:TT} (hc:PT X c tc) (ha:PSs X a t) (hb:PSs X b u):PS X (.If c a b pos) (tIfS tc t u):=by
  intro pins s σ H D I h
  refine wpAny_If (thn (hc pins s σ H _ I h) fun d s1 ⟨H1,I1,q1⟩=>?_)
  cases d with
  | true=>exact ha pins s1 σ H1 D I1 q1
  | false=>exact hb pins s1 σ H1 D I1 q1
noncomputable def tNever:TS:=fun _ _ _=>False
theorem ps_never:PS X st tNever:=fun _ _ _ _ _ _ h=>h.elim
theorem pss_never {sts:List Stmt}:PSs X sts tNever:=fun _ _ _ _ _ _ h=>h.elim
end
noncomputable abbrev TG:=V→St→Hp→(St→Hp→Prop)→Prop
noncomputable abbrev TGs:=List V→St→Hp→(St→Hp→Prop)→Prop
noncomputable def PG (X:Cx) (target:Expr) (t:TG):Prop :=
  ∀ (pins:List (Addr×Obj)) (s:Shared) (σ:St) (H:Hp) (v:V) (u:Value) (Q:St→Hp→Prop),Inv X pins σ H s→RelV v u→t v σ H Q →
    wpAny (model X.prog X.w) X.A (assign target X.env u) (fun _ s'=>∃ σ' H',Inv X pins σ' H' s'∧Q σ' H') X.xe s
noncomputable def PGs (X:Cx) (ts:List Expr) (t:TGs):Prop :=
  ∀ (pins:List (Addr×Obj)) (s:Shared) (σ:St) (H:Hp) (vs:List V) (us:List Value) (Q:St→Hp→Prop),Inv X pins σ H s→Vals vs us→t vs σ H Q →
    wpAny (model X.prog X.w) X.A (assignInOrder ((assignEach ts X.env).map (·.2)) us) (fun _ s'=>∃ σ' H',Inv X pins σ' H' s'∧Q σ' H') X.xe s
noncomputable abbrev TSet:=V→V→V→Hp→(Hp→Prop)→Prop
noncomputable def PSet (X:Cx) (t:TSet):Prop :=
  ∀ (pins:List (Addr×Obj)) (s:Shared) (σ:St) (H:Hp) (o i v:V) (ov iv u:Value) (Q:Hp→Prop),Inv X pins σ H s→RelV o ov→RelV i iv→RelV v u→t o i v H Q →
    wpAny (model X.prog X.w) X.A (setItem ov iv u) (fun _ s'=>∃ H',Inv X pins σ H' s'∧Q H') X.xe s
section
variable {X:Cx} {pos:Pos}
noncomputable def gName (i:Nat):TG:=fun v σ H Q=>Q (σ.set i (some v)) H
theorem pg_name {i:Nat} {x:Str} (hN:X.N.Nodup) (hi:X.N[i]?=some x) (hx:Loc X.env.scope x) (hf:autoParam (X.fn x=true∨X.env.scope.names.lookup x=some .local) L2.aF._auto_1):PG X (.Name x pos) (gName i):=by
  intro pins s σ H v u Q I r h
  exact wpAny_assign_Name (store_ok I hN hi hx r (fun s' I'=>⟨_,H,I',h⟩) hf)
noncomputable def gNil:TGs:=fun vs σ H Q=>vs=[]∧Q σ H
noncomputable def gCons (t:TG) (u:TGs):TGs:=fun vs σ H Q=>∃ v r,vs=v::r∧t v σ H fun σ' H'=>u r σ' H' Q
theorem pgs_nil:PGs X [] gNil:=by
  intro pins s σ H vs us Q I r h
  obtain ⟨e,h⟩:=h
  subst e
  cases r
  exact assignInOrder_nil ⟨σ,H,I,h⟩
theorem pgs_cons {e:Expr} {es:List Expr} {t:TG} {u:TGs} (h1:PG X e t) (h2:PGs X es u)
    (hs:autoParam ((assignEach (e::es) X.env).map (·.2)=assign e X.env::(assignEach es X.env).map (·.2)) L2.aR._auto_1):PGs X (e::es) (gCons t u):=by
  intro pins s σ H vs us Q I r h
  obtain ⟨v,vr,e1,h⟩:=h
  subst e1
  cases r with
  | cons r rr =>
    rw [hs]
    refine assignInOrder_cons (thn (h1 pins s σ H _ _ _ I r h) fun _ s1 ⟨σ1,H1,I1,q1⟩=>?_)
    exact h2 pins s1 σ1 H1 _ _ Q I1 rr q1
noncomputable def gTup (K:PySem.W.Frag) (n:Nat) (t:TGs):TG:=fun v σ H Q=>∃ a xs,v=.ref a∧SqT K H a xs∧xs.length=n∧t xs σ H Q
theorem pg_tup {es:List Expr} {k:Nat} {t:TGs} {n:Nat} (hc:X.calm=true) (h:PGs X es t)
    (hn:autoParam ((assignEach es X.env).length=n) L2.aR._auto_1) (hst:autoParam ((assignEach es X.env).findIdx? (·.1)=none) L2.aR._auto_1):PG X (.Tuple es k pos) (gTup X.K n t):=by
  intro pins s σ H v u Q I r hw
  obtain ⟨a,xs,e1,hq,hl,hw⟩:=hw
  subst e1
  cases r
  obtain ⟨its,rv,ht,hz⟩:=I.tuple hq
  refine assign_Tuple_tuple (I.ok.hd hc) ht (by simp [hn,← hl,rv.length]) hst fun h' hx=>?_
  have I1:Inv X pins σ H { s with heap:=h' }:=I.kept (t':=s.toks) fun b o e=>hx b o (Nat.ne_of_lt (Heap.lt_size e)) e
  exact h pins _ σ H xs _ Q I1 (by first|exact rv|exact List.mem_singleton.mp rv|simpa using rv) hw
noncomputable def gSub (to ti:TE) (t:TSet):TG:=fun v σ H Q=>to σ H fun o H1=>ti σ H1 fun i H2=>t o i v H2 fun H3=>Q σ H3
theorem pg_sub {o i:Expr} {to ti:TE} {t:TSet} (ho:PE X o to) (hi:PE X i ti) (hs:PSet X t)
    (ha:autoParam (∀ v,assign (.Subscript o i pos) X.env v=(do
      let ov ← holding [v] (eval o X.env)
      let iv ← holding [v,ov] (eval i X.env)
      standAt pos
      holding [v,ov,iv] (setItem ov iv v)
      release [v,ov,iv] [])) L2.aI._auto_1):PG X (.Subscript o i pos) (gSub to ti t):=by
  intro pins s σ H v u Q I r h
  rw [ha]
  refine wpAny_bind (wpAny_holding (thn (ho pins s σ H _ I h) fun ov s1 ⟨x,H1,I1,r1,q1⟩=>?_))
  refine wpAny_bind (wpAny_holding (thn (hi pins s1 σ H1 _ I1 q1) fun iv s2 ⟨y,H2,I2,r2,q2⟩=>?_))
  refine wpAny_bind (wpAny_standAt (wpAny_bind (wpAny_holding (thn (hs pins s2 σ H2 x y v ov iv u _ I2 r1 r2 r q2) fun _ s3 ⟨H3,I3,q3⟩=>?_))))
  exact wpAny_release ⟨σ,H3,I3,q3⟩
noncomputable def tAsg (te:TE) (g:TG):TS:=fun D σ H=>te σ H fun x H1=>g x σ H1 D.nx
theorem ps_asg {tg e:Expr} {te:TE} {g:TG} (he:PE X e te) (hg:PG X tg g) (hs:autoParam (swapsWithSole [tg] e pos.line X.env=pure false) L2.aR._auto_1) (hw:autoParam (swappedStores [tg] e X.env=pure none) L2.aR._auto_1)
    (h1:autoParam ((assignEach [tg] X.env).map (·.2)=[assign tg X.env]) L2.aR._auto_1):PS X (.Assign [tg] e pos) (tAsg te g):=by
  intro pins s σ H D I h
  refine wpAny_Assign_stores (thn (he pins s σ H _ I h) fun v s1 ⟨x,H1,I1,r1,q1⟩=>?_) hs hw
  rw [h1]
  exact thn (hg pins s1 σ H1 x v _ I1 r1 q1) fun _ s2 q=>q
theorem ps_set {i:Nat} {x:Str} {e:Expr} {te:TE} {pos':Pos} (hN:X.N.Nodup) (hi:X.N[i]?=some x) (hx:Loc X.env.scope x) (he:PE X e te) (hs:autoParam (swapsWith e (some (.Name x pos')) pos.line X.env=pure false) L2.aR._auto_1) (hf:autoParam (X.fn x=true∨X.env.scope.names.lookup x=some .local) L2.aF._auto_1) :
    PS X (.Assign [.Name x pos'] e pos) (tAsg te (gName i)):=by
  intro pins s σ H D I h
  refine wpAny_Assign_Name (thn (he pins s σ H _ I h) fun v s1 ⟨y,H1,I1,r1,q1⟩=>?_) hs
  exact store_ok I1 hN hi hx r1 (fun s2 I2=>⟨_,H1,I2,q1⟩) hf
end
section
variable {X:Cx} {pos:Pos}
noncomputable def tWhile (c:TT) (tb:TS):TS:=fun D σ H=>∃ W:Nat→St→Hp→Prop,(∃ m,W m σ H)∧∀ m σ H,W m σ H →
  c σ H fun b H1=>if b=true then ∃ N:St→Hp→Prop,(∀ σ' H',N σ' H'→∃ m',m' < m∧W m' σ' H')∧tb { D with nx:=N,ct:=N,bk:=D.nx } σ H1 else D.nx σ H1
theorem ps_while {c:Expr} {body:List Stmt} {tc:TT} {tb:TS} (hp:PassesOwn (model X.prog X.w) X.A X.env X.xe) (hc:PT X c tc) (hb:PSs X body tb):PS X (.While c body [] pos) (tWhile tc tb):=by
  intro pins s σ H D I h
  obtain ⟨W,⟨m0,w0⟩,turn⟩:=h
  refine wpAny_While (codeAny_whileLoop (fun n s'=>∃ σ' H',Inv X pins σ' H' s'∧W n σ' H') ?_ m0 ⟨σ,H,I,w0⟩)
  rintro n s1 ⟨σ1,H1,I1,w1⟩
  refine wpAny_passesOwn hp (thn (hc pins s1 σ1 H1 _ I1 (turn n σ1 H1 w1)) fun b s2 ⟨H2,I2,q2⟩=>?_)
  cases b with
  | true =>
    obtain ⟨N,hN,q2⟩:=q2
    rw [if_pos rfl]
    refine wpAny_passesOwn hp (thn (hb pins s2 σ1 H2 _ I2 q2) fun f s3 q3=>?_)
    cases f with
    | next =>
      obtain ⟨σ3,H3,I3,n3⟩:=q3
      obtain ⟨m',hm,w3⟩:=hN σ3 H3 n3
      exact ⟨m',hm,σ3,H3,I3,w3⟩
    | cont =>
      obtain ⟨σ3,H3,I3,n3⟩:=q3
      obtain ⟨m',hm,w3⟩:=hN σ3 H3 n3
      exact ⟨m',hm,σ3,H3,I3,w3⟩
    | brk=>exact q3
    | ret v=>exact q3
  | false =>
    rw [if_neg Bool.false_ne_true]
    exact wpAny_execs_nil ⟨σ1,H2,I2,q2⟩
end
structure It where
  go:Nat→Hp→Prop
  yld:Nat→Hp→V→Hp→Prop
  stop:Nat→Hp→Prop
noncomputable def FpOk (X:Cx) (pins:List (Addr×Obj)) (H:Hp) (b:Addr):Prop :=
  H b=none∧b≠X.env.locals∧b ∉ X.fs∧(b ∈ X.ex∨X.s₀.heap.objs.size≤b)∧(∀ x c,X.env.cells.lookup x=some c→c≠b)∧∀ p ∈ X.pn++pins,p.1≠b
theorem Inv.fpOk {X:Cx} {pins:List (Addr×Obj)} {σ:St} {H H':Hp} {s:Shared} {b:Addr} (I:Inv X pins σ H s) (hb:s.heap.objs.size≤b) (hn:H' b=none):FpOk X pins H' b:=by
  refine ⟨hn,Nat.ne_of_gt (Nat.lt_of_lt_of_le I.lt hb),I.nofs hb,.inr (Nat.le_trans I.sz hb),fun x c e z=>?_,fun p hp z=>?_⟩
  · obtain ⟨v,q⟩:=I.cell x c e
    exact absurd (Nat.lt_of_lt_of_le q.lt (by rw [z]; exact hb)) (Nat.lt_irrefl _)
  · exact absurd (Nat.lt_of_lt_of_le (Heap.lt_size (I.pin p hp).1) (by rw [z]; exact hb)) (Nat.lt_irrefl _)
structure Turn (P:Program) (w:World) (K:PySem.W.Frag) (tg:Expr) (J:It) (fp:List Addr) (it:Addr) (tn:Nat→Heap→Prop):Prop where
  mem:it ∈ fp
  obj:∀ i h,tn i h→∀ b ∈ fp,∃ o,h.get? b=some o∧∀ v,o.data≠.cell v
  keep:∀ i h h',tn i h→(∀ b ∈ fp,∀ o,h.get? b=some o→h'.get? b=some o)→tn i h'
  item:∀ (X:Cx),X.prog=P→X.w=w→X.K=K→X.calm=true→∀ (i:Nat) (pins:List (Addr×Obj)) (s:Shared) (σ:St) (H:Hp) (E:Value→Shared→Prop),Inv X pins σ H s→(∀ b ∈ fp,FpOk X pins H b)→tn i s.heap→J.go i H →
    wpAny (model P w) X.A (pyNext (.ref it)) (fun r s1=>∃ u,r=some u ∧
      wpAny (model P w) X.A (letOwnedTupleGo tg (.ref it) u) (fun _ s2=>∃ x H',Inv X pins σ H' s2∧RelV x u∧J.yld i H x H'∧tn (i+1) s2.heap∧∀ b ∈ fp,H' b=none) E s1) E s
  done:∀ (X:Cx),X.prog=P→X.w=w→X.K=K→X.calm=true→∀ (i:Nat) (pins:List (Addr×Obj)) (s:Shared) (σ:St) (H:Hp) (E:Value→Shared→Prop),Inv X pins σ H s→(∀ b ∈ fp,FpOk X pins H b)→tn i s.heap→J.stop i H →
    wpAny (model P w) X.A (pyNext (.ref it)) (fun r s1=>r=none∧Inv X pins σ H s1) E s
  self:∀ (A:Around) (i:Nat) (s:Shared) (Q:Value→Shared→Prop) (E:Value→Shared→Prop),tn i s.heap→Q (.ref it) s→wpAny (model P w) A (pyIter (.ref it)) Q E s
noncomputable abbrev TI:=St→Hp→(It→Hp→Prop)→Prop
noncomputable def PIE (X:Cx) (pins:List (Addr×Obj)) (σ:St) (tg:Expr) (R:It→Hp→Prop) (itv:Value) (s2:Shared):Prop :=
  ∃ (it:Addr) (fp:List Addr) (tn:Nat→Heap→Prop) (J:It) (H':Hp),itv=.ref it∧Inv X pins σ H' s2∧Turn X.prog X.w X.K tg J fp it tn∧tn 0 s2.heap∧(∀ b ∈ fp,FpOk X pins H' b)∧R J H'
noncomputable def PI (X:Cx) (tg iter:Expr) (wi:TI):Prop :=
  ∀ (pins:List (Addr×Obj)) (s:Shared) (σ:St) (H:Hp) (R:It→Hp→Prop),Inv X pins σ H s→wi σ H R →
    wpAny (model X.prog X.w) X.A (eval iter X.env) (fun v s1=>wpAny (model X.prog X.w) X.A (pyIter v) (PIE X pins σ tg R) X.xe s1) X.xe s
theorem go_of {M:Model} {A:Around} {E:Value→Shared→Prop} {s:Shared} {tg:Expr} {it:Addr} {u:Value} {o:Obj} {n:String} {vs:Array Value} {Q:Unit→Shared→Prop} (ho:s.heap.get? it=some o) (hc:o.cls=.type n) (hd:o.data=.fields vs)
    (hn:["enumerate", "zip", "dict_itemiterator", "dict_reverseitemiterator", "odict_iterator", "itertools.zip_longest", "itertools.pairwise"].contains n=false) (hQ:Q () s):wpAny M A (letOwnedTupleGo tg (.ref it) u) Q E s:=by
  unfold letOwnedTupleGo
  cases tg <;> first
    | exact wpAny_pure hQ
    | (cases u <;> first
        | exact wpAny_pure hQ
        | (refine wpAny_bind (wpAny_load ho ?_)
           rw [hc,hd]
           show wpAny M A (if (["enumerate", "zip", "dict_itemiterator", "dict_reverseitemiterator", "odict_iterator", "itertools.zip_longest", "itertools.pairwise"].contains n && vs[0]? == some (rawInt _))=true then _ else _) Q E s
           rw [if_neg (by intro h; rw [hn,Bool.false_and] at h; cases h)]
           exact wpAny_pure hQ))
noncomputable def Itl (K:PySem.W.Frag) (a:Addr):It :=
  ⟨fun i H=>∃ xs x,SqL K H a xs∧xs[i]?=some x,fun i H x H'=>H'=H∧∀ xs,SqL K H a xs→xs[i]?=some x,fun i H=>∃ xs,SqL K H a xs∧xs.length≤i⟩
noncomputable def Itt (K:PySem.W.Frag) (a:Addr):It :=
  ⟨fun i H=>∃ xs x,SqT K H a xs∧xs[i]?=some x,fun i H x H'=>H'=H∧∀ xs,SqT K H a xs→xs[i]?=some x,fun i H=>∃ xs,SqT K H a xs∧xs.length≤i⟩
noncomputable def Itr (lo:Int) (n:Nat):It:=⟨fun i _=>i < n,fun i H x H'=>H'=H∧x=.int (lo+i),fun i _=>n≤i⟩
theorem turn_list {P:Program} {w:World} {K:PySem.W.Frag} {tg:Expr} (a it:Addr):Turn P w K tg (Itl K a) [it] it (fun i h=>h.IsListIter it a i) where
  mem:=by simp
  obj:=fun i h st b hb=>by
    have e:b=it:=by first|exact hb|exact List.mem_singleton.mp hb|simpa using hb
    subst e
    obtain ⟨o,e,c,d⟩:=st
    exact ⟨o,e,fun v z=>by rw [d] at z; cases z⟩
  keep:=fun i h h' st k=>st.at fun o e=>k it (by simp) o e
  item:=by
    intro X hP hw hK hc i pins s σ H E I hf st hg
    subst hP hw hK
    obtain ⟨xs,x,hq,hx⟩:=hg
    obtain ⟨its,rv,p,hz⟩:=I.list hq
    obtain ⟨u,hu,ru⟩:=rv.get hx
    obtain ⟨f0,f1,f2,f3,f4,f5⟩:=hf it (by simp)
    refine wpAny_pyNext_list_item st p.isList (x:=u) (by first|exact hu|exact List.mem_singleton.mp hu|simpa using hu) fun h' st' sb=>?_
    have I1:Inv X pins σ H { s with heap:=h' }:=I.turned (t':=s.toks) (fun b o hb e=>(sb.2 b hb).trans e) f0 f1 f3 f4 f5
    obtain ⟨o,e,c,d⟩:=id st'
    exact ⟨u,rfl,go_of (s:={ s with heap:=h' }) e c d (by decide) ⟨x,H,I1,ru,⟨rfl,fun ys hy=>by rw [I.list_inj hy hq]; exact hx⟩,st',fun b hb=>(hf b hb).1⟩⟩
  done:=by
    intro X hP hw hK hc i pins s σ H E I hf st hg
    subst hP hw hK
    obtain ⟨xs,hq,hx⟩:=hg
    obtain ⟨its,rv,p,hz⟩:=I.list hq
    obtain ⟨f0,f1,f2,f3,f4,f5⟩:=hf it (by simp)
    have hl:=rv.length
    exact wpAny_pyNext_list_end (I.ok.hd hc) st p.isList (by simp; (first|lia|omega)) fun h' eb=>⟨rfl,I.turned (t':=s.toks) (fun b o hb e=>eb b o hb e) f0 f1 f3 f4 f5⟩
  self:=fun _ _ _ _ _ st h=>wpAny_pyIter_listiter st h
theorem turn_tuple {P:Program} {w:World} {K:PySem.W.Frag} {tg:Expr} (a it:Addr):Turn P w K tg (Itt K a) [it] it (fun i h=>h.IsTupleIter it a i) where
  mem:=by simp
  obj:=fun i h st b hb=>by
    have e:b=it:=by first|exact hb|exact List.mem_singleton.mp hb|simpa using hb
    subst e
    obtain ⟨o,e,c,d⟩:=st
    exact ⟨o,e,fun v z=>by rw [d] at z; cases z⟩
  keep:=fun i h h' st k=>st.at fun o e=>k it (by simp) o e
  item:=by
    intro X hP hw hK hc i pins s σ H E I hf st hg
    subst hP hw hK
    obtain ⟨xs,x,hq,hx⟩:=hg
    obtain ⟨its,rv,p,hz⟩:=I.tuple hq
    obtain ⟨u,hu,ru⟩:=rv.get hx
    obtain ⟨f0,f1,f2,f3,f4,f5⟩:=hf it (by simp)
    refine wpAny_pyNext_tuple_item st (show s.heap.IsTuple a its.toArray from p) (x:=u) (by first|exact hu|exact List.mem_singleton.mp hu|simpa using hu) fun h' st' sb=>?_
    have I1:Inv X pins σ H { s with heap:=h' }:=I.turned (t':=s.toks) (fun b o hb e=>(sb.2 b hb).trans e) f0 f1 f3 f4 f5
    obtain ⟨o,e,c,d⟩:=id st'
    exact ⟨u,rfl,go_of (s:={ s with heap:=h' }) e c d (by decide) ⟨x,H,I1,ru,⟨rfl,fun ys hy=>by rw [I.tuple_inj hy hq]; exact hx⟩,st',fun b hb=>(hf b hb).1⟩⟩
  done:=by
    intro X hP hw hK hc i pins s σ H E I hf st hg
    subst hP hw hK
    obtain ⟨xs,hq,hx⟩:=hg
    obtain ⟨its,rv,p,hz⟩:=I.tuple hq
    obtain ⟨f0,f1,f2,f3,f4,f5⟩:=hf it (by simp)
    have hl:=rv.length
    exact wpAny_pyNext_tuple_end (I.ok.hd hc) st (show s.heap.IsTuple a its.toArray from p) (by simp; (first|lia|omega)) fun h' eb=>⟨rfl,I.turned (t':=s.toks) (fun b o hb e=>eb b o hb e) f0 f1 f3 f4 f5⟩
  self:=fun _ _ _ _ _ st h=>wpAny_pyIter_tupleiter st h
theorem turn_range {P:Program} {w:World} {K:PySem.W.Frag} {tg:Expr} (it:Addr) (lo:Int) (n:Nat):Turn P w K tg (Itr lo n) [it] it (fun i h=>IsRangeIter h it (lo+(i:Nat) * 1) ((n:Int) - (i:Nat)) 1) where
  mem:=by simp
  obj:=fun i h st b hb=>by
    have e:b=it:=by first|exact hb|exact List.mem_singleton.mp hb|simpa using hb
    subst e
    exact ⟨_,st,fun v z=>by
      have z':Data.fields _=Data.cell v:=z
      cases z'⟩
  keep:=fun i h h' st k=>k it (by simp) _ st
  item:=by
    intro X hP hw hK hc i pins s σ H E I hf st hg
    subst hP hw hK
    obtain ⟨f0,f1,f2,f3,f4,f5⟩:=hf it (by simp)
    have W:=Walks.range (prog:=X.prog) (w:=X.w) (I.ok.hd hc) it lo 1 n
    refine W.item i s _ _ hg st fun v h' tk hv st' kk=>?_
    obtain ⟨t,rfl⟩:=hv
    have I1:Inv X pins σ H { s with heap:=h',toks:=tk }:=I.turned (fun b o hb e=>kk b o (by first|exact hb|exact List.mem_singleton.mp hb|simpa using hb) e) f0 f1 f3 f4 f5
    refine ⟨_,rfl,go_of (s:={ s with heap:=h',toks:=tk }) (n := "range_iterator") st' rfl rfl (by decide) ⟨.int (lo+i),H,I1,⟨t,?_⟩,⟨rfl,rfl⟩,st',fun b hb=>(hf b hb).1⟩⟩
    rw [Int.mul_one]
  done:=by
    intro X hP hw hK hc i pins s σ H E I hf st hg
    subst hP hw hK
    obtain ⟨f0,f1,f2,f3,f4,f5⟩:=hf it (by simp)
    exact wpAny_pyNext_range_end (I.ok.hd hc) st (by have:n≤i:=hg; (first|lia|omega)) fun h' eb=>⟨rfl,I.turned (t':=s.toks) (fun b o hb e=>eb b o hb e) f0 f1 f3 f4 f5⟩
  self:=fun _ _ _ _ _ st h=>wpAny_pyIter_rangeiter st h
end L2
namespace L2
open PySem PySem.Spec PyProof.Rows
section
variable {X:Cx} {tg:Expr}
noncomputable def iList (K:PySem.W.Frag) (tl:TE):TI:=fun σ H R=>tl σ H fun x H1=>∃ a,x=.ref a∧(∃ xs,SqL K H1 a xs)∧R (Itl K a) H1
noncomputable def iTup (K:PySem.W.Frag) (tl:TE):TI:=fun σ H R=>tl σ H fun x H1=>∃ a,x=.ref a∧(∃ xs,SqT K H1 a xs)∧R (Itt K a) H1
theorem pi_list {l:Expr} {tl:TE} (hl:PE X l tl):PI X tg l (iList X.K tl):=by
  intro pins s σ H R I h
  refine thn (hl pins s σ H _ I h) fun v s1 ⟨x,H1,I1,r1,q1⟩=>?_
  obtain ⟨a,e,⟨xs,hq⟩,q⟩:=q1
  subst e
  cases r1
  obtain ⟨its,rv,p,hz⟩:=I1.list hq
  refine wpAny_pyIter_list p.isList ?_
  refine ⟨s1.heap.objs.size,[s1.heap.objs.size],_,_,H1,rfl,I1.kept (t':=s1.toks) fun b o e=>Heap.get?_push_of_some _ e,turn_list a _,⟨_,Heap.get?_push_size _ rfl,rfl,rfl⟩,fun b hb=>?_,q⟩
  have e:b=s1.heap.objs.size:=by first|exact hb|exact List.mem_singleton.mp hb|simpa using hb
  subst e
  exact I1.fpOk (Nat.le_refl _) (I1.hok.fresh (Nat.le_refl _))
theorem pi_tup {l:Expr} {tl:TE} (hl:PE X l tl):PI X tg l (iTup X.K tl):=by
  intro pins s σ H R I h
  refine thn (hl pins s σ H _ I h) fun v s1 ⟨x,H1,I1,r1,q1⟩=>?_
  obtain ⟨a,e,⟨xs,hq⟩,q⟩:=q1
  subst e
  cases r1
  obtain ⟨its,rv,p,hz⟩:=I1.tuple hq
  refine wpAny_pyIter_tuple (show s1.heap.IsTuple a its.toArray from p) ?_
  refine ⟨s1.heap.objs.size,[s1.heap.objs.size],_,_,H1,rfl,I1.kept (t':=s1.toks) fun b o e=>Heap.get?_push_of_some _ e,turn_tuple a _,⟨_,Heap.get?_push_size _ rfl,rfl,rfl⟩,fun b hb=>?_,q⟩
  have e:b=s1.heap.objs.size:=by first|exact hb|exact List.mem_singleton.mp hb|simpa using hb
  subst e
  exact I1.fpOk (Nat.le_refl _) (I1.hok.fresh (Nat.le_refl _))
theorem range_it {pins:List (Addr×Obj)} {σ:St} {H:Hp} {s:Shared} {R:It→Hp→Prop} {E:Value→Shared→Prop} {lo hi:Int} {t u v:Tok} {tk:Nat} (I:Inv X pins σ H s) (h1:-(2 ^ 62)≤lo) (h2:lo < 2 ^ 62) (h3:-(2 ^ 62)≤hi) (h4:hi < 2 ^ 62)
    (q:R (Itr lo (hi - lo).toNat) H):wpAny (model X.prog X.w) X.A (pyIter (.ref s.heap.objs.size)) (PIE X pins σ tg R) E { s with heap:=s.heap.push { cls:=.type "range", data:=.fields #[.int lo t,.int hi u,.int 1 v] },toks:=tk }:=by
  refine wpAny_pyIter_range (IsRange.new ..) (small_one h1 h2 h3 h4) ?_
  have I1:Inv X pins σ H { s with heap:=s.heap.push { cls:=.type "range", data:=.fields #[.int lo t,.int hi u,.int 1 v] },toks:=tk }:=I.kept fun b o e=>Heap.get?_push_of_some _ e
  refine ⟨(s.heap.push { cls:=.type "range", data:=.fields #[.int lo t,.int hi u,.int 1 v] }).objs.size,[(s.heap.push { cls:=.type "range", data:=.fields #[.int lo t,.int hi u,.int 1 v] }).objs.size],_,_,H,rfl,
    I1.kept (t':=tk) fun b o e=>Heap.get?_push_of_some _ e,turn_range _ lo (hi - lo).toNat,?_,fun b hb=>?_,q⟩
  · have e1:lo+((0:Nat):Int) * 1=lo:=by simp
    have e2:(((hi - lo).toNat:Nat):Int) - ((0:Nat):Int)=Builtin.Range.rangeSize lo hi 1:=by rw [rangeSize_one]; split <;> (first|lia|omega)
    show IsRangeIter _ _ (lo+((0:Nat):Int) * 1) ((((hi - lo).toNat:Nat):Int) - ((0:Nat):Int)) 1
    rw [e1,e2]
    exact Heap.get?_push_size _ rfl
  · have e:b=(s.heap.push { cls:=.type "range", data:=.fields #[.int lo t,.int hi u,.int 1 v] }).objs.size:=by first|exact hb|exact List.mem_singleton.mp hb|simpa using hb
    subst e
    exact I1.fpOk (Nat.le_refl _) (I1.hok.fresh (Nat.le_refl _))
noncomputable def iRng1 (ta:TA):TI:=fun σ H R=>ta σ H fun vs H1=>∃ j:Int,vs=[.int j]∧-(2 ^ 62)≤j∧j < 2 ^ 62∧R (Itr 0 j.toNat) H1
theorem pi_range1 {a:Expr} {ta:TA} {p pos:Pos} (hg:Gl X "range") (hm:X.mg "range" = none) (ha:PA X [a] ta) (hs:autoParam (starEach [a] X.env=[(false,eval a X.env)]) L2.aR._auto_1):PI X tg (.Call (.Name "range" p) [a] [] pos) (iRng1 ta):=by
  intro pins s σ H R I h
  refine Call_ (ld_blt I hg hm boot_range (PyProof.Rows.callWith_type1 (thn (ha pos pins s σ H _ I h) fun us s1 ⟨vs,H1,I1,r1,q1⟩=>?_) hs rfl))
  obtain ⟨j,e,q1,q2,q⟩:=q1
  subst e
  cases r1 with
  | cons r rr =>
    cases rr
    obtain ⟨t,rfl⟩:=r
    exact call_range_1 (range_it I1 (by (first|lia|omega)) (by (first|lia|omega)) q1 q2 (by first|exact q|exact List.mem_singleton.mp q|simpa using q))
noncomputable def tFor (wi:TI) (g:TG) (tb:TS):TS:=fun D σ H=>wi σ H fun J H1=>∃ W:Nat→Nat→St→Hp→Prop,(∃ m,W 0 m σ H1)∧∀ i m σ H,W i m σ H →
  (J.stop i H∧D.nx σ H)∨(J.go i H∧∃ N:St→Hp→Prop,(∀ σ' H',N σ' H'→∃ m',m' < m∧W (i+1) m' σ' H')∧∀ x H',J.yld i H x H'→g x σ H' fun σ2 H2=>tb { D with nx:=N,ct:=N,bk:=D.nx } σ2 H2)
noncomputable def pinsAt (fp:List Addr) (h:Heap):List (Addr×Obj):=fp.filterMap fun b=>(h.get? b).map fun o=>(b,o)
theorem mem_pinsAt {fp:List Addr} {h:Heap} {b:Addr} {o:Obj} (hb:b ∈ fp) (e:h.get? b=some o):(b,o) ∈ pinsAt fp h:=List.mem_filterMap.mpr ⟨b,hb,by rw [e]; rfl⟩
theorem of_pinsAt {fp:List Addr} {h:Heap} {p:Addr×Obj} (hp:p ∈ pinsAt fp h):p.1 ∈ fp∧h.get? p.1=some p.2:=by
  obtain ⟨b,hb,e⟩:=List.mem_filterMap.mp hp
  cases q:h.get? b with
  | none=>rw [q] at e; cases e
  | some o =>
    rw [q] at e
    have e':(b,o)=p:=Option.some.inj e
    subst e'
    exact ⟨hb,q⟩
theorem Inv.pinned {pins:List (Addr×Obj)} {σ:St} {H:Hp} {s:Shared} {fp:List Addr} (I:Inv X pins σ H s) (hf:∀ b ∈ fp,FpOk X pins H b) (ho:∀ b ∈ fp,∃ o,s.heap.get? b=some o∧∀ v,o.data≠.cell v):Inv X (pins++pinsAt fp s.heap) σ H s :=
  I.pins_of fun p hp=>(List.mem_append.mp hp).elim (fun z=>I.pin p (List.mem_append_right _ z)) fun z=>by
    obtain ⟨hb,e⟩:=of_pinsAt z
    obtain ⟨f0,f1,f2,_⟩:=hf p.1 hb
    obtain ⟨o,e',d⟩:=ho p.1 hb
    rw [e] at e'; cases e'
    exact ⟨e,f0,f1,f2,d⟩
theorem Inv.unpinned {pins pl:List (Addr×Obj)} {σ:St} {H:Hp} {s:Shared} (I:Inv X (pins++pl) σ H s):Inv X pins σ H s:=I.pins_of fun p hp=>I.pin p (List.mem_append_right _ (List.mem_append_left _ hp))
theorem ps_for {iter:Expr} {body:List Stmt} {wi:TI} {g:TG} {tb:TS} {pos:Pos} (hp:PassesOwn (model X.prog X.w) X.A X.env X.xe) (hc:X.calm=true) (hi:PI X tg iter wi) (hg:PG X tg g) (hb:PSs X body tb)
    (hs:autoParam (∀ x,foldedSetIterable iter X.env x=pure x) L2.aI._auto_1):PS X (.For tg iter body [] pos) (tFor wi g tb):=by
  intro pins s σ H D I h
  refine wpAny_For (thn (hi pins s σ H _ I h) fun v s1 h1=>thn h1 fun itv s2 h2=>?_) hs
  obtain ⟨it,fp,tn,J,H2,e,I2,T,st2,f2,W,⟨m0,w0⟩,turn⟩:=h2
  subst e
  -- what stays true of the iterator's objects through the loop
  have stat:∀ {H':Hp},(∀ b ∈ fp,H' b=none)→∀ b ∈ fp,FpOk X pins H' b:=fun hn b hb=>⟨hn b hb,(f2 b hb).2⟩
  refine codeAny_forLoop_any (fun n s'=>∃ i σ' H',Inv X pins σ' H' s'∧tn i s'.heap∧(∀ b ∈ fp,H' b=none)∧W i n σ' H') ?_ m0 ⟨0,σ,H2,I2,st2,fun b hb=>(f2 b hb).1,w0⟩
  rintro n s3 ⟨i,σ3,H3,I3,st3,fr3,w3⟩
  rcases turn i n σ3 H3 w3 with ⟨stop,qn⟩ | ⟨go,N,hN,step⟩
  · refine wpAny_passesOwn hp (thn (T.done X rfl rfl rfl hc i pins s3 σ3 H3 X.xe I3 (stat fr3) st3 stop) fun r s4 ⟨hr,I4⟩=>?_)
    subst hr
    exact wpAny_execs_nil ⟨σ3,H3,I4,qn⟩
  · refine wpAny_passesOwn hp (thn (T.item X rfl rfl rfl hc i pins s3 σ3 H3 X.xe I3 (stat fr3) st3 go) fun r s4 ⟨u,hr,h4⟩=>?_)
    subst hr
    refine wpAny_passesOwn hp (thn h4 fun _ s5 ⟨x,H5,I5,r5,y5,st5,fr5⟩=>?_)
    have I5':=I5.pinned (stat fr5) (T.obj _ _ st5)
    refine wpAny_passesOwn hp (thn (hg _ s5 σ3 H5 x u _ I5' r5 (step x H5 y5)) fun _ s6 ⟨σ6,H6,I6,q6⟩=>?_)
    refine wpAny_passesOwn hp (thn (hb _ s6 σ6 H6 _ I6 q6) fun f s7 q7=>?_)
    have again:∀ {σ7:St} {H7:Hp},Inv X (pins++pinsAt fp s5.heap) σ7 H7 s7→N σ7 H7→∃ m,m < n∧∃ i σ' H',Inv X pins σ' H' s7∧tn i s7.heap∧(∀ b ∈ fp,H' b=none)∧W i m σ' H':=fun {σ7 H7} I7 n7=>by
      obtain ⟨m',hm,w7⟩:=hN σ7 H7 n7
      refine ⟨m',hm,i+1,σ7,H7,I7.unpinned,T.keep _ _ _ st5 fun b hb o e=>(I7.pin (b,o) (List.mem_append_right _ (List.mem_append_right _ (mem_pinsAt hb e)))).1,fun b hb=>?_,w7⟩
      obtain ⟨o,e,d⟩:=T.obj _ _ st5 b hb
      exact (I7.pin (b,o) (List.mem_append_right _ (List.mem_append_right _ (mem_pinsAt hb e)))).2.1
    cases f with
    | next=>obtain ⟨σ7,H7,I7,n7⟩:=q7; exact again I7 n7
    | cont=>obtain ⟨σ7,H7,I7,n7⟩:=q7; exact again I7 n7
    | brk=>obtain ⟨σ7,H7,I7,q7⟩:=q7; exact ⟨σ7,H7,I7.unpinned,q7⟩
    | ret v=>obtain ⟨x7,σ7,H7,I7,r7,q7⟩:=q7; exact ⟨x7,σ7,H7,I7.unpinned,r7,q7⟩
end
end L2
namespace L2
open PySem PySem.Spec PyProof.Rows
noncomputable abbrev R2:=V→V→Hp→VK→Prop
noncomputable def OpR (X:Cx) (f:Value→Value→Sem Value) (r:R2):Prop :=
  ∀ (pins:List (Addr×Obj)) (s:Shared) (σ:St) (H:Hp) (x y:V) (v u:Value) (Q:VK),Inv X pins σ H s→RelV x v→RelV y u→r x y H Q →
    wpAny (model X.prog X.w) X.A (f v u) (EP X pins σ Q) X.xe s
noncomputable def UnR (X:Cx) (f:Value→Sem Value) (r:V→Hp→VK→Prop):Prop :=
  ∀ (pins:List (Addr×Obj)) (s:Shared) (σ:St) (H:Hp) (x:V) (v:Value) (Q:VK),Inv X pins σ H s→RelV x v→r x H Q →
    wpAny (model X.prog X.w) X.A (f v) (EP X pins σ Q) X.xe s
noncomputable def CallR (X:Cx) (f:Value) (r:List V→Hp→VK→Prop):Prop :=
  ∀ (pins:List (Addr×Obj)) (s:Shared) (σ:St) (H:Hp) (xs:List V) (us:List Value) (Q:VK),Inv X pins σ H s→Vals xs us→r xs H Q →
    wpAny (model X.prog X.w) X.A (call f us) (EP X pins σ Q) X.xe s
noncomputable def TruR (X:Cx) (r:V→Hp→(Bool→Hp→Prop)→Prop):Prop :=
  ∀ (pins:List (Addr×Obj)) (s:Shared) (σ:St) (H:Hp) (x:V) (v:Value) (Q:Bool→Hp→Prop),Inv X pins σ H s→RelV x v→r x H Q →
    wpAny (model X.prog X.w) X.A (truthy v) (TP X pins σ Q) X.xe s
noncomputable def tOp (r:R2) (ta tb:TE):TE:=fun σ H Q=>ta σ H fun x H1=>tb σ H1 fun y H2=>r x y H2 Q
noncomputable def tUn (r:V→Hp→VK→Prop) (ta:TE):TE:=fun σ H Q=>ta σ H fun x H1=>r x H1 Q
noncomputable def rI (C:Int→Int→Prop) (g:Int→Int→V):R2:=fun x y H Q=>∃ i j,x=.int i∧y=.int j∧C i j∧Q (g i j) H
noncomputable def rI0 (g:Int→Int→V):R2:=fun x y H Q=>∃ i j,x=.int i∧y=.int j∧Q (g i j) H
noncomputable def rU (g:Int→V):V→Hp→VK→Prop:=fun x H Q=>∃ i,x=.int i∧Q (g i) H
section
variable {X:Cx} {a b c:Expr} {ta tb tc:TE} {pos:Pos}
theorem binT (ha:PE X a ta) (hb:PE X b tb) {pins:List (Addr×Obj)} {s:Shared} {σ:St} {H:Hp} {R:V→V→Hp→Prop} (I:Inv X pins σ H s)
    (h:ta σ H fun x H1=>tb σ H1 fun y H2=>R x y H2) {Q:Value→Shared→Prop} {f:Value→Value→Sem Value}
    (hf:∀ v u s2 x y H2,Inv X pins σ H2 s2→RelV x v→RelV y u→R x y H2→wpAny (model X.prog X.w) X.A (f v u) Q X.xe s2) :
    wpAny (model X.prog X.w) X.A (eval a X.env) (fun v s₁=>wpAny (model X.prog X.w) X.A (eval b X.env) (fun u s₂=>wpAny (model X.prog X.w) X.A (f v u) Q X.xe s₂) X.xe s₁) X.xe s:=by
  refine thn (ha pins s σ H _ I h) fun v s1 ⟨x,H1,I1,r1,q1⟩=>?_
  refine thn (hb pins s1 σ H1 _ I1 q1) fun u s2 ⟨y,H2,I2,r2,q2⟩=>?_
  exact hf v u s2 x y H2 I2 r1 r2 q2
theorem pe_op {op:Operator} {r:R2} (ho:OpR X (binaryOp op) r) (ha:PE X a ta) (hb:PE X b tb):PE X (.BinOp a op b pos) (tOp r ta tb):=by
  intro pins s σ H Q I h
  exact wpAny_BinOp (binT ha hb I h fun v u s2 x y H2 I2 rx ry q=>ho pins s2 σ H2 x y v u Q I2 rx ry q)
theorem pe_un {op:UnaryOp} {r:V→Hp→VK→Prop} (ho:UnR X (unaryOp op) r) (ha:PE X a ta):PE X (.UnaryOp op a pos) (tUn r ta):=by
  intro pins s σ H Q I h
  exact UnaryOp_ (thn (ha pins s σ H _ I h) fun v s1 ⟨x,H1,I1,r1,q1⟩=>ho pins s1 σ H1 x v Q I1 r1 q1)
theorem opI {f:Value→Value→Sem Value} {C:Int→Int→Prop} {g:Int→Int→Int}
    (rule:∀ (i j:Int) (t u:Tok) (s:Shared) (Q:Value→Shared→Prop) (E:Value→Shared→Prop),C i j→Q (.int (g i j) s.toks) { s with toks:=s.toks+1 }→wpAny (model X.prog X.w) X.A (f (.int i t) (.int j u)) Q E s) :
    OpR X f (rI C fun i j=>.int (g i j)):=by
  intro pins s σ H x y v u Q I rx ry h
  obtain ⟨i,j,rfl,rfl,hc,q⟩:=h
  obtain ⟨t,rfl⟩:=rx
  obtain ⟨t',rfl⟩:=ry
  exact rule i j t t' s _ _ hc ⟨.int (g i j),H,I.tok _,⟨_,rfl⟩,q⟩
theorem opI0 {f:Value→Value→Sem Value} {g:Int→Int→Int}
    (rule:∀ (i j:Int) (t u:Tok) (s:Shared) (Q:Value→Shared→Prop) (E:Value→Shared→Prop),Q (.int (g i j) s.toks) { s with toks:=s.toks+1 }→wpAny (model X.prog X.w) X.A (f (.int i t) (.int j u)) Q E s) :
    OpR X f (rI0 fun i j=>.int (g i j)):=by
  intro pins s σ H x y v u Q I rx ry h
  obtain ⟨i,j,rfl,rfl,q⟩:=h
  obtain ⟨t,rfl⟩:=rx
  obtain ⟨t',rfl⟩:=ry
  exact rule i j t t' s _ _ ⟨.int (g i j),H,I.tok _,⟨_,rfl⟩,q⟩
theorem opB0 {f:Value→Value→Sem Value} {g:Int→Int→Bool}
    (rule:∀ (i j:Int) (t u:Tok) (s:Shared) (Q:Value→Shared→Prop) (E:Value→Shared→Prop),Q (.bool (g i j)) s→wpAny (model X.prog X.w) X.A (f (.int i t) (.int j u)) Q E s) :
    OpR X f (rI0 fun i j=>.bl (g i j)):=by
  intro pins s σ H x y v u Q I rx ry h
  obtain ⟨i,j,rfl,rfl,q⟩:=h
  obtain ⟨t,rfl⟩:=rx
  obtain ⟨t',rfl⟩:=ry
  exact rule i j t t' s _ _ ⟨.bl (g i j),H,I,rfl,q⟩
noncomputable def CDiv (i j:Int):Prop:=0 < j∧j < 1073741824
noncomputable def CPow (i j:Int):Prop:=0≤j∧j≤1000000∧i.natAbs < 2 ^ 64
noncomputable def CMul (i j:Int):Prop:=(-(2 ^ 64) < i∧i < 2 ^ 64)∨(-(2 ^ 64) < j∧j < 2 ^ 64)
theorem CMul.ok {i j:Int} (h:CMul i j):IntMulOk i j:=by
  rcases h with ⟨h1,h2⟩ | ⟨h1,h2⟩
  · exact .of_left (intBits_le_64 h1 h2)
  · exact .of_right (intBits_le_64 h1 h2)
theorem op_add:OpR X (binaryOp .Add) (rI0 fun i j=>.int (i+j)):=opI0 fun _ _ _ _ _ _ _ q=>add_int q
theorem op_sub:OpR X (binaryOp .Sub) (rI0 fun i j=>.int (i - j)):=opI0 fun _ _ _ _ _ _ _ q=>sub_int q
theorem op_mul:OpR X (binaryOp .Mult) (rI CMul fun i j=>.int (i * j)):=opI fun _ _ _ _ _ _ _ hc q=>mul_int q hc.ok
theorem op_fdiv:OpR X (binaryOp .FloorDiv) (rI CDiv fun i j=>.int (i / j)):=opI fun i j _ _ _ _ _ hc q=>by
  have h1:(0:Int) < j:=hc.1
  have h2:j < 1073741824:=hc.2
  exact floordiv_int (by (first|lia|omega)) (by rw [Int.fdiv_eq_ediv_of_nonneg i (by (first|lia|omega))]; exact q) (.inl (PyProof.noPylong_small (by (first|lia|omega))))
theorem op_mod:OpR X (binaryOp .Mod) (rI (fun _ j=>0 < j) fun i j=>.int (i % j)):=opI fun i j _ _ _ _ _ hc q=>by
  have h1:(0:Int) < j:=hc
  exact mod_int' (by (first|lia|omega)) (by rw [Int.fmod_eq_emod_of_nonneg i (by (first|lia|omega))]; exact q)
theorem op_pow:OpR X (binaryOp .Pow) (rI CPow fun i j=>.int (i ^ j.toNat)):=opI fun _ _ _ _ _ _ _ hc q=>pow_int_small hc.1 hc.2.1 hc.2.2 q
theorem unI {f:Value→Sem Value} {g:Int→Int}
    (rule:∀ (i:Int) (t:Tok) (s:Shared) (Q:Value→Shared→Prop) (E:Value→Shared→Prop),Q (.int (g i) s.toks) { s with toks:=s.toks+1 }→wpAny (model X.prog X.w) X.A (f (.int i t)) Q E s) :
    UnR X f (rU fun i=>.int (g i)):=by
  intro pins s σ H x v Q I rx h
  obtain ⟨i,rfl,q⟩:=h
  obtain ⟨t,rfl⟩:=rx
  exact rule i t s _ _ ⟨.int (g i),H,I.tok _,⟨_,rfl⟩,q⟩
theorem un_neg:UnR X (unaryOp .USub) (rU fun i=>.int (-i)):=unI fun _ _ _ _ _ q=>neg_int q
end
noncomputable def scal:V→V→Bool
  | .non,.non=>true | .non,.int _=>true | .int _,.non=>true | .non,.bl _=>true | .bl _,.non=>true | .non,.str _=>true | .str _,.non=>true
  | .int _,.int _=>true | .bl _,.bl _=>true | .str _,.str _=>true | .byt _,.byt _=>true
  | .int _,.str _=>true | .str _,.int _=>true | .bl _,.str _=>true | .str _,.bl _=>true
  | _,_=>false
noncomputable def rEq:R2:=fun x y H Q=>scal x y=true∧Q (.bl (decide (x=y))) H
noncomputable def rNe:R2:=fun x y H Q=>scal x y=true∧Q (.bl (!decide (x=y))) H
theorem dec_int {i j:Int}:decide (V.int i=V.int j)=(i == j):=by
  rw [Bool.eq_iff_iff,decide_eq_true_iff,beq_iff_eq]
  exact ⟨fun h=>by cases h; rfl,fun h=>by rw [h]⟩
theorem dec_bl {i j:Bool}:decide (V.bl i=V.bl j)=(i == j):=by
  rw [Bool.eq_iff_iff,decide_eq_true_iff,beq_iff_eq]
  exact ⟨fun h=>by cases h; rfl,fun h=>by rw [h]⟩
theorem dec_str {i j:Str}:decide (V.str i=V.str j)=(i == j):=by
  rw [Bool.eq_iff_iff,decide_eq_true_iff,beq_iff_eq]
  exact ⟨fun h=>by cases h; rfl,fun h=>by rw [h]⟩
theorem dec_byt {i j:Array UInt8}:decide (V.byt i=V.byt j)=(i.toList == j.toList):=by
  rw [Bool.eq_iff_iff,decide_eq_true_iff,beq_iff_eq]
  exact ⟨fun h=>by cases h; rfl,fun h=>by rw [Array.toList_inj.mp h]⟩
section
variable {X:Cx} {a b c:Expr} {ta tb tc:TE} {pos:Pos}
theorem fin_bl {pins:List (Addr×Obj)} {σ:St} {H:Hp} {s:Shared} {Q:VK} {k k':Bool} (I:Inv X pins σ H s) (q:Q (.bl k) H) (e:k=k'):EP X pins σ Q (.bool k') s:=by
  subst e
  exact ⟨.bl k,H,I,rfl,q⟩
theorem op_eq:OpR X (compareOp .Eq) rEq:=by
  intro pins s σ H x y v u Q I rx ry h
  obtain ⟨hs,q⟩:=h
  cases x with
  | non =>
    cases rx
    cases y with
    | non=>cases ry; exact PySem.EqNone.eq_none_none (fin_bl I q (by simp))
    | bl j=>cases ry; exact PySem.EqNone.eq_none_bool (fin_bl I q (by simp))
    | int j=>obtain ⟨t',rfl⟩:=ry; exact PySem.EqNone.eq_none_int (fin_bl I q (by simp))
    | str j=>obtain ⟨t',rfl⟩:=ry; exact PySem.EqNone.eq_none_str (fin_bl I q (by simp))
    | _=>exact absurd (show false=true from hs) Bool.false_ne_true
  | bl i =>
    cases rx
    cases y with
    | non=>cases ry; exact PySem.EqNone.eq_bool_none (fin_bl I q (by simp))
    | bl j=>cases ry; exact eq_bool (fin_bl I q dec_bl)
    | str j=>obtain ⟨t',rfl⟩:=ry; exact PySem.EqMixed.eq_bool_str (fin_bl I q (by simp))
    | _=>exact absurd (show false=true from hs) Bool.false_ne_true
  | int i =>
    obtain ⟨t,rfl⟩:=rx
    cases y with
    | non=>cases ry; exact PySem.EqNone.eq_int_none (fin_bl I q (by simp))
    | int j=>obtain ⟨t',rfl⟩:=ry; exact eq_int (fin_bl I q dec_int)
    | str j=>obtain ⟨t',rfl⟩:=ry; exact PySem.EqMixed.eq_int_str (fin_bl I q (by simp))
    | _=>exact absurd (show false=true from hs) Bool.false_ne_true
  | str i =>
    obtain ⟨t,rfl⟩:=rx
    cases y with
    | non=>cases ry; exact PySem.EqNone.eq_str_none (fin_bl I q (by simp))
    | bl j=>cases ry; exact PySem.EqMixed.eq_str_bool (fin_bl I q (by simp))
    | int j=>obtain ⟨t',rfl⟩:=ry; exact PySem.EqMixed.eq_str_int (fin_bl I q (by simp))
    | str j=>obtain ⟨t',rfl⟩:=ry; exact eq_str (fin_bl I q dec_str)
    | _=>exact absurd (show false=true from hs) Bool.false_ne_true
  | byt i =>
    obtain ⟨t,rfl⟩:=rx
    cases y with
    | byt j=>obtain ⟨t',rfl⟩:=ry; exact PySem.W.eq_bytes (fin_bl I q dec_byt)
    | _=>exact absurd (show false=true from hs) Bool.false_ne_true
  | _=>cases y <;> exact absurd (show false=true from hs) Bool.false_ne_true
theorem op_ne:OpR X (compareOp .NotEq) rNe:=by
  intro pins s σ H x y v u Q I rx ry h
  obtain ⟨hs,q⟩:=h
  cases x with
  | non =>
    cases rx
    cases y with
    | non=>cases ry; exact PySem.EqNone.ne_none_none (fin_bl I q (by simp))
    | bl j=>cases ry; exact PySem.EqNone.ne_none_bool (fin_bl I q (by simp))
    | int j=>obtain ⟨t',rfl⟩:=ry; exact PySem.EqNone.ne_none_int (fin_bl I q (by simp))
    | str j=>obtain ⟨t',rfl⟩:=ry; exact PySem.EqNone.ne_none_str (fin_bl I q (by simp))
    | _=>exact absurd (show false=true from hs) Bool.false_ne_true
  | bl i =>
    cases rx
    cases y with
    | non=>cases ry; exact PySem.EqNone.ne_bool_none (fin_bl I q (by simp))
    | bl j=>cases ry; exact ne_bool (fin_bl I q (congrArg not dec_bl))
    | str j=>obtain ⟨t',rfl⟩:=ry; exact PySem.EqMixed.ne_bool_str (fin_bl I q (by simp))
    | _=>exact absurd (show false=true from hs) Bool.false_ne_true
  | int i =>
    obtain ⟨t,rfl⟩:=rx
    cases y with
    | non=>cases ry; exact PySem.EqNone.ne_int_none (fin_bl I q (by simp))
    | int j=>obtain ⟨t',rfl⟩:=ry; exact ne_int (fin_bl I q (congrArg not dec_int))
    | str j=>obtain ⟨t',rfl⟩:=ry; exact PySem.EqMixed.ne_int_str (fin_bl I q (by simp))
    | _=>exact absurd (show false=true from hs) Bool.false_ne_true
  | str i =>
    obtain ⟨t,rfl⟩:=rx
    cases y with
    | non=>cases ry; exact PySem.EqNone.ne_str_none (fin_bl I q (by simp))
    | bl j=>cases ry; exact PySem.EqMixed.ne_str_bool (fin_bl I q (by simp))
    | int j=>obtain ⟨t',rfl⟩:=ry; exact PySem.EqMixed.ne_str_int (fin_bl I q (by simp))
    | str j=>obtain ⟨t',rfl⟩:=ry; exact ne_str (fin_bl I q (congrArg not dec_str))
    | _=>exact absurd (show false=true from hs) Bool.false_ne_true
  | byt i =>
    obtain ⟨t,rfl⟩:=rx
    cases y with
    | byt j=>obtain ⟨t',rfl⟩:=ry; exact PySem.W.ne_bytes (fin_bl I q (congrArg not dec_byt))
    | _=>exact absurd (show false=true from hs) Bool.false_ne_true
  | _=>cases y <;> exact absurd (show false=true from hs) Bool.false_ne_true
theorem op_lt:OpR X (compareOp .Lt) (rI0 fun i j=>.bl (decide (i < j))):=opB0 fun _ _ _ _ _ _ _ q=>lt_int q
theorem op_gt:OpR X (compareOp .Gt) (rI0 fun i j=>.bl (decide (j < i))):=opB0 fun _ _ _ _ _ _ _ q=>gt_int q
theorem op_in_str:OpR X (compareOp .In) (fun x y H Q=>∃ i j,x=.str i∧y=.str j∧Q (.bl (!(Builtin.Str.occurrences j i 0 j.length 1).isEmpty)) H):=by
  intro pins s σ H x y v u Q I rx ry h
  obtain ⟨i,j,rfl,rfl,q⟩:=h
  obtain ⟨t,rfl⟩:=rx
  obtain ⟨t',rfl⟩:=ry
  exact in_str (fin_bl I q rfl)
theorem OpR.or {f:Value→Value→Sem Value} {r r':R2} (h:OpR X f r) (h':OpR X f r'):OpR X f (fun x y H Q=>r x y H Q∨r' x y H Q):=by
  intro pins s σ H x y v u Q I rx ry q
  rcases q with q | q
  · exact h pins s σ H x y v u Q I rx ry q
  · exact h' pins s σ H x y v u Q I rx ry q
theorem nomark (b:Expr) {op:CmpOp} (h:autoParam (op≠.In) L2.aD._auto_1) (h2:autoParam (op≠.NotIn) L2.aD._auto_1):behindInMarks op b=false:=by
  have e1:(op == CmpOp.In)=false:=by cases op <;> first | rfl | exact absurd rfl h
  have e2:(op == CmpOp.NotIn)=false:=by cases op <;> first | rfl | exact absurd rfl h2
  cases b
  case Set k elts z=>exact Bool.and_eq_false_iff.mpr (.inl (Bool.and_eq_false_iff.mpr (.inr (Bool.or_eq_false_iff.mpr ⟨e1,e2⟩))))
  all_goals rfl
theorem pe_cmpR {op:CmpOp} {r:R2} (ho:OpR X (compareOp op) r) (ha:PE X a ta) (hb:PE X b tb) (hm:behindInMarks op b=false):PE X (.Compare a [op] [b] pos) (tOp r ta tb):=by
  intro pins s σ H Q I h
  exact wpAny_Compare1 (binT ha hb I h fun v u s2 x y H2 I2 rx ry q=>ho pins s2 σ H2 x y v u Q I2 rx ry q) hm
noncomputable def tTest (t:TE):TT:=fun σ H Q=>t σ H fun x H'=>∃ k,x=.bl k∧Q k H'
theorem pt_cmpR {op:CmpOp} {r:R2} (ho:OpR X (compareOp op) r) (ha:PE X a ta) (hb:PE X b tb) (hm:behindInMarks op b=false):PT X (.Compare a [op] [b] pos) (tTest (tOp r ta tb)):=by
  intro pins s σ H Q I h
  refine wpAny_isTrue_Compare1 (thn (ha pins s σ H _ I h) fun v s1 ⟨x,H1,I1,r1,q1⟩=>thn (hb pins s1 σ H1 _ I1 q1) fun u s2 ⟨y,H2,I2,r2,q2⟩ =>
    thn (ho pins s2 σ H2 x y v u _ I2 r1 r2 q2) fun c s3 ⟨z,H3,I3,r3,k,e,q3⟩=>?_) hm
  subst e
  cases r3
  exact wpAny_truthy_bool ⟨H3,I3,q3⟩
noncomputable def tChain (r r':R2) (ta tb tc:TE):TE:=fun σ H Q=>ta σ H fun x H1=>tb σ H1 fun y H2=>r x y H2 fun z H3=>∃ k,z=.bl k ∧
  (if k=true then tc σ H3 fun w' H4=>r' y w' H4 Q else Q (.bl false) H3)
theorem pt_chain {op op':CmpOp} {r r':R2} (ho:OpR X (compareOp op) r) (ho':OpR X (compareOp op') r') (ha:PE X a ta) (hb:PE X b tb) (hc:PE X c tc)
    (hm:lastMarks [op,op'] [b,c]=false:=by with_unfolding_all rfl):PT X (.Compare a [op,op'] [b,c] pos) (tTest (tChain r r' ta tb tc)):=by
  intro pins s σ H Q I h
  refine isTrue_chain (thn (ha pins s σ H _ I h) fun v s1 ⟨x,H1,I1,r1,q1⟩=>test_link (thn (hb pins s1 σ H1 _ I1 q1) fun u s2 ⟨y,H2,I2,r2,q2⟩ =>
    thn (ho pins s2 σ H2 x y v u _ I2 r1 r2 q2) fun d s3 ⟨z,H3,I3,r3,k,e,q3⟩=>?_)) hm
  subst e
  cases r3
  refine wpAny_truthy_bool ?_
  cases k with
  | false =>
    obtain ⟨k',e',q'⟩:=q3
    cases e'
    exact ite_ff ⟨H3,I3,q'⟩
  | true =>
    refine ite_tt (test_last (thn (hc pins s3 σ H3 _ I3 q3) fun w' s4 ⟨z',H4,I4,r4,q4⟩=>thn (ho' pins s4 σ H4 y z' u w' _ I4 r2 r4 q4) fun d' s5 ⟨z2,H5,I5,r5,k2,e2,q5⟩=>?_))
    subst e2
    cases r5
    exact wpAny_truthy_bool ⟨H5,I5,q5⟩
noncomputable def TruV (K:PySem.W.Frag) (x:V) (H:Hp) (k:Bool):Prop :=
  match x with
  | .non=>k=false
  | .bl b=>k=b
  | .int i=>k=(i != 0)
  | .str y=>y.length≤sizeLine∧k=((y.length:Int) != 0)
  | .byt y=>y.size≤sizeLine∧k=((y.size:Int) != 0)
  | .ref p=>(∃ xs,SqL K H p xs∧k=!xs.isEmpty)∨(∃ xs,SqT K H p xs∧k=!xs.isEmpty)∨∃ kvs,H p=some (.dK kvs)∧k=!kvs.isEmpty
  | _=>False
theorem isEmpty_kv {κ:Type} {kvs:List (κ×V)} {vs:List (κ×Value)} (r:KV kvs vs):(!vs.isEmpty)=!kvs.isEmpty:=by
  cases r <;> rfl
theorem isEmpty_of {xs:List V} {its:List Value} (r:Vals xs its):(!its.toArray.isEmpty)=!xs.isEmpty:=by
  cases r <;> simp
theorem line63:(sizeLine:Nat) < 2 ^ 63:=by rw [sizeLine_eq]; decide
theorem tru_ok:TruR X (fun x H Q=>∃ k,TruV X.K x H k∧Q k H):=by
  intro pins s σ H x v Q I rx h
  obtain ⟨k,e,q⟩:=h
  have hl:=line63
  have hs:sizeLine=16777216:=sizeLine_eq
  cases x with
  | non =>
    cases rx
    have e':k=false:=e
    subst e'
    exact truthy_none ⟨H,I,q⟩
  | bl b =>
    cases rx
    have e':k=b:=e
    subst e'
    exact wpAny_truthy_bool ⟨H,I,q⟩
  | int i =>
    obtain ⟨t,rfl⟩:=rx
    have e':k=(i != 0):=e
    subst e'
    exact PySem.P.truthy_int ⟨H,I,q⟩
  | str y =>
    obtain ⟨t,rfl⟩:=rx
    obtain ⟨hy,e'⟩:y.length≤sizeLine∧k=((y.length:Int) != 0):=e
    subst e'
    exact PySem.P.truthy_str (by (first|lia|omega)) ⟨H,I.tok _,q⟩
  | byt y =>
    obtain ⟨t,rfl⟩:=rx
    obtain ⟨hy,e'⟩:y.size≤sizeLine∧k=((y.size:Int) != 0):=e
    subst e'
    exact PySem.W.truthy_bytes (by (first|lia|omega)) ⟨H,I.tok _,q⟩
  | ref p =>
    cases rx
    have e':(∃ xs,SqL X.K H p xs∧k=!xs.isEmpty)∨(∃ xs,SqT X.K H p xs∧k=!xs.isEmpty)∨∃ kvs,H p=some (.dK kvs)∧k=!kvs.isEmpty:=e
    rcases e' with ⟨xs,hx,e'⟩ | ⟨xs,hx,e'⟩ | ⟨kvs,hx,e'⟩
    · subst e'
      obtain ⟨its,r,pl,hz⟩:=I.list hx
      have hlen:=r.length
      exact wpAny_truthy_list pl.isList (by simp only [List.size_toArray]; (first|lia|omega)) ⟨H,I.tok _,by rw [isEmpty_of r]; exact q⟩
    · subst e'
      obtain ⟨its,r,pl,hz⟩:=I.tuple hx
      have hlen:=r.length
      exact truthy_tuple pl (by simp only [List.size_toArray]; (first|lia|omega)) ⟨H,I.tok _,by rw [isEmpty_of r]; exact q⟩
    · subst e'
      obtain ⟨hz,hS,vs,r,m⟩:kvs.length≤sizeLine∧(p == sysModules)=false∧∃ vs,KV kvs vs∧s.heap.DictOf (mixKind X.prog X.w) p vs:=I.hok p _ hx
      have hlen:kvs.length=vs.length:=Paired.length r
      exact wpAny_truthy_dict hS m (by (first|lia|omega)) ⟨H,I.tok _,by rw [isEmpty_kv r]; exact q⟩
  | _=>exact (show False from e).elim
theorem pt_truth (ha:PE X a ta) (he:∀ whole,isTrue a X.env whole=(do let v ← whole; standAt a.pos; holding [v] (truthy v))) :
    PT X a (fun σ H Q=>ta σ H fun x H'=>∃ k,TruV X.K x H' k∧Q k H'):=by
  intro pins s σ H Q I h
  exact isTrue_plain (thn (ha pins s σ H _ I h) fun v s1 ⟨x,H1,I1,r1,q1⟩=>tru_ok pins s1 σ H1 x v Q I1 r1 q1) (he _)
theorem op_add_str:OpR X (binaryOp .Add) (fun x y H Q=>∃ i j,x=.str i∧y=.str j∧i.length+j.length≤sizeLine∧Q (.str (i++j)) H):=by
  intro pins s σ H x y v u Q I rx ry h
  obtain ⟨i,j,rfl,rfl,hz,q⟩:=h
  obtain ⟨t,rfl⟩:=rx
  obtain ⟨t',rfl⟩:=ry
  exact add_str (fun t' tk=>⟨.str (i++j),H,I.tok _,⟨_,rfl⟩,q⟩) hz
theorem vals1 {x:V} {us:List Value} (r:Vals [x] us):∃ u,us=[u]∧RelV x u:=by
  cases r with
  | cons r1 r2=>cases r2; exact ⟨_,rfl,r1⟩
theorem vals2 {x y:V} {us:List Value} (r:Vals [x,y] us):∃ u w',us=[u,w']∧RelV x u∧RelV y w':=by
  cases r with
  | cons r1 r2 =>
    cases r2 with
    | cons r3 r4=>cases r4; exact ⟨_,_,rfl,r1,r3⟩
theorem call_max2 (hc:X.calm=true):CallR X (.builtin "max") (fun xs H Q=>∃ i j,xs=[.int i,.int j]∧Q (.int (if j > i then j else i)) H):=by
  intro pins s σ H xs us Q I r h
  obtain ⟨i,j,rfl,q⟩:=h
  obtain ⟨u,w',rfl,⟨t,rfl⟩,⟨t',rfl⟩⟩:=vals2 r
  refine max_two_ints (I.ok.hd hc) fun h' tk k=>⟨_,H,I.kept k,?_,q⟩
  by_cases hj:j > i
  · rw [if_pos hj,if_pos hj]; exact ⟨_,rfl⟩
  · rw [if_neg hj,if_neg hj]; exact ⟨_,rfl⟩
theorem call_min2 (hc:X.calm=true):CallR X (.builtin "min") (fun xs H Q=>∃ i j,xs=[.int i,.int j]∧Q (.int (if j < i then j else i)) H):=by
  intro pins s σ H xs us Q I r h
  obtain ⟨i,j,rfl,q⟩:=h
  obtain ⟨u,w',rfl,⟨t,rfl⟩,⟨t',rfl⟩⟩:=vals2 r
  refine min_two_ints (I.ok.hd hc) fun h' tk k=>⟨_,H,I.kept k,?_,q⟩
  by_cases hj:j < i
  · rw [if_pos hj,if_pos hj]; exact ⟨_,rfl⟩
  · rw [if_neg hj,if_neg hj]; exact ⟨_,rfl⟩
end
end L2
namespace L2
open PySem PySem.Spec PyProof.Rows
structure ObjM (h:Heap) (x dx C:Addr) (mA:Str→Option Value):Prop where
  obj:h.get? x=some (PySem.W.instObj C dx)
  ns:h.Ns1 dx mA
  ne:dx≠x
theorem lookIn_ns {h:Heap} {dx:Addr} {mA:Str→Option Value} (n:h.Ns1 dx mA):∃ od,h.get? dx=some od∧∀ name,PySem.W.lookIn name od=some (mA name):=by
  obtain ⟨o,es,ep,ho,hd,hk,_,hm⟩:=n
  refine ⟨o,ho,fun name=>?_⟩
  have e:=hm name
  unfold nsFind findBy at e
  rw [← Array.find?_toList] at e
  unfold PySem.W.lookIn
  rw [hd]
  dsimp only
  split
  · rename_i y q
    rw [q] at e
    exact congrArg some e
  · rename_i q
    rw [q] at e
    have a:es.toList.any (·.refKey)=false:=by
      rw [List.any_eq_false]
      intro y hy
      obtain ⟨z,t,hkey⟩:=hk y (Array.mem_toList_iff.mp hy)
      simp [DictEntry.refKey,hkey]
    have a':¬ es.toList.any (·.refKey)=true:=by rw [a]; exact Bool.false_ne_true
    rw [if_neg a']
    exact congrArg some e
theorem ObjM.look {h:Heap} {x dx C:Addr} {mA:Str→Option Value} (I:ObjM h x dx C mA):∃ od,PySem.W.InstAt h x (PySem.W.instObj C dx) C (some od)∧∀ name,PySem.W.lookIn name od=some (mA name) :=
  let ⟨od,ho,hl⟩:=lookIn_ns I.ns
  ⟨od,⟨I.obj,rfl,rfl,ho⟩,hl⟩
section
variable {prog:Program} {w:World} {A:Around} {E:Value→Shared→Prop} {s:Shared} {K:PySem.W.Frag} {x dx C f:Addr} {mA:Str→Option Value} {name:Str} {v:Value}
end
theorem RelO.some_of {v:V} {o:Option Value} (r:RelO (some v) o):∃ u,o=some u∧RelV v u:=by
  cases o with
  | none=>exact (show False from r).elim
  | some u=>exact ⟨u,rfl,r⟩
section
variable {P:Program} {w:World} {H H':Hp} {h h':Heap} {a C dx:Addr} {fs fs':List (Str×V)}
theorem ins_get (hok:HOk P w H h) (e:H a=some (.ins C dx fs)):∃ mA,ObjM h a dx C mA∧(∀ f,RelO (fs.lookup f) (mA f))∧PySem.Within mA (fs.map (·.1))∧fs.length≤1000∧H dx=some (.own a):=by
  obtain ⟨d,z,ne,ob,mA,n,r,q⟩:=(show ObjOk P w H h a (.ins C dx fs) from hok a _ e)
  exact ⟨mA,⟨ob,n,ne⟩,r,q,z,d⟩
end
structure Cls (K:PySem.W.Frag) (C:Addr):Prop where
  pg:PySem.W.plainGet K C Str.empty=true
  hd:PySem.W.hasDictIn K C=true
  po:PySem.W.plainOver K C=true
  sa:PySem.W.findIn K (.ref C) "__setattr__" = some (some (.builtin "object.__setattr__"))
theorem Cls.get {K:PySem.W.Frag} {C:Addr} (c:Cls K C) (f:Str):PySem.W.plainGet K C f=true:=c.pg
section
variable {X:Cx} {pins:List (Addr×Obj)} {σ:St} {H:Hp} {s:Shared} {a C dx:Addr} {fs:List (Str×V)} {f:Str} {v:V} {A:Around} {E:Value→Shared→Prop}
end
section
variable {X:Cx} {o e value:Expr} {f:Str} {pos pos' tpos:Pos} {ta tv:TE}
end
section
variable {X:Cx} {pins:List (Addr×Obj)} {σ:St} {H:Hp} {s:Shared} {A:Around} {E:Value→Shared→Prop} {Q:Value→Shared→Prop} {c:Value} {b:Bool}
inductive TyOf (K:PySem.W.Frag) (H:Hp):V→Value→Prop where
  | non:TyOf K H .non (.type "NoneType")
  | bl (x:Bool):TyOf K H (.bl x) (.type "bool")
  | int (i:Int):TyOf K H (.int i) (.type "int")
  | str (x:Str):TyOf K H (.str x) (.type "str")
  | flt (x:UInt64):TyOf K H (.flt x) (.type "float")
  | lst {a:Addr} {xs:List V} (e:H a=some (.lst xs)):TyOf K H (.ref a) (.type "list")
  | frz {a:Addr} {o:Obj} {xs:List V} (e:H a=some (.frz o (.lst xs))):TyOf K H (.ref a) (.type "list")
  | tup {a:Addr} {xs:List V} (e:H a=some (.tup xs)):TyOf K H (.ref a) (.type "tuple")
  | dK {a:Addr} {kvs:List (Key×V)} (e:H a=some (.dK kvs)):TyOf K H (.ref a) (.type "dict")
  | dT {a:Addr} {kvs:List (List Key×V)} (e:H a=some (.dT kvs)):TyOf K H (.ref a) (.type "dict")
  | ins {a C dx:Addr} {fs:List (Str×V)} (e:H a=some (.ins C dx fs)) (cl:Cls K C) (ha:PySem.W.findIn K (.ref C) "__class__" = some (some (.builtin "object.__class__")))
      (hn:PySem.W.specialIn K (.builtin "object.__class__") "__get__" = some (some (.builtin "getset_descriptor.__get__"))) (htk:PySem.W.takesIn K (.builtin "object.__class__")=some true)
      (hm:PySem.W.mroIn K C (.type "object")=some true):TyOf K H (.ref a) (.ref C)
theorem isinst_ok {x:V} {u t:Value} (I:Inv X pins σ H s) (rx:RelV x u) (ty:TyOf X.K H x t) (e:PySem.W.kitOne X.K t c=some b) (h:∀ tk,Q (.bool b) { s with toks:=tk }) :
    wpAny (model X.prog X.w) A (call (.builtin "isinstance") [u,c]) Q E s:=by
  cases ty with
  | non=>cases (show u=Value.none from rx); exact PySem.W.kia_one PySem.W.kitx_none I.kIn True.intro e (fun z=>nomatch z) h
  | bl y=>cases (show u=Value.bool y from rx); exact PySem.W.kia_one PySem.W.kitx_bool I.kIn True.intro e (fun z=>nomatch z) h
  | int i=>obtain ⟨t,q⟩:=(show ∃ t,u=Value.int i t from rx); cases q; exact PySem.W.kia_one PySem.W.kitx_int I.kIn True.intro e (fun z=>nomatch z) h
  | str y=>obtain ⟨t,q⟩:=(show ∃ t,u=Value.str y t from rx); cases q; exact PySem.W.kia_one PySem.W.kitx_str I.kIn True.intro e (fun z=>nomatch z) h
  | flt y=>obtain ⟨t,q⟩:=(show ∃ t,u=Value.float y t from rx); cases q; exact PySem.W.kia_one PySem.W.kitx_float I.kIn True.intro e (fun z=>nomatch z) h
  | @lst a xs ea =>
    cases (show u=Value.ref a from rx)
    obtain ⟨_,_,n,_,h1⟩:=(show ObjOk X.prog X.w H s.heap a (.lst xs) from I.hok a _ ea)
    exact PySem.W.kia_one PySem.W.kitx_list I.kIn ⟨_,h1,rfl⟩ e (fun z=>nomatch z) h
  | @frz a ob xs ea =>
    cases (show u=Value.ref a from rx)
    obtain ⟨_,_,_,n,_,h1⟩:=(show ObjOk X.prog X.w H s.heap a (.frz ob (.lst xs)) from I.hok a _ ea)
    exact PySem.W.kia_one PySem.W.kitx_list I.kIn ⟨_,h1,rfl⟩ e (fun z=>nomatch z) h
  | @tup a xs ea =>
    cases (show u=Value.ref a from rx)
    obtain ⟨_,_,_,p⟩:=(show ObjOk X.prog X.w H s.heap a (.tup xs) from I.hok a _ ea)
    obtain ⟨o,h1,h2,_⟩:=p
    exact PySem.W.kia_one PySem.W.kitx_tuple I.kIn ⟨o,h1,h2⟩ e (fun z=>nomatch z) h
  | @dK a kvs ea =>
    cases (show u=Value.ref a from rx)
    obtain ⟨_,_,vs,_,p⟩:=(show ObjOk X.prog X.w H s.heap a (.dK kvs) from I.hok a _ ea)
    obtain ⟨o,es,ep,h1,h2,_⟩:=p
    exact PySem.W.kia_one PySem.W.kitx_dict I.kIn ⟨o,h1,h2.1⟩ e (fun z=>nomatch z) h
  | @dT a kvs ea =>
    cases (show u=Value.ref a from rx)
    obtain ⟨_,_,xs,_,o,es,ep,h1,h2,_⟩:=(show ObjOk X.prog X.w H s.heap a (.dT kvs) from I.hok a _ ea)
    exact PySem.W.kia_one PySem.W.kitx_dict I.kIn ⟨o,h1,h2.1⟩ e (fun z=>nomatch z) h
  | @ins a C dx fs ea cl ha hn htk hm =>
    cases (show u=Value.ref a from rx)
    obtain ⟨mA,O,_⟩:=ins_get I.hok ea
    obtain ⟨od,J,_⟩:=O.look
    exact PySem.W.kia_one (PySem.W.kitx_own (cl.get _) cl.hd ha hn htk hm) I.kIn J e (fun z=>nomatch z) h
end
end L2
namespace L2
open PySem PySem.Spec PyProof.Rows
structure Room (k:Nat) (A:Around):Prop where
  hd:A.handled=none
  dp:A.depth+3 * k+5 < recursionLimit
  un:A.units+16 * k+200 < cLine
  gd:A.guards=some []
theorem Room.mono {j k:Nat} {A:Around} (r:Room k A) (h:j≤k):Room j A:=⟨r.hd,by have:=r.dp; (first|lia|omega),by have:=r.un; (first|lia|omega),r.gd⟩
theorem Room.deeper {k:Nat} {A:Around} (r:Room (k+1) A) (env:Env):Room k (A.deeper env) :=
  ⟨r.hd,by have:=r.dp; show A.depth+1+3 * k+5 < _; (first|lia|omega),by have:=r.un; show A.units+3+16 * k+200 < _; (first|lia|omega),r.gd⟩
theorem Room.depth {k:Nat} {A:Around} (r:Room k A):A.depth < recursionLimit:=by have:=r.dp; (first|lia|omega)
theorem Room.units {k:Nat} {A:Around} (r:Room k A):A.units+64 < cLine:=by have:=r.un; (first|lia|omega)
noncomputable def tNil:TA:=fun _ H Q=>Q [] H
noncomputable def tCons (ta:TE) (tr:TA):TA:=fun σ H Q=>ta σ H fun x H1=>tr σ H1 fun xs H2=>Q (x::xs) H2
section
variable {X:Cx} {e:Expr} {es:List Expr} {te:TE} {t:TA} {pos:Pos}
theorem pa_nil:PA X [] tNil:=fun _ _ _ _ H Q I h=>Calls.spliced_nil ⟨[],H,I,.nil,h⟩
theorem pa_cons (ha:PE X e te) (hr:PA X es t) (hs:autoParam (starEach (e::es) X.env=(false,eval e X.env)::starEach es X.env) L2.aR._auto_1):PA X (e::es) (tCons te t):=by
  intro pos pins s σ H Q I h
  rw [hs]
  show wpAny _ _ (spliced ((false,eval e X.env)::backTo pos (starEach es X.env))) _ _ s
  refine Calls.spliced_cons (thn (ha pins s σ H _ I h) fun u s1 ⟨x,H1,I1,r1,q1⟩=>?_)
  exact thn (hr pos pins s1 σ H1 _ I1 q1) fun us s2 ⟨xs,H2,I2,r2,q2⟩=>⟨x::xs,H2,I2,.cons r1 r2,q2⟩
noncomputable def tTup (t:TA):TE:=fun σ H Q=>t σ H fun xs H1=>xs.length≤sizeLine∧∀ p,H1 p=none→Q (.ref p) (upd H1 p (.tup xs))
noncomputable def tLst (t:TA):TE:=fun σ H Q=>t σ H fun xs H1=>xs.length≤sizeLine∧∀ p,H1 p=none→Q (.ref p) (upd H1 p (.lst xs))
theorem pe_tup {x1} (h:PA X es t):PE X (.Tuple es x1 pos) (tTup t):=by
  intro pins s σ H Q I hq
  refine wpAny_Tuple_spliced (thn (h pos pins s σ H _ I hq) fun us s1 ⟨xs,H1,I1,r,z,q⟩=>⟨by rw [← r.length]; exact z,?_⟩)
  have hf:H1 s1.heap.objs.size=none:=I1.hok.fresh (Nat.le_refl _)
  refine ⟨.ref s1.heap.objs.size,upd H1 s1.heap.objs.size (.tup xs),I1.laid (t':=s1.toks) (fun b u e=>Heap.get?_push_of_some _ e) (Nat.le_refl _) ?_,rfl,q _ hf⟩
  exact ⟨z,us,r,⟨_,Heap.get?_push_size _ rfl,rfl,_,rfl⟩⟩
theorem pe_lst (h:PA X es t):PE X (.List es pos) (tLst t):=by
  intro pins s σ H Q I hq
  refine wpAny_List_spliced (thn (h pos pins s σ H _ I hq) fun us s1 ⟨xs,H1,I1,r,z,q⟩=>⟨by rw [← r.length]; exact z,?_⟩)
  have hf:H1 s1.heap.objs.size=none:=I1.hok.fresh (Nat.le_refl _)
  refine ⟨.ref s1.heap.objs.size,upd H1 s1.heap.objs.size (.lst xs),I1.laid (t':=s1.toks) (fun b u e=>Heap.get?_push_of_some _ e) (Nat.le_refl _) ?_,rfl,q _ hf⟩
  exact ⟨z,us,0,r,Heap.get?_push_size _ rfl⟩
end
noncomputable abbrev Sp:=List V→Hp→VK→XK→Prop
noncomputable abbrev CXT:=List Env→Hp→Shared→XK→Value→Shared→Prop
structure Env0 (P:Program) (w:World) (K:PySem.W.Frag) (mg:Str→Option Value) (base:Heap) (A:Around) (outer:List Env) (s:Shared) (H:Hp):Prop where
  frames:A.frames=some outer
  mod:Mod K mg base
  bs:∀ b o,base.get? b=some o→s.heap.get? b=some o∧H b=none
  bsz:base.objs.size≤s.heap.objs.size
  funs:s.heap.FunFrames base outer
  frf:∀ b ∈ frs outer,H b=none
  hok:HOk P w H s.heap
  bare:AllBare s.gens
noncomputable def CE (outer:List Env) (P:Program) (w:World) (H:Hp) (s:Shared) (Q:VK) (u:Value) (s':Shared):Prop :=
  ∃ v H',s'.os=s.os∧AllBare s'.gens∧Un (frs outer) [] H H' s.heap s'.heap∧HOk P w H' s'.heap∧RelV v u∧Q v H'
noncomputable def CR (CX:CXT) (outer:List Env) (P:Program) (w:World) (H:Hp) (s:Shared) (Q:VK) (E:XK) (r:Result) (s':Shared):Prop :=
  match r with
  | .ok (.ret u)=>CE outer P w H s Q u s'
  | .ok _=>False
  | .error e=>CX outer H s E e s'
structure FnOk (P:Program) (w:World) (K:PySem.W.Frag) (mg:Str→Option Value) (base:Heap) (CX:CXT) (k:Nat) (f:Addr) (fd:FuncData) (ps:List Str) (sp:Sp):Prop where
  len:∀ vs H Q E,sp vs H Q E→vs.length=ps.length
  run:∀ (A:Around) (outer:List Env) (s:Shared) (H:Hp) (args:Args) (us:List Value) (vs:List V) (Q:VK) (E:XK),Room k A→Env0 P w K mg base A outer s H→BindsTo s fd args (ps.zip us)→Vals vs us→sp vs H Q E →
    codeAny (model P w) A (.call (.ref f) args) (CR CX outer P w H s Q E) s
theorem FnOk.imp {P:Program} {w:World} {K:PySem.W.Frag} {mg:Str→Option Value} {base:Heap} {CX:CXT} {k:Nat} {f:Addr} {fd:FuncData} {ps:List Str} {sp sp':Sp} (F:FnOk P w K mg base CX k f fd ps sp)
    (h:∀ vs H Q E,sp' vs H Q E→sp vs H Q E):FnOk P w K mg base CX k f fd ps sp' :=
  ⟨fun vs H Q E q=>F.len vs H Q E (h _ _ _ _ q),fun A outer s H args us vs Q E hr he hb hv hs=>F.run A outer s H args us vs Q E hr he hb hv (h _ _ _ _ hs)⟩
section
variable {X:Cx} {pins:List (Addr×Obj)} {σ:St} {H:Hp} {s s':Shared}
theorem Inv.env0 (I:Inv X pins σ H s):Env0 X.prog X.w X.K X.mg X.base X.A X.stack s H :=
  ⟨I.ok.frames,I.ok.mod,I.bs,Nat.le_trans I.ok.bsz I.sz,I.stack,I.stkFree,I.hok,I.bare⟩
theorem Inv.after {Q:VK} {u:Value} (I:Inv X pins σ H s) (h:CE X.stack X.prog X.w H s Q u s'):EP X pins σ Q u s':=by
  obtain ⟨v,H',os,bare,un,hok,r,q⟩:=h
  obtain ⟨hh,g,d,t,os'⟩:=s'
  obtain rfl:os'=s.os:=os
  exact ⟨v,H',I.call (h':=hh) (g':=g) (d':=d) (t':=t) (ch:=[]) un hok bare (fun b z=>absurd z (by simp)),r,q⟩
end
noncomputable def tCall (sp:Sp) (dvs:List V) (E:XK) (t:TA):TE:=fun σ H Q=>t σ H fun vs H1=>sp (vs++dvs) H1 Q E
noncomputable def Binds (K:PySem.W.Frag) (fd:FuncData) (ps:List Str) (ds:List Value):Prop :=
  ∀ (s:Shared) (us:List Value),K.In s.heap→(us++ds).length=ps.length→BindsTo s fd ⟨us,[]⟩ (ps.zip (us++ds))
theorem Binds.all {K:PySem.W.Frag} {fd:FuncData} {ps:List Str} (h:∀ us:List Value,us.length=ps.length→bindArgs fd ⟨us,[]⟩=pure (ps.zip us)):Binds K fd ps []:=fun s us _ hl=>by
  rw [List.append_nil] at hl ⊢
  exact .of_eq (h us hl)
noncomputable def Passes (CX:CXT) (X:Cx) (E:XK):Prop:=∀ (pins:List (Addr×Obj)) (σ:St) (H:Hp) (s:Shared) (e:Value) (s':Shared),Inv X pins σ H s→CX X.stack H s E e s'→X.xe e s'
section
variable {X:Cx} {CX:CXT} {k:Nat} {f C:Addr} {fd:FuncData} {ps:List Str} {sp:Sp} {dvs:List V} {ds:List Value} {E:XK} {x m:Str} {p pos apos:Pos} {e o:Expr} {es:List Expr} {ta:TE} {t:TA}
theorem run_fn {pins:List (Addr×Obj)} {σ:St} {H:Hp} {s:Shared} {Q:VK} {us:List Value} {vs:List V} (F:FnOk X.prog X.w X.K X.mg X.base CX k f fd ps sp) (hr:Room k X.A) (hb:Binds X.K fd ps ds) (hd:Vals dvs ds) (hx:Passes CX X E)
    (I:Inv X pins σ H s) (r:Vals vs us) (h:sp (vs++dvs) H Q E):wpAny (model X.prog X.w) X.A (call (.ref f) us) (EP X pins σ Q) X.xe s:=by
  have r2:Vals (vs++dvs) (us++ds):=r.append hd
  have hl:(us++ds).length=ps.length:=by rw [← r2.length]; exact F.len _ _ _ _ h
  refine wpAny_call (codeAny_mono (F.run X.A X.stack s H ⟨us,[]⟩ (us++ds) (vs++dvs) Q E hr I.env0 (hb s us I.kIn hl) r2 h) fun r s' hq=>?_)
  cases r with
  | error e=>exact hx pins σ H s e s' I hq
  | ok fl =>
    cases fl with
    | ret u=>exact I.after hq
    | next=>exact False.elim hq
    | brk=>exact False.elim hq
    | cont=>exact False.elim hq
theorem pe_call (F:FnOk X.prog X.w X.K X.mg X.base CX k f fd ps sp) (hr:Room k X.A) (hg:Gl X x) (hm:X.mg x=some (.ref f)) (hk:PySem.W.keepIn X.K (.ref f)=true) (hb:Binds X.K fd ps ds) (hd:Vals dvs ds) (hx:Passes CX X E)
    (ha:PA X (e::es) t) (hdb:autoParam ((x == ("__debug__" : Str))=false) L2.aD._auto_1) (he:autoParam (starEach (e::es) X.env=(false,eval e X.env)::starEach es X.env) L2.aR._auto_1) (hpl:autoParam ((backTo pos (starEach es X.env)).any (·.1)=false) L2.aR._auto_1) :
    PE X (.Call (.Name x p) (e::es) [] pos) (tCall sp dvs E t):=by
  intro pins s σ H Q I h
  refine wpAny_Call_Name_kw (ld_glob I hg hm ?_ hdb)
  refine PySem.W.callWith_K (h₀:=X.base) I.ok.mod.kin hk (thn (ha pos pins s σ H _ I h) fun us s1 ⟨vs,H1,I1,r,q⟩=>⟨I1.kIn,?_⟩) he hpl
  exact run_fn F hr hb hd hx I1 r q
end
section
variable {X:Cx} {CX:CXT} {k:Nat} {f C:Addr} {fd:FuncData} {ps ks:List Str} {sp:Sp} {E:XK} {x m:Str} {p pos apos kpos:Pos} {e o:Expr} {es:List Expr} {kws:List Keyword} {te ta:TE} {t tk:TA} {nm:Option Str}
variable {g:List Value→List Value→List Value} {gV:List V→List V→List V}
end
structure FnScope (N P:List Str) (sc:Scope):Prop where
  kind:sc.kind=.function
  co:sc.isCoroutine=false
  gen:sc.isGenerator=false
  nd:N.Nodup
  pre:N.take P.length=P
  par:∀ x ∈ P,sc.names.lookup x=some .local∨sc.names.lookup x=some .cell
  nofree:∀ y ∈ sc.names,y.2≠.free
theorem bindL_out {kindOf:Str→Option NameKind} {x:Str}:∀ {binds:List (Str×Value)} {m:Str→Option Value},(∀ v,(x,v) ∉ binds)→bindL kindOf binds m x=m x
  | [],_,_=>rfl
  | (n,v)::r,m,h=>by
    unfold bindL
    rw [bindL_out fun w hw=>h w (List.mem_cons_of_mem _ hw)]
    split
    · have:x≠n:=by rintro rfl; exact h v List.mem_cons_self
      simp [this]
    · rfl
theorem bindC_out {kindOf:Str→Option NameKind} {x:Str}:∀ {binds:List (Str×Value)} {m:Str→Option Value},(∀ v,(x,v) ∉ binds)→bindC kindOf binds m x=m x
  | [],_,_=>rfl
  | (n,v)::r,m,h=>by
    unfold bindC
    rw [bindC_out fun w hw=>h w (List.mem_cons_of_mem _ hw)]
    split
    · rfl
    · have:x≠n:=by rintro rfl; exact h v List.mem_cons_self
      simp [this]
theorem bindL_get {kindOf:Str→Option NameKind} {x:Str} {v:Value}:∀ {P:List Str} {vs:List Value} {i:Nat} {m:Str→Option Value},P.Nodup→P[i]?=some x→vs[i]?=some v→kindOf x=some .local →
    bindL kindOf (P.zip vs) m x=some v
  | [],_,_,_,_,h,_,_=>by simp at h
  | _::_,[],_,_,_,_,h,_=>by simp at h
  | p::P,w::vs,0,m,nd,h1,h2,hk=>by
    simp at h1 h2; subst h1; subst h2
    show bindL kindOf ((p,w)::P.zip vs) m p=_
    unfold bindL
    rw [bindL_out fun v hv=>(List.nodup_cons.mp nd).1 (List.of_mem_zip hv).1,if_pos hk]
    simp
  | p::P,w::vs,i+1,m,nd,h1,h2,hk=>by
    show bindL kindOf ((p,w)::P.zip vs) m x=_
    unfold bindL
    exact bindL_get (i:=i) (List.nodup_cons.mp nd).2 (by first|exact h1|exact List.mem_singleton.mp h1|simpa using h1) (by first|exact h2|exact List.mem_singleton.mp h2|simpa using h2) hk
theorem bindC_get {kindOf:Str→Option NameKind} {x:Str} {v:Value}:∀ {P:List Str} {vs:List Value} {i:Nat} {m:Str→Option Value},P.Nodup→P[i]?=some x→vs[i]?=some v→kindOf x≠some .local →
    bindC kindOf (P.zip vs) m x=some v
  | [],_,_,_,_,h,_,_=>by simp at h
  | _::_,[],_,_,_,_,h,_=>by simp at h
  | p::P,w::vs,0,m,nd,h1,h2,hk=>by
    simp at h1 h2; subst h1; subst h2
    show bindC kindOf ((p,w)::P.zip vs) m p=_
    unfold bindC
    rw [bindC_out fun v hv=>(List.nodup_cons.mp nd).1 (List.of_mem_zip hv).1,if_neg hk]
    simp
  | p::P,w::vs,i+1,m,nd,h1,h2,hk=>by
    show bindC kindOf ((p,w)::P.zip vs) m x=_
    unfold bindC
    exact bindC_get (i:=i) (List.nodup_cons.mp nd).2 (by first|exact h1|exact List.mem_singleton.mp h1|simpa using h1) (by first|exact h2|exact List.mem_singleton.mp h2|simpa using h2) hk
noncomputable def start (N:List Str) (vs:List V):St:=vs.map some++List.replicate (N.length - vs.length) none
noncomputable def cxOf (CX:CXT) (P:Program) (w:World) (K:PySem.W.Frag) (mg:Str→Option Value) (base:Heap) (N:List Str) (qual:Str) (scope:Scope) (f:Addr) (cd:Value) (A:Around) (outer:List Env) (s:Shared) (H:Hp) (E:XK):Cx where
  prog:=P
  w:=w
  K:=K
  mg:=mg
  base:=base
  A:=A.deeper (envOfC qual scope s.heap.objs.size f cd)
  N:=N
  s₀:=s
  H₀:=H
  env:=envOfC qual scope s.heap.objs.size f cd
  outer:=outer
  stack:=envOfC qual scope s.heap.objs.size f cd::outer
  ex:=[]
  calm:=true
  fn:=fun _=>true
  pn:=[]
  xe:=fun e s'=>wpAny (model P w) (A.deeper (envOfC qual scope s.heap.objs.size f cd)) (leaving (envOfC qual scope s.heap.objs.size f cd) e) (fun _ s''=>CX outer H s E e s'') (fun e' s''=>CX outer H s E e' s'') s'
theorem cell_has {sc:Scope} {n:Nat} {x:Str} (h:sc.names.lookup x=some .cell):∃ c,(cellsFrom n sc.names []).lookup x=some c:=by
  have q:=PySem.W.cellsFrom_some sc.names n [] (.inl h)
  exact Option.isSome_iff_exists.mp q
theorem inv_start {CX:CXT} {P:Program} {w:World} {K:PySem.W.Frag} {mg:Str→Option Value} {base:Heap} {N ps:List Str} {qual:Str} {scope:Scope} {f:Addr} {cd:Value} {A:Around} {outer:List Env} {s s1:Shared} {H:Hp} {E:XK} {us:List Value} {vs:List V}
    (S:FnScope N ps scope) (hd:A.handled=none) (e0:Env0 P w K mg base A outer s H) (hl:vs.length=ps.length) (r:Vals vs us)
    (x:InCallC s s.heap.objs.size (bindL (envOfC qual scope s.heap.objs.size f cd).kindOf (ps.zip us) fun _=>none) (cellsFrom (s.heap.objs.size+1) scope.names []) (bindC (envOfC qual scope s.heap.objs.size f cd).kindOf (ps.zip us) fun _=>none) s1) :
    Inv (cxOf CX P w K mg base N qual scope f cd A outer s H E) [] (start N vs) H s1:=by
  have hpl:ps.length≤N.length:=by have:=congrArg List.length S.pre; rw [List.length_take] at this; (first|lia|omega)
  obtain ⟨h1,tk,rfl,hk⟩:=x.done
  have noA:∀ b:Addr,b ∉ (cxOf CX P w K mg base N qual scope f cd A outer s H E).ex:=fun b z=>absurd (show b ∈ ([]:List Addr) from z) (by simp)
  refine ⟨⟨e0.mod,S.kind,rfl,rfl,Nat.le_refl _,fun y z c h1 h2=>?_,fun y hy=>?_,fun y c _ h=>?_,fun _=>hd,Around.frames_deeper e0.frames,.inr ⟨rfl,rfl⟩,fun b z=>absurd z (noA b),e0.bs,e0.bsz,fun b _ _=>noA b,fun b z=>absurd z (noA b),e0.funs,e0.frf⟩,
    rfl,e0.bare,Un.kept hk,⟨_,x.toInCall.ns,fun i y v h1 h2 h3=>?_⟩,fun y c h=>⟨_,x.cell y c h⟩,e0.hok.fresh (Nat.le_refl _),fun y c h=>?_,fun p hp=>absurd (show p ∈ ([]:List (Addr×Obj)) from hp) (by simp),e0.hok.kept hk,?_⟩
  · exact name_of_addr x.apart (PySem.mem_of_lookup h1) (PySem.mem_of_lookup h2)
  · have hy:scope.names.lookup y=some .cell∨scope.names.lookup y=some .free:=hy
    rcases hy with hy | hy
    · exact cell_has hy
    · exact absurd rfl (S.nofree _ (PySem.mem_of_lookup hy))
  · exact Nat.le_of_lt (x.above y c (PySem.mem_of_lookup h))
  · have hi:i < vs.length:=by
      unfold start at h2
      by_cases hi:i < vs.length
      · exact hi
      · rw [List.getElem?_append_right (by first|exact hi|exact List.mem_singleton.mp hi|simpa using hi)] at h2
        rw [List.getElem?_replicate] at h2
        split at h2 <;> cases h2
    have ha:vs[i]?=some v:=by
      unfold start at h2
      rw [List.getElem?_append_left (by first|exact hi|exact List.mem_singleton.mp hi|simpa using hi),List.getElem?_map] at h2
      cases e:vs[i]? with
      | none=>rw [e] at h2; cases h2
      | some a=>rw [e] at h2; cases h2; rfl
    obtain ⟨u,hu,rv⟩:=r.get ha
    have hp:ps[i]?=some y:=by
      rw [← S.pre,List.getElem?_take_of_lt (by (first|lia|omega))]; exact h1
    have ndP:ps.Nodup:=by rw [← S.pre]; exact S.nd.sublist (List.take_sublist _ _)
    refine ⟨u,rv,?_⟩
    rcases S.par y (List.mem_of_getElem? hp) with k | k
    · exact .inl ⟨k,bindL_get ndP hp hu k⟩
    · obtain ⟨c,e⟩:=cell_has (n:=s.heap.objs.size+1) k
      refine .inr ⟨.inl k,c,e,?_⟩
      have q:=x.cell y c e
      rw [bindC_get ndP hp hu (by show scope.names.lookup y≠_; rw [k]; decide)] at q
      exact q
  · exact e0.hok.fresh (Nat.le_of_lt (x.above y c (PySem.mem_of_lookup h)))
  · unfold start
    show _=N.length
    rw [List.length_append,List.length_map,List.length_replicate]
    (first|lia|omega)
theorem fn_of {CX:CXT} {P:Program} {w:World} {K:PySem.W.Frag} {mg:Str→Option Value} {base:Heap} {k:Nat} {f:Addr} {name qual:Str} {params:Arguments} {body:List Stmt} {scope:Scope} {dV kV doc pm cdv ct oc:Value} {an od:Option Addr}
    {osl:Array (Option Value)} {N ps:List Str} {sp:Sp} (lk:K.lookup f=some ⟨oc,od,.func (PySem.W.fnOf name qual params body scope dV kV doc pm an cdv ct),osl⟩) (hcd:PySem.W.codeIn K cdv qual=true) (S:FnScope N ps scope)
    (len:∀ vs H Q E,sp vs H Q E→vs.length=ps.length)
    (hbody:∀ (A:Around) (outer:List Env) (s:Shared) (H:Hp) (vs:List V) (Q:VK) (E:XK),Room k (A.deeper (envOfC qual scope s.heap.objs.size f cdv))→sp vs H Q E →
      ∃ t,PSs (cxOf CX P w K mg base N qual scope f cdv A outer s H E) body t∧t { nx:=fun _ H'=>Q .non H',rt:=Q } (start N vs) H) :
    FnOk P w K mg base CX (k+1) f (PySem.W.fnOf name qual params body scope dV kV doc pm an cdv ct) ps sp:=by
  refine ⟨len,fun A outer s H args us vs Q E hr e0 hb r hsp=>?_⟩
  have hl:=len _ _ _ _ hsp
  have KX:K.In s.heap:=e0.mod.kin.keeps fun b o e=>(e0.bs b o e).1
  have lim:s.heap.NoLimit:=e0.mod.nolimit.keeps fun b o e=>(e0.bs b o e).1
  have hkind:∀ y ∈ ps.zip us,scope.names.lookup y.1=some .local∨(scope.names.lookup y.1=some .cell∧((cellsFrom (s.heap.objs.size+1) scope.names []).lookup y.1).isSome=true):=fun ⟨n,v⟩ hy=>by
    rcases S.par n (List.of_mem_zip hy).1 with q | q
    · exact .inl q
    · exact .inr ⟨q,PySem.W.cellsFrom_some _ _ _ (.inl q)⟩
  refine codeAny_call_function hr.depth (KX _ _ lk) rfl S.co S.gen rfl (PySem.W.codeRec_of KX hcd) (hb _ _ _ _ ?_)
  refine wpAny_newFunctionEnv_cells S.kind hkind fun env he s1 x=>?_
  subst he
  refine ⟨lim.keeps x.toInCall.keep,codeAny_func ?_⟩
  obtain ⟨t,ht,hq⟩:=hbody A outer s H vs Q E (hr.deeper _) hsp
  have I:Inv (cxOf CX P w K mg base N qual scope f cdv A outer s H E) [] (start N vs) H s1:=inv_start S hr.hd e0 hl r x
  refine wpAny_mono (ht [] s1 (start N vs) H _ I hq) (fun fl s' hs=>?_) fun e s' hs=>hs
  have fin:∀ {σ':St} {H':Hp} {v:V} {u:Value},Inv (cxOf CX P w K mg base N qual scope f cdv A outer s H E) [] σ' H' s'→RelV v u→Q v H'→CE outer P w H s Q u s' :=
    fun {σ' H' v u} J rv q=>⟨v,H',J.os,J.bare,J.base,J.hok,rv,q⟩
  cases fl with
  | ret u =>
    obtain ⟨v,σ',H',J,rv,q⟩:=hs
    exact fin J rv q
  | next =>
    obtain ⟨σ',H',J,q⟩:=hs
    exact fin (v:=V.non) (u:=Value.none) J rfl q
  | brk =>
    obtain ⟨_,_,_,q⟩:=hs
    exact False.elim q
  | cont =>
    obtain ⟨_,_,_,q⟩:=hs
    exact False.elim q
end L2
namespace L2
open PySem PySem.Spec PyProof.Rows
section
variable {X:Cx} {x:Str} {p pos:Pos} {e:Expr} {es:List Expr} {t:TA} {id T:String} {r:List V→Hp→VK→Prop}
noncomputable def tCB (r:List V→Hp→VK→Prop) (t:TA):TE:=fun σ H Q=>t σ H fun vs H1=>r vs H1 Q
theorem pe_callB (hc:CallR X (.builtin id) r) (hg:Gl X x) (hm:X.mg x=none) (hv:bootBuiltins x=some (.builtin id)) (ha:PA X (e::es) t) (hn:autoParam (x ≠ "__name__") L2.aD._auto_1) (hdb:autoParam ((x == ("__debug__" : Str))=false) L2.aD._auto_1)
    (he:autoParam (starEach (e::es) X.env=(false,eval e X.env)::starEach es X.env) L2.aR._auto_1) (hpl:autoParam ((backTo pos (starEach es X.env)).any (·.1)=false) L2.aR._auto_1):PE X (.Call (.Name x p) (e::es) [] pos) (tCB r t):=by
  intro pins s σ H Q I h
  refine wpAny_Call_Name_kw (ld_blt I hg hm hv ?_ hn hdb)
  exact PyProof.Rows.callWith_builtin1 (thn (ha pos pins s σ H _ I h) fun us s1 ⟨vs,H1,I1,r1,q1⟩=>hc pins s1 σ H1 vs us Q I1 r1 q1) he hpl
theorem pe_callTy (hc:CallR X (.type T) r) (hg:Gl X x) (hm:X.mg x=none) (hv:bootBuiltins x=some (.type T)) (ha:PA X (e::es) t) (hn:autoParam (x ≠ "__name__") L2.aD._auto_1) (hdb:autoParam ((x == ("__debug__" : Str))=false) L2.aD._auto_1)
    (he:autoParam (starEach (e::es) X.env=(false,eval e X.env)::starEach es X.env) L2.aR._auto_1) (hpl:autoParam ((backTo pos (starEach es X.env)).any (·.1)=false) L2.aR._auto_1):PE X (.Call (.Name x p) (e::es) [] pos) (tCB r t):=by
  intro pins s σ H Q I h
  refine wpAny_Call_Name_kw (ld_blt I hg hm hv ?_ hn hdb)
  exact PyProof.Rows.callWith_type1 (thn (ha pos pins s σ H _ I h) fun us s1 ⟨vs,H1,I1,r1,q1⟩=>hc pins s1 σ H1 vs us Q I1 r1 q1) he hpl
end
end L2
namespace HT
open PySem PyProof.Rows
section
open PySem.SeqAt
open PySem.AutoSeq1 (wpAny_loadPart')
open PySem.MeetsSeq PySem.MeetsSeq2 PySem.MeetsSeq3
end
section
variable {prog:Program} {w:World} {A:Around} {E:Value→Shared→Prop} {s:Shared}
theorem cat_tup {t b:Addr} {vs ws:List Value} {Q:Value→Shared→Prop} (ht:IsTup s.heap t vs.toArray) (hb:IsTup s.heap b ws.toArray) (hv:vs≠[])
    (h1:ws=[]→Q (.ref t) s) (h2:ws≠[]→Q (.ref s.heap.objs.size) { s with heap:=s.heap.push { cls:=.type "tuple", data:=.seq (vs++ws).toArray } })
    (hsz:vs.length+ws.length≤sizeLine):wpAny (model prog w) A (binaryOp .Add (.ref t) (.ref b)) Q E s:=by
  obtain ⟨⟨cls,dd,data,sl⟩,ho,hc,n,hd⟩:=id ht
  obtain ⟨⟨cls2,dd2,data2,sl2⟩,ho2,hc2,n2,hd2⟩:=id hb
  simp only at hc hd hc2 hd2
  subst hc hd hc2 hd2
  have e:vs.toArray++ws.toArray=(vs++ws).toArray:=by simp
  by_cases hw:ws=[]
  · exact concat_meets ⟨_,ho,rfl⟩ ⟨_,ho2,rfl⟩ noFill_tuple_add seq_tuple_add PySem.F.slot_tuple_add PySem.F.entry_tuple_add (PySem.F.args_tuple_add_2 _ _)
      (tuple_addW1 t b vs.toArray ws.toArray n n2 dd dd2 sl sl2 (by first|exact hv|exact List.mem_singleton.mp hv|simpa using hv) (by simp [hw])) ⟨ho,ho2,h1 hw⟩
  · refine concat_meets ⟨_,ho,rfl⟩ ⟨_,ho2,rfl⟩ noFill_tuple_add seq_tuple_add PySem.F.slot_tuple_add PySem.F.entry_tuple_add (PySem.F.args_tuple_add_2 _ _)
      (tuple_addW2 t b vs.toArray ws.toArray n n2 dd dd2 sl sl2 (by first|exact hv|exact List.mem_singleton.mp hv|simpa using hv) (by first|exact hw|exact List.mem_singleton.mp hw|simpa using hw) (by rw [List.size_toArray,List.size_toArray]; exact hsz)) ⟨ho,ho2,?_⟩
    rw [e]
    exact h2 hw
noncomputable def sIx (n d:Nat):Option Int→Nat
  | none=>d
  | some v=>if v < 0 then (v+(n:Int)).toNat else min v.toNat n
theorem sIx_none (n d:Nat):sIx n d none=d:=rfl
theorem sIx_nat (n d k:Nat):sIx n d (some (k:Int))=min k n:=by
  show (if (k:Int) < 0 then ((k:Int)+(n:Int)).toNat else min (k:Int).toNat n)=min k n
  rw [if_neg (by (first|lia|omega)),Int.toNat_natCast]
theorem sIx_le (n d:Nat) (hd:d≤n) (o:Option Int):sIx n d o≤n:=by
  cases o with
  | none=>exact hd
  | some v =>
    show (if v < 0 then (v+(n:Int)).toNat else min v.toNat n)≤n
    by_cases hv:v < 0
    · rw [if_pos hv]; (first|lia|omega)
    · rw [if_neg hv]; exact Nat.min_le_right _ _
theorem clip_eq (v:Int) (n d:Nat):(if v < 0 then max (v+(n:Int)) 0 else min v (n:Int))=((sIx n d (some v):Nat):Int):=by
  show (if v < 0 then max (v+(n:Int)) 0 else min v (n:Int))=(((if v < 0 then (v+(n:Int)).toNat else min v.toNat n):Nat):Int)
  by_cases hv:v < 0
  · simp only [if_pos hv]; (first|lia|omega)
  · simp only [if_neg hv]; (first|lia|omega)
theorem adjust_gen (lo hi:Option Int) (n:Nat):Builtin.Slice.sliceAdjust lo hi 1 (n:Int)=(((sIx n 0 lo:Nat):Int),((sIx n n hi:Nat):Int)):=by
  have h1:¬ ((1:Int) < 0):=by (first|lia|omega)
  unfold Builtin.Slice.sliceAdjust
  simp only [h1,if_false]
  refine Prod.ext ?_ ?_
  · cases lo with
    | none=>rfl
    | some v=>exact clip_eq v n 0
  · cases hi with
    | none=>rfl
    | some v=>exact clip_eq v n n
theorem places_gen (i j:Nat):Builtin.Slice.slicePlaces (i:Int) (j:Int) 1=j - i:=by
  unfold Builtin.Slice.slicePlaces
  have h1:(1:Int) > 0:=by (first|lia|omega)
  simp only [h1,if_true,Int.ediv_one]
  split <;> (first|lia|omega)
theorem slicePart_ {v:Value} {o:Option Int} {Q:Option Int→Shared→Prop} (p:IsPart v o) (h:Q o s):wpAny (model prog w) A (Builtin.Slice.slicePartIndex v) Q E s:=by
  cases p with
  | none=>exact slicePart_none h
  | int i t=>exact slicePart_int h
theorem sliceApplied_gen {sl:Addr} {vl vu:Value} {lo hi:Option Int} {n:Nat} {Q:Int×Int×Nat→Shared→Prop} (hs:s.heap.IsSliceOf sl vl vu .none) (pl:IsPart vl lo) (pu:IsPart vu hi)
    (h:Q (((sIx n 0 lo:Nat):Int),1,sIx n n hi - sIx n 0 lo) s):wpAny (model prog w) A (Builtin.Slice.sliceApplied (.ref sl) (pure (n:Int))) Q E s:=by
  obtain ⟨os,hos,hcs,hds⟩:=id hs
  unfold Builtin.Slice.sliceApplied Builtin.Slice.sliceFields
  refine wpAny_bind (wpAny_bind (wpAny_field hos hds (x:=vl) rfl (wpAny_bind (wpAny_field hos hds (x:=vu) rfl (wpAny_bind (wpAny_field hos hds (x:=.none) rfl (wpAny_pure ?_)))))))
  refine wpAny_bind (slicePart_none ?_)
  show wpAny _ _ (if ((1:Int) == 0)=true then _ else _) _ _ s
  rw [if_neg (by decide)]
  refine wpAny_bind (slicePart_ pl (wpAny_bind (slicePart_ pu (wpAny_bind (wpAny_pure ?_)))))
  show wpAny _ _ (match Builtin.Slice.sliceAdjust lo hi 1 (n:Int) with | (lo,hi)=>pure (lo,(1:Int),Builtin.Slice.slicePlaces lo hi 1)) _ _ s
  rw [adjust_gen lo hi n]
  show wpAny _ _ (pure (((sIx n 0 lo:Nat):Int),(1:Int),Builtin.Slice.slicePlaces ((sIx n 0 lo:Nat):Int) ((sIx n n hi:Nat):Int) 1)) _ _ s
  rw [places_gen]
  exact wpAny_pure h
theorem pick_gen (xs:Array Value) (i k:Nat):((List.range k).filterMap fun (m:Nat)=>xs[((i:Int)+(m:Int) * 1).toNat]?).toArray=((xs.toList.drop i).take k).toArray:=by
  have e:(fun (m:Nat)=>xs[((i:Int)+(m:Int) * 1).toNat]?)=fun m=>xs[i+m]?:=by
    funext m
    have:((i:Int)+(m:Int) * 1).toNat=i+m:=by (first|lia|omega)
    rw [this]
  rw [e]
  have:=pick_run xs i k
  rw [List.filterMap_map] at this
  have e2:((fun x=>xs[x]?) ∘ fun x=>i+x)=fun m=>xs[i+m]?:=rfl
  rw [e2] at this
  rw [this]
theorem getItem_tuple_cut {t sl:Addr} {items:Array Value} {vl vu:Value} {lo hi:Option Int} {Q:Value→Shared→Prop} (ht:IsTup s.heap t items) (hs:s.heap.IsSliceOf sl vl vu .none) (pl:IsPart vl lo) (pu:IsPart vu hi)
    (hw:¬ (sIx items.size 0 lo=0∧sIx items.size items.size hi=items.size))
    (h:Q (.ref s.heap.objs.size) { s with heap:=s.heap.push { cls:=.type "tuple", data:=.seq ((items.toList.drop (sIx items.size 0 lo)).take (sIx items.size items.size hi - sIx items.size 0 lo)).toArray } })
    (hsz:items.size≤sizeLine):wpAny (model prog w) A (getItem (.ref t) (.ref sl)) Q E s:=by
  have htake:sizeOk (.seq ((items.toList.drop (sIx items.size 0 lo)).take (sIx items.size items.size hi - sIx items.size 0 lo)).toArray):=by
    show ((items.toList.drop (sIx items.size 0 lo)).take (sIx items.size items.size hi - sIx items.size 0 lo)).toArray.size≤sizeLine
    rw [List.size_toArray,List.length_take,List.length_drop,Array.length_toList]
    omega
  have hj:sIx items.size items.size hi≤items.size:=sIx_le _ _ (Nat.le_refl _) hi
  obtain ⟨os,hos,hcs,hds⟩:=id hs
  have hTs:s.TypeIs (.ref sl) "slice" := ⟨os,hos,hcs⟩
  unfold getItem
  try with_reducible refine wpAny_holding ?_
  first | refine wpAny_bind (wpAny_pure ?_) | skip
  refine wpAny_bind (wpAny_sequenceKey ht.typeIs (by decide) ?_)
  refine wpAny_bind (wpAny_callSpecial?_slot (name:=Str.ofString "__getitem__") ht.typeIs PyProof.Rows.slot_tuple_getitem
    (wpAny_call_entry PyProof.Rows.slot_tuple_getitem ht.typeIs entry_tuple_getitem ?_ (args_tuple_getitem _ _)))
  show wpAny _ _ (Builtin.Tuple.tupleItemsOf (.ref t) >>= _) _ _ s
  refine wpAny_bind (tupleItemsOf_ ht ?_)
  refine wpAny_bind (wpAny_typeOf hTs ?_)
  rw [if_pos (by decide)]
  refine wpAny_bind (sliceApplied_gen hs pl pu ?_)
  have hno:¬ ((((sIx items.size 0 lo:Nat):Int) == 0 && (1:Int) == 1 && (sIx items.size items.size hi - sIx items.size 0 lo) == items.size)=true):=by
    intro q
    rw [Bool.and_eq_true,Bool.and_eq_true] at q
    have q1:((sIx items.size 0 lo:Nat):Int)=0:=eq_of_beq q.1.1
    have q2:sIx items.size items.size hi - sIx items.size 0 lo=items.size:=eq_of_beq q.2
    exact hw ⟨by omega,by omega⟩
  show wpAny _ _ (if (((sIx items.size 0 lo:Nat):Int) == 0 && (1:Int) == 1 && (sIx items.size items.size hi - sIx items.size 0 lo) == items.size)=true then _ else _) _ _ s
  rw [if_neg hno,pick_gen]
  first
    | exact wpAny_bind (m:=Builtin.Tuple.tupleExact _) (wpAny_newObj_type (wpAny_pure ⟨_,rfl,wpAny_pure h⟩) htake)
    | exact wpAny_bind (m:=Builtin.Tuple.tupleExact _) (wpAny_newObj_type (wpAny_bind (wpAny_pure (wpAny_pure ⟨_,rfl,wpAny_pure h⟩))) htake)
    | exact wpAny_bind (wpAny_bind (m:=Builtin.Tuple.tupleExact _) (wpAny_newObj_type (wpAny_pure (wpAny_pure ⟨_,rfl,wpAny_pure h⟩)) htake))
    | exact wpAny_bind (wpAny_bind (m:=Builtin.Tuple.tupleExact _) (wpAny_newObj_type (wpAny_pure ⟨_,rfl,wpAny_pure h⟩) htake))
end
end HT
namespace L2
open PySem PySem.Spec PyProof.Rows
noncomputable abbrev TO:=St→Hp→(Option Int→Hp→Prop)→Prop
noncomputable def PO (X:Cx) (e:Option Expr) (t:TO):Prop :=
  ∀ (pins:List (Addr×Obj)) (s:Shared) (σ:St) (H:Hp) (Q:Option Int→Hp→Prop),Inv X pins σ H s→t σ H Q →
    wpAny (model X.prog X.w) X.A (evalPart e X.env) (fun u s'=>∃ o H',Inv X pins σ H' s'∧IsPart u o∧Q o H') X.xe s
noncomputable def tNoPart:TO:=fun _ H Q=>Q none H
noncomputable def tPart (t:TE):TO:=fun σ H Q=>t σ H fun x H1=>∃ i,x=.int i∧Q (some i) H1
section
variable {X:Cx} {e:Expr} {te:TE} {lo hi:Option Expr} {tl th:TO} {pos p2:Pos}
theorem po_none:PO X none tNoPart:=by
  intro pins s σ H Q I h
  rw [evalPart_none]
  exact wpAny_pure ⟨none,H,I,.none,h⟩
theorem po_some (h:PE X e te):PO X (some e) (tPart te):=by
  intro pins s σ H Q I hw
  rw [evalPart_some]
  refine thn (h pins s σ H _ I hw) fun u s1 ⟨x,H1,I1,r1,q1⟩=>?_
  obtain ⟨i,rfl,q⟩:=q1
  obtain ⟨t,rfl⟩:=r1
  exact ⟨some i,H1,I1,.int i t,q⟩
noncomputable def SlR (X:Cx) (r:V→Option Int→Option Int→Hp→VK→Prop):Prop :=
  ∀ (pins:List (Addr×Obj)) (s:Shared) (σ:St) (H:Hp) (x:V) (v vl vu:Value) (lo hi:Option Int) (sl:Addr) (Q:VK),Inv X pins σ H s→RelV x v→s.heap.IsSliceOf sl vl vu .none→IsPart vl lo→IsPart vu hi→r x lo hi H Q →
    ∃ T id,typeLookup (.type T) "__getitem__" = pure (some (.builtin id))∧s.TypeIs v T∧wpAny (model X.prog X.w) X.A (getItem v (.ref sl)) (EP X pins σ Q) X.xe s
theorem SlR.or {r r':V→Option Int→Option Int→Hp→VK→Prop} (h:SlR X r) (h':SlR X r'):SlR X (fun x lo hi H Q=>r x lo hi H Q∨r' x lo hi H Q):=by
  intro pins s σ H x v vl vu lo hi sl Q I rx hs pl pu q
  rcases q with q | q
  · exact h pins s σ H x v vl vu lo hi sl Q I rx hs pl pu q
  · exact h' pins s σ H x v vl vu lo hi sl Q I rx hs pl pu q
noncomputable def tSl (r:V→Option Int→Option Int→Hp→VK→Prop) (te:TE) (tl th:TO):TE:=fun σ H Q=>te σ H fun x H1=>tl σ H1 fun l H2=>th σ H2 fun u H3=>r x l u H3 Q
theorem pe_slice {r:V→Option Int→Option Int→Hp→VK→Prop} (hr:SlR X r) (he:PE X e te) (hl:PO X lo tl) (hu:PO X hi th):PE X (.Subscript e (.Slice lo hi none p2) pos) (tSl r te tl th):=by
  intro pins s σ H Q I h
  refine Subscript_ (thn (he pins s σ H _ I h) fun v s1 ⟨x,H1,I1,r1,q1⟩=>?_)
  refine wpAny_Slice (thn (hl pins s1 σ H1 _ I1 q1) fun vl s2 ⟨l,H2,I2,pl,q2⟩=>thn (hu pins s2 σ H2 _ I2 q2) fun vu s3 ⟨u,H3,I3,pu,q3⟩=>?_)
  rw [evalPart_none]
  refine wpAny_pure ?_
  have I4:Inv X pins σ H3 { s3 with heap:=s3.heap.push { cls:=.type "slice", data:=.fields #[vl,vu,.none] } }:=I3.kept (t':=s3.toks) fun b ob q=>Heap.get?_push_of_some _ q
  obtain ⟨T,id,hT,ht,hg⟩:=hr pins { s3 with heap:=s3.heap.push { cls:=.type "slice", data:=.fields #[vl,vu,.none] } } σ H3 x v vl vu l u s3.heap.objs.size Q I4 r1 (Heap.IsSliceOf.new ..) pl pu q3
  show wpAny (model X.prog X.w) X.A (subscriptTail e (.Slice lo hi none p2) v (.ref s3.heap.objs.size)) (EP X pins σ Q) X.xe { s3 with heap:=s3.heap.push { cls:=.type "slice", data:=.fields #[vl,vu,.none] } }
  exact tail_any (ops:=[.ref s3.heap.objs.size,v]) ht hT hg (by with_unfolding_all rfl)
noncomputable def cutV (xs:List V) (lo hi:Option Int):List V:=(xs.drop (HT.sIx xs.length 0 lo)).take (HT.sIx xs.length xs.length hi - HT.sIx xs.length 0 lo)
theorem cutV_length (xs:List V) (lo hi:Option Int):(cutV xs lo hi).length≤xs.length:=by
  unfold cutV
  rw [List.length_take,List.length_drop]
  (first|lia|omega)
noncomputable def rSlT (K:PySem.W.Frag):V→Option Int→Option Int→Hp→VK→Prop:=fun x lo hi H Q=>∃ a xs,x=.ref a∧SqT K H a xs ∧
  ¬ (HT.sIx xs.length 0 lo=0∧HT.sIx xs.length xs.length hi=xs.length)∧∀ p,H p=none→Q (.ref p) (upd H p (.tup (cutV xs lo hi)))
theorem sl_tup:SlR X (rSlT X.K):=by
  intro pins s σ H x v vl vu lo hi sl Q I rx hs pl pu h
  obtain ⟨a,xs,rfl,hx,hw,q⟩:=h
  cases rx
  obtain ⟨its,r,ht,hz⟩:=I.tuple hx
  have hlen:its.toArray.size=xs.length:=by rw [List.size_toArray]; exact r.length.symm
  refine ⟨"tuple", _,PyProof.Rows.slot_tuple_getitem.lookup,ht.typeIs,?_⟩
  refine HT.getItem_tuple_cut ht hs pl pu (by rw [hlen]; exact hw) ?_ (by rw [hlen]; exact hz)
  rw [hlen]
  refine ⟨.ref s.heap.objs.size,_,I.laid (t':=s.toks) (o:=.tup (cutV xs lo hi)) (fun b ob q=>Heap.get?_push_of_some _ q) (Nat.le_refl _) ?_,rfl,q _ (I.hok.fresh (Nat.le_refl _))⟩
  exact ⟨Nat.le_trans (cutV_length xs lo hi) hz,_,(r.drop (HT.sIx xs.length 0 lo)).take (HT.sIx xs.length xs.length hi - HT.sIx xs.length 0 lo),IsTup.new _ _⟩
noncomputable def rCatT (K:PySem.W.Frag):R2:=fun x y H Q=>∃ a b xs ys,x=.ref a∧y=.ref b∧SqT K H a xs∧SqT K H b ys∧xs≠[]∧xs.length+ys.length≤sizeLine ∧
  (ys=[]→Q (.ref a) H)∧(ys≠[]→∀ p,H p=none→Q (.ref p) (upd H p (.tup (xs++ys))))
theorem Vals.nil_iff {xs:List V} {us:List Value} (r:Vals xs us):us=[]↔xs=[]:=by
  cases r with
  | nil=>simp
  | cons _ _=>simp
theorem op_catT:OpR X (binaryOp .Add) (rCatT X.K):=by
  intro pins s σ H x y v u Q I rx ry h
  obtain ⟨a,b,xs,ys,rfl,rfl,ha,hb,hx,hz,q1,q2⟩:=h
  cases rx
  cases ry
  obtain ⟨its,r1,p1,_⟩:=I.tuple ha
  obtain ⟨its2,r2,p2,_⟩:=I.tuple hb
  refine HT.cat_tup p1 p2 (fun z=>hx (r1.nil_iff.mp z)) (fun z=>⟨.ref a,H,I,rfl,q1 (r2.nil_iff.mp z)⟩) (fun z=>?_) (by rw [← r1.length,← r2.length]; exact hz)
  refine ⟨.ref s.heap.objs.size,_,I.laid (t':=s.toks) (o:=.tup (xs++ys)) (fun b ob q=>Heap.get?_push_of_some _ q) (Nat.le_refl _) ?_,rfl,q2 (fun w=>z (r2.nil_iff.mpr w)) _ (I.hok.fresh (Nat.le_refl _))⟩
  exact ⟨by rw [List.length_append]; exact hz,_,r1.append r2,IsTup.new _ _⟩
end
end L2
namespace L2
open PySem PySem.Spec PyProof.Rows
noncomputable def ixN (n:Nat) (i:Int):Option Nat:=if 0≤i then (if i < n then some i.toNat else none) else if -(n:Int)≤i then some (i+n).toNat else none
noncomputable def atI {α:Type} (xs:List α) (i:Int):Option α:=(ixN xs.length i).bind fun j=>xs[j]?
theorem ixN_seq {n:Nat} {i:Int} {j:Nat} (h:ixN n i=some j):seqIndex? i n=some j∧j < n∧-(n:Int)≤i∧i < n:=by
  unfold ixN at h
  by_cases h0:0≤i
  · rw [if_pos h0] at h
    by_cases h1:i < n
    · rw [if_pos h1] at h
      have e:i.toNat=j:=Option.some.inj h
      exact ⟨by rw [seqIndex_of h0 h1,e],by (first|lia|omega),by (first|lia|omega),h1⟩
    · rw [if_neg h1] at h; cases h
  · rw [if_neg h0] at h
    by_cases h1:-(n:Int)≤i
    · rw [if_pos h1] at h
      have e:(i+n).toNat=j:=Option.some.inj h
      exact ⟨by rw [seqIndex_neg (by (first|lia|omega)) h1,e],by (first|lia|omega),h1,by (first|lia|omega)⟩
    · rw [if_neg h1] at h; cases h
theorem atI_get {α:Type} {xs:List α} {i:Int} {v:α} (h:atI xs i=some v):∃ j,seqIndex? i xs.length=some j∧xs[j]?=some v∧j < xs.length∧-(xs.length:Int)≤i∧i < xs.length:=by
  unfold atI at h
  cases e:ixN xs.length i with
  | none=>rw [e] at h; cases h
  | some j =>
    rw [e] at h
    obtain ⟨h1,h2,h3,h4⟩:=ixN_seq e
    exact ⟨j,h1,h,h2,h3,h4⟩
theorem atI_nat {α:Type} {xs:List α} {j:Nat} {v:α} (h:xs[j]?=some v):atI xs (j:Int)=some v:=by
  have hj:j < xs.length:=(List.getElem?_eq_some_iff.mp h).1
  have e:ixN xs.length (j:Int)=some j:=by
    unfold ixN
    rw [if_pos (by (first|lia|omega)),if_pos (by (first|lia|omega))]; simp
  unfold atI; rw [e]; exact h
noncomputable def PlainIx (b:Expr):Prop:=∀ o i,subscripted b false o i=operate [o,i] (getItem o i)
noncomputable def IxR (X:Cx) (r:R2):Prop :=
  ∀ (value slice:Expr) (pins:List (Addr×Obj)) (s:Shared) (σ:St) (H:Hp) (x y:V) (v u:Value) (Q:VK),Inv X pins σ H s→RelV x v→RelV y u→r x y H Q →
    subscripted slice false v u=operate [v,u] (getItem v u)→wpAny (model X.prog X.w) X.A (subscriptTail value slice v u) (EP X pins σ Q) X.xe s
noncomputable def MtR (X:Cx) (id:String) (r:V→List V→Hp→VK→Prop):Prop :=
  ∀ (pins:List (Addr×Obj)) (s:Shared) (σ:St) (H:Hp) (x:V) (xs:List V) (v:Value) (us:List Value) (Q:VK),Inv X pins σ H s→RelV x v→Vals xs us→r x xs H Q →
    wpAny (model X.prog X.w) X.A (call (.builtin id) (v::us)) (EP X pins σ Q) X.xe s
section
variable {X:Cx} {a b:Expr} {ta tb:TE} {pos:Pos}
theorem IxR.or {r r':R2} (h:IxR X r) (h':IxR X r'):IxR X (fun x y H Q=>r x y H Q∨r' x y H Q):=by
  intro value slice pins s σ H x y v u Q I rx ry q hs
  rcases q with q | q
  · exact h value slice pins s σ H x y v u Q I rx ry q hs
  · exact h' value slice pins s σ H x y v u Q I rx ry q hs
theorem pe_ix {r:R2} (hr:IxR X r) (ha:PE X a ta) (hb:PE X b tb) (hs:PlainIx b):PE X (.Subscript a b pos) (tOp r ta tb):=by
  intro pins s σ H Q I h
  exact Subscript_ (binT ha hb I h fun v u s2 x y H2 I2 rx ry q=>hr a b pins s2 σ H2 x y v u Q I2 rx ry q (hs _ _))
noncomputable def rIxL (K:PySem.W.Frag):R2:=fun x y H Q=>∃ p xs i v,x=.ref p∧y=.int i∧SqL K H p xs∧atI xs i=some v∧Q v H
noncomputable def rIxT (K:PySem.W.Frag):R2:=fun x y H Q=>∃ p xs i v,x=.ref p∧y=.int i∧SqT K H p xs∧atI xs i=some v∧Q v H
noncomputable def rIxS:R2:=fun x y H Q=>∃ z i c,x=.str z∧y=.int i∧z.length≤sizeLine∧atI z.cps.toList i=some c∧Q (.str ⟨#[c]⟩) H
theorem ix_list:IxR X (rIxL X.K):=by
  intro value slice pins s σ H x y v u Q I rx ry h hs
  obtain ⟨p,xs,i,z,rfl,rfl,hq,he,q⟩:=h
  cases rx
  obtain ⟨t,rfl⟩:=ry
  obtain ⟨its,r,pl,hz⟩:=I.list hq
  obtain ⟨j,h1,h2,h3,h4,h5⟩:=atI_get he
  obtain ⟨w,ew,rw'⟩:=r.get h2
  have hl:=r.length
  have hn:=line63
  have fin:EP X pins σ Q w s:=⟨z,H,I,rw',q⟩
  by_cases h0:0≤i
  · have hj:i.toNat=j:=by
      rw [seqIndex_of h0 h5] at h1
      exact Option.some.inj h1
    exact item_listR pl.isList h0 (by (first|lia|omega)) (by rw [hj]; simpa using ew) fin hs
  · have hj:(i+(its.toArray.size:Int)).toNat=j:=by
      rw [seqIndex_neg (by (first|lia|omega)) h4] at h1
      rw [List.size_toArray,← hl]
      exact Option.some.inj h1
    exact subscriptTail_builtinR (x:=w) pl.isList.typeIs slot_list_getitem.lookup
      (wpAny_getItem_list_neg (Q:=fun r s'=>r=w∧EP X pins σ Q r s') pl.isList (by (first|lia|omega)) (by rw [List.size_toArray] <;> (first|lia|omega)) (by (first|lia|omega)) (by rw [hj]; simpa using ew) ⟨rfl,fin⟩) hs
theorem ix_tup:IxR X (rIxT X.K):=by
  intro value slice pins s σ H x y v u Q I rx ry h hs
  obtain ⟨p,xs,i,z,rfl,rfl,hq,he,q⟩:=h
  cases rx
  obtain ⟨t,rfl⟩:=ry
  obtain ⟨its,r,pl,hz⟩:=I.tuple hq
  obtain ⟨j,h1,h2,h3,h4,h5⟩:=atI_get he
  obtain ⟨w,ew,rw'⟩:=r.get h2
  have hl:=r.length
  have hn:=line63
  have fin:EP X pins σ Q w s:=⟨z,H,I,rw',q⟩
  exact subscriptTail_builtinR (x:=w) pl.typeIs slot_tuple_getitem.lookup
    (getItem_tuple (j:=j) (Q:=fun r s'=>r=w∧EP X pins σ Q r s') pl (by (first|lia|omega)) (by (first|lia|omega)) (by rw [List.size_toArray,← hl]; exact h1) (by first|exact ew|exact List.mem_singleton.mp ew|simpa using ew) ⟨rfl,fin⟩) hs
theorem ix_str:IxR X rIxS:=by
  intro value slice pins s σ H x y v u Q I rx ry h hs
  obtain ⟨z,i,c,rfl,rfl,hz,he,q⟩:=h
  obtain ⟨t,rfl⟩:=rx
  obtain ⟨t',rfl⟩:=ry
  obtain ⟨j,h1,h2,h3,h4,h5⟩:=atI_get he
  have hl:z.cps.toList.length=z.length:=by simp [Str.length]
  rw [hl] at h1 h4 h5
  have hn:=line63
  exact tail_any (typeIs_str s z t) slot_str_getitem.lookup (getItem_str (c:=c) (by
    have e1:decide (i < -(2 ^ 63:Int))=false:=decide_eq_false (by (first|lia|omega))
    have e2:decide (i ≥ 2 ^ 63)=false:=decide_eq_false (by (first|lia|omega))
    rw [e1,e2,Bool.or_false]) (by rw [h1]; simpa using h2) ⟨.str ⟨#[c]⟩,H,I.tok _,⟨_,rfl⟩,q⟩) hs
noncomputable def rIx (K:PySem.W.Frag):R2:=fun x y H Q=>rIxL K x y H Q∨rIxT K x y H Q∨rIxS x y H Q
theorem ix_seq:IxR X (rIx X.K):=ix_list.or (ix_tup.or ix_str)
theorem mapSeq_set (its:List Value) (n j:Nat) (u:Value):Obj.mapSeq (·.setIfInBounds j u) { cls:=.type "list", data:=.seq its.toArray n }={ cls:=.type "list", data:=.seq (its.set j u).toArray n }:=by
  simp [Obj.mapSeq]
theorem Inv.lst {pins:List (Addr×Obj)} {σ:St} {H:Hp} {s:Shared} {p:Addr} {xs:List V} (I:Inv X pins σ H s) (h:H p=some (.lst xs)) :
    ∃ (its:List Value) (n:Nat),Vals xs its∧s.heap.get? p=some { cls:=.type "list", data:=.seq its.toArray n }∧xs.length≤sizeLine:=by
  obtain ⟨z,its,n,r,e⟩:=I.hok p _ h
  exact ⟨its,n,r,e,z⟩
theorem Inv.lstUpd {pins:List (Addr×Obj)} {σ:St} {H:Hp} {s:Shared} {p:Addr} {xs ys:List V} {its its':List Value} {n n':Nat} {f:Obj→Obj} (I:Inv X pins σ H s) (h:H p=some (.lst xs))
    (ho:s.heap.get? p=some { cls:=.type "list", data:=.seq its.toArray n }) (hf:f { cls:=.type "list", data:=.seq its.toArray n }={ cls:=.type "list", data:=.seq its'.toArray n' }) (r:Vals ys its') (hz:ys.length≤sizeLine) (t:Nat) :
    Inv X pins σ (upd H p (.lst ys)) { s with heap:=s.heap.update p f,toks:=t }:=by
  have e:(s.heap.update p f).get? p=some { cls:=.type "list", data:=.seq its'.toArray n' }:=by
    rw [Heap.get?_update_self f ho (by rw [hf] <;> rfl),hf]
  refine I.write (x:=p) (e:=p) (by rw [h]; trivial) (.inl rfl) (fun b u hb q=>(Heap.get?_update_other _ _ (Ne.symm hb)).trans q) ⟨_,e⟩ ?_
  exact ⟨hz,its',n',r,e⟩
noncomputable def rSetL:V→V→V→Hp→(Hp→Prop)→Prop:=fun o i v H Q=>∃ p xs k j,o=.ref p∧i=.int k∧H p=some (.lst xs)∧ixN xs.length k=some j∧Q (upd H p (.lst (xs.set j v)))
theorem set_list:PSet X rSetL:=by
  intro pins s σ H o i v ov iv u Q I ro ri rv h
  obtain ⟨p,xs,k,j,rfl,rfl,hp,hj,q⟩:=h
  cases ro
  obtain ⟨t,rfl⟩:=ri
  obtain ⟨its,n,r,ho,hz⟩:=I.lst hp
  obtain ⟨h1,h2,h3,h4⟩:=ixN_seq hj
  have hl:=r.length
  have hn:=line63
  have I':Inv X pins σ (upd H p (.lst (xs.set j v))) { s with heap:=s.heap.update p (Obj.mapSeq (·.setIfInBounds j u)) } :=
    I.lstUpd hp ho (mapSeq_set its n j u) (r.set rv j) (by rw [List.length_set]; exact hz) s.toks
  by_cases h0:0≤k
  · have hk:k.toNat=j:=by
      rw [seqIndex_of h0 h4] at h1
      exact Option.some.inj h1
    exact PySem.W.ki_setAt ho h0 (by (first|lia|omega)) (by rw [List.size_toArray,← hl]; exact h4) (by rw [hk]; exact ⟨_,I',q⟩)
  · have hk:(k+(its.toArray.size:Int)).toNat=j:=by
      rw [seqIndex_neg (by (first|lia|omega)) h3] at h1
      rw [List.size_toArray,← hl]
      exact Option.some.inj h1
    exact PySem.W.ki_setBack ho (by (first|lia|omega)) (by rw [List.size_toArray,← hl]; exact h3) (by (first|lia|omega)) (by rw [hk]; exact ⟨_,I',q⟩)
theorem slice_bounds (lo hi:Option Int) (n:Nat):(sliceBounds lo hi none n).1=((HT.sIx n 0 lo:Nat):Int)∧(sliceBounds lo hi none n).2.1=((HT.sIx n n hi:Nat):Int)∧(sliceBounds lo hi none n).2.2=1:=by
  refine ⟨?_,?_,rfl⟩
  · cases lo with
    | none=>simp [sliceBounds,HT.sIx]
    | some i =>
      simp only [sliceBounds,HT.sIx,Option.getD_none,show (1:Int) > 0 by decide,if_true]
      by_cases h:i < 0
      · simp only [h,if_true] <;> (first|lia|omega)
      · simp only [h,if_false] <;> (first|lia|omega)
  · cases hi with
    | none=>simp [sliceBounds,HT.sIx]
    | some i =>
      simp only [sliceBounds,HT.sIx,Option.getD_none,show (1:Int) > 0 by decide,if_true]
      by_cases h:i < 0
      · simp only [h,if_true] <;> (first|lia|omega)
      · simp only [h,if_false] <;> (first|lia|omega)
theorem slicePick_cut (its:List Value) (lo hi:Option Int):slicePick its.toArray lo hi none=((its.drop (HT.sIx its.length 0 lo)).take (HT.sIx its.length its.length hi - HT.sIx its.length 0 lo)).toArray:=by
  obtain ⟨h1,h2,h3⟩:=slice_bounds lo hi its.toArray.size
  unfold slicePick
  rw [h1,h2,h3]
  simp only [sliceRange_one,pick_run,List.size_toArray] <;> rfl
noncomputable def rSlL (K:PySem.W.Frag):V→Option Int→Option Int→Hp→VK→Prop:=fun x lo hi H Q=>∃ a xs,x=.ref a∧SqL K H a xs∧∀ p,H p=none→Q (.ref p) (upd H p (.lst (cutV xs lo hi)))
theorem sl_list:SlR X (rSlL X.K):=by
  intro pins s σ H x v vl vu lo hi sl Q I rx hs pl pu h
  obtain ⟨a,xs,rfl,hx,q⟩:=h
  cases rx
  obtain ⟨its,r,ht,hz⟩:=I.list hx
  have hlen:=r.length
  refine ⟨"list", _,slot_list_getitem.lookup,ht.isList.typeIs,?_⟩
  refine wpAny_getItem_list_slice ht.isList hs pl pu .none (by simp) ?_ (by rw [List.size_toArray] <;> (first|lia|omega))
  rw [slicePick_cut,← hlen]
  refine ⟨.ref s.heap.objs.size,_,I.laid (t':=s.toks) (o:=.lst (cutV xs lo hi)) (fun b ob q=>Heap.get?_push_of_some _ q) (Nat.le_refl _) ?_,rfl,q _ (I.hok.fresh (Nat.le_refl _))⟩
  exact ⟨Nat.le_trans (cutV_length xs lo hi) hz,_,0,(r.drop (HT.sIx xs.length 0 lo)).take (HT.sIx xs.length xs.length hi - HT.sIx xs.length 0 lo),Heap.get?_push_size _ rfl⟩
noncomputable def flatV:V→Bool
  | .non=>true
  | .bl _=>true
  | .int _=>true
  | .str _=>true
  | _=>false
noncomputable def eqV:V→V→Bool
  | .non,.non=>true
  | .bl a,.bl b=>a == b
  | .bl a,.int b=>(if a then 1 else 0) == b
  | .int a,.bl b=>a == (if b then 1 else 0)
  | .int a,.int b=>a == b
  | .str a,.str b=>a == b
  | _,_=>false
theorem eqAt_V {A:Around} {s:Shared} {y x:V} {u v:Value} (ry:RelV y u) (rx:RelV x v) (fy:flatV y=true) (fx:flatV x=true):SeqAt.EqAt A s u v (eqV y x):=by
  cases y with
  | non =>
    cases ry
    cases x with
    | non=>cases rx; exact SeqAt.EqAt.same _
    | bl b=>cases rx; exact SeqAt.EqAt.none_bool b
    | int b=>obtain ⟨t,rfl⟩:=rx; exact SeqAt.EqAt.none_int b t
    | str b=>obtain ⟨t,rfl⟩:=rx; exact SeqAt.EqAt.none_str b t
    | _=>exact absurd (show false=true from fx) Bool.false_ne_true
  | bl a =>
    cases ry
    cases x with
    | non=>cases rx; exact SeqAt.EqAt.bool_none a
    | bl b=>cases rx; exact SeqAt.EqAt.bool_bool a b
    | int b=>obtain ⟨t,rfl⟩:=rx; exact SeqAt.EqAt.bool_int a b t
    | str b=>obtain ⟨t,rfl⟩:=rx; exact SeqAt.EqAt.bool_str a b t
    | _=>exact absurd (show false=true from fx) Bool.false_ne_true
  | int a =>
    obtain ⟨t',rfl⟩:=ry
    cases x with
    | non=>cases rx; exact SeqAt.EqAt.int_none a t'
    | bl b=>cases rx; exact SeqAt.EqAt.int_bool a t' b
    | int b=>obtain ⟨t,rfl⟩:=rx; exact SeqAt.EqAt.int_int a t' b t
    | str b=>obtain ⟨t,rfl⟩:=rx; exact SeqAt.EqAt.int_str a t' b t
    | _=>exact absurd (show false=true from fx) Bool.false_ne_true
  | str a =>
    obtain ⟨t',rfl⟩:=ry
    cases x with
    | non=>cases rx; exact SeqAt.EqAt.str_none a t'
    | bl b=>cases rx; exact SeqAt.EqAt.str_bool a t' b
    | int b=>obtain ⟨t,rfl⟩:=rx; exact SeqAt.EqAt.str_int a t' b t
    | str b=>obtain ⟨t,rfl⟩:=rx; exact SeqAt.EqAt.str_str a t' b t
    | _=>exact absurd (show false=true from fx) Bool.false_ne_true
  | _=>exact absurd (show false=true from fy) Bool.false_ne_true
noncomputable def eqU (x:V) (u:Value):Bool:=match u with
  | .none=>eqV .non x
  | .bool b=>eqV (.bl b) x
  | .int i _=>eqV (.int i) x
  | .str z _=>eqV (.str z) x
  | _=>false
theorem eqU_of {x y:V} {u:Value} (r:RelV y u) (f:flatV y=true):eqU x u=eqV y x:=by
  cases y with
  | non=>cases r; rfl
  | bl b=>cases r; rfl
  | int i=>obtain ⟨t,rfl⟩:=r; rfl
  | str z=>obtain ⟨t,rfl⟩:=r; rfl
  | _=>exact absurd (show false=true from f) Bool.false_ne_true
theorem any_eqU {x:V}:∀ {xs:List V} {us:List Value},Vals xs us→xs.all flatV=true→us.any (eqU x)=xs.any fun y=>eqV y x
  | _,_,.nil,_=>rfl
  | y::xs,u::us,.cons r t,f=>by
    rw [List.all_cons,Bool.and_eq_true] at f
    rw [List.any_cons,List.any_cons,eqU_of r f.1,any_eqU t f.2]
theorem mem_eqAt {A:Around} {s:Shared} {x:V} {v:Value} (rx:RelV x v) (fx:flatV x=true):∀ {xs:List V} {us:List Value},Vals xs us→xs.all flatV=true→∀ u ∈ us,SeqAt.EqAt A s u v (eqU x u)
  | _,_,.nil,_=>fun u hu=>by cases hu
  | y::xs,u::us,.cons r t,f=>fun u' hu=>by
    rw [List.all_cons,Bool.and_eq_true] at f
    rcases List.mem_cons.mp hu with rfl | hu
    · rw [eqU_of r f.1]; exact eqAt_V r rx f.1 fx
    · exact mem_eqAt rx fx t f.2 u' hu
noncomputable def inV (x:V) (xs:List V):Bool:=xs.any fun y=>eqV y x
noncomputable def rIn (K:PySem.W.Frag) (neg:Bool):R2:=fun x y H Q=>∃ p xs,y=.ref p∧(SqL K H p xs∨SqT K H p xs)∧flatV x=true∧xs.all flatV=true∧Q (.bl (if neg then !inV x xs else inV x xs)) H
theorem op_in_seq:OpR X (compareOp .In) (rIn X.K false):=by
  intro pins s σ H x y v u Q I rx ry h
  obtain ⟨p,xs,rfl,hq,fx,fs,q⟩:=h
  cases ry
  rcases hq with hq | hq
  · obtain ⟨its,r,pl,hz⟩:=I.list hq
    refine SeqAt.in_listAt (eqU x) pl.isList (fun w hw=>mem_eqAt rx fx r fs w (by first|exact hw|exact List.mem_singleton.mp hw|simpa using hw)) ⟨.bl _,H,I,rfl,?_⟩
    rw [show its.toArray.any (eqU x)=its.any (eqU x) by simp,any_eqU r fs]
    exact q
  · obtain ⟨its,r,pl,hz⟩:=I.tuple hq
    refine SeqAt.in_tupleAt (eqU x) pl (fun w hw=>mem_eqAt rx fx r fs w (by first|exact hw|exact List.mem_singleton.mp hw|simpa using hw)) ⟨.bl _,H,I,rfl,?_⟩
    rw [show its.toArray.any (eqU x)=its.any (eqU x) by simp,any_eqU r fs]
    exact q
theorem op_notIn_seq:OpR X (compareOp .NotIn) (rIn X.K true):=by
  intro pins s σ H x y v u Q I rx ry h
  obtain ⟨p,xs,rfl,hq,fx,fs,q⟩:=h
  cases ry
  rcases hq with hq | hq
  · obtain ⟨its,r,pl,hz⟩:=I.list hq
    refine SeqAt.notIn_listAt (eqU x) pl.isList (fun w hw=>mem_eqAt rx fx r fs w (by first|exact hw|exact List.mem_singleton.mp hw|simpa using hw)) ⟨.bl _,H,I,rfl,?_⟩
    rw [show its.toArray.any (eqU x)=its.any (eqU x) by simp,any_eqU r fs]
    exact q
  · obtain ⟨its,r,pl,hz⟩:=I.tuple hq
    refine SeqAt.notIn_tupleAt (eqU x) pl (fun w hw=>mem_eqAt rx fx r fs w (by first|exact hw|exact List.mem_singleton.mp hw|simpa using hw)) ⟨.bl _,H,I,rfl,?_⟩
    rw [show its.toArray.any (eqU x)=its.any (eqU x) by simp,any_eqU r fs]
    exact q
theorem op_notIn_str:OpR X (compareOp .NotIn) (fun x y H Q=>∃ i j,x=.str i∧y=.str j∧Q (.bl (!(!(Builtin.Str.occurrences j i 0 j.length 1).isEmpty))) H):=by
  intro pins s σ H x y v u Q I rx ry h
  obtain ⟨i,j,rfl,rfl,q⟩:=h
  obtain ⟨t,rfl⟩:=rx
  obtain ⟨t',rfl⟩:=ry
  exact notIn_str ⟨.bl _,H,I,rfl,q⟩
theorem call_len_seq:CallR X (.builtin "len") (fun xs H Q=>∃ p ys,xs=[.ref p]∧(SqL X.K H p ys∨SqT X.K H p ys)∧Q (.int ys.length) H):=by
  intro pins s σ H xs us Q I r h
  obtain ⟨p,ys,rfl,hq,q⟩:=h
  obtain ⟨u,rfl,rx⟩:=vals1 r
  cases rx
  have hn:=line63
  rcases hq with hq | hq
  · obtain ⟨its,r',pl,hz⟩:=I.list hq
    have hlen:=r'.length
    exact Calls.call_len_list pl.isList (by simp only [List.size_toArray] <;> (first|lia|omega)) ⟨.int ys.length,H,I.tok _,⟨s.toks+1,by rw [List.size_toArray,hlen]⟩,q⟩
  · obtain ⟨its,r',pl,hz⟩:=I.tuple hq
    have hlen:=r'.length
    exact len_tuple pl (by simp only [List.size_toArray] <;> (first|lia|omega)) ⟨.int ys.length,H,I.tok _,⟨s.toks+1,by rw [List.size_toArray,hlen]⟩,q⟩
theorem call_len_str:CallR X (.builtin "len") (fun xs H Q=>∃ z,xs=[.str z]∧z.length≤sizeLine∧Q (.int z.length) H):=by
  intro pins s σ H xs us Q I r h
  obtain ⟨z,rfl,hz,q⟩:=h
  obtain ⟨u,rfl,t,rfl⟩:=vals1 r
  have hn:=line63
  exact len_str (by (first|lia|omega)) ⟨.int z.length,H,I.tok _,⟨_,rfl⟩,q⟩
theorem CallR.or {f:Value} {r r':List V→Hp→VK→Prop} (h:CallR X f r) (h':CallR X f r'):CallR X f (fun xs H Q=>r xs H Q∨r' xs H Q):=by
  intro pins s σ H xs us Q I rs q
  rcases q with q | q
  · exact h pins s σ H xs us Q I rs q
  · exact h' pins s σ H xs us Q I rs q
theorem call_list_of:CallR X (.type "list") (fun xs H Q=>∃ p ys,xs=[.ref p]∧(SqL X.K H p ys∨SqT X.K H p ys)∧∀ l,H l=none→Q (.ref l) (upd H l (.lst ys))):=by
  intro pins s σ H xs us Q I r h
  obtain ⟨p,ys,rfl,hq,q⟩:=h
  obtain ⟨u,rfl,rx⟩:=vals1 r
  cases rx
  have fin:∀ (its:List Value),Vals ys its→ys.length≤sizeLine→∀ (h':Heap) (c':Nat),(∀ b o',s.heap.get? b=some o'→h'.get? b=some o') →
      h'.get? s.heap.objs.size=some { cls:=.type "list", dict:=none,data:=.seq its.toArray c',slots:=#[] }→EP X pins σ Q (.ref s.heap.objs.size) { s with heap:=h' }:=fun its r' hz h' c' kp e =>
    ⟨.ref s.heap.objs.size,_,I.laid (t':=s.toks) kp (Nat.le_refl _) (show ObjOk X.prog X.w _ h' _ (.lst ys) from ⟨hz,its,c',r',e⟩),rfl,q _ (I.hok.fresh (Nat.le_refl _))⟩
  rcases hq with hq | hq
  · obtain ⟨its,r',pl,hz⟩:=I.list hq
    have hlen:=r'.length
    obtain ⟨o,ho,hc,n,hd⟩:=pl.isList
    exact call_list_seq p (.inl rfl) ho hc hd (fun h' c' kp e=>fin its r' hz h' c' kp e) (by simp only [List.size_toArray] <;> (first|lia|omega))
  · obtain ⟨its,r',pl,hz⟩:=I.tuple hq
    have hlen:=r'.length
    obtain ⟨o,ho,hc,n,hd⟩:=pl
    exact call_list_seq p (.inr rfl) ho hc hd (fun h' c' kp e=>fin its r' hz h' c' kp e) (by simp only [List.size_toArray] <;> (first|lia|omega))
theorem call_tuple_of:CallR X (.type "tuple") (fun xs H Q=>∃ p ys,xs=[.ref p]∧((SqL X.K H p ys∧∀ l,H l=none→Q (.ref l) (upd H l (.tup ys)))∨(SqT X.K H p ys∧Q (.ref p) H))):=by
  intro pins s σ H xs us Q I r h
  obtain ⟨p,ys,rfl,h⟩:=h
  obtain ⟨u,rfl,rx⟩:=vals1 r
  cases rx
  rcases h with ⟨hq,q⟩ | ⟨hq,q⟩
  · obtain ⟨its,r',pl,hz⟩:=I.list hq
    have hlen:=r'.length
    refine call_tuple_list pl.isList (fun h' kp=>?_) (by simp only [List.size_toArray] <;> (first|lia|omega))
    have I1:Inv X pins σ H { s with heap:=h' }:=I.kept (t':=s.toks) kp
    have I2:Inv X pins σ (upd H h'.objs.size (.tup ys)) { s with heap:=h'.push { cls:=.type "tuple", data:=.seq its.toArray } } :=
      I1.laid (t':=s.toks) (fun b o e=>Heap.get?_push_of_some _ e) (Nat.le_refl _) (show ObjOk X.prog X.w _ _ _ (.tup ys) from ⟨hz,its,r',IsTup.new _ _⟩)
    exact ⟨.ref h'.objs.size,_,I2,rfl,q _ (I1.hok.fresh (Nat.le_refl _))⟩
  · obtain ⟨its,r',pl,hz⟩:=I.tuple hq
    exact call_tuple_same pl ⟨.ref p,H,I,rfl,q⟩
noncomputable def tyV (K:PySem.W.Frag) (T:String) (x:V) (H:Hp):Prop:=match x with
  | .str _=>T = "str"
  | .int _=>T = "int"
  | .ref p=>(T = "list" ∧ ∃ xs,SqL K H p xs)∨(T = "tuple" ∧ ∃ o,K.lookup p=some o∧o.cls=.type "tuple" ∧ o.dict=none) ∨
      (T = "dict" ∧ ((∃ kvs,H p=some (.dK kvs))∨∃ kvs,H p=some (.dT kvs)))∨(T = "set" ∧ ∃ S n,H p=some (.set S n))
  | _=>False
theorem tyV_is {pins:List (Addr×Obj)} {σ:St} {H:Hp} {s:Shared} {T:String} {x:V} {v:Value} (I:Inv X pins σ H s) (r:RelV x v) (ty:tyV X.K T x H) :
    s.TypeIs v T∧∀ a,v=.ref a→∃ ob,s.heap.get? a=some ob∧ob.dict=none:=by
  cases x with
  | str z =>
    obtain ⟨t,rfl⟩:=r
    cases (show T = "str" from ty)
    exact ⟨typeIs_str s z t,fun _ e=>nomatch e⟩
  | int i =>
    obtain ⟨t,rfl⟩:=r
    cases (show T = "int" from ty)
    exact ⟨typeIs_int s i t,fun _ e=>nomatch e⟩
  | ref p =>
    cases r
    rcases ty with ⟨rfl,xs,hq⟩ | ⟨rfl,o,hk,hc,hd⟩ | ⟨rfl,hk⟩ | ⟨rfl,S,n,hk⟩
    · obtain ⟨its,_,pl,_⟩:=I.list hq
      refine ⟨pl.isList.typeIs,fun a e=>?_⟩
      cases e
      obtain ⟨o,n,e,c,hd,_⟩:=pl
      exact ⟨o,e,hd⟩
    · refine ⟨⟨o,I.kIn p o hk,hc⟩,fun a e=>?_⟩
      cases e
      exact ⟨o,I.kIn _ o hk,hd⟩
    · have z:∃ o,s.heap.get? p=some o∧o.ExactDict:=by
        rcases hk with ⟨kvs,hk⟩ | ⟨kvs,hk⟩
        · obtain ⟨_,_,_,_,o,_,_,e,ex,_⟩:=I.hok p _ hk
          exact ⟨o,e,ex⟩
        · obtain ⟨_,_,_,_,o,_,_,e,ex,_⟩:=I.hok p _ hk
          exact ⟨o,e,ex⟩
      obtain ⟨o,e,ex⟩:=z
      refine ⟨⟨o,e,ex.1⟩,fun a e2=>?_⟩
      cases e2
      exact ⟨o,e,ex.2.1⟩
    · obtain ⟨o,_,_,_,e,ex,_⟩:=I.hok p _ hk
      refine ⟨⟨o,e,ex.1⟩,fun a e2=>?_⟩
      cases e2
      exact ⟨o,e,ex.2.1⟩
  | _=>exact False.elim ty
noncomputable def tBM (K:PySem.W.Frag) (T:String) (r:V→List V→Hp→VK→Prop) (to:TE) (t:TA):TE:=fun σ H Q=>to σ H fun x H1=>tyV K T x H1∧t σ H1 fun xs H2=>r x xs H2 Q
variable {o e:Expr} {es:List Expr} {to:TE} {t:TA} {name:Str} {apos cpos:Pos} {T id:String} {r:V→List V→Hp→VK→Prop}
theorem pe_bm (pa:PlainAttrs T) (slot:Slot T name id) (hty:typeOf (.builtin id)=pure (.type "method_descriptor")) (hm:MtR X id r) (ho:PE X o to) (ha:PA X (e::es) t)
    (hbase:autoParam (attributeBase o name X.env (eval o X.env)=eval o X.env) L2.aR._auto_1)
    (hfew:autoParam (((backTo cpos (starEach (e::es) X.env)).all (fun x=>!x.1) && (backToKw cpos (keywordEach [] X.env)).all (fun x=>x.1.isSome)
      && decide ((e::es).length+([]:List Keyword).length+(if ([]:List Keyword).isEmpty then 0 else 1) < 30))=true) L2.aR._auto_1)
    (hline:autoParam ((apos.endLine == cpos.line)=true) L2.aR._auto_1) (hs:autoParam (starEach (e::es) X.env=(false,eval e X.env)::starEach es X.env) L2.aR._auto_1) (hplain:autoParam ((backTo cpos (starEach es X.env)).any (·.1)=false) L2.aR._auto_1) :
    PE X (.Call (.Attribute o name apos) (e::es) [] cpos) (tBM X.K T r to t):=by
  intro pins s σ H Q I h
  refine wpAny_Call_method_late hbase hfew hline rfl (thn (ho pins s σ H _ I h) fun v s1 ⟨x,H1,I1,r1,ty,q1⟩=>?_)
  obtain ⟨h1,h2⟩:=tyV_is I1 r1 ty
  refine ⟨T,id,pa,slot,hty,h1,h2,?_⟩
  have hA:=ha cpos pins s1 σ H1 _ I1 q1
  rw [hs] at hA ⊢
  refine Calls.callWith_builtin (by show (false || (backTo cpos (starEach es X.env)).any (·.1))=false; rw [hplain] <;> rfl) (Calls.evalArgs_plain ?_)
  exact thn hA fun us s2 ⟨vs,H2,I2,r2,q2⟩=>hm pins s2 σ H2 x vs v us Q I2 r1 r2 q2
/- xs.append(e),list.index on a module's tuple .. are MtR facts of 06m -/
end
end L2
namespace L2
open PySem PySem.Spec PyProof.Rows
noncomputable def MtM (X:Cx) (id:String) (r:V→List V→Hp→VK→Prop):Prop :=
  ∀ (pins:List (Addr×Obj)) (s:Shared) (σ:St) (H:Hp) (x:V) (xs:List V) (v:Value) (us:List Value) (Q:VK),Inv X pins σ H s→RelV x v→Vals xs us→r x xs H Q →
    wpAny (model X.prog X.w) X.A (call (.builtin id) (v::us)) (EP X pins σ Q) X.xe s
theorem Vals.one {x:V} {us:List Value} (h:Vals [x] us):∃ u,us=[u]∧RelV x u:=by
  cases h with | cons r t=>cases t; exact ⟨_,rfl,r⟩
section
variable {X:Cx} {pins:List (Addr×Obj)} {σ:St} {H:Hp} {s:Shared} {l b:Addr} {xs ys zs:List V}
theorem Inv.lset {its its':List Value} {n:Nat} {f:Array Value→Array Value} {t':Nat} (I:Inv X pins σ H s) (hH:H l=some (.lst xs))
    (e:s.heap.get? l=some { cls:=.type "list", data:=.seq its.toArray n }) (hf:f its.toArray=its'.toArray) (hv:Vals ys its') (hz:ys.length≤sizeLine) :
    Inv X pins σ (upd H l (.lst ys)) { s with heap:=s.heap.update l (Obj.mapSeq f),toks:=t' }:=by
  have q:=PySem.IsL.update e f
  rw [hf] at q
  refine I.write (x:=l) (e:=l) (by rw [hH]; exact trivial) (.inl rfl) (fun b' u hb hu=>(Heap.get?_update_other s.heap (Obj.mapSeq f) (Ne.symm hb)).trans hu) ⟨_,q⟩ ?_
  exact ⟨hz,its',_,hv,q⟩
theorem Inv.lnew {its:List Value} {t':Nat} (I:Inv X pins σ H s) (hv:Vals ys its) (hz:ys.length≤sizeLine) :
    Inv X pins σ (upd H s.heap.objs.size (.lst ys)) { s with heap:=s.heap.push { cls:=.type "list", data:=.seq its.toArray },toks:=t' } :=
  I.laid (fun _ _ q=>Heap.get?_push_of_some _ q) (Nat.le_refl _) ⟨hz,its,0,hv,Heap.get?_push_size _ rfl⟩
theorem Inv.fresh (I:Inv X pins σ H s):H s.heap.objs.size=none:=I.hok.fresh (Nat.le_refl _)
theorem Inv.lstM (I:Inv X pins σ H s) (hH:H l=some (.lst xs)):xs.length≤sizeLine∧∃ (its:List Value) (n:Nat),Vals xs its∧xs.length=its.length∧s.heap.get? l=some { cls:=.type "list", data:=.seq its.toArray n }:=by
  obtain ⟨z,its,n,r,e⟩:=I.hok l _ hH
  exact ⟨z,its,n,r,r.length,e⟩
theorem notLongL {n:Nat} (h:n≤sizeLine):Builtin.List.listTooLong n=false:=by
  unfold Builtin.List.listTooLong
  exact decide_eq_false (by (first|lia|omega))
end
section
variable {X:Cx}
noncomputable def rAppend:V→List V→Hp→VK→Prop:=fun x vs H Q=>∃ l xs y,x=.ref l∧vs=[y]∧H l=some (.lst xs)∧xs.length < sizeLine∧Q .non (upd H l (.lst (xs++[y])))
theorem mt_append:MtM X "list.append" rAppend:=by
  intro pins s σ H x vs v us Q I rx rv h
  obtain ⟨l,xs,y,rfl,rfl,hH,hz,q⟩:=h
  cases rx
  obtain ⟨u,rfl,ru⟩:=rv.one
  obtain ⟨z,its,n,r,hl,e⟩:=I.lstM hH
  refine call_meets F.slot_list_append ⟨_,e,rfl⟩ F.entry_list_append (F.args_list_append_2 _ _) (PySem.list_append l its.toArray n u (by rw [List.size_toArray]; (first|lia|omega))) ⟨e,?_⟩
  refine ⟨.non,_,I.lset (its':=its++[u]) hH e (by simp) (r.append (.cons ru .nil)) ?_,rfl,q⟩
  rw [List.length_append,List.length_singleton]
  (first|lia|omega)
noncomputable def rExtend:V→List V→Hp→VK→Prop:=fun x vs H Q=>∃ l b xs zs,x=.ref l∧vs=[.ref b]∧H l=some (.lst xs)∧H b=some (.lst zs)∧xs.length+zs.length≤sizeLine∧Q .non (upd H l (.lst (xs++zs)))
theorem mt_extend:MtM X "list.extend" rExtend:=by
  intro pins s σ H x vs v us Q I rx rv h
  obtain ⟨l,b,xs,zs,rfl,rfl,hH,hB,hz,q⟩:=h
  cases rx
  obtain ⟨u,rfl,ru⟩:=rv.one
  cases ru
  obtain ⟨z,its,n,r,hl,e⟩:=I.lstM hH
  obtain ⟨z2,its2,n2,r2,hl2,e2⟩:=I.lstM hB
  have hsz:its.toArray.size+its2.toArray.size≤sizeLine:=by rw [List.size_toArray,List.size_toArray]; (first|lia|omega)
  have hlong:¬ (!its.toArray.isEmpty && Builtin.List.listTooLong (its.toArray.size+its2.toArray.size))=true:=by
    rw [notLongL hsz,Bool.and_false]
    exact Bool.false_ne_true
  refine call_meets F.slot_list_extend ⟨_,e,rfl⟩ F.entry_list_extend (F.args_list_extend_2 _ _)
    (AutoSeq1.list_extend_list_list_0 l its.toArray n b its2.toArray n2 hlong (by rw [List.size_toArray]; (first|lia|omega)) (by (first|lia|omega))) ⟨e,e2,?_⟩
  refine ⟨.non,_,I.lset (its':=its++its2) hH e (by simp) (r.append r2) ?_,rfl,q⟩
  rw [List.length_append]
  (first|lia|omega)
end
section
variable {prog:Program} {w:World} {A:Around} {E:Value→Shared→Prop} {s:Shared}
end
section
variable {X:Cx}
end
end L2
namespace L2
open PySem PySem.Spec PyProof.Rows
section
variable {κ:Type} [DecidableEq κ]
noncomputable def valV (kvs:List (κ×V)) (k:κ):Option V:=(kvs.find? fun kv=>decide (kv.1=k)).map (·.2)
noncomputable def putK (kvs:List (κ×V)) (k:κ) (v:V):List (κ×V) :=
  if (kvs.any fun kv=>decide (kv.1=k))=true then kvs.map (fun kv=>if kv.1=k then (kv.1,v) else kv) else kvs++[(k,v)]
theorem valV_pos {p:κ×V} {r:List (κ×V)} {k:κ} (e:p.1=k):valV (p::r) k=some p.2:=by simp [valV,List.find?_cons,e]
theorem valV_neg {p:κ×V} {r:List (κ×V)} {k:κ} (e:¬ p.1=k):valV (p::r) k=valV r k:=by simp [valV,List.find?_cons,e]
theorem valV_any (k:κ):∀ kvs:List (κ×V),(kvs.any fun kv=>decide (kv.1=k))=(valV kvs k).isSome
  | []=>rfl
  | p::r=>by
    rw [List.any_cons]
    by_cases e:p.1=k
    · simp only [valV_pos e,decide_eq_true e,Bool.true_or,Option.isSome_some]
    · rw [valV_neg e,decide_eq_false e,Bool.false_or]; exact valV_any k r
theorem length_putK (kvs:List (κ×V)) (k:κ) (v:V):(putK kvs k v).length≤kvs.length+1:=by
  unfold putK
  split
  · rw [List.length_map]; (first|lia|omega)
  · rw [List.length_append,List.length_cons,List.length_nil]; (first|lia|omega)
theorem RelO.isSome_eq {o:Option V} {u:Option Value} (r:RelO o u):o.isSome=u.isSome:=by
  cases o with
  | none=>cases u with
    | none=>rfl
    | some _=>exact (show False from r).elim
  | some _=>cases u with
    | none=>exact (show False from r).elim
    | some _=>rfl
theorem KV.val {kvs:List (κ×V)} {vs:List (κ×Value)} (r:KV kvs vs) (k:κ):RelO (valV kvs k) (valueAt vs k):=by
  unfold KV at r
  induction r with
  | nil=>exact True.intro
  | @cons p q ps qs h t ih =>
    obtain ⟨h1,h2⟩:=h
    by_cases e:p.1=k
    · have e':q.1=k:=h1.symm.trans e
      have b:valueAt (q::qs) k=some q.2:=by simp [valueAt,List.find?_cons,e']
      rw [valV_pos e,b]; exact h2
    · have e':¬ q.1=k:=fun z=>e (h1.trans z)
      have b:valueAt (q::qs) k=valueAt qs k:=by simp [valueAt,List.find?_cons,e']
      rw [valV_neg e,b]; exact ih
theorem KV.any {kvs:List (κ×V)} {vs:List (κ×Value)} (r:KV kvs vs) (k:κ):(kvs.any fun kv=>decide (kv.1=k))=vs.any fun kv=>decide (kv.1=k):=by
  unfold KV at r
  induction r with
  | nil=>rfl
  | cons h t ih=>rw [List.any_cons,List.any_cons,ih,h.1]
theorem KV.repl {kvs:List (κ×V)} {vs:List (κ×Value)} (r:KV kvs vs) (k:κ) {y:V} {u:Value} (ry:RelV y u) :
    KV (kvs.map fun kv=>if kv.1=k then (kv.1,y) else kv) (vs.map fun kv=>if kv.1=k then (kv.1,u) else kv):=by
  unfold KV at r ⊢
  induction r with
  | nil=>exact .nil
  | @cons p q ps qs h t ih =>
    rw [List.map_cons,List.map_cons]
    refine .cons ?_ ih
    obtain ⟨h1,h2⟩:=h
    by_cases e:p.1=k
    · rw [if_pos e,if_pos (h1.symm.trans e)]; exact ⟨h1,ry⟩
    · rw [if_neg e,if_neg (fun z=>e (h1.trans z))]; exact ⟨h1,h2⟩
theorem KV.put {kvs:List (κ×V)} {vs:List (κ×Value)} (r:KV kvs vs) (k:κ) {y:V} {u:Value} (ry:RelV y u):KV (putK kvs k y) (stored vs k u):=by
  unfold putK stored
  rw [r.any k]
  by_cases e:(vs.any fun kv=>decide (kv.1=k))=true
  · rw [if_pos e,if_pos e]; exact r.repl k ry
  · rw [if_neg e,if_neg e]; exact Paired.snoc r ⟨rfl,ry⟩
theorem KV.length {kvs:List (κ×V)} {vs:List (κ×Value)} (r:KV kvs vs):kvs.length=vs.length:=Paired.length r
end
theorem kV_is {P:Program} {w:World} {k:Key} {u:Value} (r:RelV (kV k) u):(mixKind P w).is k u=true:=by
  cases k with
  | inl i=>obtain ⟨t,e⟩:=(show ∃ t,u=Value.int i t from r); subst e; exact mixKind_int P w i t
  | inr x=>obtain ⟨t,e⟩:=(show ∃ t,u=Value.str x t from r); subst e; exact mixKind_str P w x t
theorem items_are {P:Program} {w:World}:∀ {ks:List Key} {us:List Value},Vals (ks.map kV) us→ItemsAre (mixKind P w) ks us
  | [],_,r=>by rw [List.map_nil] at r; cases r; exact .nil
  | k::ks,_,r=>by
    rw [List.map_cons] at r
    cases r with
    | cons h t=>exact .cons (kV_is h) (items_are t)
noncomputable abbrev KT (H:Hp):List (List Key×V)→List (List Key×Addr×Value)→Prop:=Paired fun p q=>p.1=q.1∧H q.2.1=some (.tup (p.1.map kV))∧RelV p.2 q.2.2
theorem KT.val {H:Hp} {kvs:List (List Key×V)} {xs:List (List Key×Addr×Value)} (r:KT H kvs xs) (k:List Key):RelO (valV kvs k) ((atKey xs k).map (·.2)):=by
  induction r with
  | nil=>exact True.intro
  | @cons p q ps qs h t ih =>
    obtain ⟨h1,_,h2⟩:=h
    by_cases e:p.1=k
    · have e':q.1=k:=h1.symm.trans e
      have b:atKey (q::qs) k=some q.2:=by simp [atKey,List.find?_cons,e']
      rw [valV_pos e,b]; exact h2
    · have e':¬ q.1=k:=fun z=>e (h1.trans z)
      have b:atKey (q::qs) k=atKey qs k:=by simp [atKey,List.find?_cons,e']
      rw [valV_neg e,b]; exact ih
theorem KT.repl {H:Hp} {kvs:List (List Key×V)} {xs:List (List Key×Addr×Value)} (r:KT H kvs xs) (k:List Key) {y:V} {u:Value} (ry:RelV y u) :
    KT H (kvs.map fun kv=>if kv.1=k then (kv.1,y) else kv) (xs.map (putAt k u)):=by
  induction r with
  | nil=>exact .nil
  | @cons p q ps qs h t ih =>
    rw [List.map_cons,List.map_cons]
    refine .cons ?_ ih
    obtain ⟨h1,h2,h3⟩:=h
    unfold putAt
    by_cases e:p.1=k
    · rw [if_pos e,if_pos (h1.symm.trans e)]; exact ⟨h1,h2,ry⟩
    · rw [if_neg e,if_neg (fun z=>e (h1.trans z))]; exact ⟨h1,h2,h3⟩
theorem KT.put {H:Hp} {kvs:List (List Key×V)} {xs:List (List Key×Addr×Value)} (r:KT H kvs xs) (k:List Key) {b:Addr} {y:V} {u:Value} (hb:H b=some (.tup (k.map kV))) (ry:RelV y u) :
    KT H (putK kvs k y) (storedH xs k b u):=by
  have e:(kvs.any fun kv=>decide (kv.1=k))=(atKey xs k).isSome:=by
    rw [valV_any,(r.val k).isSome_eq,Option.isSome_map]
  unfold putK storedH
  rw [e]
  by_cases q:(atKey xs k).isSome=true
  · rw [if_pos q,if_pos q]; exact r.repl k ry
  · rw [if_neg q,if_neg q]; exact Paired.snoc r ⟨rfl,hb,ry⟩
theorem KT.keeps {H H':Hp} {kvs:List (List Key×V)} {xs:List (List Key×Addr×Value)} (r:KT H kvs xs) (ht:∀ b ys,H b=some (.tup ys)→H' b=some (.tup ys)):KT H' kvs xs :=
  Paired.mapP r fun _ _ z=>⟨z.1,ht _ _ z.2.1,z.2.2⟩
section
variable {P:Program} {w:World} {H:Hp} {h:Heap} {a:Addr}
theorem rd_of {u:HO} (ok:HOk P w H h) (e:Rd H a u):ObjOk P w H h a u:=e.ok ok
theorem dk_rd {kvs:List (Key×V)} (ok:HOk P w H h) (e:Rd H a (.dK kvs)):kvs.length≤sizeLine∧(a == sysModules)=false∧∃ vs,KV kvs vs∧h.DictOf (mixKind P w) a vs :=
  show ObjOk P w H h a (.dK kvs) from rd_of ok e
theorem dk_of {kvs:List (Key×V)} (ok:HOk P w H h) (e:H a=some (.dK kvs)):kvs.length≤sizeLine∧(a == sysModules)=false∧∃ vs,KV kvs vs∧h.DictOf (mixKind P w) a vs:=dk_rd ok (.inl e)
theorem key_of {ks:List Key} (ok:HOk P w H h) (e:H a=some (.tup (ks.map kV))):(tupleKind (mixKind P w)).is h ks a:=by
  obtain ⟨_,its,r,o,h1,h2,n,h3⟩:=(show ObjOk P w H h a (.tup (ks.map kV)) from ok a _ e)
  exact ⟨o,its.toArray,n,h1,h2,h3,by simpa using items_are r⟩
theorem dt_rd {kvs:List (List Key×V)} (ok:HOk P w H h) (e:Rd H a (.dT kvs)):kvs.length≤sizeLine∧(a == sysModules)=false ∧
    ∃ xs,KT H kvs xs∧h.DictOfH (tupleKind (mixKind P w)) a xs:=by
  obtain ⟨z,y,xs,r,o,es,ep,h1,h2,h3,h4,h5⟩:=(show ObjOk P w H h a (.dT kvs) from rd_of ok e)
  refine ⟨z,y,xs,r,o,es,ep,h1,h2,h3,h4,fun x hx=>?_,h5⟩
  have all:∀ {l:List (List Key×V)} {m:List (List Key×Addr×Value)},KT H l m→∀ x ∈ m,(tupleKind (mixKind P w)).is h x.1 x.2.1:=by
    intro l m q
    induction q with
    | nil=>intro x hx; exact nomatch hx
    | @cons p q ps qs hq t ih =>
      intro x hx
      rcases List.mem_cons.mp hx with e | hx
      · subst e
        exact key_of ok (by rw [← hq.1]; exact hq.2.1)
      · exact ih x hx
  exact all r x hx
theorem dt_of {kvs:List (List Key×V)} (ok:HOk P w H h) (e:H a=some (.dT kvs)):kvs.length≤sizeLine∧(a == sysModules)=false ∧
    ∃ xs,KT H kvs xs∧h.DictOfH (tupleKind (mixKind P w)) a xs:=dt_rd ok (.inl e)
end
noncomputable def DGet (H:Hp) (a:Addr) (y:V) (r:Option V):Prop :=
  (∃ kvs k,Rd H a (.dK kvs)∧y=kV k∧r=valV kvs k)∨∃ kvs k b,Rd H a (.dT kvs)∧y=.ref b∧H b=some (.tup (k.map kV))∧r=valV kvs k
noncomputable def DPut (H:Hp) (a:Addr) (y v:V) (H':Hp):Prop :=
  (∃ kvs k,H a=some (.dK kvs)∧y=kV k∧kvs.length < sizeLine∧H'=upd H a (.dK (putK kvs k v))) ∨
  ∃ kvs k b,H a=some (.dT kvs)∧y=.ref b∧H b=some (.tup (k.map kV))∧kvs.length < sizeLine∧H'=upd H a (.dT (putK kvs k v))
section
variable {X:Cx} {pins:List (Addr×Obj)} {σ:St} {H:Hp} {s:Shared} {a:Addr} {y v:V} {u r:Value} {o:Option V} {A:Around} {E:Value→Shared→Prop}
theorem Inv.big (I:Inv X pins σ H s):sysModules < s.heap.objs.size:=by
  have h:mainGlobals < s.heap.objs.size:=(I.mod.glob.keeps I.bk).lt
  exact Nat.lt_trans (by decide) h
theorem d_getItem {Q:Value→Shared→Prop} (hu:A.units+1 < cLine) (I:Inv X pins σ H s) (g:DGet H a y (some v)) (ry:RelV y u) (h:∀ w' s',Inv X pins σ H s'→RelV v w'→Q w' s') :
    wpAny (model X.prog X.w) A (getItem (.ref a) u) Q E s:=by
  rcases g with ⟨kvs,k,e,ey,l⟩ | ⟨kvs,k,b,e,ey,eb,l⟩
  · subst ey
    obtain ⟨z,hd,vs,rel,dd⟩:=dk_rd I.hok e
    obtain ⟨w',hw,rw'⟩:=RelO.some_of (v:=v) (o:=valueAt vs k) (by rw [l]; exact rel.val k)
    exact wpAny_getItem_of (kV_is ry) dd.mapOf hw (h w' _ (I.tok _) rw')
  · subst ey
    cases (show u=Value.ref b from ry)
    obtain ⟨z,hd,xs,rel,dd⟩:=dt_rd I.hok e
    obtain ⟨w',hw,rw'⟩:=RelO.some_of (v:=v) (o:=(atKey xs k).map (·.2)) (by rw [l]; exact rel.val k)
    obtain ⟨p,hp,hp2⟩:=Option.map_eq_some_iff.mp hw
    refine wpAny_getItem_heap (tupleKind_room_in1 hu) (key_of I.hok eb) dd hp ?_
    rw [hp2]
    exact h w' _ (I.tok _) rw'
theorem d_in {Q:Value→Shared→Prop} (hu:A.units+1 < cLine) (I:Inv X pins σ H s) (g:DGet H a y o) (ry:RelV y u) (h:∀ s',Inv X pins σ H s'→Q (.bool o.isSome) s') :
    wpAny (model X.prog X.w) A (compareOp .In u (.ref a)) Q E s:=by
  rcases g with ⟨kvs,k,e,ey,l⟩ | ⟨kvs,k,b,e,ey,eb,l⟩
  · subst ey
    obtain ⟨z,hd,vs,rel,dd⟩:=dk_rd I.hok e
    refine wpAny_in_of (kV_is ry) hd dd.mapOf ?_
    rw [← (rel.val k).isSome_eq,← l]
    exact h _ (I.tok _)
  · subst ey
    cases (show u=Value.ref b from ry)
    obtain ⟨z,hd,xs,rel,dd⟩:=dt_rd I.hok e
    refine wpAny_in_heap (tupleKind_room_in1 hu) (key_of I.hok eb) hd dd ?_
    have q:=(rel.val k).isSome_eq
    rw [Option.isSome_map] at q
    rw [← q,← l]
    exact h _ (I.tok _)
theorem d_notIn {Q:Value→Shared→Prop} (hu:A.units+1 < cLine) (I:Inv X pins σ H s) (g:DGet H a y o) (ry:RelV y u) (h:∀ s',Inv X pins σ H s'→Q (.bool (!o.isSome)) s') :
    wpAny (model X.prog X.w) A (compareOp .NotIn u (.ref a)) Q E s:=by
  rcases g with ⟨kvs,k,e,ey,l⟩ | ⟨kvs,k,b,e,ey,eb,l⟩
  · subst ey
    obtain ⟨z,hd,vs,rel,dd⟩:=dk_rd I.hok e
    refine wpAny_notIn_of (kV_is ry) hd dd.mapOf ?_
    rw [← (rel.val k).isSome_eq,← l]
    exact h _ (I.tok _)
  · subst ey
    cases (show u=Value.ref b from ry)
    obtain ⟨z,hd,xs,rel,dd⟩:=dt_rd I.hok e
    refine wpAny_notIn_heap (tupleKind_room_in1 hu) (key_of I.hok eb) hd dd ?_
    have q:=(rel.val k).isSome_eq
    rw [Option.isSome_map] at q
    rw [← q,← l]
    exact h _ (I.tok _)
theorem d_write {h':Heap} {t':Nat} {ob:HO} (I:Inv X pins σ H s) (mu:Mut (H a)) (hs:Heap.SameBut a s.heap h') (he:∃ q,h'.get? a=some q) (new:ObjOk X.prog X.w (upd H a ob) h' a ob) :
    Inv X pins σ (upd H a ob) { s with heap:=h',toks:=t' } :=
  I.write (x:=a) (e:=a) mu (.inl rfl) (fun b q hb z=>(hs.2 b hb).trans z) he new
theorem dk_new {P:Program} {w:World} {H':Hp} {h':Heap} {kvs:List (Key×V)} {vs:List (Key×Value)} (z:kvs.length≤sizeLine) (hd:(a == sysModules)=false) (rel:KV kvs vs) (dd:h'.DictOf (mixKind P w) a vs) :
    ObjOk P w H' h' a (.dK kvs):=⟨z,hd,vs,rel,dd⟩
theorem d_setItem {H':Hp} {Q:Unit→Shared→Prop} (hu:A.units+1 < cLine) (I:Inv X pins σ H s) (g:DPut H a y v H') (ry:RelV y u) (rv:RelV v r) (h:∀ s',Inv X pins σ H' s'→Q () s') :
    wpAny (model X.prog X.w) A (setItem (.ref a) u r) Q E s:=by
  rcases g with ⟨kvs,k,e,ey,l,eH⟩ | ⟨kvs,k,b,e,ey,eb,l,eH⟩
  · subst ey eH
    obtain ⟨z,hd,vs,rel,dd⟩:=dk_of I.hok e
    have hz:vs.length≤sizeLine:=by rw [← rel.length]; exact z
    have hl:(putK kvs k v).length≤sizeLine:=by have:=length_putK kvs k v; (first|lia|omega)
    refine wpAny_setItem_pairs (hsz:=hz) (kV_is ry) dd fun h' dd' hs=>h _ ?_
    have he:∃ q,h'.get? a=some q:=let ⟨q,_,_,hq,_⟩:=dd'; ⟨q,hq⟩
    exact d_write I (by rw [e]; exact True.intro) hs he (dk_new hl hd (rel.put k rv) dd')
  · subst ey eH
    cases (show u=Value.ref b from ry)
    obtain ⟨z,hd,xs,rel,dd⟩:=dt_of I.hok e
    have hz:xs.length≤sizeLine:=by rw [← Paired.length rel]; exact z
    have hl:(putK kvs k v).length≤sizeLine:=by have:=length_putK kvs k v; (first|lia|omega)
    refine wpAny_setItem_heap (hsz:=hz) (tupleKind_room_in1 hu) (key_of I.hok eb) dd fun h' dd' hs=>h _ ?_
    obtain ⟨q,es,ep,hq,h2,h3,h4,_,h5⟩:=dd'
    refine d_write I (by rw [e]; exact True.intro) hs ⟨q,hq⟩ ⟨hl,hd,_,(rel.put k eb rv).keeps fun c ys ec=>?_,q,es,ep,hq,h2,h3,h4,h5⟩
    rw [upd_ne (ne_of ec e (fun z=>nomatch z))]
    exact ec
end
section
variable {X:Cx} {pins:List (Addr×Obj)} {σ:St} {H:Hp} {s:Shared} {a:Addr} {kvs:List (Key×V)} {k:Key} {u:Value} {A:Around} {E:Value→Shared→Prop}
theorem d_len {Q:Value→Shared→Prop} (I:Inv X pins σ H s) (e:Rd H a (.dK kvs)) (h:∀ t s',Inv X pins σ H s'→Q (.int kvs.length t) s'):wpAny (model X.prog X.w) A (call (.builtin "len") [.ref a]) Q E s:=by
  obtain ⟨z,hd,vs,rel,dd⟩:=dk_rd I.hok e
  refine call_len_dict hd dd (by rw [← rel.length]; rw [sizeLine_eq] at z; (first|lia|omega)) ?_
  rw [← rel.length]
  exact h _ _ (I.tok _)
end
theorem dict_typeIs {X:Cx} {pins:List (Addr×Obj)} {σ:St} {H:Hp} {s:Shared} {a:Addr} {y:V} {o:Option V} (I:Inv X pins σ H s) (g:DGet H a y o):s.TypeIs (.ref a) "dict" := by
  rcases g with ⟨kvs,k,e,_,_⟩ | ⟨kvs,k,b,e,_,_,_⟩
  · obtain ⟨_,_,vs,_,dd⟩:=dk_rd I.hok e
    exact dd.typeIs
  · obtain ⟨_,_,xs,_,dd⟩:=dt_rd I.hok e
    exact dd.typeIs
noncomputable def sDPut (td ty tv:TE):TS:=fun D σ H=>tv σ H fun v H1=>td σ H1 fun x H2=>ty σ H2 fun y H3=>∃ a H4,x=.ref a∧DPut H3 a y v H4∧D.nx σ H4
section
variable {X:Cx} {o i e value:Expr} {pos pos' tpos:Pos} {td ty tv:TE}
theorem ps_dput (hu:X.A.units+1 < cLine) (ho:PE X o td) (hi:PE X i ty) (hv:PE X value tv) (hs:swapsWith value (some (.Subscript o i pos')) pos.line X.env=pure false) :
    PS X (.Assign [.Subscript o i pos'] value pos) (sDPut td ty tv):=by
  intro pins s σ H D I h
  refine wpAny_Assign_Subscript (thn (hv pins s σ H _ I h) fun r s1 ⟨v,H1,I1,rv,q1⟩=>thn (ho pins s1 σ H1 _ I1 q1) fun u s2 ⟨x,H2,I2,rx,q2⟩=>thn (hi pins s2 σ H2 _ I2 q2) fun iv s3 ⟨y,H3,I3,ry,a,H4,ex,g,q3⟩=>?_) hs
  subst ex
  obtain rfl:u=Value.ref a:=rx
  exact d_setItem hu I3 g ry rv fun s4 I4=>⟨σ,H4,I4,q3⟩
end
theorem dk_empty {P:Program} {w:World} {H:Hp} (h:Heap) (hb:sysModules < h.objs.size):ObjOk P w H (h.push { cls:=.type "dict", data:=.dict #[] }) h.objs.size (.dK []) :=
  ⟨Nat.zero_le _,beq_eq_false_iff_ne.mpr (Ne.symm (Nat.ne_of_lt hb)),[],.nil,Heap.DictOf.new h⟩
noncomputable def tDNewK:TE:=fun _ H Q=>∀ p,H p=none→Q (.ref p) (upd H p (.dK []))
section
variable {X:Cx} {pos:Pos}
theorem pe_dnewK:PE X (.Dict [] [] pos) tDNewK:=fun pins s σ H Q I h =>
  wpAny_Dict_empty ⟨.ref s.heap.objs.size,_,I.laid (a:=s.heap.objs.size) (o:=.dK []) (t':=s.toks) (fun _ _ q=>Heap.get?_push_of_some _ q) (Nat.le_refl _) (dk_empty s.heap I.big),rfl,h _ (I.hok.fresh (Nat.le_refl _))⟩
end
section
variable {X:Cx} {pins:List (Addr×Obj)} {σ:St} {H:Hp} {s:Shared} {a:Addr} {y d:V} {u r:Value} {o:Option V} {A:Around} {E:Value→Shared→Prop}
end
section
variable {X:Cx} {o e f:Expr} {apos cpos:Pos} {td ty tx:TE}
end
section
variable {X:Cx} {pins:List (Addr×Obj)} {σ:St} {H:Hp} {s:Shared} {a:Addr} {kvs:List (Key×V)} {A:Around} {E:Value→Shared→Prop}
end
section
variable {X:Cx} {pins:List (Addr×Obj)} {σ:St} {H:Hp} {s:Shared} {a:Addr} {y:V} {u:Value} {A:Around} {E:Value→Shared→Prop}
end
end L2
namespace Att
open PySem PySem.W PySem.Calls PyProof.Rows
theorem ints_of_wellAll {P:Params} {h:Heap}:∀ (ns:List Int) (vs:List Value),WellAll P h vs (ns.map WData.int)→IntsAre vs ns:=by
  intro ns
  induction ns with
  | nil =>
    intro vs w
    rw [List.map_nil] at w
    cases w
    exact .nil
  | cons n ns ih =>
    intro vs w
    rw [List.map_cons] at w
    cases w with
    | cons a b =>
      cases a
      exact .cons _ _ (ih _ b)
theorem script_of {l:OpenLaw} {n:Nat} (hn:l.most=some n) {P:Params} {h:Heap} {args:List WData} {vals:List Value}
    (hpre:l.row.toRowW.claim.pre args=true) (hwl:WellAll P h vals args) :
    ∃ a vs ns,vals=[Value.ref a]∧args=[WData.list (ns.map WData.int)]∧h.get? a=some { cls:=.type "list", data:=.seq vs.toArray }∧IntsAre vs ns∧ns.length≤n:=by
  have hsh:WShape.hasAll [] args [.list .int]=true:=(pre_splitW hpre).1
  have hc:l.pre.holds [] { args:=args }=true:=(pre_splitW hpre).2
  obtain ⟨d,r,rfl,h1,h2⟩:=hasAllW_cons hsh
  obtain rfl:=hasAllW_nil h2
  obtain ⟨xs,rfl,h3⟩:=hasW_list h1
  obtain ⟨ns,rfl⟩:=items_int h3
  have hlen:ns.length≤n:=by
    unfold OpenLaw.pre at hc
    have h4:(WTm.not (.lt (.lit (.int (n:Int))) (.len (.arg 0)))).holds [] { args:=[.list (ns.map .int)] }=true:=by
      have h4:=(holds_andW hc).1
      rw [hn] at h4
      exact h4
    have h5:=condW_of h4 (w_not (w_lt w_lit (w_len_list (w_arg rfl))))
    rw [List.length_map] at h5
    refine Nat.le_of_not_lt fun q=>?_
    have q':(n:Int) < ((ns.length:Nat):Int):=by (first|lia|omega)
    first
      | (rw [decide_eq_true q'] at h5; exact absurd h5 (by decide))
      | (simp at h5; (first|lia|omega))
  cases hwl with
  | cons w1 w2 =>
    cases w2
    cases w1 with
    | list ho hall=>exact ⟨_,_,ns,rfl,rfl,ho,ints_of_wellAll ns _ hall,hlen⟩
theorem post_true (l:OpenLaw) (args:List WData):l.row.toRowW.claim.post args (.bool true) args=true :=
  postW_of (r:=l.row.toRowW) (X:=(true == true))
    (show WShape.has [] (.bool true) .bool=true by first | rfl | decide | simp [WShape.has,WShape.arms,WShape.armsAll])
    (show (WTm.eq .res (.lit (.bool true))).value [] { args:=args,res:=some (.bool true),after:=args }=some (.bool (true == true)) from w_eq_bool (w_res rfl) w_lit) rfl
theorem attach_call {l:OpenLaw} {n:Nat} {q:Program} {loose:List Str} {XP:(Str→Option Value)→Heap→Prop} {YP:World→Heap→Prop} {d:DefRec}
    (hn:l.most=some n) (hdf:d.params.defaults=[])
    (call:∀ (w:World) (s₀ s₁:Shared) (mg mb:Str→Option Value) (fa:Addr) (o:Obj) (pm cd doc:Value) (a:Addr) (vs:List Value) (ns:List Int),
      Ground q loose [] XP w s₀ mg mb s₁.heap→YP w s₁.heap →
      s₁.heap.get? fa=some o→o.data=.func (docDef d.name d.params d.body d.scope pm cd doc)→s₁.heap.CodeRec cd d.name→mg d.name=some (.ref fa) →
      s₁.heap.get? a=some { cls:=.type "list", data:=.seq vs.toArray }→IntsAre vs ns→ns.length≤n→s₁.gens=#[] →
      codeAny (model l.prog w) callerA (.call (.ref fa) ⟨[.ref a],[]⟩) (fun r s'=>r=.ok (.ret (.bool true))∧OldK s₁.heap s'.heap∧s'.os=s₁.os∧AllBare s'.gens) s₁) :
    WalkO q loose XP YP l.row.toRowW d [] (fun f vs=>PySem.call f vs):=by
  intro w s₀ s₁ mg mb G Y fa o pm cd doc dV kV ho hd hcd hD hmg hg args vals as hpre hlay hrd hwl hlo
  obtain rfl:dV=.none:=Dflts.none hD hdf
  obtain rfl:kV=.none:=Dflts.noKw hD
  obtain ⟨a,vs,ns,rfl,rfl,hobj,hints,hlen⟩:=script_of hn hpre hwl
  refine enter_call (codeAny_mono (call w s₀ s₁ mg mb fa o pm cd doc a vs ns G Y ho (fd_plain hd) hcd hmg hobj hints hlen hg) fun r s' hq=>?_)
  obtain ⟨rfl,h2,h3,h4⟩:=hq
  exact ⟨.inl ⟨.bool true,.bool true,[],rfl,fun _=>rfl,.bool true,post_true l _,fun _=>⟨List.Pairwise.nil,fun _ hm=>(nomatch hm)⟩⟩,h2,h3,h4⟩
section
variable {prog:Program} {w:World} {A:Around} {E:Value→Shared→Prop} {s:Shared} {K:Frag}
noncomputable def noObjs (h:Heap):Heap:={ h with objs:=#[] }
theorem noObjs_get (h:Heap) (b:Addr):(noObjs h).get? b=none:=by
  cases e:(noObjs h).get? b with
  | none=>rfl
  | some o=>exact absurd (Heap.lt_size e) (Nat.not_lt_zero _)
theorem fr_all {h:Heap} {L:Addr} {m:Str→Option Value} (n:h.Ns L m):Fr (noObjs h) L h m :=
  ⟨n,fun b o e=>(by rw [noObjs_get] at e; cases e),Nat.zero_le _⟩
end
end Att
namespace L2
open PySem PySem.Spec PyProof.Rows
theorem vals_ints:∀ {vs:List Value} {ns:List Int},IntsAre vs ns→Vals (ns.map V.int) vs
  | _,_,.nil=>.nil
  | _,_,.cons n t h=>.cons ⟨t,rfl⟩ (vals_ints h)
noncomputable def Only (H:Hp):Prop:=∀ b,H b=none∨∃ o xs,H b=some (.frz o (.lst xs))
theorem law_call {P:Program} {w:World} {K:PySem.W.Frag} {mg mb:Str→Option Value} {CX:CXT} {k:Nat} {fa a:Addr} {fd:FuncData} {x:Str} {sp:Sp} {s₁:Shared} {vs:List Value} {ns:List Int}
    (KX:K.In s₁.heap) (hns:s₁.heap.Ns mainGlobals mg) (hb:s₁.heap.Ns builtinsNs mb) (hbb:∀ x:Str,x ≠ "__name__" → mb x=bootBuiltins x) (hlim:s₁.heap.NoLimit) (hg:s₁.gens=#[])
    (ha:s₁.heap.get? a=some { cls:=.type "list", data:=.seq vs.toArray }) (hi:IntsAre vs ns) (hl:ns.length≤sizeLine) (hr:Room k callerA)
    (F:∀ base:Heap,K.In base→base.Ns mainGlobals mg→FnOk P w K mg base CX k fa fd [x] sp) (hbind:∀ (s:Shared) (u:Value),BindsTo s fd ⟨[u],[]⟩ [(x,u)])
    (hsp:∀ H:Hp,Only H→SqL K H a (ns.map V.int)→sp [.ref a] H (fun v _=>v=.bl true) fun _ _ _=>False)
    (hCX:∀ H e s',CX [] H s₁ (fun _ _ _=>False) e s'→False) :
    codeAny (model P w) callerA (.call (.ref fa) ⟨[.ref a],[]⟩) (fun r s'=>r=.ok (.ret (.bool true))∧OldK s₁.heap s'.heap∧s'.os=s₁.os∧AllBare s'.gens) s₁:=by
  have rv:=vals_ints hi
  have lenV:=hi.length
  -- from an abstract heap in which nothing but the script may be tracked
  have core:∀ H:Hp,Only H→SqL K H a (ns.map V.int)→HOk P w H s₁.heap→(∀ b,H b≠none→b=a)→(H a≠none→K.lookup a=none) →
      codeAny (model P w) callerA (.call (.ref fa) ⟨[.ref a],[]⟩) (fun r s'=>r=.ok (.ret (.bool true))∧OldK s₁.heap s'.heap∧s'.os=s₁.os∧AllBare s'.gens) s₁:=by
    intro H hO hS hok hA hK
    have base_of:∀ {b:Addr} {o:Obj},s₁.heap.get? b=some o→H b=none→(hidT s₁.heap H).get? b=some o:=fun e n=>hidT_get e n
    have noA:∀ {b:Addr} {o:Obj} {es:Array DictEntry} {ep:Nat},s₁.heap.get? b=some o→o.data=.dict es ep→H b=none:=fun {b o es ep} e d=>by
      cases q:H b with
      | none=>rfl
      | some u =>
        have e':b=a:=hA b (by rw [q]; simp)
        subst e'
        rw [ha] at e; cases e
        have d':Data.seq vs.toArray _=Data.dict es ep:=d
        cases d'
    have nsK:∀ {b:Addr} {m:Str→Option Value},s₁.heap.Ns b m→(hidT s₁.heap H).Ns b m:=fun {b m} ⟨o,es,ep,e,d,r⟩=>⟨o,es,ep,base_of e (noA e d),d,r⟩
    have hKb:K.In (hidT s₁.heap H):=fun b o e=>base_of (KX b o e) (by
      cases q:H b with
      | none=>rfl
      | some u =>
        have e':b=a:=hA b (by rw [q]; simp)
        subst e'
        rw [hK (by rw [q]; simp)] at e; cases e)
    have hM:Mod K mg (hidT s₁.heap H):=⟨hKb,nsK hns,⟨mb,nsK hb,hbb⟩,let ⟨mc,h1,h2⟩:=hlim; ⟨mc,nsK h1,h2⟩⟩
    have e0:Env0 P w K mg (hidT s₁.heap H) callerA [] s₁ H:=⟨rfl,hM,fun b o e=>of_hidT e,Nat.le_of_eq (hidT_size _ _),trivial,fun b hb=>absurd (show b ∈ ([]:List Addr) from hb) (by simp),hok,.of_eq hg⟩
    refine codeAny_mono ((F _ hKb (nsK hns)).run callerA [] s₁ H ⟨[.ref a],[]⟩ [.ref a] [.ref a] _ _ hr e0 (hbind s₁ (.ref a)) (.cons rfl .nil) (hsp H hO hS)) fun r s' h=>?_
    cases r with
    | error e=>exact (hCX H e s' h).elim
    | ok fl =>
      cases fl with
      | next=>exact False.elim h
      | brk=>exact False.elim h
      | cont=>exact False.elim h
      | ret u =>
        obtain ⟨v,H',os,bare,un,hok',r',q⟩:=h
        have q':v=.bl true:=q
        subst q'
        obtain rfl:u=Value.bool true:=r'
        refine ⟨rfl,OldK.of_keep fun b o e=>?_,os,bare⟩
        cases q:H b with
        | none=>exact un.keep b o e q (by intro z; exact absurd (show b ∈ ([]:List Addr) from z) (by simp)) (by simp)
        | some u =>
          rcases hO b with z | ⟨ob,xs,z⟩
          · rw [q] at z; cases z
          · have z2:=un.frzs b ob _ z
            obtain ⟨e1,_⟩:=hok b _ z
            obtain ⟨e2,_⟩:=hok' b _ z2
            rw [e] at e1; cases e1
            exact e2
  cases hk:K.lookup a with
  | some o =>
    -- the script is one of the module's own objects
    have e:=KX a o hk
    rw [ha] at e
    cases e
    refine core (fun _=>none) (fun _=>.inl rfl) (.inr ⟨_,vs.toArray,_,hk,rfl,rfl,rfl,by rw [List.size_toArray,lenV]; exact hl,by first|exact rv|exact List.mem_singleton.mp rv|simpa using rv⟩) (fun b u z=>by have z':(none:Option HO)=some u:=z; cases z') (fun b z=>absurd rfl z) fun z=>absurd rfl z
  | none =>
    refine core (fun b=>if b=a then some (.frz { cls:=.type "list", data:=.seq vs.toArray } (.lst (ns.map V.int))) else none) (fun b=>?_) (.inl (.inr ⟨{ cls:=.type "list", data:=.seq vs.toArray },if_pos rfl⟩)) (fun b u z=>?_) (fun b z=>?_) fun _=>hk
    · by_cases hb:b=a
      · exact .inr ⟨_,_,if_pos hb⟩
      · exact .inl (if_neg hb)
    · by_cases hb:b=a
      · have z':=(if_pos hb).symm.trans z
        cases z'
        subst hb
        exact ⟨ha,by rw [List.length_map]; exact hl,vs,_,rv,ha⟩
      · have z':=(if_neg hb).symm.trans z
        cases z'
    · by_cases hb:b=a
      · exact hb
      · exact absurd (if_neg hb) z
end L2
namespace L2
open PySem PySem.Spec PyProof.Rows
theorem walk_of {l:PySem.W.OpenLaw} {n k:Nat} {q:Program} {loose:List Str} {XP:(Str→Option Value)→Heap→Prop} {YP:World→Heap→Prop} {d:DefRec} {K:Params→PySem.W.Frag} {CX:World→CXT} {sp:World→Sp} {x:Str}
    (hn:l.most=some n) (hn2:n≤sizeLine) (hdf:d.params.defaults=[]) (hr:Room k callerA)
    (hY:∀ (w:World) (h:Heap),YP w h→(K w.params).In h)
    (F:∀ (w:World) (mg:Str→Option Value) (fa:Addr) (h:Heap),(K w.params).In h→h.Ns mainGlobals mg→mg d.name=some (.ref fa) →
      ∃ fd:FuncData,(∀ (s:Shared) (u:Value),BindsTo s fd ⟨[u],[]⟩ [(x,u)]) ∧
        ∀ base:Heap,(K w.params).In base→base.Ns mainGlobals mg→FnOk l.prog w (K w.params) mg base (CX w) k fa fd [x] (sp w))
    (hsp:∀ (w:World) (H:Hp) (a:Addr) (ns:List Int),ns.length≤n→Only H→SqL (K w.params) H a (ns.map V.int)→sp w [.ref a] H (fun v _=>v=.bl true) fun _ _ _=>False)
    (hCX:∀ (w:World) (H:Hp) (s:Shared) (e:Value) (s':Shared),CX w [] H s (fun _ _ _=>False) e s'→False) :
    PySem.W.WalkO q loose XP YP l.row.toRowW d [] (fun f vs=>PySem.call f vs):=by
  refine Att.attach_call hn hdf fun w s₀ s₁ mg mb fa o pm cd doc a vs ns G Y ho hd hcd hmg hobj hints hlen hg=>?_
  have KX:=hY w _ Y
  obtain ⟨fd,hb,hF⟩:=F w mg fa _ KX G.T.g hmg
  exact law_call KX G.T.g G.T.b G.T.builtins G.T.nolimit hg hobj hints (Nat.le_trans hlen hn2) hr hF hb (fun H hO hS=>hsp w H a ns hlen hO hS) fun H e s'=>hCX w H s₁ e s'
end L2
namespace L2
open PySem PySem.Spec PyProof.Rows
noncomputable def defArgs (s:Stmt):Arguments:=match s with
  | .FunctionDef _ a _ _ _ _ _ _ _ _=>a
  | _=>{ posonlyargs:=[],args:=[],vararg:=none,kwonlyargs:=[],kw_defaults:=[],kwarg:=none,defaults:=[] }
noncomputable def defBody (s:Stmt):List Stmt:=match s with
  | .FunctionDef _ _ b _ _ _ _ _ _ _=>b
  | _=>[]
noncomputable def defScope (s:Stmt):Scope:=match s with
  | .FunctionDef _ _ _ _ _ _ sc _ _ _=>sc
  | _=>{ kind:=.function,names:=[],isGenerator:=false,isCoroutine:=false }
noncomputable abbrev CX0:CXT:=fun _ _ _ _ _ _=>False
noncomputable abbrev E0:XK:=fun _ _ _=>False
theorem pass0 {X:Cx}:Passes CX0 X E0:=fun _ _ _ _ _ _ _ h=>h.elim
structure Fun (K:PySem.W.Frag) (x qual:Str) (st:Stmt) (f:Addr) (fd:FuncData):Prop where
  ex:∃ (oc:Value) (od:Option Addr) (kV doc pm:Value) (an:Option Addr) (cdv ct:Value) (osl:Array (Option Value)),
    fd=PySem.W.fnOf x qual (defArgs st) (defBody st) (defScope st) .none kV doc pm an cdv ct∧K.lookup f=some ⟨oc,od,.func fd,osl⟩∧PySem.W.codeIn K cdv qual=true
  kp:PySem.W.keepIn K (.ref f)=true
section
variable {P:Program} {w:World} {K:PySem.W.Frag} {mg:Str→Option Value} {base:Heap}
theorem Fun.ok {x qual:Str} {st:Stmt} {f:Addr} {fd:FuncData} {N ps:List Str} {k:Nat} {sp:Sp} (F:Fun K x qual st f fd) (S:FnScope N ps (defScope st)) (len:∀ vs H Q E,sp vs H Q E→vs.length=ps.length)
    (hbody:∀ (cdv:Value) (A:Around) (outer:List Env) (s:Shared) (H:Hp) (vs:List V) (Q:VK) (E:XK),Room k (A.deeper (envOfC qual (defScope st) s.heap.objs.size f cdv))→sp vs H Q E →
      ∃ t,PSs (cxOf CX0 P w K mg base N qual (defScope st) f cdv A outer s H E).nox (defBody st) t∧t { nx:=fun _ H'=>Q .non H',rt:=Q } (start N vs) H):FnOk P w K mg base CX0 (k+1) f fd ps sp:=by
  obtain ⟨oc,od,kV,doc,pm,an,cdv,ct,osl,rfl,lk,hcd⟩:=F.ex
  refine fn_of lk hcd S len fun A outer s H vs Q E hr hsp=>?_
  obtain ⟨t,h,q⟩:=hbody cdv A outer s H vs Q E hr hsp
  exact ⟨t,h.nox,q⟩
theorem Fun.binds {x qual:Str} {st:Stmt} {f:Addr} {fd:FuncData} {ps:List Str} (F:Fun K x qual st f fd)
    (h:∀ (kV doc pm:Value) (an:Option Addr) (cdv ct:Value) (us:List Value),us.length=ps.length→bindArgs (PySem.W.fnOf x qual (defArgs st) (defBody st) (defScope st) .none kV doc pm an cdv ct) ⟨us,[]⟩=pure (ps.zip us)):Binds K fd ps []:=by
  obtain ⟨oc,od,kV,doc,pm,an,cdv,ct,osl,rfl,lk,hcd⟩:=F.ex
  exact .all (h kV doc pm an cdv ct)
theorem fun_mk {x qual:Str} {st:Stmt} {f:Addr} {oc:Value} {od an:Option Addr} {osl:Array (Option Value)} {kV doc pm cdv ct:Value} (l:K.lookup f=some ⟨oc,od,.func (PySem.W.fnOf x qual (defArgs st) (defBody st) (defScope st) .none kV doc pm an cdv ct),osl⟩)
    (c:PySem.W.codeIn K cdv qual=true) (k:PySem.W.keepIn K (.ref f)=true):Fun K x qual st f (PySem.W.fnOf x qual (defArgs st) (defBody st) (defScope st) .none kV doc pm an cdv ct):=⟨⟨oc,od,kV,doc,pm,an,cdv,ct,osl,rfl,l,c⟩,k⟩
end
theorem hu_of {A:Around} {k:Nat} (hr:Room k A):A.units+1 < cLine:=Nat.lt_of_le_of_lt (Nat.add_le_add_left (by decide:1≤64) _) hr.units
section
variable {X:Cx}
theorem pv (i:Nat) {x:Str} {pos:Pos} (hN:autoParam (X.N[i]?=some x) L2.aR._auto_1) (hv:Vis X.env.scope x:=by first | exact Or.inl rfl | exact Or.inr (Or.inl rfl) | exact Or.inr (Or.inr rfl)) (hd:autoParam ((x == ("__debug__" : Str))=false) L2.aD._auto_1)
    (hcd:autoParam ((x == ("__classdict__" : Str))=false) L2.aD._auto_1):PE X (.Name x pos) (tVar i):=pe_var hN hv hd hcd
end
theorem iteF {A B:Prop} (h:B):if false=true then A else B:=by
  rw [if_neg Bool.false_ne_true]
  exact h
theorem iteT {A B:Prop} (h:A):if true=true then A else B:=by
  rw [if_pos rfl]
  exact h
noncomputable def Same (H H':Hp):Prop:=∀ b o,H b=some o→H' b=some o
theorem Same.refl (H:Hp):Same H H:=fun _ _ h=>h
theorem Same.trans {H H1 H2:Hp} (a:Same H H1) (b:Same H1 H2):Same H H2:=fun c o h=>b c o (a c o h)
theorem Same.free {H H':Hp} (e:Same H H') {l:Addr} (h:H' l=Option.none):H l=Option.none:=by
  cases q:H l with
  | none=>rfl
  | some o =>
    rw [e l o q] at h
    cases h
theorem Same.seq {K:PySem.W.Frag} {H H':Hp} {a:Addr} {xs:List V} (e:Same H H') (h:SqL K H a xs):SqL K H' a xs:=by
  rcases h with (h | ⟨o,h⟩) | h
  · exact .inl (.inl (e _ _ h))
  · exact .inl (.inr ⟨o,e _ _ h⟩)
  · exact .inr h
section
variable {κ:Type} [DecidableEq κ]
end
end L2
namespace L2
open PySem PySem.Spec PyProof.Rows
section
variable {prog:Program} {w:World} {A:Around} {E:Value→Shared→Prop} {R:Result→Shared→Prop} {s:Shared}
theorem compLoop_any {elt target iter:Expr} {ifs:List Expr} {scope:Scope} {pos:Pos} {it acc:Value} {env:Env} (I:Nat→Shared→Prop)
    (turn:∀ n s,I n s→wpAny (model prog w) A (pyNext it) (fun r s₁=>match r with
      | none=>R (.ok .next) s₁
      | some v=>wpAny (model prog w) A (letOwnedTupleGo target it v) (fun _ s₁'=>wpAny (model prog w) A (assign target env v) (fun _ s₂ =>
          wpAny (model prog w) A (forIn ifs true fun c r=>if r=true then do let ok ← isTrue c env (eval c env); pure (ForInStep.yield ok) else pure (ForInStep.yield r)) (fun ok s₃ =>
            if ok=true then wpAny (model prog w) A (eval elt env) (fun x s₄ =>
              wpAny (model prog w) A (call (.builtin "list.append") [acc,x]) (fun _ s₅=>∃ m,m < n∧I m s₅) (fun _ _=>False) s₄) (fun _ _=>False) s₃
            else ∃ m,m < n∧I m s₃) (fun _ _=>False) s₂) (fun _ _=>False) s₁') (fun _ _=>False) s₁) (fun _ _=>False) s)
    (n:Nat) (h:I n s) :
    codeAny (model prog w) A (.compLoop (.ListComp elt [⟨target,iter,ifs,0⟩] scope pos) 0 it acc env) R s:=by
  refine codeAny_loop rfl I (fun n s hI=>?_) n h
  show wpAny _ A ((compTurn (.ListComp elt [⟨target,iter,ifs,0⟩] scope pos) 0 it acc env).onRaise (fun x=>do noteFrame x env; theTreesLotGoes x)) _ _ s
  refine wpAny_noted ?_
  rw [compTurn_list]
  refine wpAny_bind (wpAny_standAt (wpAny_bind (wpAny_mono (turn n s hI) (fun r s₁ h₁=>?_) fun _ _ h'=>h'.elim)))
  cases r with
  | none=>exact wpAny_pure h₁
  | some v =>
    refine wpAny_bind (wpAny_mono h₁ (fun _ s₁' h₁'=>?_) fun _ _ h'=>h'.elim)
    refine wpAny_bind (wpAny_mono h₁' (fun _ s₂ h₂=>wpAny_bind (wpAny_mono h₂ (fun ok s₃ h₃=>?_) fun _ _ h'=>h'.elim)) fun _ _ h'=>h'.elim)
    cases ok with
    | false=>exact wpAny_pure ⟨rfl,h₃⟩
    | true =>
      exact wpAny_bind (wpAny_bind (wpAny_mono h₃ (fun x s₄ h₄=>wpAny_bind (wpAny_mono h₄ (fun _ s₅ h₅=>wpAny_pure (wpAny_pure ⟨rfl,h₅⟩)) fun _ _ h'=>h'.elim)) fun _ _ h'=>h'.elim))
end
noncomputable def PIfs (X:Cx) (ifs:List Expr) (t:TT):Prop :=
  ∀ (pins:List (Addr×Obj)) (s:Shared) (σ:St) (H:Hp) (Q:Bool→Hp→Prop),Inv X pins σ H s→t σ H Q →
    wpAny (model X.prog X.w) X.A (forIn ifs true fun c r=>if r=true then do let ok ← isTrue c X.env (eval c X.env); pure (ForInStep.yield ok) else pure (ForInStep.yield r)) (TP X pins σ Q) X.xe s
noncomputable def tYes:TT:=fun _ H Q=>Q true H
theorem pif_nil {X:Cx}:PIfs X [] tYes:=fun _ _ _ H _ I h=>wpAny_tests_nil ⟨H,I,h⟩
theorem pif_one {X:Cx} {c:Expr} {t:TT} (h:PT X c t):PIfs X [c] t:=fun pins s σ H Q I q=>wpAny_tests_one (h pins s σ H Q I q)
noncomputable def cxComp (X:Cx) (N:List Str) (scope:Scope) (cl:List (Str×Addr)) (C:Addr) (s:Shared) (H:Hp) (fp:List Addr):Cx :=
  { X with N:=N,s₀:=s,H₀:=H,env:=compEnvC scope cl C X.env,outer:=X.stack,ex:=fp,fn:=fun _=>false,pn:=[],xe:=fun _ _=>False }
noncomputable def capOf (σ:St) (ixs:List Nat):St:=ixs.map fun i=>(σ[i]?).getD none
structure CompScope (X:Cx) (T F:List Str) (ixs:List Nat) (scope:Scope):Prop where
  kind:scope.kind=.function
  nocell:∀ y ∈ scope.names,y.2≠.cell
  names:∀ y ∈ scope.names,y.2=.local→scope.names.lookup y.1=some .local
  cap:∀ (j:Nat) (i:Nat) (x:Str),ixs[j]?=some i→F[j]?=some x→X.N[i]?=some x∧scope.names.lookup x=some .free
  len:ixs.length=F.length
  out:∀ y ∈ scope.names,y.2=.free→X.env.scope.names.lookup y.1=some .cell∨X.env.scope.names.lookup y.1=some .free
noncomputable def clFrom (env:Env):List (Str×NameKind)→List (Str×Addr)→List (Str×Addr)
  | [],cs=>cs
  | (n,k)::r,cs=>if k == .free then clFrom env r ((n,(env.cells.lookup n).getD 0)::cs) else clFrom env r cs
theorem closureFor_of {env:Env} {scope:Scope} (h:∀ y ∈ scope.names,y.2=.free→∃ c,env.cells.lookup y.1=some c):closureFor scope env=pure (clFrom env scope.names []):=by
  unfold closureFor
  have gen:∀ (l:List (Str×NameKind)) (cs:List (Str×Addr)),(∀ y ∈ l,y.2=.free→∃ c,env.cells.lookup y.1=some c) →
      (do
        let mut cs:=cs
        for (name,kind) in l do
          if kind == .free then cs:=(name,← cellOf env name)::cs
        return cs:Sem (List (Str×Addr)))=pure (clFrom env l cs):=by
    intro l
    induction l with
    | nil=>intro cs _; rfl
    | cons p r ih =>
      intro cs hl
      obtain ⟨n,k⟩:=p
      have hr:=fun y hy=>hl y (List.mem_cons_of_mem _ hy)
      by_cases hk:k=.free
      · obtain ⟨c,hc⟩:=hl (n,k) List.mem_cons_self hk
        have hc:env.cells.lookup n=some c:=hc
        have e:=ih ((n,(env.cells.lookup n).getD 0)::cs) hr
        subst hk
        simp only [clFrom,List.forIn_cons,hc,cellOf] at e ⊢
        simpa using e
      · have e:=ih cs hr
        have hk':(k == NameKind.free)=false:=by first|exact hk|exact List.mem_singleton.mp hk|simpa using hk
        simp only [clFrom,List.forIn_cons,hk',if_neg Bool.false_ne_true] at e ⊢
        simpa using e
  exact gen scope.names [] h
theorem clFrom_some {env:Env}:∀ {l:List (Str×NameKind)} {cs:List (Str×Addr)} {x:Str} {c:Addr},(∀ y ∈ l,y.2=.free→∃ c,env.cells.lookup y.1=some c)→(∀ x c,cs.lookup x=some c→env.cells.lookup x=some c) →
    (clFrom env l cs).lookup x=some c→env.cells.lookup x=some c
  | [],cs,x,c,_,hc,h=>hc x c h
  | (n,k)::r,cs,x,c,hl,hc,h=>by
    have hr:=fun y hy=>hl y (List.mem_cons_of_mem _ hy)
    unfold clFrom at h
    split at h
    · rename_i hk
      have hk':k=.free:=by first|exact hk|exact List.mem_singleton.mp hk|simpa using hk
      obtain ⟨c0,h0⟩:=hl (n,k) List.mem_cons_self hk'
      have h0:env.cells.lookup n=some c0:=h0
      refine clFrom_some hr (fun x' c' h'=>?_) h
      rw [List.lookup_cons] at h'
      split at h'
      · rename_i e
        have e:x'=n:=by first|exact e|exact List.mem_singleton.mp e|simpa using e
        subst e
        rw [h0] at h' ⊢
        simpa using h'
      · exact hc x' c' h'
    · exact clFrom_some hr hc h
theorem clFrom_has {env:Env}:∀ {l:List (Str×NameKind)} {cs:List (Str×Addr)} {x:Str},((x,NameKind.free) ∈ l∨∃ c,cs.lookup x=some c)→∃ c,(clFrom env l cs).lookup x=some c
  | [],cs,x,h=>by
    rcases h with h | h
    · cases h
    · exact h
  | (n,k)::r,cs,x,h=>by
    unfold clFrom
    split
    · rename_i hk
      have hk':k=.free:=by first|exact hk|exact List.mem_singleton.mp hk|simpa using hk
      refine clFrom_has ?_
      rcases h with h | h
      · rcases List.mem_cons.mp h with e | h
        · have e:x=n:=by injection e
          subst e
          exact .inr ⟨(env.cells.lookup x).getD 0,by rw [List.lookup_cons]; simp⟩
        · exact .inl h
      · obtain ⟨c,h⟩:=h
        refine .inr ?_
        rw [List.lookup_cons]
        split
        · exact ⟨_,rfl⟩
        · exact ⟨c,h⟩
    · rename_i hk
      refine clFrom_has ?_
      rcases h with h | h
      · rcases List.mem_cons.mp h with e | h
        · have e:NameKind.free=k:=by injection e
          subst e
          simp at hk
        · exact .inl h
      · exact .inr h
theorem relabel_cases {env:Env}:∀ {names:List (Str×NameKind)} {x:Str} {q:NameKind},
    (names.map fun (n,k)=>if (k == NameKind.free && env.scope.kind == .function && env.kindOf n == some .cell) then (n,NameKind.cell) else (n,k)).lookup x=some q →
    names.lookup x=some q∨(q=.cell∧names.lookup x=some .free)
  | [],_,_,h=>by simp at h
  | (n,k)::r,x,q,h=>by
    have ih:=@relabel_cases env r x q
    rw [List.map_cons] at h
    dsimp only at h
    by_cases hc:(k == NameKind.free && env.scope.kind == .function && env.kindOf n == some .cell)=true
    · rw [if_pos hc,List.lookup_cons] at h
      rw [List.lookup_cons]
      cases hx:x == n with
      | true =>
        rw [hx] at h
        have hk:k=.free:=by
          simp only [Bool.and_eq_true] at hc
          simpa using hc.1.1
        exact .inr ⟨(Option.some.inj h).symm,by rw [hk]⟩
      | false=>rw [hx] at h; exact ih h
    · rw [if_neg hc,List.lookup_cons] at h
      rw [List.lookup_cons]
      cases hx:x == n with
      | true=>rw [hx] at h; exact .inl h
      | false=>rw [hx] at h; exact ih h
theorem relabel_free {env:Env}:∀ {names:List (Str×NameKind)} {x:Str},names.lookup x=some .free →
    (names.map fun (n,k)=>if (k == NameKind.free && env.scope.kind == .function && env.kindOf n == some .cell) then (n,NameKind.cell) else (n,k)).lookup x=some .cell ∨
    (names.map fun (n,k)=>if (k == NameKind.free && env.scope.kind == .function && env.kindOf n == some .cell) then (n,NameKind.cell) else (n,k)).lookup x=some .free
  | [],_,h=>by simp at h
  | (n,k)::r,x,h=>by
    have ih:=@relabel_free env r x
    rw [List.map_cons]
    dsimp only
    rw [List.lookup_cons] at h
    by_cases hc:(k == NameKind.free && env.scope.kind == .function && env.kindOf n == some .cell)=true
    · rw [if_pos hc,List.lookup_cons]
      cases hx:x == n with
      | true=>exact .inl rfl
      | false=>rw [hx] at h; exact ih h
    · rw [if_neg hc,List.lookup_cons]
      cases hx:x == n with
      | true=>rw [hx] at h; exact .inr h
      | false=>rw [hx] at h; exact ih h
noncomputable def tComp (no:Nat) (ixs:List Nat) (wi:TI) (g:TG) (tc:TT) (te:TE):TE:=fun σ H Q=>wi σ H fun J H1=>∀ D,H1 D=none→∃ W:Nat→Nat→List V→St→Hp→Prop,
  (∃ m,W 0 m [] (List.replicate no none++capOf σ ixs) (upd H1 D (.lst [])))∧∀ i m acc σ' H',W i m acc σ' H' →
    (J.stop i H'∧Q (.ref D) H') ∨
    (J.go i H'∧∃ N:List V→St→Hp→Prop,(∀ acc' σ2 H2,N acc' σ2 H2→∃ m',m' < m∧W (i+1) m' acc' σ2 H2) ∧
      ∀ x H2,J.yld i H' x H2→g x σ' H2 fun σ3 H3=>tc σ3 H3 fun b H4=>if b=true then te σ3 H4 fun y H5=>H5 D=some (.lst acc)∧acc.length < sizeLine∧N (acc++[y]) σ3 (upd H5 D (.lst (acc++[y]))) else N acc σ3 H4)
section
variable {X:Cx} {pins:List (Addr×Obj)} {σ:St} {H:Hp} {s:Shared} {T F:List Str} {ixs:List Nat} {scope:Scope} {fp:List Addr}
theorem comp_ok (I:Inv X pins σ H s) (S:CompScope X T F ixs scope) (hfp:∀ b ∈ fp,FpOk X pins H b) (hfo:∀ b ∈ fp,∃ o,s.heap.get? b=some o) :
    (cxComp X (T++F) scope (clFrom X.env scope.names []) s.heap.objs.size s H fp).Ok:=by
  have hall:∀ y ∈ scope.names,y.2=.free→∃ c,X.env.cells.lookup y.1=some c:=fun y hy hf=>by
    rcases S.out y hy hf with e | e
    · exact I.ok.has _ (.inl e)
    · exact I.ok.has _ (.inr e)
  have hcl:∀ x c,(clFrom X.env scope.names []).lookup x=some c→X.env.cells.lookup x=some c:=fun x c h=>clFrom_some hall (fun _ _ z=>by simp at z) h
  refine ⟨I.ok.mod,S.kind,I.ok.glob,I.ok.blt,Nat.le_refl _,fun x y c h1 h2=>I.ok.inj x y c (hcl x c h1) (hcl y c h2),fun x hx=>?_,fun _ _ z=>(nomatch z),I.ok.hd,I.ok.frames,.inl rfl,fun b hb=>⟨?_,fun x c e=>?_⟩,I.bs,Nat.le_trans I.ok.bsz I.sz,fun b o e hb=>?_,fun b hb hz=>?_,I.stack,I.stkFree⟩
  · have hx:(relabel scope X.env).names.lookup x=some .cell∨(relabel scope X.env).names.lookup x=some .free:=hx
    have hf:scope.names.lookup x=some .free:=by
      rcases hx with hx | hx
      · rcases relabel_cases hx with q | ⟨_,q⟩
        · exact absurd rfl (S.nocell _ (PySem.mem_of_lookup q))
        · exact q
      · rcases relabel_cases hx with q | ⟨z,_⟩
        · exact q
        · cases z
    exact clFrom_has (.inl (PySem.mem_of_lookup hf))
  · obtain ⟨o,ho⟩:=hfo b hb
    exact Nat.ne_of_lt (Heap.lt_size ho)
  · exact (hfp b hb).2.2.2.2.1 x c (hcl x c e)
  · rcases (hfp b hb).2.2.2.1 with z | z
    · exact I.ok.noex b o e z
    · exact absurd (Nat.lt_of_lt_of_le (Heap.lt_size e) (Nat.le_trans I.ok.bsz z)) (Nat.lt_irrefl _)
  · rcases List.mem_cons.mp (I.stkSub b hz) with e | z
    · exact (hfp b hb).2.1 e
    · exact (hfp b hb).2.2.1 z
theorem capOf_get {σ:St} {ixs:List Nat} {j:Nat} {v:V} (h:(capOf σ ixs)[j]?=some (some v)):∃ i,ixs[j]?=some i∧σ[i]?=some (some v):=by
  unfold capOf at h
  rw [List.getElem?_map] at h
  cases e:ixs[j]? with
  | none=>rw [e] at h; cases h
  | some i =>
    rw [e] at h
    refine ⟨i,rfl,?_⟩
    have h:(σ[i]?).getD none=some v:=Option.some.inj h
    cases q:σ[i]? with
    | none=>rw [q] at h; cases h
    | some u=>rw [q] at h; exact congrArg some h
theorem comp_inv (I:Inv X pins σ H s) (S:CompScope X T F ixs scope) (hfp:∀ b ∈ fp,FpOk X pins H b) (hfo:∀ b ∈ fp,∃ o,s.heap.get? b=some o) {h':Heap} {t':Nat} {m:Str→Option Value}
    (hk:∀ b o,s.heap.get? b=some o→h'.get? b=some o) (hn:h'.Ns s.heap.objs.size m) :
    Inv (cxComp X (T++F) scope (clFrom X.env scope.names []) s.heap.objs.size s H fp) [] (List.replicate T.length none++capOf σ ixs) H { s with heap:=h',toks:=t' }:=by
  have ok:=comp_ok I S hfp hfo
  have hall:∀ y ∈ scope.names,y.2=.free→∃ c,X.env.cells.lookup y.1=some c:=fun y hy hf=>by
    rcases S.out y hy hf with e | e
    · exact I.ok.has _ (.inl e)
    · exact I.ok.has _ (.inr e)
  have hcl:∀ x c,(clFrom X.env scope.names []).lookup x=some c→X.env.cells.lookup x=some c:=fun x c h=>clFrom_some hall (fun _ _ z=>by simp at z) h
  have cellK:∀ c v,s.heap.IsCell c v→h'.IsCell c v:=fun c v ⟨o,ho,hd⟩=>⟨o,hk c o ho,hd⟩
  refine ⟨ok,rfl,I.bare,Un.kept hk,⟨m,hn,fun j x v e1 e2 e3=>?_⟩,fun x c e=>?_,I.hok.fresh (Nat.le_refl _),fun x c e=>I.freeC x c (hcl x c e),fun p hp=>absurd (show p ∈ ([]:List (Addr×Obj)) from hp) (by simp),I.hok.kept hk,?_⟩
  · have hj:T.length≤j:=by
      refine Nat.le_of_not_lt fun hj=>?_
      rw [List.getElem?_append_left (by first|exact hj|exact List.mem_singleton.mp hj|simpa using hj),List.getElem?_replicate] at e2
      split at e2 <;> cases e2
    rw [List.getElem?_append_right (by first|exact hj|exact List.mem_singleton.mp hj|simpa using hj),List.length_replicate] at e2
    have e1:(T++F)[j]?=some x:=e1
    rw [List.getElem?_append_right hj] at e1
    obtain ⟨i,hi,hv⟩:=capOf_get e2
    obtain ⟨hN,hf⟩:=S.cap _ i x hi e1
    obtain ⟨m0,hn0,hl⟩:=I.loc
    have hm:=PySem.mem_of_lookup hf
    have hvis:X.env.scope.names.lookup x=some .cell∨X.env.scope.names.lookup x=some .free:=S.out _ hm rfl
    obtain ⟨u,ru,lk⟩:=hl i x v hN hv (hvis.elim (fun z=>.inr (.inl z)) fun z=>.inr (.inr z))
    refine ⟨u,ru,?_⟩
    rcases lk with ⟨kl,_⟩ | ⟨_,c,hc,hcell⟩
    · have kl:X.env.scope.names.lookup x=some .local:=kl
      rcases hvis with z | z
      · rw [kl] at z; cases z
      · rw [kl] at z; cases z
    · obtain ⟨c',hc'⟩:=clFrom_has (env:=X.env) (cs:=[]) (.inl hm)
      have e:c'=c:=by
        have:=hcl x c' hc'
        rw [hc] at this
        exact (Option.some.inj this).symm
      subst e
      exact .inr ⟨relabel_free hf,c',hc',cellK c' _ hcell⟩
  · obtain ⟨v,q⟩:=I.cell x c (hcl x c e)
    exact ⟨v,cellK c v q⟩
  · show _=(T++F).length
    rw [List.length_append,List.length_replicate,List.length_append,capOf,List.length_map,S.len]
theorem comp_any {elt tg iter:Expr} {ifs:List Expr} {pos pos':Pos} {wi:TI} {g:TG} {tc:TT} {te:TE} (hc:X.calm=true) (S:CompScope X T F ixs scope)
    (hi:PI X tg iter wi)
    (hg:∀ C s H fp,PG (cxComp X (T++F) scope (clFrom X.env scope.names []) C s H fp) tg g)
    (ht:∀ C s H fp,PIfs (cxComp X (T++F) scope (clFrom X.env scope.names []) C s H fp) ifs tc)
    (he:∀ C s H fp,PE (cxComp X (T++F) scope (clFrom X.env scope.names []) C s H fp) elt te)
    (hs:∀ x,foldedSetIterable iter X.env x=pure x) {use:Option (Value→Sem Unit)} {QQ:Value→Shared→Prop} {pins:List (Addr×Obj)} {s:Shared} {σ:St} {H:Hp} {Q:VK} (I:Inv X pins σ H s) (h:tComp T.length ixs wi g tc te σ H Q)
    (fine:∀ (D C:Addr) (H5:Hp) (s6:Shared) (f:Flow),(∃ m,s6.heap.Ns C m)→H5 C=none→C≠X.env.locals→(∀ x c,X.env.cells.lookup x=some c→c≠C)→X.s₀.heap.objs.size≤C→(∀ p ∈ X.pn++pins,p.1≠C) →
      (∀ h7,Heap.SameBut C s6.heap h7→Inv X pins σ H5 { s6 with heap:=h7 })→Q (.ref D) H5→compPost (model X.prog X.w) X.A X.xe use QQ (.ref D) C (.ok f) s6) :
    wpAny (model X.prog X.w) X.A (comprehension (.ListComp elt [⟨tg,iter,ifs,0⟩] scope pos) scope X.env pos' (newList []) false (eval iter X.env) use) QQ X.xe s:=by
  have hall:∀ y ∈ scope.names,y.2=.free→∃ c,X.env.cells.lookup y.1=some c:=fun y hy hf=>by
    rcases S.out y hy hf with e | e
    · exact I.ok.has _ (.inl e)
    · exact I.ok.has _ (.inr e)
  refine wpAny_comprehension_free (use:=use) (cl:=clFrom X.env scope.names []) rfl hs (closureFor_of hall) S.kind S.names (thn (hi pins s σ H _ I h) fun v s1 h1=>thn h1 fun itv s2 h2=>?_)
  obtain ⟨it,fp,tn,J,H2,e,I2,TT,st2,f2,q2⟩:=h2
  subst e
  refine wpAny_newObj_type ?_
  -- the list is laid
  have I3:Inv X pins σ (upd H2 s2.heap.objs.size (.lst [])) { s2 with heap:=s2.heap.push { cls:=.type "list", dict:=none,data:=.seq ([]:List Value).toArray } } :=
    I2.laid (t':=s2.toks) (fun b u q=>Heap.get?_push_of_some _ q) (Nat.le_refl _) ⟨Nat.zero_le _,[],0,.nil,Heap.get?_push_size _ rfl⟩
  have hD:H2 s2.heap.objs.size=none:=I2.hok.fresh (Nat.le_refl _)
  have hfo:∀ b ∈ fp,∃ o,s2.heap.get? b=some o:=fun b hb=>let ⟨o,e,_⟩:=TT.obj _ _ st2 b hb; ⟨o,e⟩
  have neD:∀ b ∈ fp,b≠s2.heap.objs.size:=fun b hb=>by obtain ⟨o,e⟩:=hfo b hb; exact Nat.ne_of_lt (Heap.lt_size e)
  have f3:∀ b ∈ fp,FpOk X pins (upd H2 s2.heap.objs.size (.lst [])) b:=fun b hb=>by
    obtain ⟨a1,a2⟩:=f2 b hb
    exact ⟨by rw [upd_ne (neD b hb)]; exact a1,a2⟩
  obtain ⟨W,⟨m0,w0⟩,turn⟩:=q2 s2.heap.objs.size hD
  generalize hs3:({ s2 with heap:=s2.heap.push { cls:=.type "list", dict:=none,data:=.seq ([]:List Value).toArray } }:Shared)=s3 at I3 ⊢
  generalize hH3:upd H2 s2.heap.objs.size (.lst [])=H3 at I3 f3 w0
  have hfo3:∀ b ∈ fp,∃ o,s3.heap.get? b=some o:=fun b hb=>by
    obtain ⟨o,e⟩:=hfo b hb
    rw [← hs3]
    exact ⟨o,Heap.get?_push_of_some _ e⟩
  have st3:tn 0 s3.heap:=TT.keep _ _ _ st2 fun b hb o e=>by rw [← hs3]; exact Heap.get?_push_of_some _ e
  refine wpAny_newFunctionEnv S.nocell (by intro y hy; simp at hy) (fun h4 hns4 hsb4=>?_) S.kind
  have old:∀ b o,s3.heap.get? b=some o→h4.get? b=some o:=fun b o e=>hsb4.extBut b o (Nat.ne_of_lt (Heap.lt_size e)) (Heap.get?_push_of_some _ e)
  have J4:=comp_inv I3 S f3 hfo3 (t':=s3.toks+([]:List (Str×Value)).length) old hns4
  generalize hs4:({ s3 with heap:=h4,toks:=s3.toks+([]:List (Str×Value)).length }:Shared)=s4 at J4 ⊢
  have st4:tn 0 s4.heap:=by rw [← hs4]; exact TT.keep _ _ _ st3 fun b hb o e=>old b o e
  have hg':=hg s3.heap.objs.size s3 H3 fp
  have ht':=ht s3.heap.objs.size s3 H3 fp
  have he':=he s3.heap.objs.size s3 H3 fp
  generalize hY:cxComp X (T++F) scope (clFrom X.env scope.names []) s3.heap.objs.size s3 H3 fp=Y at J4 hg' ht' he'
  have yA:Y.A=X.A:=by rw [← hY]; rfl
  have yP:Y.prog=X.prog:=by rw [← hY]; rfl
  have yW:Y.w=X.w:=by rw [← hY]; rfl
  have yK:Y.K=X.K:=by rw [← hY]; rfl
  have yC:Y.calm=true:=by rw [← hY]; exact hc
  have yE:Y.env=compEnvC scope (clFrom X.env scope.names []) s3.heap.objs.size X.env:=by rw [← hY]; rfl
  have yX:Y.xe=fun _ _=>False:=by rw [← hY]; rfl
  have fY:∀ {H':Hp},(∀ b ∈ fp,H' b=none)→∀ b ∈ fp,FpOk Y [] H' b:=fun hn b hb=>by
    have k:=J4.ok
    rw [← hY] at k ⊢
    exact ⟨hn b hb,(k.exf b hb).1,k.exfs b hb,.inl hb,(k.exf b hb).2,fun p hp=>absurd (show p ∈ ([]:List (Addr×Obj)) from hp) (by simp)⟩
  have loop:codeAny (model X.prog X.w) X.A (.compLoop (.ListComp elt [⟨tg,iter,ifs,0⟩] scope pos) 0 (.ref it) (.ref s2.heap.objs.size) (compEnvC scope (clFrom X.env scope.names []) s3.heap.objs.size X.env))
      (compPost (model X.prog X.w) X.A X.xe use QQ (.ref s2.heap.objs.size) s3.heap.objs.size) s4:=by
    refine compLoop_any (fun n s'=>∃ i acc σ' H',Inv Y [] σ' H' s'∧tn i s'.heap∧(∀ b ∈ fp,H' b=none)∧W i n acc σ' H') ?_ m0 ⟨0,[],_,H3,J4,st4,fun b hb=>(f3 b hb).1,w0⟩
    rintro n s5 ⟨i,acc,σ5,H5,J5,st5,fr5,w5⟩
    rcases turn i n acc σ5 H5 w5 with ⟨stop,qn⟩ | ⟨go,N,hN,step⟩
    · have fin:=TT.done Y yP yW yK yC i [] s5 σ5 H5 (fun _ _=>False) J5 (fY fr5) st5 stop
      rw [yA] at fin
      refine thn fin fun r s6 ⟨hr,J6⟩=>?_
      subst hr
      -- the block is left
      obtain ⟨m,hm,_⟩:=id J6.loc
      have hm:s6.heap.Ns s3.heap.objs.size m:=by rw [yE] at hm; exact hm
      have hb6:=J6.base
      have hos:=J6.os
      have hfree:=J6.free
      have hbare:=J6.bare
      have hok6:HOk X.prog X.w H5 s6.heap:=by have:=J6.hok; rw [yP,yW] at this; exact this
      rw [yE] at hfree
      have hfree:H5 s3.heap.objs.size=none:=hfree
      rw [← hY] at hb6 hos
      have hb6:Un (frs X.stack) fp H3 H5 s3.heap s6.heap:=hb6
      have hos:s6.os=s3.os:=hos
      have ltC:∀ b o,s3.heap.get? b=some o→b≠s3.heap.objs.size:=fun b o e=>Nat.ne_of_lt (Heap.lt_size e)
      refine fine _ _ H5 s6 _ ⟨m,hm⟩ hfree ?hl ?hcl I3.sz ?hpn (fun h7 hsb7=>?_) qn
      case hl=>exact fun z=>Nat.lt_irrefl _ (z ▸ I3.lt)
      case hcl=>exact fun x c e z=>by obtain ⟨v,o,ho,_⟩:=I3.cell x c e; exact ltC c o ho z
      case hpn=>exact fun p hp z=>ltC p.1 p.2 (I3.pin p hp).1 z
      have same:∀ b,b < s3.heap.objs.size→h7.get? b=s6.heap.get? b:=fun b hb=>hsb7.2 b (Nat.ne_of_lt hb)
      have hok7:HOk X.prog X.w H5 h7:=fun b o e=>by
        refine (hok6 b o e).stay (fun c w' hc q=>(hsb7.2 c ?_).trans q) (fun _ q=>q) fun _ _ q=>q
        rintro rfl
        rcases hc with z | z
        · rw [← z,hfree] at e; cases e
        · rw [hfree] at z; cases z
      have un7:Un (frs X.stack) fp H3 H5 s3.heap h7 :=
        ⟨fun b o e n hb hx=>(same b (Heap.lt_size e)).trans (hb6.keep b o e n hb hx),fun b o e n hb hx=>by
          obtain ⟨sl,q⟩:=hb6.slot b o e n hb hx
          exact ⟨sl,(same b (Heap.lt_size e)).trans q⟩,hb6.free,fun b o e hx=>by
          obtain ⟨o',q⟩:=hb6.there b o e hx
          exact ⟨o',(same b (Heap.lt_size e)).trans q⟩,hb6.tups,hb6.frzs,hb6.tbls⟩
      exact I3.call' (s':={ s6 with heap:=h7 }) hos un7 hok7 hbare fun b hb=>by
        obtain ⟨_,a2,a3,a4,a5,a6⟩:=f3 b hb
        exact ⟨a4,a2,a5,a6⟩
    · have nx:=TT.item Y yP yW yK yC i [] s5 σ5 H5 (fun _ _=>False) J5 (fY fr5) st5 go
      rw [yA] at nx
      refine thn nx fun r s6 ⟨u,hr,h6⟩=>?_
      subst hr
      refine thn h6 fun _ s7 ⟨x,H7,J7,r7,y7,st7,fr7⟩=>?_
      have J7':=J7.pinned (fY fr7) (TT.obj _ _ st7)
      have asg:=hg' _ s7 σ5 H7 x u _ J7' r7 (step x H7 y7)
      rw [yA,yP,yW,yE,yX] at asg
      refine thn asg fun _ s8 ⟨σ8,H8,J8,q8⟩=>?_
      have tst:=ht' _ s8 σ8 H8 _ J8 q8
      rw [yA,yP,yW,yE,yX] at tst
      refine thn tst fun b s9 ⟨H9,J9,q9⟩=>?_
      have again:∀ {s':Shared} {acc':List V} {σ':St} {H':Hp},Inv Y ([]++pinsAt fp s7.heap) σ' H' s'→N acc' σ' H'→∃ m,m < n∧∃ i acc σ' H',Inv Y [] σ' H' s'∧tn i s'.heap∧(∀ b ∈ fp,H' b=none)∧W i m acc σ' H':=fun {s' acc' σ' H'} K7 n7=>by
        obtain ⟨m',hm,w7⟩:=hN acc' σ' H' n7
        refine ⟨m',hm,i+1,acc',σ',H',K7.unpinned,TT.keep _ _ _ st7 fun b hb o e=>(K7.pin (b,o) (List.mem_append_right _ (List.mem_append_right _ (mem_pinsAt hb e)))).1,fun b hb=>?_,w7⟩
        obtain ⟨o,e,d⟩:=TT.obj _ _ st7 b hb
        exact (K7.pin (b,o) (List.mem_append_right _ (List.mem_append_right _ (mem_pinsAt hb e)))).2.1
      cases b with
      | false =>
        rw [if_neg Bool.false_ne_true] at q9 ⊢
        exact again J9 q9
      | true =>
        rw [if_pos rfl] at q9 ⊢
        have elv:=he' _ s9 σ8 H9 _ J9 q9
        rw [yA,yP,yW,yE,yX] at elv
        refine thn elv fun u10 s10 ⟨y,H10,J10,r10,q10⟩=>?_
        obtain ⟨hl,hz,qN⟩:=q10
        have app:=mt_append (X:=Y) ([]++pinsAt fp s7.heap) s10 σ8 H10 (.ref s2.heap.objs.size) [y] (.ref s2.heap.objs.size) [u10] (fun _ H'=>N (acc++[y]) σ8 H') J10 rfl (.cons r10 .nil) ⟨_,acc,y,rfl,rfl,hl,hz,qN⟩
        rw [yA,yP,yW,yX] at app
        exact thn app fun _ s11 ⟨_,H11,J11,_,q11⟩=>again J11 q11
  exact codeAny_compStart_list loop (TT.self _ 0 _ _ _ st4 loop)
theorem pe_comp {elt tg iter:Expr} {ifs:List Expr} {pos:Pos} {wi:TI} {g:TG} {tc:TT} {te:TE} (hc:X.calm=true) (S:CompScope X T F ixs scope)
    (hi:PI X tg iter wi)
    (hg:∀ C s H fp,PG (cxComp X (T++F) scope (clFrom X.env scope.names []) C s H fp) tg g)
    (ht:∀ C s H fp,PIfs (cxComp X (T++F) scope (clFrom X.env scope.names []) C s H fp) ifs tc)
    (he:∀ C s H fp,PE (cxComp X (T++F) scope (clFrom X.env scope.names []) C s H fp) elt te)
    (hs:autoParam (∀ x,foldedSetIterable iter X.env x=pure x) L2.aI._auto_1) :
    PE X (.ListComp elt [⟨tg,iter,ifs,0⟩] scope pos) (tComp T.length ixs wi g tc te):=by
  intro pins s σ H Q I h
  rw [eval_ListComp]
  exact comp_any hc S hi hg ht he hs I h fun D C H5 s6 f ⟨m,hm⟩ _ _ _ _ _ inv q=>⟨m,hm,fun h7 k=>⟨.ref D,H5,inv h7 k,rfl,q⟩⟩
theorem ps_setC {i:Nat} {y:Str} {elt tg iter:Expr} {ifs:List Expr} {pos py spos:Pos} {wi:TI} {g:TG} {tc:TT} {te:TE} (hc:X.calm=true) (S:CompScope X T F ixs scope)
    (hi:PI X tg iter wi)
    (hg:∀ C s H fp,PG (cxComp X (T++F) scope (clFrom X.env scope.names []) C s H fp) tg g)
    (ht:∀ C s H fp,PIfs (cxComp X (T++F) scope (clFrom X.env scope.names []) C s H fp) ifs tc)
    (he:∀ C s H fp,PE (cxComp X (T++F) scope (clFrom X.env scope.names []) C s H fp) elt te)
    (hs:∀ x,foldedSetIterable iter X.env x=pure x) (hN:X.N.Nodup) (hix:X.N[i]?=some y) (hx:Loc X.env.scope y)
    (hsw:swapsWith (.ListComp elt [⟨tg,iter,ifs,0⟩] scope pos) (some (.Name y py)) spos.line X.env=pure true) (hf:X.fn y=true∨X.env.scope.names.lookup y=some .local) :
    PS X (.Assign [.Name y py] (.ListComp elt [⟨tg,iter,ifs,0⟩] scope pos) spos) (tAsg (tComp T.length ixs wi g tc te) (gName i)):=by
  intro pins s σ H D I h
  rw [exec_Assign_Name_used _ _ _ _ hsw]
  refine wpAny_bind (wpAny_standAt (wpAny_bind ?_))
  show wpAny _ X.A (do let _ ← comprehension (.ListComp elt [⟨tg,iter,ifs,0⟩] scope pos) scope X.env _ (newList []) false (eval iter X.env) (some (assign (.Name y py) X.env))) _ _ s
  refine wpAny_bind (thn (comp_any (use:=some (assign (.Name y py) X.env)) (QQ:=fun _ s'=>SP X pins D .next s') hc S hi hg ht he hs I h fun D' C H5 s6 f ⟨m,hm⟩ fC lC cC zC pC inv q=>?_) fun _ s' hq=>wpAny_pure (wpAny_pure hq))
  have I6:Inv X pins σ H5 s6:=inv s6.heap (Heap.SameBut.refl _ _)
  refine wpAny_assign_Name (store_ok2 I6 hN hix hx (show RelV (.ref D') (.ref D') from rfl) (fun s7 I7 ⟨a,sb,ha⟩=>?_) hf)
  have aC:C≠a:=by
    rcases ha with rfl | ha
    · exact lC
    · exact fun z=>cC y a ha z.symm
  refine ⟨m,hm.sameBut sb aC,fun h8 k8=>⟨_,H5,?_,q⟩⟩
  exact I7.turned (t':=s7.toks) (fun b o hb e=>(k8.2 b hb).trans e) fC lC (.inr zC) cC pC
end
end L2
namespace L2
open PySem PySem.Spec PyProof.Rows
section
variable {no:Nat} {ixs:List Nat} {g:TG} {tc:TT} {te:TE} {σ:St} {H:Hp} {Q:VK} {D:Addr}
end
section
variable {X:Cx}
noncomputable def isT (t T:String):Bool:=t == T || (t == "bool" && T == "int")
noncomputable def okT (T:String):Prop:=T = "str" ∨ T = "int" ∨ T = "bool" ∨ T = "list" ∨ T = "tuple" ∨ T = "dict" ∨ T = "NoneType"
theorem kit_of {K:PySem.W.Frag} {t T:String} (ht:okT t) (hT:okT T):PySem.W.kitOne K (.type t) (.type T)=some (isT t T):=by
  rcases ht with rfl | rfl | rfl | rfl | rfl | rfl | rfl <;> rcases hT with rfl | rfl | rfl | rfl | rfl | rfl | rfl <;> rfl
theorem truth_bools {P:Program} {w:World} {A:Around} (bs:List Bool):TruthOf P w A (fun i v=>∃ b,bs[i]?=some b∧v=Value.bool b) (fun i=>bs.getD i false):=by
  intro i v s Q E hP hQ
  obtain ⟨b,hb,rfl⟩:=hP
  have e:bs.getD i false=b:=by rw [List.getD_eq_getElem?_getD,hb]; rfl
  exact wpAny_truthy_bool (by rw [← e]; exact hQ)
theorem range_all {bs:List Bool}:(List.range bs.length).all (fun i=>bs.getD i false)=bs.all id:=by
  rw [Bool.eq_iff_iff,List.all_eq_true,List.all_eq_true]
  constructor
  · intro h b hb
    obtain ⟨i,hi,e⟩:=List.mem_iff_getElem.mp hb
    have:=h i (List.mem_range.mpr hi)
    rw [List.getD_eq_getElem?_getD,List.getElem?_eq_getElem hi,e] at this
    exact this
  · intro h i hi
    have hi:=List.mem_range.mp hi
    rw [List.getD_eq_getElem?_getD,List.getElem?_eq_getElem hi]
    exact h _ (List.getElem_mem hi)
theorem range_any {bs:List Bool}:(List.range bs.length).any (fun i=>bs.getD i false)=bs.any id:=by
  rw [Bool.eq_iff_iff,List.any_eq_true,List.any_eq_true]
  constructor
  · rintro ⟨i,hi,h⟩
    have hi:=List.mem_range.mp hi
    rw [List.getD_eq_getElem?_getD,List.getElem?_eq_getElem hi] at h
    exact ⟨_,List.getElem_mem hi,h⟩
  · rintro ⟨b,hb,h⟩
    obtain ⟨i,hi,e⟩:=List.mem_iff_getElem.mp hb
    refine ⟨i,List.mem_range.mpr hi,?_⟩
    rw [List.getD_eq_getElem?_getD,List.getElem?_eq_getElem hi,e]
    exact h
theorem bools_at {bs:List Bool}:∀ {us:List Value},Vals (bs.map V.bl) us→us.length=bs.length∧∀ (i:Nat) (v:Value),us[i]?=some v→∃ b,bs[i]?=some b∧v=Value.bool b:=by
  intro us r
  have hl:=r.length
  rw [List.length_map] at hl
  refine ⟨hl.symm,fun i v h=>?_⟩
  have hi:i < us.length:=(List.getElem?_eq_some_iff.mp h).1
  have hib:i < bs.length:=by (first|lia|omega)
  obtain ⟨u,hu,ru⟩:=r.get (i:=i) (x:=.bl bs[i]) (by simp [hib])
  rw [h] at hu
  cases hu
  exact ⟨bs[i],by simp [hib],ru⟩
theorem bools_walk {pins:List (Addr×Obj)} {s:Shared} {σ:St} {H:Hp} {p:Addr} {bs:List Bool} (I:Inv X pins σ H s) (hq:SqL X.K H p (bs.map V.bl)) (A:Around) (hA:A.handled=none) {E:Value→Shared→Prop} {Q:VK} {r:Bool}
    (fn:(List Nat)→(Nat→Bool)→Bool) (hr:fn (List.range bs.length) (fun i=>bs.getD i false)=r) (q:Q (.bl r) H) :
    wpAny (model X.prog X.w) A (pyIter (.ref p)) (fun it s₂=>∃ I fp wr n P St tr,it=.ref I∧Walks X.prog X.w A I fp wr n P St∧St 0 s₂.heap∧TruthOf X.prog X.w A P tr ∧
      ∀ h' tk,(∀ b o,b ∉ wr→s₂.heap.get? b=some o→h'.get? b=some o)→EP X pins σ Q (.bool (fn (List.range n) tr)) { s₂ with heap:=h',toks:=tk }) E s:=by
  obtain ⟨its,rv,pl,hz⟩:=I.list hq
  obtain ⟨hl,hat⟩:=bools_at rv
  refine wpAny_pyIter_list pl.isList ?_
  have ne:p≠s.heap.objs.size:=by
    obtain ⟨o,ho,_⟩:=pl.isList
    exact Nat.ne_of_lt (Heap.lt_size ho)
  have hW:=Walks.list (prog:=X.prog) (w:=X.w) hA s.heap.objs.size p ne its.toArray
  have hW2:Walks X.prog X.w A s.heap.objs.size [s.heap.objs.size,p] [s.heap.objs.size] bs.length (fun i v=>∃ b,bs[i]?=some b∧v=Value.bool b) (fun i h=>h.IsListIter s.heap.objs.size p i∧h.IsList p its.toArray):=by
    have e:its.toArray.size=bs.length:=by simp [hl]
    rw [e] at hW
    exact { sub:=hW.sub,frame:=hW.frame,item:=fun i s Q E hi st hQ=>hW.item i s Q E hi st fun v h' tk hv=>hQ v h' tk (hat i v (by first|exact hv|exact List.mem_singleton.mp hv|simpa using hv)),done:=hW.done,self:=hW.self }
  refine ⟨s.heap.objs.size,_,_,_,_,_,_,rfl,hW2,⟨⟨_,Heap.get?_push_size _ rfl,rfl,rfl⟩,?_⟩,truth_bools bs,fun h' tk kk=>?_⟩
  · obtain ⟨o,ho,r⟩:=pl.isList
    exact ⟨o,Heap.get?_push_of_some _ ho,r⟩
  · refine ⟨.bl r,H,I.kept (h':=h') (t':=tk) fun b o e=>kk b o ?_ (Heap.get?_push_of_some _ e),by rw [← hr]; rfl,q⟩
    intro z
    have z:b=s.heap.objs.size:=by first|exact z|exact List.mem_singleton.mp z|simpa using z
    exact absurd (Heap.lt_size e) (by rw [z]; exact Nat.lt_irrefl _)
theorem call_all (hc:X.calm=true):CallR X (.builtin "all") (fun xs H Q=>∃ (p:Addr) (bs:List Bool),xs=[.ref p]∧SqL X.K H p (bs.map V.bl)∧Q (.bl (bs.all id)) H):=by
  intro pins s σ H xs us Q I r h
  obtain ⟨p,bs,rfl,hq,q⟩:=h
  obtain ⟨u,rfl,ru⟩:=vals1 r
  cases ru
  exact call_all_walk (bools_walk I hq X.A.in1 (I.ok.hd hc) (fun l f=>l.all f) range_all q)
theorem call_any (hc:X.calm=true):CallR X (.builtin "any") (fun xs H Q=>∃ (p:Addr) (bs:List Bool),xs=[.ref p]∧SqL X.K H p (bs.map V.bl)∧Q (.bl (bs.any id)) H):=by
  intro pins s σ H xs us Q I r h
  obtain ⟨p,bs,rfl,hq,q⟩:=h
  obtain ⟨u,rfl,ru⟩:=vals1 r
  cases ru
  exact call_any_walk (bools_walk I hq X.A.in1 (I.ok.hd hc) (fun l f=>l.any f) range_any q)
noncomputable def CPowB (i j:Int):Prop:=0≤j∧j≤3∧i.natAbs < 2 ^ 1000
theorem op_powB:OpR X (binaryOp .Pow) (rI CPowB fun i j=>.int (i ^ j.toNat)):=opI fun i j _ _ _ _ _ hc q=>by
  refine pow_int hc.1 ?_ q
  have hb:Builtin.Int.intBits i≤1000:=intBits_le hc.2.2
  have h2:=hc.2.1
  have h1:(Builtin.Int.intBits i:Int) * j≤1000 * j:=Int.mul_le_mul_of_nonneg_right (by (first|lia|omega)) hc.1
  (first|lia|omega)
theorem op_in_sign:OpR X (compareOp .In) (fun x y H Q=>∃ (c:Nat) (j:Str),x=.str ⟨#[c]⟩∧y=.str j∧Q (.bl (decide (c ∈ j.cps.toList))) H):=by
  intro pins s σ H x y v u Q I rx ry h
  obtain ⟨c,j,rfl,rfl,q⟩:=h
  exact op_in_str pins s σ H _ _ v u Q I rx ry ⟨_,j,rfl,rfl,by rw [PySem.StrLaws.found_one]; exact q⟩
theorem op_notIn_sign:OpR X (compareOp .NotIn) (fun x y H Q=>∃ (c:Nat) (j:Str),x=.str ⟨#[c]⟩∧y=.str j∧Q (.bl (!decide (c ∈ j.cps.toList))) H):=by
  intro pins s σ H x y v u Q I rx ry h
  obtain ⟨c,j,rfl,rfl,q⟩:=h
  exact op_notIn_str pins s σ H _ _ v u Q I rx ry ⟨_,j,rfl,rfl,by rw [PySem.StrLaws.found_one]; exact q⟩
theorem str_ext {x y:Str} (h:x.cps.toList=y.cps.toList):x=y:=by
  cases x with | mk a=>cases y with | mk b=>exact congrArg Str.mk (Array.toList_inj.mp h)
theorem len_cps (x:Str):x.length=x.cps.toList.length:=by simp [Str.length]
theorem cps_app (x y:Str):(x++y).cps.toList=x.cps.toList++y.cps.toList:=by
  show (x.cps++y.cps).toList=_
  simp
noncomputable def cutL {α:Type} (xs:List α) (lo hi:Option Int):List α:=(xs.drop (HT.sIx xs.length 0 lo)).take (HT.sIx xs.length xs.length hi - HT.sIx xs.length 0 lo)
theorem sliceRange_one (a b:Nat):sliceRange (a:Int) (b:Int) 1=(List.range (b - a)).map fun k=>a+k:=by
  unfold sliceRange
  simp only [show (1:Int) > 0 by decide,if_true]
  have e:(if (a:Int) < (b:Int) then ((b:Int) - (a:Int)+1 - 1) / 1 else 0).toNat=b - a:=by
    split <;> (try rw [Int.ediv_one]) <;> (first|lia|omega)
  rw [e]
  refine List.map_congr_left fun k _=>?_
  (first|lia|omega)
theorem sliceIx_eq (lo hi:Option Int) (n:Nat):Builtin.Str.strSliceIndices lo hi 1 n=(List.range (HT.sIx n n hi - HT.sIx n 0 lo)).map fun k=>HT.sIx n 0 lo+k:=by
  unfold Builtin.Str.strSliceIndices
  rw [← sliceRange_one]
  simp only [show (1:Int) > 0 by decide,if_true]
  congr 1
  · cases lo with
    | none=>rfl
    | some v=>rw [← HT.clip_eq]; dsimp only; split <;> (first|lia|omega)
  · cases hi with
    | none=>rfl
    | some v=>rw [← HT.clip_eq]; dsimp only; split <;> (first|lia|omega)
theorem pick_range {α:Type} (xs:List α) (a:Nat):∀ k:Nat,a+k≤xs.length→((List.range k).map fun j=>a+j).filterMap (fun i=>xs[i]?)=(xs.drop a).take k
  | 0,_=>by simp
  | k+1,h=>by
    have hk:a+k < xs.length:=by (first|lia|omega)
    rw [List.range_succ,List.map_append,List.filterMap_append,pick_range xs a k (by (first|lia|omega)),List.take_add_one]
    congr 1
    simp [List.getElem?_drop,hk]
theorem slice_cps (x:Str) (lo hi:Option Int):(Txt.slice x lo hi).cps.toList=cutL x.cps.toList lo hi:=by
  have hl:x.cps.toList.length=x.length:=by simp [Str.length]
  have h1:=HT.sIx_le x.length 0 (Nat.zero_le _) lo
  have h2:=HT.sIx_le x.length x.length (Nat.le_refl _) hi
  unfold Txt.slice cutL
  rw [hl,sliceIx_eq]
  split
  · rename_i hc
    simp only [beq_self_eq_true,Bool.true_and,List.length_map,List.length_range,beq_iff_eq] at hc
    have e1:HT.sIx x.length 0 lo=0:=by (first|lia|omega)
    have e2:HT.sIx x.length x.length hi=x.length:=by (first|lia|omega)
    rw [e1,e2,List.drop_zero,Nat.sub_zero,List.take_of_length_le (by (first|lia|omega))]
  · show (List.filterMap (fun i=>x.cps[i]?) _).toArray.toList=_
    have e:(fun i:Nat=>x.cps[i]?)=fun i:Nat=>x.cps.toList[i]?:=by funext i; simp
    rw [e]
    by_cases h:HT.sIx x.length 0 lo≤HT.sIx x.length x.length hi
    · rw [pick_range x.cps.toList _ _ (by rw [hl]; (first|lia|omega))]
    · have e0:HT.sIx x.length x.length hi - HT.sIx x.length 0 lo=0:=by (first|lia|omega)
      rw [e0]
      simp
noncomputable def rSlS:V→Option Int→Option Int→Hp→VK→Prop:=fun x lo hi H Q=>∃ z,x=.str z∧z.length≤sizeLine∧∀ y:Str,y.cps.toList=cutL z.cps.toList lo hi→Q (.str y) H
theorem sl_str:SlR X rSlS:=by
  intro pins s σ H x v vl vu lo hi sl Q I rx hs pl pu h
  obtain ⟨z,rfl,hz,q⟩:=h
  obtain ⟨t,rfl⟩:=rx
  refine ⟨"str", _,F.slot_str_getitem.lookup,typeIs_str _ _ _,?_⟩
  have fin:(Txt.slice z lo hi).length≤sizeLine∧∀ t' k,EP X pins σ Q (.str (Txt.slice z lo hi) t') { s with toks:=k } :=
    ⟨Nat.le_trans (Txt.slice_le z _ _) hz,fun t' k=>⟨.str _,H,I.tok k,⟨t',rfl⟩,q _ (slice_cps z lo hi)⟩⟩
  obtain ⟨o,ho,hc,hd⟩:=hs
  cases pl with
  | none =>
    cases pu with
    | none=>exact wpAny_getItem_str_slice (l:=none) (u:=none) (st:=none) ⟨o,ho,hc,hd⟩ rfl (post_val_or_str fin)
    | int j uj=>exact wpAny_getItem_str_slice (l:=none) (u:=some (j,uj)) (st:=none) ⟨o,ho,hc,hd⟩ rfl (post_val_or_str fin)
  | int i ui =>
    cases pu with
    | none=>exact wpAny_getItem_str_slice (l:=some (i,ui)) (u:=none) (st:=none) ⟨o,ho,hc,hd⟩ rfl (post_val_or_str fin)
    | int j uj=>exact wpAny_getItem_str_slice (l:=some (i,ui)) (u:=some (j,uj)) (st:=none) ⟨o,ho,hc,hd⟩ rfl (post_val_or_str fin)
theorem strs_at:∀ {zs:List Str} {us:List Value},Vals (zs.map V.str) us→∃ l:List (Str×Tok),us=strValues l∧l.map (·.1)=zs
  | [],_,r=>by
    rw [List.map_nil] at r
    cases r
    exact ⟨[],rfl,rfl⟩
  | z::zs,_,r=>by
    rw [List.map_cons] at r
    cases r with
    | cons r1 r2 =>
      obtain ⟨t,rfl⟩:=r1
      obtain ⟨l,rfl,rfl⟩:=strs_at r2
      exact ⟨(z,t)::l,rfl,rfl⟩
noncomputable def rJoin (K:PySem.W.Frag):V→List V→Hp→VK→Prop:=fun x vs H Q=>∃ (z:Str) (p:Addr) (zs:List Str),x=.str z∧vs=[.ref p]∧SqL K H p (zs.map V.str)∧(zs.map (·.length)).sum+zs.length * z.length≤16777216∧Q (.str (Builtin.Str.glued z zs)) H
theorem mt_join:MtR X "str.join" (rJoin X.K):=by
  intro pins s σ H x vs v us Q I rx rv h
  obtain ⟨z,p,zs,rfl,rfl,hq,hz,q⟩:=h
  obtain ⟨t,rfl⟩:=rx
  obtain ⟨u,rfl,ru⟩:=vals1 rv
  cases ru
  obtain ⟨its,r,pl,hl⟩:=I.list hq
  obtain ⟨l,rfl,e⟩:=strs_at r
  exact SC.join pl.isList e (joinOk_of hz) fun t' k=>⟨.str _,H,I.tok k,⟨t',rfl⟩,q⟩
theorem glued_nil (zs:List Str):(Builtin.Str.glued Str.empty zs).cps.toList=(zs.map fun z=>z.cps.toList).flatten:=by
  unfold Builtin.Str.glued
  have gen:∀ (l:List Str) (a:Array Nat),(l.foldl (fun acc p=>acc++Str.empty.cps++p.cps) a).toList=a.toList++(l.map fun z=>z.cps.toList).flatten:=by
    intro l
    induction l with
    | nil=>intro a; simp
    | cons y l ih=>intro a; rw [List.foldl_cons,ih]; simp [Str.empty]
  rw [gen]
  cases zs with
  | nil=>simp [Str.empty]
  | cons y l=>simp
end
end L2
namespace L2
open PySem PySem.Spec PyProof.Rows
inductive DV where
  | non | bl (b:Bool) | int (i:Int) | str (x:Str) | lst (xs:List DV) | tup (xs:List DV)
mutual
inductive Deep (K:PySem.W.Frag) (H:Hp):V→DV→Prop where
  | non:Deep K H .non .non
  | bl (b:Bool):Deep K H (.bl b) (.bl b)
  | int (i:Int):Deep K H (.int i) (.int i)
  | str (x:Str):Deep K H (.str x) (.str x)
  | lst {a:Addr} {xs:List V} {ds:List DV}:SqL K H a xs→Deeps K H xs ds→Deep K H (.ref a) (.lst ds)
  | tup {a:Addr} {xs:List V} {ds:List DV}:SqT K H a xs→Deeps K H xs ds→Deep K H (.ref a) (.tup ds)
inductive Deeps (K:PySem.W.Frag) (H:Hp):List V→List DV→Prop where
  | nil:Deeps K H [] []
  | cons {x:V} {d:DV} {xs:List V} {ds:List DV}:Deep K H x d→Deeps K H xs ds→Deeps K H (x::xs) (d::ds)
end
mutual
noncomputable def deq:DV→DV→Bool
  | .non,.non=>true
  | .bl a,.bl b=>a == b
  | .bl a,.int b=>(if a then 1 else 0) == b
  | .int a,.bl b=>a == (if b then 1 else 0)
  | .int a,.int b=>a == b
  | .str a,.str b=>a == b
  | .lst a,.lst b=>deqs a b
  | .tup a,.tup b=>deqs a b
  | _,_=>false
noncomputable def deqs:List DV→List DV→Bool
  | [],[]=>true
  | a::r,b::s=>deq a b && deqs r s
  | _,_=>false
end
mutual
noncomputable def dep:DV→Nat
  | .lst a=>deps a+1
  | .tup a=>deps a+1
  | _=>0
noncomputable def deps:List DV→Nat
  | []=>0
  | a::r=>max (dep a) (deps r)
end
mutual
theorem deq_refl:∀ d:DV,deq d d=true
  | .non=>rfl
  | .bl b=>beq_self_eq_true b
  | .int i=>beq_self_eq_true i
  | .str x=>beq_self_eq_true x
  | .lst xs=>deqs_refl xs
  | .tup xs=>deqs_refl xs
theorem deqs_refl:∀ ds:List DV,deqs ds ds=true
  | []=>rfl
  | d::ds=>Bool.and_eq_true_iff.mpr ⟨deq_refl d,deqs_refl ds⟩
end
theorem Deeps.length {K:PySem.W.Frag} {H:Hp} {xs:List V} {ds:List DV} (h:Deeps K H xs ds):xs.length=ds.length :=
  Deeps.rec (motive_1:=fun _ _ _=>True) (motive_2:=fun xs ds _=>xs.length=ds.length) trivial (fun _=>trivial) (fun _=>trivial) (fun _=>trivial) (fun _ _ _=>trivial) (fun _ _ _=>trivial) rfl (fun _ _ _ t=>congrArg (·+1) t) h
theorem Deeps.get {K:PySem.W.Frag} {H:Hp}:∀ {xs:List V} {ds:List DV} {i:Nat} {x:V},Deeps K H xs ds→xs[i]?=some x→∃ d,ds[i]?=some d∧Deep K H x d∧dep d≤deps ds
  | _,_,_,_,.nil,e=>by simp at e
  | _,_,0,_,.cons h _,e=>by
    simp at e; subst e
    exact ⟨_,rfl,h,by simp only [deps]; (first|lia|omega)⟩
  | _,_,i+1,x,.cons h t,e=>by
    obtain ⟨d,h1,h2,h3⟩:=Deeps.get (i:=i) (x:=x) t (by first|exact e|exact List.mem_singleton.mp e|simpa using e)
    exact ⟨d,by first|exact h1|exact List.mem_singleton.mp h1|simpa using h1,h2,by simp only [deps]; (first|lia|omega)⟩
theorem deqs_range:∀ {ds es:List DV},ds.length=es.length→(List.range ds.length).all (fun j=>deq (ds.getD j .non) (es.getD j .non))=deqs ds es:=by
  intro ds
  induction ds with
  | nil=>intro es h; cases es with
    | nil=>rfl
    | cons _ _=>simp at h
  | cons d ds ih =>
    intro es h
    cases es with
    | nil=>simp at h
    | cons e es =>
      have h':ds.length=es.length:=by first|exact h|exact List.mem_singleton.mp h|simpa using h
      rw [List.length_cons,List.range_succ_eq_map,List.all_cons,List.all_map]
      exact congrArg (deq d e && ·) (ih h')
theorem deqs_len:∀ {ds es:List DV},ds.length≠es.length→deqs ds es=false
  | [],[],h=>absurd rfl h
  | [],_::_,_=>rfl
  | _::_,[],_=>rfl
  | d::ds,e::es,h=>by
    have h':ds.length≠es.length:=by first|exact h|exact List.mem_singleton.mp h|simpa using h
    show (deq d e && deqs ds es)=false
    rw [deqs_len h',Bool.and_false]
theorem deqs_min {ds es:List DV}:((List.range (min ds.length es.length)).all (fun j=>deq (ds.getD j .non) (es.getD j .non)) && ds.length == es.length)=deqs ds es:=by
  by_cases h:ds.length=es.length
  · rw [← deqs_range h,← h,Nat.min_self]
    simp
  · rw [deqs_len h]
    simp [h]
section
variable {X:Cx} {pins:List (Addr×Obj)} {σ:St} {H:Hp} {s:Shared}
theorem Inv.seq_inj (I:Inv X pins σ H s) {a:Addr} {xs ys:List V} (h:SqL X.K H a xs) (h':SqT X.K H a ys):False:=by
  obtain ⟨its,_,p,_⟩:=I.list h
  obtain ⟨its',_,p',_⟩:=I.tuple h'
  obtain ⟨o,e,c,_⟩:=p.isList
  obtain ⟨o',e',c',_⟩:=p'
  rw [e] at e'
  cases e'
  rw [c] at c'
  injection c' with z
  exact absurd z (by decide)
theorem Deep.inj (I:Inv X pins σ H s) {x:V} {d e:DV} (h:Deep X.K H x d):Deep X.K H x e→d=e:=by
  refine Deep.rec (motive_1:=fun x d _=>∀ e,Deep X.K H x e→d=e) (motive_2:=fun xs ds _=>∀ es,Deeps X.K H xs es→ds=es) ?_ ?_ ?_ ?_ (fun h _ t e h'=>?_) (fun h _ t e h'=>?_) ?_ (fun _ _ h t e h'=>?_) h e
  · intro e h'; cases h'; rfl
  · intro _ e h'; cases h'; rfl
  · intro _ e h'; cases h'; rfl
  · intro _ e h'; cases h'; rfl
  · cases h' with
    | lst h2 t' =>
      have e:=I.list_inj h h2
      subst e
      rw [t _ t']
    | tup h2 _=>exact (I.seq_inj h h2).elim
  · cases h' with
    | tup h2 t' =>
      have e:=I.tuple_inj h h2
      subst e
      rw [t _ t']
    | lst h2 _=>exact (I.seq_inj h2 h).elim
  · intro e h'; cases h'; rfl
  · cases h' with | cons h2 t2=>rw [h _ h2,t _ t2]
theorem Deeps.inj (I:Inv X pins σ H s) {xs:List V} {ds es:List DV} (h:Deeps X.K H xs ds):Deeps X.K H xs es→ds=es :=
  Deeps.rec (motive_1:=fun _ _ _=>True) (motive_2:=fun xs ds _=>∀ es,Deeps X.K H xs es→ds=es) trivial (fun _=>trivial) (fun _=>trivial) (fun _=>trivial) (fun _ _ _=>trivial) (fun _ _ _=>trivial) (fun es h'=>by cases h'; rfl) (fun h _ _ t es h'=>by cases h' with | cons h2 t2=>rw [h.inj I h2,t _ t2]) h es
theorem both_deep (I:Inv X pins σ H s):∀ (n:Nat) (d e:DV) (x y:V) (u v:Value) (A:Around),dep d≤n→A.units+n < cLine→Deep X.K H x d→Deep X.K H y e→RelV x u→RelV y v →
    SeqAt.RcAt A s u v (deq d e)∧SeqAt.RcNeAt A s u v (!deq d e)∧SeqAt.EqAt A s u v (deq d e):=by
  intro n
  induction n with
  | zero =>
    intro d e x y u v A hd hu hx hy rx ry
    have hu0:A.units < cLine:=by (first|lia|omega)
    cases hx with
    | lst _ _=>simp only [dep] at hd; (first|lia|omega)
    | tup _ _=>simp only [dep] at hd; (first|lia|omega)
    | non =>
      cases rx
      cases hy with
      | non=>cases ry; exact ⟨SeqAt.RcAt.none_none,SeqAt.RcNeAt.none_none,SeqAt.EqAt.same _⟩
      | bl b=>cases ry; exact ⟨SeqAt.RcAt.none_bool b,SeqAt.RcNeAt.none_bool b,SeqAt.EqAt.none_bool b⟩
      | int b=>obtain ⟨t,rfl⟩:=ry; exact ⟨SeqAt.RcAt.none_int b t,SeqAt.RcNeAt.none_int b t,SeqAt.EqAt.none_int b t⟩
      | str b=>obtain ⟨t,rfl⟩:=ry; exact ⟨SeqAt.RcAt.none_str b t,SeqAt.RcNeAt.none_str b t,SeqAt.EqAt.none_str b t⟩
      | lst h _=>cases ry; obtain ⟨its,_,p,_⟩:=I.list h; exact ⟨SeqAt.RcAt.none_list p.isList hu0,SeqAt.RcNeAt.none_list p.isList hu0,SeqAt.EqAt.none_list p.isList hu0⟩
      | tup h _=>cases ry; obtain ⟨its,_,p,_⟩:=I.tuple h; exact ⟨SeqAt.RcAt.none_tuple p hu0,SeqAt.RcNeAt.none_tuple p hu0,SeqAt.EqAt.none_tuple p hu0⟩
    | bl a =>
      cases rx
      cases hy with
      | non=>cases ry; exact ⟨SeqAt.RcAt.bool_none a,SeqAt.RcNeAt.bool_none a,SeqAt.EqAt.bool_none a⟩
      | bl b=>cases ry; exact ⟨SeqAt.RcAt.bool_bool a b,SeqAt.RcNeAt.bool_bool a b,SeqAt.EqAt.bool_bool a b⟩
      | int b=>obtain ⟨t,rfl⟩:=ry; exact ⟨SeqAt.RcAt.bool_int a b t,SeqAt.RcNeAt.bool_int a b t,SeqAt.EqAt.bool_int a b t⟩
      | str b=>obtain ⟨t,rfl⟩:=ry; exact ⟨SeqAt.RcAt.bool_str a b t,SeqAt.RcNeAt.bool_str a b t,SeqAt.EqAt.bool_str a b t⟩
      | lst h _=>cases ry; obtain ⟨its,_,p,_⟩:=I.list h; exact ⟨SeqAt.RcAt.bool_list a p.isList hu0,SeqAt.RcNeAt.bool_list a p.isList hu0,SeqAt.EqAt.bool_list a p.isList hu0⟩
      | tup h _=>cases ry; obtain ⟨its,_,p,_⟩:=I.tuple h; exact ⟨SeqAt.RcAt.bool_tuple a p hu0,SeqAt.RcNeAt.bool_tuple a p hu0,SeqAt.EqAt.bool_tuple a p hu0⟩
    | int a =>
      obtain ⟨t',rfl⟩:=rx
      cases hy with
      | non=>cases ry; exact ⟨SeqAt.RcAt.int_none a t',SeqAt.RcNeAt.int_none a t',SeqAt.EqAt.int_none a t'⟩
      | bl b=>cases ry; exact ⟨SeqAt.RcAt.int_bool a t' b,SeqAt.RcNeAt.int_bool a t' b,SeqAt.EqAt.int_bool a t' b⟩
      | int b=>obtain ⟨t,rfl⟩:=ry; exact ⟨SeqAt.RcAt.int_int a t' b t,SeqAt.RcNeAt.int_int a t' b t,SeqAt.EqAt.int_int a t' b t⟩
      | str b=>obtain ⟨t,rfl⟩:=ry; exact ⟨SeqAt.RcAt.int_str a t' b t,SeqAt.RcNeAt.int_str a t' b t,SeqAt.EqAt.int_str a t' b t⟩
      | lst h _=>cases ry; obtain ⟨its,_,p,_⟩:=I.list h; exact ⟨SeqAt.RcAt.int_list a t' p.isList hu0,SeqAt.RcNeAt.int_list a t' p.isList hu0,SeqAt.EqAt.int_list a t' p.isList hu0⟩
      | tup h _=>cases ry; obtain ⟨its,_,p,_⟩:=I.tuple h; exact ⟨SeqAt.RcAt.int_tuple a t' p hu0,SeqAt.RcNeAt.int_tuple a t' p hu0,SeqAt.EqAt.int_tuple a t' p hu0⟩
    | str a =>
      obtain ⟨t',rfl⟩:=rx
      cases hy with
      | non=>cases ry; exact ⟨SeqAt.RcAt.str_none a t',SeqAt.RcNeAt.str_none a t',SeqAt.EqAt.str_none a t'⟩
      | bl b=>cases ry; exact ⟨SeqAt.RcAt.str_bool a t' b,SeqAt.RcNeAt.str_bool a t' b,SeqAt.EqAt.str_bool a t' b⟩
      | int b=>obtain ⟨t,rfl⟩:=ry; exact ⟨SeqAt.RcAt.str_int a t' b t,SeqAt.RcNeAt.str_int a t' b t,SeqAt.EqAt.str_int a t' b t⟩
      | str b=>obtain ⟨t,rfl⟩:=ry; exact ⟨SeqAt.RcAt.str_str a t' b t,SeqAt.RcNeAt.str_str a t' b t,SeqAt.EqAt.str_str a t' b t⟩
      | lst h _=>cases ry; obtain ⟨its,_,p,_⟩:=I.list h; exact ⟨SeqAt.RcAt.str_list a t' p.isList hu0,SeqAt.RcNeAt.str_list a t' p.isList hu0,SeqAt.EqAt.str_list a t' p.isList hu0⟩
      | tup h _=>cases ry; obtain ⟨its,_,p,_⟩:=I.tuple h; exact ⟨SeqAt.RcAt.str_tuple a t' p hu0,SeqAt.RcNeAt.str_tuple a t' p hu0,SeqAt.EqAt.str_tuple a t' p hu0⟩
  | succ n ih =>
    intro d e x y u v A hd hu hx hy rx ry
    have hu0:A.units < cLine:=by (first|lia|omega)
    have items:∀ {xs ys:List V} {ds es:List DV} {us vs:List Value},Deeps X.K H xs ds→Deeps X.K H ys es→deps ds≤n→Vals xs us→Vals ys vs→∀ j (h1:j < us.toArray.size) (h2:j < vs.toArray.size),SeqAt.EqAt A.in1 s us.toArray[j] vs.toArray[j] (deq (ds.getD j .non) (es.getD j .non)):=by
      intro xs ys ds es us vs hds hes hn rv rv' j h1 h2
      have h1':j < us.length:=by first|exact h1|exact List.mem_singleton.mp h1|simpa using h1
      have h2':j < vs.length:=by first|exact h2|exact List.mem_singleton.mp h2|simpa using h2
      have l1:=rv.length
      have l2:=rv'.length
      have ex:xs[j]?=some (xs[j]'(by (first|lia|omega))):=List.getElem?_eq_getElem (by (first|lia|omega))
      have ey:ys[j]?=some (ys[j]'(by (first|lia|omega))):=List.getElem?_eq_getElem (by (first|lia|omega))
      obtain ⟨d1,e1,p1,b1⟩:=hds.get ex
      obtain ⟨d2,e2,p2,b2⟩:=hes.get ey
      obtain ⟨u1,f1,r1⟩:=rv.get ex
      obtain ⟨u2,f2,r2⟩:=rv'.get ey
      have g1:us.toArray[j]=u1:=by
        have:us[j]?=some us[j]:=List.getElem?_eq_getElem h1'
        rw [f1] at this
        simpa using (Option.some.inj this).symm
      have g2:vs.toArray[j]=u2:=by
        have:vs[j]?=some vs[j]:=List.getElem?_eq_getElem h2'
        rw [f2] at this
        simpa using (Option.some.inj this).symm
      rw [g1,g2,List.getD_eq_getElem?_getD,List.getD_eq_getElem?_getD,e1,e2]
      exact (ih d1 d2 _ _ u1 u2 A.in1 (by (first|lia|omega)) (by show A.units+1+n < cLine; (first|lia|omega)) p1 p2 r1 r2).2.2
    by_cases h0:dep d≤0
    · exact ih d e x y u v A (by (first|lia|omega)) (by (first|lia|omega)) hx hy rx ry
    cases hx with
    | non=>simp only [dep] at h0; (first|lia|omega)
    | bl _=>simp only [dep] at h0; (first|lia|omega)
    | int _=>simp only [dep] at h0; (first|lia|omega)
    | str _=>simp only [dep] at h0; (first|lia|omega)
    | @lst a xs ds h t =>
      cases rx
      simp only [dep] at hd
      obtain ⟨its,rv,p,hz⟩:=I.list h
      cases hy with
      | non=>cases ry; exact ⟨SeqAt.RcAt.list_none p.isList hu0,SeqAt.RcNeAt.list_none p.isList hu0,SeqAt.EqAt.list_none p.isList hu0⟩
      | bl b=>cases ry; exact ⟨SeqAt.RcAt.list_bool b p.isList hu0,SeqAt.RcNeAt.list_bool b p.isList hu0,SeqAt.EqAt.list_bool b p.isList hu0⟩
      | int b=>obtain ⟨t2,rfl⟩:=ry; exact ⟨SeqAt.RcAt.list_int b t2 p.isList hu0,SeqAt.RcNeAt.list_int b t2 p.isList hu0,SeqAt.EqAt.list_int b t2 p.isList hu0⟩
      | str b=>obtain ⟨t2,rfl⟩:=ry; exact ⟨SeqAt.RcAt.list_str b t2 p.isList hu0,SeqAt.RcNeAt.list_str b t2 p.isList hu0,SeqAt.EqAt.list_str b t2 p.isList hu0⟩
      | tup h' _ =>
        cases ry
        obtain ⟨its',_,p',_⟩:=I.tuple h'
        exact ⟨SeqAt.RcAt.list_tuple p.isList p' hu0,SeqAt.RcNeAt.list_tuple p.isList p' hu0,SeqAt.EqAt.list_tuple p.isList p' hu0⟩
      | @lst b ys es h' t' =>
        cases ry
        obtain ⟨its',rv',p',hz'⟩:=I.list h'
        have l1:=rv.length
        have l2:=rv'.length
        have l3:=t.length
        have l4:=t'.length
        have main:SeqAt.RcAt A s (.ref a) (.ref b) (deqs ds es)∧SeqAt.RcNeAt A s (.ref a) (.ref b) (!deqs ds es):=by
          by_cases hl:ds.length=es.length
          · have e1:(List.range its.toArray.size).all (fun j=>deq (ds.getD j .non) (es.getD j .non))=deqs ds es:=by
              rw [← deqs_range hl,show its.toArray.size=ds.length by simp; (first|lia|omega)]
            rw [← e1]
            exact ⟨SeqAt.RcAt.lists p.isList p'.isList (by simp; (first|lia|omega)) hu0 (items t t' (by (first|lia|omega)) rv rv'),SeqAt.RcNeAt.lists p.isList p'.isList (by simp; (first|lia|omega)) hu0 (items t t' (by (first|lia|omega)) rv rv')⟩
          · rw [deqs_len hl]
            exact ⟨SeqAt.RcAt.lists_lengths p.isList p'.isList (by simp; (first|lia|omega)) hu0,SeqAt.RcNeAt.lists_lengths p.isList p'.isList (by simp; (first|lia|omega)) hu0⟩
        refine ⟨main.1,main.2,?_⟩
        show SeqAt.EqAt A s (.ref a) (.ref b) (deqs ds es)
        by_cases hab:a=b
        · subst hab
          have ee:=I.list_inj h h'
          subst ee
          rw [Deeps.inj I t t',deqs_refl]
          exact SeqAt.EqAt.same _
        · exact SeqAt.EqAt.of_refs hab main.1
    | @tup a xs ds h t =>
      cases rx
      simp only [dep] at hd
      obtain ⟨its,rv,p,hz⟩:=I.tuple h
      cases hy with
      | non=>cases ry; exact ⟨SeqAt.RcAt.tuple_none p hu0,SeqAt.RcNeAt.tuple_none p hu0,SeqAt.EqAt.tuple_none p hu0⟩
      | bl b=>cases ry; exact ⟨SeqAt.RcAt.tuple_bool b p hu0,SeqAt.RcNeAt.tuple_bool b p hu0,SeqAt.EqAt.tuple_bool b p hu0⟩
      | int b=>obtain ⟨t2,rfl⟩:=ry; exact ⟨SeqAt.RcAt.tuple_int b t2 p hu0,SeqAt.RcNeAt.tuple_int b t2 p hu0,SeqAt.EqAt.tuple_int b t2 p hu0⟩
      | str b=>obtain ⟨t2,rfl⟩:=ry; exact ⟨SeqAt.RcAt.tuple_str b t2 p hu0,SeqAt.RcNeAt.tuple_str b t2 p hu0,SeqAt.EqAt.tuple_str b t2 p hu0⟩
      | lst h' _ =>
        cases ry
        obtain ⟨its',_,p',_⟩:=I.list h'
        exact ⟨SeqAt.RcAt.tuple_list p p'.isList hu0,SeqAt.RcNeAt.tuple_list p p'.isList hu0,SeqAt.EqAt.tuple_list p p'.isList hu0⟩
      | @tup b ys es h' t' =>
        cases ry
        obtain ⟨its',rv',p',hz'⟩:=I.tuple h'
        have l1:=rv.length
        have l2:=rv'.length
        have l3:=t.length
        have l4:=t'.length
        have e1:((List.range (min its.toArray.size its'.toArray.size)).all (fun j=>deq (ds.getD j .non) (es.getD j .non)) && its.toArray.size == its'.toArray.size)=deqs ds es:=by
          rw [← deqs_min,show its.toArray.size=ds.length by simp; (first|lia|omega),show its'.toArray.size=es.length by simp; (first|lia|omega)]
        have main:SeqAt.RcAt A s (.ref a) (.ref b) (deqs ds es)∧SeqAt.RcNeAt A s (.ref a) (.ref b) (!deqs ds es):=by
          rw [← e1]
          exact ⟨SeqAt.RcAt.tuples p p' hu0 (items t t' (by (first|lia|omega)) rv rv'),SeqAt.RcNeAt.tuples p p' hu0 (items t t' (by (first|lia|omega)) rv rv')⟩
        refine ⟨main.1,main.2,?_⟩
        show SeqAt.EqAt A s (.ref a) (.ref b) (deqs ds es)
        by_cases hab:a=b
        · subst hab
          have ee:=I.tuple_inj h h'
          subst ee
          rw [Deeps.inj I t t',deqs_refl]
          exact SeqAt.EqAt.same _
        · exact SeqAt.EqAt.of_refs hab main.1
end
section
variable {X:Cx}
noncomputable def rEqD (K:PySem.W.Frag):R2:=fun x y H Q=>∃ d e,Deep K H x d∧Deep K H y e∧dep d≤40∧Q (.bl (deq d e)) H
noncomputable def rNeD (K:PySem.W.Frag):R2:=fun x y H Q=>∃ d e,Deep K H x d∧Deep K H y e∧dep d≤40∧Q (.bl (!deq d e)) H
theorem op_eqD (hu:X.A.units+64 < cLine):OpR X (compareOp .Eq) (rEqD X.K):=by
  intro pins s σ H x y v u Q I rx ry h
  obtain ⟨d,e,hd,he,hn,q⟩:=h
  exact (both_deep I 40 d e x y v u X.A hn (by (first|lia|omega)) hd he rx ry).1 _ _ _ _ ⟨.bl _,H,I,rfl,q⟩
theorem op_neD (hu:X.A.units+64 < cLine):OpR X (compareOp .NotEq) (rNeD X.K):=by
  intro pins s σ H x y v u Q I rx ry h
  obtain ⟨d,e,hd,he,hn,q⟩:=h
  exact (both_deep I 40 d e x y v u X.A hn (by (first|lia|omega)) hd he rx ry).2.1 _ _ _ _ ⟨.bl _,H,I,rfl,q⟩
end
end L2
namespace L2
open PySem PySem.Spec PyProof.Rows
structure Own (P:Program) (w:World) (K:PySem.W.Frag) (mg:Str→Option Value) (base:Heap) (x:Str) (k:Nat) (ps:List Str) (sp:Sp):Prop where
  ex:∃ (f:Addr) (fd:FuncData),FnOk P w K mg base CX0 k f fd ps sp∧mg x=some (.ref f)∧PySem.W.keepIn K (.ref f)=true∧Binds K fd ps []
noncomputable def Glo (mg:Str→Option Value) (x:Str) (v:V):Prop:=∃ u,mg x=some u∧RelV v u
section
variable {X:Cx}
theorem pe_own {x:Str} {k:Nat} {ps:List Str} {sp:Sp} {e:Expr} {es:List Expr} {t:TA} {p pos:Pos} (O:Own X.prog X.w X.K X.mg X.base x k ps sp) (hr:Room k X.A) (ha:PA X (e::es) t) (hg:autoParam (Gl X x) L2.aR._auto_1)
    (hdb:autoParam ((x == ("__debug__" : Str))=false) L2.aD._auto_1) (he:autoParam (starEach (e::es) X.env=(false,eval e X.env)::starEach es X.env) L2.aR._auto_1) (hpl:autoParam ((backTo pos (starEach es X.env)).any (·.1)=false) L2.aR._auto_1) :
    PE X (.Call (.Name x p) (e::es) [] pos) (tCall sp [] E0 t):=by
  obtain ⟨f,fd,F,hm,hk,hb⟩:=O.ex
  exact pe_call F hr hg hm hk hb .nil pass0 ha hdb he hpl
theorem pe_glo {x:Str} {v:V} {pos:Pos} (h:Glo X.mg x v) (hg:autoParam (Gl X x) L2.aR._auto_1) (hd:autoParam ((x == ("__debug__" : Str))=false) L2.aD._auto_1):PE X (.Name x pos) (tC v):=by
  obtain ⟨u,hm,r⟩:=h
  exact pe_glob hg hm r hd
theorem pe_ty {x:Str} {T:String} {pos:Pos} (hm:X.mg x=none) (hv:bootBuiltins x=some (.type T)) (hg:autoParam (Gl X x) L2.aR._auto_1) (hn:autoParam (x ≠ "__name__") L2.aD._auto_1) (hd:autoParam ((x == ("__debug__" : Str))=false) L2.aD._auto_1):PE X (.Name x pos) (tC (.ty T)) :=
  pe_bltn hg hm hv rfl hn hd
noncomputable def rSlA (K:PySem.W.Frag):V→Option Int→Option Int→Hp→VK→Prop:=fun x lo hi H Q=>rSlS x lo hi H Q∨rSlL K x lo hi H Q∨rSlT K x lo hi H Q
theorem sl_any:SlR X (rSlA X.K):=sl_str.or (sl_list.or sl_tup)
noncomputable def rLen (K:PySem.W.Frag):List V→Hp→VK→Prop:=fun xs H Q=>(∃ z,xs=[.str z]∧z.length≤sizeLine∧Q (.int z.length) H)∨(∃ p ys,xs=[.ref p]∧(SqL K H p ys∨SqT K H p ys)∧Q (.int ys.length) H)∨(∃ a kvs,xs=[V.ref a]∧Rd H a (.dK kvs)∧Q (.int kvs.length) H)
theorem call_lenDR:CallR X (.builtin "len") (fun xs H Q=>∃ a kvs,xs=[V.ref a]∧Rd H a (.dK kvs)∧Q (.int kvs.length) H):=by
  intro pins s σ H xs us Q I r h
  obtain ⟨a,kvs,rfl,ha,q⟩:=h
  obtain ⟨u,rfl,ru⟩:=vals1 r
  cases ru
  exact d_len I ha fun t s' I'=>⟨.int kvs.length,H,I',⟨t,rfl⟩,q⟩
theorem DGet.kR {H:Hp} {a:Addr} {kvs:List (Key×V)} {k:Key} (e:Rd H a (.dK kvs)):DGet H a (kV k) (valV kvs k):=.inl ⟨kvs,k,e,rfl,rfl⟩
theorem call_lenA:CallR X (.builtin "len") (rLen X.K):=call_len_str.or (call_len_seq.or call_lenDR)
noncomputable def rMax:List V→Hp→VK→Prop:=fun xs H Q=>∃ i j,xs=[.int i,.int j]∧Q (.int (if j > i then j else i)) H
noncomputable def rMin:List V→Hp→VK→Prop:=fun xs H Q=>∃ i j,xs=[.int i,.int j]∧Q (.int (if j < i then j else i)) H
theorem call_maxI (hc:X.calm=true):CallR X (.builtin "max") rMax:=call_max2 hc
theorem call_minI (hc:X.calm=true):CallR X (.builtin "min") rMin:=call_min2 hc
noncomputable def rAll (K:PySem.W.Frag):List V→Hp→VK→Prop:=fun xs H Q=>∃ (p:Addr) (bs:List Bool),xs=[.ref p]∧SqL K H p (bs.map V.bl)∧Q (.bl (bs.all id)) H
noncomputable def rAny (K:PySem.W.Frag):List V→Hp→VK→Prop:=fun xs H Q=>∃ (p:Addr) (bs:List Bool),xs=[.ref p]∧SqL K H p (bs.map V.bl)∧Q (.bl (bs.any id)) H
theorem call_allI (hc:X.calm=true):CallR X (.builtin "all") (rAll X.K):=call_all hc
theorem call_anyI (hc:X.calm=true):CallR X (.builtin "any") (rAny X.K):=call_any hc
noncomputable def rInS:R2:=fun x y H Q=>∃ (c:Nat) (j:Str),x=.str ⟨#[c]⟩∧y=.str j∧Q (.bl (decide (c ∈ j.cps.toList))) H
noncomputable def rNotInS:R2:=fun x y H Q=>∃ (c:Nat) (j:Str),x=.str ⟨#[c]⟩∧y=.str j∧Q (.bl (!decide (c ∈ j.cps.toList))) H
noncomputable def rInA (K:PySem.W.Frag):R2:=fun x y H Q=>rInS x y H Q∨rIn K false x y H Q
noncomputable def rNotInA (K:PySem.W.Frag):R2:=fun x y H Q=>rNotInS x y H Q∨rIn K true x y H Q
theorem op_inA:OpR X (compareOp .In) (rInA X.K):=OpR.or op_in_sign op_in_seq
theorem op_notInA:OpR X (compareOp .NotIn) (rNotInA X.K):=OpR.or op_notIn_sign op_notIn_seq
end
section
variable {σ:St} {H:Hp} {Q:VK} {R:Bool→Hp→Prop} {QA:List V→Hp→Prop} {D:Ends} {K:PySem.W.Frag}
end
theorem same_new {H:Hp} {p:Addr} {o:HO} (hp:H p=none):Same H (upd H p o):=fun b u h=>by rw [upd_ne (ne_of_none h hp)]; exact h
theorem SqT.same {K:PySem.W.Frag} {H H':Hp} {a:Addr} {xs:List V} (h:SqT K H a xs) (e:Same H H'):SqT K H' a xs:=by
  rcases h with (h | ⟨o,h⟩) | h
  · exact .inl (.inl (e _ _ h))
  · exact .inl (.inr ⟨o,e _ _ h⟩)
  · exact .inr h
end L2
namespace L2
open PySem PySem.Spec PyProof.Rows
noncomputable def capOk (N:List Str) (names:List (Str×NameKind)):List Str→List Nat→Bool
  | [],[]=>true
  | x::F,i::ixs=>(N[i]? == some x) && (names.lookup x == some .free) && capOk N names F ixs
  | _,_=>false
theorem capOk_at {N:List Str} {names:List (Str×NameKind)}:∀ {F:List Str} {ixs:List Nat},capOk N names F ixs=true→ixs.length=F.length ∧
    ∀ (j i:Nat) (x:Str),ixs[j]?=some i→F[j]?=some x→N[i]?=some x∧names.lookup x=some .free
  | [],[],_=>⟨rfl,fun j i x h=>by simp at h⟩
  | [],_::_,h=>(Bool.false_ne_true h).elim
  | _::_,[],h=>(Bool.false_ne_true h).elim
  | y::F,k::ixs,h=>by
    obtain ⟨h,h3⟩:=Bool.and_eq_true_iff.mp h
    obtain ⟨h1,h2⟩:=Bool.and_eq_true_iff.mp h
    replace h1:=eq_of_beq h1
    replace h2:=eq_of_beq h2
    obtain ⟨l,r⟩:=capOk_at h3
    refine ⟨by rw [List.length_cons,List.length_cons,l],fun j i x a b=>?_⟩
    cases j with
    | zero =>
      simp at a b
      subst a b
      exact ⟨h1,h2⟩
    | succ j=>exact r j i x (by first|exact a|exact List.mem_singleton.mp a|simpa using a) (by first|exact b|exact List.mem_singleton.mp b|simpa using b)
noncomputable def nmOk (names out:List (Str×NameKind)):Bool:=names.all fun y=>(y.2 != .cell) && (y.2 != .local || names.lookup y.1 == some .local) && (y.2 != .free || out.lookup y.1 == some .cell || out.lookup y.1 == some .free)
theorem CompScope.of {X:Cx} {T F:List Str} {ixs:List Nat} {scope:Scope} (kind:scope.kind=.function) (h1:capOk X.N scope.names F ixs=true) (h2:nmOk scope.names X.env.scope.names=true):CompScope X T F ixs scope:=by
  obtain ⟨l,c⟩:=capOk_at h1
  unfold nmOk at h2
  rw [List.all_eq_true] at h2
  refine ⟨kind,fun y hy=>?_,fun y hy e=>?_,fun j i x=>c j i x,l,fun y hy e=>?_⟩
  · have:=h2 y hy
    simp only [Bool.and_eq_true] at this
    simpa using this.1.1
  · have:=h2 y hy
    simp only [Bool.and_eq_true] at this
    have q:=this.1.2
    rw [e] at q
    simpa using q
  · have:=h2 y hy
    simp only [Bool.and_eq_true] at this
    have q:=this.2
    rw [e] at q
    simpa using q
section
variable {X:Cx}
noncomputable def rEqA (K:PySem.W.Frag):R2:=fun x y H Q=>rEq x y H Q∨rEqD K x y H Q
noncomputable def rNeA (K:PySem.W.Frag):R2:=fun x y H Q=>rNe x y H Q∨rNeD K x y H Q
theorem op_eqA (hu:X.A.units+64 < cLine):OpR X (compareOp .Eq) (rEqA X.K):=op_eq.or (op_eqD hu)
theorem op_neA (hu:X.A.units+64 < cLine):OpR X (compareOp .NotEq) (rNeA X.K):=op_ne.or (op_neD hu)
end
end L2
namespace L2
open PySem
theorem kb_len:bootBuiltins "len" = some (.builtin "len"):=by decide +kernel
theorem kb_max:bootBuiltins "max" = some (.builtin "max"):=by decide +kernel
theorem kb_min:bootBuiltins "min" = some (.builtin "min"):=by decide +kernel
theorem kb_isinstance:bootBuiltins "isinstance" = some (.builtin "isinstance"):=by decide +kernel
theorem kb_all:bootBuiltins "all" = some (.builtin "all"):=by decide +kernel
theorem kb_any:bootBuiltins "any" = some (.builtin "any"):=by decide +kernel
theorem kb_sorted:bootBuiltins "sorted" = some (.builtin "sorted"):=by decide +kernel
theorem kb_list:bootBuiltins "list" = some (.type "list"):=by decide +kernel
theorem kb_tuple:bootBuiltins "tuple" = some (.type "tuple"):=by decide +kernel
theorem kb_set:bootBuiltins "set" = some (.type "set"):=by decide +kernel
end L2
namespace L2
open PySem
theorem atI_lt {α:Type} {xs:List α} {i:Int} (h0:0≤i) (h:i < xs.length):∃ c,atI xs i=some c∧c ∈ xs:=by
  obtain ⟨k,rfl⟩:=Int.eq_ofNat_of_zero_le h0
  have hk:k < xs.length:=by (first|lia|omega)
  exact ⟨xs[k],atI_nat (List.getElem?_eq_getElem hk),List.getElem_mem hk⟩
theorem cutL_mem {α:Type} {xs:List α} {lo hi:Option Int} {c:α} (h:c ∈ cutL xs lo hi):c ∈ xs:=List.mem_of_mem_drop (List.mem_of_mem_take h)
theorem cutL_le {α:Type} (xs:List α) (lo hi:Option Int):(cutL xs lo hi).length≤xs.length:=by
  unfold cutL
  rw [List.length_take,List.length_drop]
  (first|lia|omega)
theorem cutL_to {α:Type} (xs:List α) (k:Nat):cutL xs none (some (k:Int))=xs.take k:=by
  unfold cutL
  rw [HT.sIx_none,HT.sIx_nat,Nat.sub_zero,List.drop_zero]
  by_cases h:k≤xs.length
  · rw [Nat.min_eq_left h]
  · rw [Nat.min_eq_right (by (first|lia|omega)),List.take_of_length_le (Nat.le_refl _),List.take_of_length_le (by (first|lia|omega))]
theorem cutL_from {α:Type} (xs:List α) (k:Nat):cutL xs (some (k:Int)) none=xs.drop k:=by
  unfold cutL
  rw [HT.sIx_none,HT.sIx_nat]
  by_cases h:k≤xs.length
  · rw [Nat.min_eq_left h,List.take_of_length_le (by rw [List.length_drop]; (first|lia|omega))]
  · rw [Nat.min_eq_right (by (first|lia|omega)),List.drop_of_length_le (Nat.le_refl _),List.drop_of_length_le (by (first|lia|omega))]
    simp
theorem str_len {z:Str} {l:List Nat} (h:z.cps.toList=l):z.length=l.length:=by rw [← h]; simp [Str.length]
end L2
namespace L2
open PySem PySem.Spec PyProof.Rows
section
variable {X:Cx}
theorem op_eqK (K:PySem.W.Frag) (hu:X.A.units+64 < cLine) (h:autoParam (X.K=K) L2.aR._auto_1):OpR X (compareOp .Eq) (rEqA K):=by subst h; exact op_eqA hu
theorem op_neK (K:PySem.W.Frag) (hu:X.A.units+64 < cLine) (h:autoParam (X.K=K) L2.aR._auto_1):OpR X (compareOp .NotEq) (rNeA K):=by subst h; exact op_neA hu
theorem sl_anyK (K:PySem.W.Frag) (h:autoParam (X.K=K) L2.aR._auto_1):SlR X (rSlA K):=by subst h; exact sl_any
theorem call_lenK (K:PySem.W.Frag) (h:autoParam (X.K=K) L2.aR._auto_1):CallR X (.builtin "len") (rLen K):=by subst h; exact call_lenA
theorem call_allK (K:PySem.W.Frag) (hc:X.calm=true) (h:autoParam (X.K=K) L2.aR._auto_1):CallR X (.builtin "all") (rAll K):=by subst h; exact call_allI hc
theorem call_anyK (K:PySem.W.Frag) (hc:X.calm=true) (h:autoParam (X.K=K) L2.aR._auto_1):CallR X (.builtin "any") (rAny K):=by subst h; exact call_anyI hc
theorem mt_joinK (K:PySem.W.Frag) (h:autoParam (X.K=K) L2.aR._auto_1):MtR X "str.join" (rJoin K):=by subst h; exact mt_join
theorem pe_bmK {o e:Expr} {es:List Expr} {to:TE} {t:TA} {name:Str} {apos cpos:Pos} {T id:String} {r:V→List V→Hp→VK→Prop} (K:PySem.W.Frag) (pa:PlainAttrs T) (slot:Slot T name id) (hty:typeOf (.builtin id)=pure (.type "method_descriptor")) (hm:MtR X id r) (ho:PE X o to) (ha:PA X (e::es) t)
    (hK:autoParam (X.K=K) L2.aR._auto_1) (hbase:autoParam (attributeBase o name X.env (eval o X.env)=eval o X.env) L2.aR._auto_1)
    (hfew:autoParam (((backTo cpos (starEach (e::es) X.env)).all (fun x=>!x.1) && (backToKw cpos (keywordEach [] X.env)).all (fun x=>x.1.isSome)
      && decide ((e::es).length+([]:List Keyword).length+(if ([]:List Keyword).isEmpty then 0 else 1) < 30))=true) L2.aR._auto_1)
    (hline:autoParam ((apos.endLine == cpos.line)=true) L2.aR._auto_1) (hs:autoParam (starEach (e::es) X.env=(false,eval e X.env)::starEach es X.env) L2.aR._auto_1) (hplain:autoParam ((backTo cpos (starEach es X.env)).any (·.1)=false) L2.aR._auto_1) :
    PE X (.Call (.Attribute o name apos) (e::es) [] cpos) (tBM K T r to t):=by subst hK; exact pe_bm pa slot hty hm ho ha hbase hfew hline hs hplain
theorem pg_tupK {es:List Expr} {k:Nat} {t:TGs} {n:Nat} {pos:Pos} (K:PySem.W.Frag) (hc:X.calm=true) (h:PGs X es t) (hK:autoParam (X.K=K) L2.aR._auto_1)
    (hn:autoParam ((assignEach es X.env).length=n) L2.aR._auto_1) (hst:autoParam ((assignEach es X.env).findIdx? (·.1)=none) L2.aR._auto_1):PG X (.Tuple es k pos) (gTup K n t):=by subst hK; exact pg_tup hc h hn hst
theorem pi_listK {tg l:Expr} {tl:TE} (K:PySem.W.Frag) (hl:PE X l tl) (hK:autoParam (X.K=K) L2.aR._auto_1):PI X tg l (iList K tl):=by subst hK; exact pi_list hl
theorem pi_tupK {tg l:Expr} {tl:TE} (K:PySem.W.Frag) (hl:PE X l tl) (hK:autoParam (X.K=K) L2.aR._auto_1):PI X tg l (iTup K tl):=by subst hK; exact pi_tup hl
end
end L2
namespace L2
open PySem
end L2
namespace L2
theorem sum_ones {α:Type}:∀ zs:List α,(zs.map fun _=>1).sum=zs.length
  | []=>rfl
  | z::zs=>by rw [List.map_cons,List.sum_cons,sum_ones zs,List.length_cons]; (first|lia|omega)
end L2
namespace L2
open PySem PySem.Spec PyProof.Rows
end L2
namespace L2
open PySem PySem.Spec PyProof.Rows
noncomputable def notStar:Expr→Bool
  | .Starred _ _=>false
  | _=>true
theorem star_cons {e:Expr} {es:List Expr} {env:Env} (h:notStar e=true):starEach (e::es) env=(false,eval e env)::starEach es env:=by
  cases e <;> first | rfl | (cases h)
theorem star_none {es:List Expr} {env:Env} {pos:Pos} (h:es.all notStar=true):(backTo pos (starEach es env)).any (·.1)=false:=by
  induction es with
  | nil=>rfl
  | cons e es ih =>
    rw [List.all_cons,Bool.and_eq_true] at h
    rw [star_cons h.1]
    have:=ih h.2
    simpa [backTo] using this
section
variable {X:Cx}
theorem pa_c {e:Expr} {es:List Expr} {te:TE} {t:TA} (ha:PE X e te) (hr:PA X es t) (hn:autoParam (notStar e=true) L2.aR._auto_1):PA X (e::es) (tCons te t):=pa_cons ha hr (star_cons hn)
theorem pe_ownQ {x:Str} {k:Nat} {ps:List Str} {sp:Sp} {e:Expr} {es:List Expr} {t:TA} {p pos:Pos} (O:Own X.prog X.w X.K X.mg X.base x k ps sp) (hr:Room k X.A) (ha:PA X (e::es) t) (hg:autoParam (Gl X x) L2.aR._auto_1) (hn:autoParam ((e::es).all notStar=true) L2.aR._auto_1)
    (hdb:autoParam ((x == ("__debug__" : Str))=false) L2.aD._auto_1):PE X (.Call (.Name x p) (e::es) [] pos) (tCall sp [] E0 t):=by
  have h:=hn
  rw [List.all_cons,Bool.and_eq_true] at h
  exact pe_own O hr ha hg hdb (star_cons h.1) (star_none h.2)
theorem pe_callBQ {x:Str} {p pos:Pos} {e:Expr} {es:List Expr} {t:TA} {id:String} {r:List V→Hp→VK→Prop} (hc:CallR X (.builtin id) r) (hm:X.mg x=none) (hv:bootBuiltins x=some (.builtin id)) (ha:PA X (e::es) t) (hg:autoParam (Gl X x) L2.aR._auto_1) (hns:autoParam ((e::es).all notStar=true) L2.aR._auto_1) (hn:autoParam (x ≠ "__name__") L2.aD._auto_1)
    (hdb:autoParam ((x == ("__debug__" : Str))=false) L2.aD._auto_1):PE X (.Call (.Name x p) (e::es) [] pos) (tCB r t):=by
  have h:=hns
  rw [List.all_cons,Bool.and_eq_true] at h
  exact pe_callB hc hg hm hv ha hn hdb (star_cons h.1) (star_none h.2)
theorem pe_callTQ {x:Str} {p pos:Pos} {e:Expr} {es:List Expr} {t:TA} {T:String} {r:List V→Hp→VK→Prop} (hc:CallR X (.type T) r) (hm:X.mg x=none) (hv:bootBuiltins x=some (.type T)) (ha:PA X (e::es) t) (hg:autoParam (Gl X x) L2.aR._auto_1) (hns:autoParam ((e::es).all notStar=true) L2.aR._auto_1) (hn:autoParam (x ≠ "__name__") L2.aD._auto_1)
    (hdb:autoParam ((x == ("__debug__" : Str))=false) L2.aD._auto_1):PE X (.Call (.Name x p) (e::es) [] pos) (tCB r t):=by
  have h:=hns
  rw [List.all_cons,Bool.and_eq_true] at h
  exact pe_callTy hc hg hm hv ha hn hdb (star_cons h.1) (star_none h.2)
end
end L2
namespace L2
open PySem PySem.Spec PyProof.Rows
structure BE (X:Cx) (e:Expr) (t:TE):Prop where h:PE X e t
structure BT (X:Cx) (e:Expr) (t:TT):Prop where h:PT X e t
structure BW (X:Cx) (e:Expr) (t:TT):Prop where h:PW X e t
structure BA (X:Cx) (es:List Expr) (t:TA):Prop where h:PA X es t
structure BS (X:Cx) (s:Stmt) (t:TS):Prop where h:PS X s t
structure BSs (X:Cx) (s:List Stmt) (t:TS):Prop where h:PSs X s t
structure BG (X:Cx) (e:Expr) (t:TG):Prop where h:PG X e t
structure BGs (X:Cx) (es:List Expr) (t:TGs):Prop where h:PGs X es t
structure BI (X:Cx) (tg e:Expr) (t:TI):Prop where h:PI X tg e t
structure BO (X:Cx) (e:Option Expr) (t:TO):Prop where h:PO X e t
structure BIf (X:Cx) (es:List Expr) (t:TT):Prop where h:PIfs X es t
structure BOp (X:Cx) (f:Value→Value→Sem Value) (r:R2):Prop where h:OpR X f r
structure BCall (X:Cx) (f:Value) (r:List V→Hp→VK→Prop):Prop where h:CallR X f r
structure BMt (X:Cx) (id:String) (r:V→List V→Hp→VK→Prop):Prop where h:MtR X id r
section
variable {X:Cx}
theorem we_var (i:Nat) {x:Str} {pos:Pos} (hN:X.N[i]?=some x) (hv:Vis X.env.scope x) (hd:autoParam ((x == ("__debug__" : Str))=false) L2.aD._auto_1) (hcd:autoParam ((x == ("__classdict__" : Str))=false) L2.aD._auto_1):BE X (.Name x pos) (tVar i):=⟨pe_var hN hv hd hcd⟩
theorem we_int {i j pos}:BE X (.Constant (.int i) j pos) (tC (.int i)):=⟨pe_int⟩
theorem we_bl {b j pos}:BE X (.Constant (.bool b) j pos) (tC (.bl b)):=⟨pe_bl⟩
theorem we_non {j pos}:BE X (.Constant .none j pos) (tC .non):=⟨pe_non⟩
theorem we_str {x j pos}:BE X (.Constant (.str x) j pos) (tC (.str x)):=⟨pe_str⟩
theorem we_glo {x:Str} {v:V} {pos:Pos} (h:Glo X.mg x v) (hg:X.env.kindOf x=some .globalImplicit) (hd:autoParam ((x == ("__debug__" : Str))=false) L2.aD._auto_1):BE X (.Name x pos) (tC v):=⟨pe_glo h hg hd⟩
theorem we_ty {x:Str} {T:String} {pos:Pos} (hm:X.mg x=none) (hv:bootBuiltins x=some (.type T)) (hg:X.env.kindOf x=some .globalImplicit) (hn:autoParam (x ≠ "__name__") L2.aD._auto_1) (hd:autoParam ((x == ("__debug__" : Str))=false) L2.aD._auto_1):BE X (.Name x pos) (tC (.ty T)):=⟨pe_ty hm hv hg hn hd⟩
theorem we_op {a b:Expr} {ta tb:TE} {pos:Pos} {op:Operator} {r:R2} (ho:BOp X (binaryOp op) r) (ha:BE X a ta) (hb:BE X b tb):BE X (.BinOp a op b pos) (tOp r ta tb):=⟨pe_op ho.h ha.h hb.h⟩
theorem we_neg {a:Expr} {ta:TE} {pos:Pos} (ha:BE X a ta):BE X (.UnaryOp .USub a pos) (tUn (rU fun i=>.int (-i)) ta):=⟨pe_un un_neg ha.h⟩
theorem we_one {op} {a:Expr} {t:TE} {pos:Pos} (h:BE X a t):BE X (.BoolOp op [a] pos) t:=⟨pe_one h.h⟩
theorem we_and {a b:Expr} {rest:List Expr} {ta tb:TE} {pos:Pos} (ha:BE X a ta) (hb:BE X (.BoolOp .And (b::rest) pos) tb):BE X (.BoolOp .And (a::b::rest) pos) (tAndV ta tb):=⟨pe_and ha.h hb.h⟩
theorem we_cmp {a b:Expr} {ta tb:TE} {pos:Pos} {op:CmpOp} {r:R2} (ho:BOp X (compareOp op) r) (ha:BE X a ta) (hb:BE X b tb) (hm:behindInMarks op b=false):BE X (.Compare a [op] [b] pos) (tOp r ta tb):=⟨pe_cmpR ho.h ha.h hb.h hm⟩
theorem we_own {x:Str} {k:Nat} {ps:List Str} {sp:Sp} {e:Expr} {es:List Expr} {t:TA} {p pos:Pos} (O:Own X.prog X.w X.K X.mg X.base x k ps sp) (hr:Room k X.A) (ha:BA X (e::es) t) (hg:X.env.kindOf x=some .globalImplicit) (hn:(e::es).all notStar=true)
    (hdb:autoParam ((x == ("__debug__" : Str))=false) L2.aD._auto_1):BE X (.Call (.Name x p) (e::es) [] pos) (tCall sp [] E0 t):=⟨pe_ownQ O hr ha.h hg hn hdb⟩
theorem we_callB {x:Str} {p pos:Pos} {e:Expr} {es:List Expr} {t:TA} {id:String} {r:List V→Hp→VK→Prop} (hc:BCall X (.builtin id) r) (hm:X.mg x=none) (hv:bootBuiltins x=some (.builtin id)) (ha:BA X (e::es) t) (hg:X.env.kindOf x=some .globalImplicit) (hns:(e::es).all notStar=true) (hn:autoParam (x ≠ "__name__") L2.aD._auto_1)
    (hdb:autoParam ((x == ("__debug__" : Str))=false) L2.aD._auto_1):BE X (.Call (.Name x p) (e::es) [] pos) (tCB r t):=⟨pe_callBQ hc.h hm hv ha.h hg hns hn hdb⟩
theorem we_callT {x:Str} {p pos:Pos} {e:Expr} {es:List Expr} {t:TA} {T:String} {r:List V→Hp→VK→Prop} (hc:BCall X (.type T) r) (hm:X.mg x=none) (hv:bootBuiltins x=some (.type T)) (ha:BA X (e::es) t) (hg:X.env.kindOf x=some .globalImplicit) (hns:(e::es).all notStar=true) (hn:autoParam (x ≠ "__name__") L2.aD._auto_1)
    (hdb:autoParam ((x == ("__debug__" : Str))=false) L2.aD._auto_1):BE X (.Call (.Name x p) (e::es) [] pos) (tCB r t):=⟨pe_callTQ hc.h hm hv ha.h hg hns hn hdb⟩
theorem few_args {es:List Expr} {env:Env} {pos:Pos} (h:es.all notStar=true) (hl:es.length < 29):((backTo pos (starEach es env)).all (fun x=>!x.1) && (backToKw pos (keywordEach [] env)).all (fun x=>x.1.isSome)
      && decide (es.length+([]:List Keyword).length+(if ([]:List Keyword).isEmpty then 0 else 1) < 30))=true:=by
  have h1:(backTo pos (starEach es env)).all (fun x=>!x.1)=true:=by
    clear hl
    induction es with
    | nil=>rfl
    | cons e es ih =>
      rw [List.all_cons,Bool.and_eq_true] at h
      rw [star_cons h.1]
      exact ih h.2
  rw [h1]
  exact decide_eq_true (Nat.lt_succ_of_lt hl)
theorem we_meth {o e:Expr} {es:List Expr} {to:TE} {t:TA} {name:Str} {apos cpos:Pos} {T id:String} {r:V→List V→Hp→VK→Prop} (K:PySem.W.Frag) (pa:PlainAttrs T) (slot:Slot T name id) (hty:typeOf (.builtin id)=pure (.type "method_descriptor")) (hm:BMt X id r) (ho:BE X o to) (ha:BA X (e::es) t)
    (hK:X.K=K) (hbase:attributeBase o name X.env (eval o X.env)=eval o X.env) (hn:(e::es).all notStar=true) (hl:(e::es).length < 29) (hline:(apos.endLine == cpos.line)=true):BE X (.Call (.Attribute o name apos) (e::es) [] cpos) (tBM K T r to t):=by
  have h:=hn
  rw [List.all_cons,Bool.and_eq_true] at h
  exact ⟨pe_bmK K pa slot hty hm.h ho.h ha.h hK hbase (few_args hn hl) hline (star_cons h.1) (star_none h.2)⟩
theorem we_slice {e:Expr} {te:TE} {lo hi:Option Expr} {tl th:TO} {pos p2:Pos} (K:PySem.W.Frag) (he:BE X e te) (hl:BO X lo tl) (hu:BO X hi th) (hK:X.K=K):BE X (.Subscript e (.Slice lo hi none p2) pos) (tSl (rSlA K) te tl th):=⟨pe_slice (sl_anyK K hK) he.h hl.h hu.h⟩
theorem we_lst {es:List Expr} {t:TA} {pos:Pos} (h:BA X es t):BE X (.List es pos) (tLst t):=⟨pe_lst h.h⟩
theorem we_tup {es:List Expr} {t:TA} {x1} {pos:Pos} (h:BA X es t):BE X (.Tuple es x1 pos) (tTup t):=⟨pe_tup h.h⟩
theorem we_dnew {pos:Pos}:BE X (.Dict [] [] pos) tDNewK:=⟨pe_dnewK⟩
theorem we_comp {T F:List Str} {ixs:List Nat} {scope:Scope} {elt tg iter:Expr} {ifs:List Expr} {pos:Pos} {wi:TI} {g:TG} {tc:TT} {te:TE} (hc:X.calm=true) (S:CompScope X T F ixs scope) (hi:BI X tg iter wi)
    (hg:∀ C s H fp,BG (cxComp X (T++F) scope (clFrom X.env scope.names []) C s H fp) tg g) (ht:∀ C s H fp,BIf (cxComp X (T++F) scope (clFrom X.env scope.names []) C s H fp) ifs tc) (he:∀ C s H fp,BE (cxComp X (T++F) scope (clFrom X.env scope.names []) C s H fp) elt te)
    (hs:∀ x,foldedSetIterable iter X.env x=pure x):BE X (.ListComp elt [⟨tg,iter,ifs,0⟩] scope pos) (tComp T.length ixs wi g tc te) :=
  ⟨pe_comp hc S hi.h (fun C s H fp=>(hg C s H fp).h) (fun C s H fp=>(ht C s H fp).h) (fun C s H fp=>(he C s H fp).h) hs⟩
theorem wa_nil:BA X [] tNil:=⟨pa_nil⟩
theorem wa_c {e:Expr} {es:List Expr} {te:TE} {t:TA} (ha:BE X e te) (hr:BA X es t) (hn:notStar e=true):BA X (e::es) (tCons te t):=⟨pa_c ha.h hr.h hn⟩
theorem wo_none:BO X none tNoPart:=⟨po_none⟩
theorem wo_some {e:Expr} {te:TE} (h:BE X e te):BO X (some e) (tPart te):=⟨po_some h.h⟩
theorem wif_nil:BIf X [] tYes:=⟨pif_nil⟩
theorem wif_one {c:Expr} {t:TT} (h:BT X c t):BIf X [c] t:=⟨pif_one h.h⟩
theorem wt_cmp {a b:Expr} {ta tb:TE} {pos:Pos} {op:CmpOp} {r:R2} (ho:BOp X (compareOp op) r) (ha:BE X a ta) (hb:BE X b tb) (hm:behindInMarks op b=false):BT X (.Compare a [op] [b] pos) (tTest (tOp r ta tb)):=⟨pt_cmpR ho.h ha.h hb.h hm⟩
theorem wt_chain {a b c:Expr} {ta tb tc:TE} {pos:Pos} {op op':CmpOp} {r r':R2} (ho:BOp X (compareOp op) r) (ho':BOp X (compareOp op') r') (ha:BE X a ta) (hb:BE X b tb) (hc:BE X c tc) (hm:lastMarks [op,op'] [b,c]=false):BT X (.Compare a [op,op'] [b,c] pos) (tTest (tChain r r' ta tb tc)):=⟨pt_chain ho.h ho'.h ha.h hb.h hc.h hm⟩
theorem wt_not {a:Expr} {tA:TT} {pos:Pos} (ha:BT X a tA):BT X (.UnaryOp .Not a pos) (tNot tA):=⟨pt_not ha.h⟩
theorem wt_w {e:Expr} {t:TT} (h:BW X e t):BT X e t:=⟨h.h.pt⟩
theorem ww_and1 {a:Expr} {tA:TT} {pos:Pos} (ha:BT X a tA):BW X (.BoolOp .And [a] pos) tA:=⟨pw_and1 ha.h⟩
theorem ww_or1 {a:Expr} {tA:TT} {pos:Pos} (ha:BT X a tA):BW X (.BoolOp .Or [a] pos) tA:=⟨pw_or1 ha.h⟩
theorem ww_and {a b:Expr} {rest:List Expr} {tA tB':TT} {pos:Pos} (ha:BT X a tA) (hb:BW X (.BoolOp .And (b::rest) pos) tB'):BW X (.BoolOp .And (a::b::rest) pos) (tAnd tA tB'):=⟨pw_and ha.h hb.h⟩
theorem ww_or {a b:Expr} {rest:List Expr} {tA tB':TT} {pos:Pos} (ha:BT X a tA) (hb:BW X (.BoolOp .Or (b::rest) pos) tB'):BW X (.BoolOp .Or (a::b::rest) pos) (tOr tA tB'):=⟨pw_or ha.h hb.h⟩
theorem wt_call {f:Expr} {as:List Expr} {ks:List Keyword} {pos:Pos} {t:TE} (h:BE X (.Call f as ks pos) t):BT X (.Call f as ks pos) (tB t):=⟨pt_val h.h (by intro _; cases f <;> rfl)⟩
noncomputable def tTru (K:PySem.W.Frag) (ta:TE):TT:=fun σ H Q=>ta σ H fun x H'=>∃ k,TruV K x H' k∧Q k H'
theorem wt_name {x:Str} {pos:Pos} {t:TE} (K:PySem.W.Frag) (h:BE X (.Name x pos) t) (hK:X.K=K):BT X (.Name x pos) (tTru K t):=by subst hK; exact ⟨pt_truth h.h (fun _=>rfl)⟩
theorem wg_name {pos:Pos} {i:Nat} {x:Str} (hN:X.N.Nodup) (hi:X.N[i]?=some x) (hx:Loc X.env.scope x) (hf:X.fn x=true∨X.env.scope.names.lookup x=some .local):BG X (.Name x pos) (gName i):=⟨pg_name hN hi hx hf⟩
theorem wgs_nil:BGs X [] gNil:=⟨pgs_nil⟩
theorem wgs_cons {e:Expr} {es:List Expr} {t:TG} {u:TGs} (h1:BG X e t) (h2:BGs X es u) (hs:(assignEach (e::es) X.env).map (·.2)=assign e X.env::(assignEach es X.env).map (·.2)):BGs X (e::es) (gCons t u):=⟨pgs_cons h1.h h2.h hs⟩
theorem wg_tup {es:List Expr} {k:Nat} {t:TGs} {n:Nat} {pos:Pos} (K:PySem.W.Frag) (hc:X.calm=true) (h:BGs X es t) (hK:X.K=K) (hn:(assignEach es X.env).length=n) (hst:(assignEach es X.env).findIdx? (·.1)=none):BG X (.Tuple es k pos) (gTup K n t):=⟨pg_tupK K hc h.h hK hn hst⟩
theorem wg_sub {o i:Expr} {to ti:TE} {pos:Pos} (ho:BE X o to) (hi:BE X i ti)
    (ha:∀ v,assign (.Subscript o i pos) X.env v=(do
      let ov ← holding [v] (eval o X.env)
      let iv ← holding [v,ov] (eval i X.env)
      standAt pos
      holding [v,ov,iv] (setItem ov iv v)
      release [v,ov,iv] [])):BG X (.Subscript o i pos) (gSub to ti rSetL):=⟨pg_sub ho.h hi.h set_list ha⟩
theorem wi_list {tg l:Expr} {tl:TE} (K:PySem.W.Frag) (hl:BE X l tl) (hK:X.K=K):BI X tg l (iList K tl):=⟨pi_listK K hl.h hK⟩
theorem wi_tup {tg l:Expr} {tl:TE} (K:PySem.W.Frag) (hl:BE X l tl) (hK:X.K=K):BI X tg l (iTup K tl):=⟨pi_tupK K hl.h hK⟩
theorem wi_range1 {tg a:Expr} {ta:TA} {p pos:Pos} (hg:X.env.kindOf "range" = some .globalImplicit) (hm:X.mg "range" = none) (ha:BA X [a] ta) (hn:notStar a=true):BI X tg (.Call (.Name "range" p) [a] [] pos) (iRng1 ta):=⟨pi_range1 hg hm ha.h (star_cons hn)⟩
theorem wss_nil:BSs X [] tNext:=⟨pss_nil⟩
theorem wss_one {st:Stmt} {t:TS} (h:BS X st t):BSs X [st] t:=⟨pss_one h.h⟩
theorem wss_cons {st:Stmt} {rest:List Stmt} {t u:TS} (h1:BS X st t) (h2:BSs X rest u):BSs X (st::rest) (tSeq t u):=⟨pss_cons h1.h h2.h⟩
theorem ws_break {pos:Pos}:BS X (.Break pos) tBreak:=⟨ps_break⟩
theorem ws_expr {e:Expr} {te:TE} {pos:Pos} (he:BE X e te) (hs:swapsWith e none pos.line X.env=pure false):BS X (.Expr e pos) (tDrop te):=⟨ps_expr he.h hs⟩
theorem ws_ret {e:Expr} {te:TE} {pos:Pos} (he:BE X e te):BS X (.Return (some e) pos) (tRet te):=⟨ps_ret he.h⟩
theorem ws_if {c:Expr} {a b:List Stmt} {tc:TT} {t u:TS} {pos:Pos} (hc:BT X c tc) (ha:BSs X a t) (hb:BSs X b u):BS X (.If c a b pos) (tIfS tc t u):=⟨ps_if hc.h ha.h hb.h⟩
theorem ws_set {i:Nat} {x:Str} {e:Expr} {te:TE} {pos' pos:Pos} (hN:X.N.Nodup) (hi:X.N[i]?=some x) (hx:Loc X.env.scope x) (he:BE X e te) (hs:swapsWith e (some (.Name x pos')) pos.line X.env=pure false) (hf:X.fn x=true∨X.env.scope.names.lookup x=some .local) :
    BS X (.Assign [.Name x pos'] e pos) (tAsg te (gName i)):=⟨ps_set hN hi hx he.h hs hf⟩
theorem ws_asg {tg e:Expr} {te:TE} {g:TG} {pos:Pos} (he:BE X e te) (hg:BG X tg g) (hs:swapsWithSole [tg] e pos.line X.env=pure false) (hw:swappedStores [tg] e X.env=pure none) (h1:(assignEach [tg] X.env).map (·.2)=[assign tg X.env]):BS X (.Assign [tg] e pos) (tAsg te g):=⟨ps_asg he.h hg.h hs hw h1⟩
theorem ws_for {tg iter:Expr} {body:List Stmt} {wi:TI} {g:TG} {tb:TS} {pos:Pos} (hp:PassesOwn (model X.prog X.w) X.A X.env X.xe) (hc:X.calm=true) (hi:BI X tg iter wi) (hg:BG X tg g) (hb:BSs X body tb) (hs:∀ x,foldedSetIterable iter X.env x=pure x):BS X (.For tg iter body [] pos) (tFor wi g tb):=⟨ps_for hp hc hi.h hg.h hb.h hs⟩
theorem ws_while {c:Expr} {body:List Stmt} {tc:TT} {tb:TS} {pos:Pos} (hp:PassesOwn (model X.prog X.w) X.A X.env X.xe) (hc:BT X c tc) (hb:BSs X body tb):BS X (.While c body [] pos) (tWhile tc tb):=⟨ps_while hp hc.h hb.h⟩
theorem wop_sub:BOp X (binaryOp .Sub) (rI0 fun i j=>.int (i - j)):=⟨op_sub⟩
theorem wop_mul:BOp X (binaryOp .Mult) (rI CMul fun i j=>.int (i * j)):=⟨op_mul⟩
theorem wop_fdiv:BOp X (binaryOp .FloorDiv) (rI CDiv fun i j=>.int (i / j)):=⟨op_fdiv⟩
theorem wop_mod:BOp X (binaryOp .Mod) (rI (fun _ j=>0 < j) fun i j=>.int (i % j)):=⟨op_mod⟩
theorem wop_pow:BOp X (binaryOp .Pow) (rI CPow fun i j=>.int (i ^ j.toNat)):=⟨op_pow⟩
theorem wop_powB:BOp X (binaryOp .Pow) (rI CPowB fun i j=>.int (i ^ j.toNat)):=⟨op_powB⟩
theorem wop_eq (K:PySem.W.Frag) (hu:X.A.units+64 < cLine) (h:X.K=K):BOp X (compareOp .Eq) (rEqA K):=⟨op_eqK K hu h⟩
theorem wop_ne (K:PySem.W.Frag) (hu:X.A.units+64 < cLine) (h:X.K=K):BOp X (compareOp .NotEq) (rNeA K):=⟨op_neK K hu h⟩
theorem wc_len (K:PySem.W.Frag) (h:X.K=K):BCall X (.builtin "len") (rLen K):=⟨call_lenK K h⟩
theorem wc_max (hc:X.calm=true):BCall X (.builtin "max") rMax:=⟨call_maxI hc⟩
theorem wc_min (hc:X.calm=true):BCall X (.builtin "min") rMin:=⟨call_minI hc⟩
theorem wc_all (K:PySem.W.Frag) (hc:X.calm=true) (h:X.K=K):BCall X (.builtin "all") (rAll K):=⟨call_allK K hc h⟩
theorem wc_any (K:PySem.W.Frag) (hc:X.calm=true) (h:X.K=K):BCall X (.builtin "any") (rAny K):=⟨call_anyK K hc h⟩
theorem wm_join (K:PySem.W.Frag) (h:X.K=K):BMt X "str.join" (rJoin K):=⟨mt_joinK K h⟩
theorem wm_append (K:PySem.W.Frag) (h:X.K=K):BMt X "list.append" rAppend:=⟨mt_append⟩
end
theorem nomarkB {b:Expr} {op:CmpOp} (h:op≠.In) (h2:op≠.NotIn):behindInMarks op b=false:=nomark b h h2
theorem Fun.okB {P:Program} {w:World} {K:PySem.W.Frag} {mg:Str→Option Value} {base:Heap} {x qual:Str} {st:Stmt} {f:Addr} {fd:FuncData} {N ps:List Str} {k:Nat} {sp:Sp} (F:Fun K x qual st f fd) (S:FnScope N ps (defScope st)) (len:∀ vs H Q E,sp vs H Q E→vs.length=ps.length)
    (hbody:∀ (cdv:Value) (A:Around) (outer:List Env) (s:Shared) (H:Hp) (vs:List V) (Q:VK) (E:XK),Room k (A.deeper (envOfC qual (defScope st) s.heap.objs.size f cdv))→sp vs H Q E →
      ∃ t,BSs (cxOf CX0 P w K mg base N qual (defScope st) f cdv A outer s H E).nox (defBody st) t∧t { nx:=fun _ H'=>Q .non H',rt:=Q } (start N vs) H):FnOk P w K mg base CX0 (k+1) f fd ps sp :=
  F.ok S len fun cdv A outer s H vs Q E hr h=>by
    obtain ⟨t,h1,h2⟩:=hbody cdv A outer s H vs Q E hr h
    exact ⟨t,h1.h,h2⟩
end L2
namespace L2
open PySem
end L2
set_option maxHeartbeats 4000000
namespace KS
open PySem PySem.Spec PyProof.Rows
noncomputable def Ris (xs:Array Nat):Prop:=xs.toList.Pairwise (· < ·)
theorem Ris.lt {xs:Array Nat} (h:Ris xs) {i j d:Nat} (hij:i < j) (hj:j < xs.size):xs.getD i d < xs.getD j d:=by
  have hi:i < xs.size:=Nat.lt_trans hij hj
  have q:=List.pairwise_iff_getElem.mp h i j (by first|exact hi|exact List.mem_singleton.mp hi|simpa using hi) (by first|exact hj|exact List.mem_singleton.mp hj|simpa using hj) hij
  rw [Array.getD_eq_getD_getElem?,Array.getD_eq_getD_getElem?,Array.getElem?_eq_getElem hi,Array.getElem?_eq_getElem hj]
  simpa using q
theorem below_go {xs:Array Nat} {j:Nat} (h:Ris xs):∀ (fuel lo hi:Nat),lo≤hi→hi≤xs.size→hi - lo≤fuel→(∀ k,k < lo→xs.getD k j < j)→(∀ k,hi≤k→k < xs.size→j≤xs.getD k j) →
    SetTable.below.go xs j fuel lo hi≤xs.size∧(∀ k,k < SetTable.below.go xs j fuel lo hi→xs.getD k j < j)∧∀ k,SetTable.below.go xs j fuel lo hi≤k→k < xs.size→j≤xs.getD k j
  | 0,lo,hi,a,b,c,p,q=>by
    have e:hi=lo:=by (first|lia|omega)
    subst e
    exact ⟨b,p,q⟩
  | fuel+1,lo,hi,a,b,c,p,q=>by
    have e0:SetTable.below.go xs j (fuel+1) lo hi=if lo < hi then (if xs.getD ((lo+hi) / 2) j < j then SetTable.below.go xs j fuel ((lo+hi) / 2+1) hi else SetTable.below.go xs j fuel lo ((lo+hi) / 2)) else lo:=rfl
    rw [e0]
    by_cases hlt:lo < hi
    · rw [if_pos hlt]
      have hm:(lo+hi) / 2 < hi:=by (first|lia|omega)
      by_cases hv:xs.getD ((lo+hi) / 2) j < j
      · rw [if_pos hv]
        refine below_go h fuel _ hi (by (first|lia|omega)) b (by (first|lia|omega)) (fun k hk=>?_) q
        by_cases e:k=(lo+hi) / 2
        · rw [e]; exact hv
        · exact Nat.lt_trans (h.lt (i:=k) (j:=(lo+hi) / 2) (by (first|lia|omega)) (by (first|lia|omega))) hv
      · rw [if_neg hv]
        refine below_go h fuel lo _ (by (first|lia|omega)) (by (first|lia|omega)) (by (first|lia|omega)) p fun k hk hs=>?_
        by_cases e:k=(lo+hi) / 2
        · rw [e]; (first|lia|omega)
        · have:=h.lt (i:=(lo+hi) / 2) (j:=k) (d:=j) (by (first|lia|omega)) hs
          (first|lia|omega)
    · rw [if_neg hlt]
      have e:hi=lo:=by (first|lia|omega)
      subst e
      exact ⟨b,p,q⟩
theorem below_spec {xs:Array Nat} (h:Ris xs) (j:Nat):SetTable.below xs j≤xs.size∧(∀ k,k < SetTable.below xs j→xs.getD k j < j)∧∀ k,SetTable.below xs j≤k→k < xs.size→j≤xs.getD k j :=
  below_go h _ _ _ (Nat.zero_le _) (Nat.le_refl _) (by (first|lia|omega)) (fun k hk=>absurd hk (Nat.not_lt_zero _)) fun k hk hs=>absurd hs (by (first|lia|omega))
theorem below_zero {xs:Array Nat} (h:Ris xs):SetTable.below xs 0=0:=by
  obtain ⟨_,b,_⟩:=below_spec h 0
  by_cases e:SetTable.below xs 0=0
  · exact e
  · exact absurd (b 0 (by (first|lia|omega))) (Nat.not_lt_zero _)
theorem below_next {xs:Array Nat} (h:Ris xs) {i p:Nat} (e:xs[i]?=some p):SetTable.below xs (p+1)=i+1:=by
  obtain ⟨hi,ep⟩:=Array.getElem?_eq_some_iff.mp e
  obtain ⟨a,b,c⟩:=below_spec h (p+1)
  have g:∀ d,xs.getD i d=p:=fun d=>by rw [Array.getD_eq_getD_getElem?,e]; rfl
  by_cases l:SetTable.below xs (p+1)≤i
  · have:=c i l hi
    rw [g] at this
    (first|lia|omega)
  · by_cases r:SetTable.below xs (p+1)=i+1
    · exact r
    · have h1:=b (i+1) (by (first|lia|omega))
      have h2:=h.lt (i:=i) (j:=i+1) (d:=p+1) (by (first|lia|omega)) (by (first|lia|omega))
      rw [g] at h2
      (first|lia|omega)
noncomputable def NotIn (xs:Array Nat) (j:Nat):Prop:=xs[SetTable.below xs j]?≠some j
theorem ris_insert {xs:Array Nat} (h:Ris xs) {j:Nat} (n:NotIn xs j):Ris (SetTable.insertAt xs (SetTable.below xs j) j):=by
  obtain ⟨a,b,c⟩:=below_spec h j
  unfold NotIn at n
  generalize SetTable.below xs j=p at a b c n
  have e:(SetTable.insertAt xs p j).toList=xs.toList.take p++j::xs.toList.drop p:=by
    unfold SetTable.insertAt
    simp [Array.toList_extract,List.extract_eq_drop_take,Array.length_toList]
    exact List.take_of_length_le (by rw [List.length_drop,Array.length_toList]; exact Nat.le_refl _)
  have lo:∀ x ∈ xs.toList.take p,x < j:=by
    intro x hx
    obtain ⟨k,hk⟩:=List.mem_iff_getElem?.mp hx
    rw [List.getElem?_take] at hk
    split at hk
    · rename_i hkp
      have:=b k hkp
      rw [Array.getD_eq_getD_getElem?,← Array.getElem?_toList,hk] at this
      exact this
    · cases hk
  have hi:∀ x ∈ xs.toList.drop p,j < x:=by
    intro x hx
    obtain ⟨k,hk⟩:=List.mem_iff_getElem?.mp hx
    rw [List.getElem?_drop] at hk
    have hs:p+k < xs.size:=by
      have:=(List.getElem?_eq_some_iff.mp hk).1
      simpa using this
    have q:=c (p+k) (by (first|lia|omega)) hs
    rw [Array.getD_eq_getD_getElem?,← Array.getElem?_toList,hk] at q
    have q:j≤x:=q
    rcases Nat.lt_or_ge j x with z | z
    · exact z
    · have ex:x=j:=by (first|lia|omega)
      subst ex
      exfalso
      by_cases k0:k=0
      · subst k0
        exact n (by rw [← Array.getElem?_toList]; exact hk)
      · have g1:=h.lt (i:=p) (j:=p+k) (d:=x) (by (first|lia|omega)) hs
        have g2:=c p (Nat.le_refl _) (by (first|lia|omega))
        have g3:xs.getD (p+k) x=x:=by rw [Array.getD_eq_getD_getElem?,← Array.getElem?_toList,hk]; rfl
        (first|lia|omega)
  unfold Ris
  rw [e]
  refine List.pairwise_append.mpr ⟨List.Pairwise.sublist (List.take_sublist p _) h,List.pairwise_cons.mpr ⟨hi,List.Pairwise.sublist (List.drop_sublist p _) h⟩,fun x hx y hy=>?_⟩
  rcases List.mem_cons.mp hy with rfl | hy
  · exact lo x hx
  · exact Nat.lt_trans (lo x hx) (hi y hy)
theorem adv_dummy (t:SetTable) (p:SetTable.Probe):(t.advance p).dummy=p.dummy:=by
  unfold SetTable.advance
  split
  · rfl
  · rfl
theorem probe_free {t:SetTable} {f:Nat→Int} {h:Int}:∀ (fuel:Nat) (p:SetTable.Probe) (j:Nat) (d:Option Nat),(∀ x,p.dummy=some x→NotIn t.place x)→SetTable.probe.go t f h fuel p=some (.empty j d)→NotIn t.place j∧∀ x,d=some x→NotIn t.place x
  | 0,p,j,d,_,e=>by unfold SetTable.probe.go at e; cases e
  | fuel+1,p,j,d,hp,e=>by
    unfold SetTable.probe.go at e
    have ns:∀ {s:SetTable.Slot},t.slot p.j=s→(∀ i,s≠.live i)→NotIn t.place p.j:=by
      intro s es hs hn
      unfold SetTable.slot at es
      dsimp only at es
      rw [if_pos (by rw [hn]; simp)] at es
      exact hs _ es.symm
    cases hsl:t.slot p.j with
    | empty =>
      rw [hsl] at e
      have e:=Option.some.inj e
      injection e with e1 e2
      subst e1 e2
      exact ⟨ns hsl (fun i z=>nomatch z),hp⟩
    | dummy =>
      rw [hsl] at e
      refine probe_free fuel _ j d (fun x hx=>?_) e
      rw [adv_dummy] at hx
      have hx:some p.j=some x:=hx
      injection hx with hx
      rw [← hx]
      exact ns hsl fun i z=>nomatch z
    | live i =>
      rw [hsl] at e
      dsimp only at e
      split at e
      · cases e
      · exact probe_free fuel _ j d (fun x hx=>hp x (by rw [adv_dummy] at hx; exact hx)) e
theorem free_notIn {t:SetTable} {h:Int} {j:Nat} {b:Bool} (e:t.freeSlot h=some (j,b)):NotIn t.place j:=by
  unfold SetTable.freeSlot at e
  split at e
  · rename_i j' d hp
    obtain ⟨h1,h2⟩:=probe_free _ _ _ _ (fun x hx=>by cases (show (none:Option Nat)=some x from hx)) hp
    have e:=Option.some.inj e
    have e1:d.getD j'=j:=congrArg Prod.fst e
    subst e1
    cases d with
    | none=>exact h1
    | some x=>exact h2 x rfl
  · cases e
theorem lay_ris (t:SetTable) (es:Array (Int×Value)) (h:Int) (x:Value) (hr:t.plain=true→Ris t.place):(layNew t es h x).2.1.plain=true→Ris (layNew t es h x).2.1.place:=by
  unfold layNew
  split
  · rename_i slot wd e
    dsimp only
    unfold SetTable.orStandIn
    split
    · intro hp
      have hp:t.plain=true:=hp
      exact ris_insert (hr hp) (free_notIn e)
    · exact fun z=>by cases z
  · exact fun z=>by cases z
theorem laid_ris {mask finger moves:Nat} {led plain:Bool} {hs:Array Int} {t:SetTable} {order:Array Nat} (h:SetTable.laid mask finger moves led plain hs=some (t,order)):Ris t.place:=by
  unfold SetTable.laid at h
  cases e:SetTable.layClean mask hs with
  | none=>rw [e] at h; cases h
  | some owner =>
    rw [e] at h
    have h':=Option.some.inj h
    rw [← congrArg (fun p=>p.1.place) h']
    dsimp only
    unfold Ris
    rw [List.toList_toArray,List.pairwise_map]
    refine List.Pairwise.filterMap _ (R:=(· < ·)) (fun a a' haa b hb b' hb'=>?_) List.pairwise_lt_range
    obtain ⟨y,_,rfl⟩:=Option.map_eq_some_iff.mp hb
    obtain ⟨y',_,rfl⟩:=Option.map_eq_some_iff.mp hb'
    exact haa
theorem relay_ris (t:SetTable) (es:Array (Int×Value)) (wanted:Nat):(relayAll t es wanted).2.1.plain=true→Ris (relayAll t es wanted).2.1.place:=by
  unfold relayAll
  split
  · rename_i t' order e
    dsimp only
    split
    · exact fun _=>laid_ris (show SetTable.laid _ _ _ t.led t.plain _=some (t',order) from e)
    · exact fun z=>by cases z
  · exact fun z=>by cases z
end KS
set_option maxHeartbeats 4000000
namespace KS
open PySem PySem.Spec PyProof.Rows
theorem lay_led (t:SetTable) (es:Array (Int×Value)) (h:Int) (x:Value):(layNew t es h x).2.1.led=t.led∧((layNew t es h x).2.1.plain=true→t.plain=true):=by
  unfold layNew
  split
  · dsimp only
    unfold SetTable.orStandIn
    split
    · exact ⟨rfl,fun z=>z⟩
    · exact ⟨rfl,fun z=>by cases z⟩
  · exact ⟨rfl,fun z=>by cases z⟩
theorem laid_led {mask finger moves:Nat} {led plain:Bool} {hs:Array Int} {t:SetTable} {order:Array Nat} (h:SetTable.laid mask finger moves led plain hs=some (t,order)):t.led=led∧t.plain=plain:=by
  unfold SetTable.laid at h
  cases e:SetTable.layClean mask hs with
  | none=>rw [e] at h; cases h
  | some owner =>
    rw [e] at h
    have h':=Option.some.inj h
    exact ⟨(congrArg (fun p=>p.1.led) h').symm,(congrArg (fun p=>p.1.plain) h').symm⟩
theorem relay_led (t:SetTable) (es:Array (Int×Value)) (wanted:Nat):(relayAll t es wanted).2.1.led=t.led∧((relayAll t es wanted).2.1.plain=true→t.plain=true):=by
  unfold relayAll
  split
  · rename_i t' order e
    have q:=laid_led (show SetTable.laid _ _ _ t.led t.plain _=some (t',order) from e)
    dsimp only
    split
    · exact ⟨q.1,fun z=>by rw [q.2] at z; exact z⟩
    · exact ⟨rfl,fun z=>by cases z⟩
  · exact ⟨rfl,fun z=>by cases z⟩
section
variable {prog:Program} {w:World} {K:Type} [DecidableEq K] (knd:KeyKind prog w K)
noncomputable def SetZ (h:Heap) (a:Addr) (σ:List K) (L:Bool):Prop :=
  ∃ o es ep t,h.get? a=some o∧o.ExactSet∧o.data=.set es ep t∧ElemsOf knd es.toList∧(∀ k,k ∈ σ↔∃ e ∈ es.toList,knd.is k e.2=true)∧es.size < scanBound∧t.fits es.size=true∧es.size=σ.length∧σ.Nodup∧t.led=L∧(t.plain=true→Ris t.place)
noncomputable def dedup1 (σ:List K) (k:K):List K:=if k ∈ σ then σ else σ++[k]
variable {knd} {A:Around} {E:Value→Shared→Prop} {s:Shared}
theorem nodup_snoc {σ:List K} {k:K} (h:σ.Nodup) (hk:k ∉ σ):(σ++[k]).Nodup:=by
  rw [List.nodup_append]
  refine ⟨h,by simp,fun x hx y hy e=>?_⟩
  have hy:y=k:=by first|exact hy|exact List.mem_singleton.mp hy|simpa using hy
  rw [e,hy] at hx
  exact hk hx
theorem SetZ.at {h h':Heap} {a:Addr} {σ:List K} {L:Bool} (hS:SetZ knd h a σ L) (k:∀ o,h.get? a=some o→h'.get? a=some o):SetZ knd h' a σ L:=by
  obtain ⟨o,es,ep,t,ho,r⟩:=hS
  exact ⟨o,es,ep,t,k o ho,r⟩
theorem putZ {h:Heap} {a:Addr} {o:Obj} {es:Array (Int×Value)} {ep:Nat} {t:SetTable} (ho:h.get? a=some o) (hd:o.data=.set es ep t) (es':Array (Int×Value)) (t':SetTable) :
    (h.update a (Obj.putSet es' t')).get? a=some { o with data:=.set es' (ep+1) t' }:=by
  have q:=Heap.get?_update_self (Obj.putSet es' t') ho (by rw [putSet_of es' t' hd]; rfl)
  rw [putSet_of es' t' hd] at q
  exact q
theorem tailZ {g:Bool→Sem Unit} (hg:∀ (b:Bool) (s₁:Shared) (Q':Unit→Shared→Prop),Q' () s₁→wpAny (model prog w) A (g b) Q' E s₁)
    {a:Addr} {o:Obj} {es:Array (Int×Value)} {ep:Nat} {t:SetTable} (ho:s.heap.get? a=some o) (hex:o.ExactSet) (hd:o.data=.set es ep t)
    {es1:Array (Int×Value)} {t2:SetTable} {τ:List K} {L:Bool} (hel:ElemsOf knd es1.toList) (hm:∀ k',k' ∈ τ↔∃ e ∈ es1.toList,knd.is k' e.2=true)
    (hb:es1.size < scanBound) (hf:t2.fits es1.size=true) (hn:es1.size=τ.length) (hnd:τ.Nodup) (hled:t2.led=L) (hpl:t2.plain=true→Ris t2.place) {wasDummy:Bool} {R:Option Bool→Shared→Prop}
    (h:∀ h',Heap.SameBut a s.heap h'→SetZ knd h' a τ L→R (some true) { s with heap:=h' }) :
    wpAny (model prog w) A (do
        storeSet a es1 t2
        if (!wasDummy && t2.tooFull)=true then do
            g (relayAll t2 es1 (SetTable.grown es1.size)).2.2
            storeSet a (relayAll t2 es1 (SetTable.grown es1.size)).1 (relayAll t2 es1 (SetTable.grown es1.size)).2.1
            pure (some true)
          else pure (some true)) R E s:=by
  refine wpAny_bind (wpAny_storeSet_of ho hd ?_ (fits_of_scanBound hb))
  have g1:=putZ ho hd es1 t2
  have b1:=Heap.SameBut.update s.heap a (Obj.putSet es1 t2)
  split
  · have hp:=relayAll_perm t2 es1 (SetTable.grown es1.size)
    have hfr:=relayAll_fits t2 es1 (SetTable.grown es1.size)
    have hlr:=relay_led t2 es1 (SetTable.grown es1.size)
    have hrr:=relay_ris t2 es1 (SetTable.grown es1.size)
    generalize hR:relayAll t2 es1 (SetTable.grown es1.size)=Y at hp hfr hlr hrr ⊢
    obtain ⟨es2,t3,gave⟩:=Y
    dsimp only at hp hfr hlr hrr ⊢
    have z2:es2.size=es1.size:=by rw [← Array.length_toList,hp.length_eq,Array.length_toList]
    refine wpAny_bind (hg _ _ _ ?_)
    refine wpAny_bind (wpAny_storeSet_of g1 rfl ?_ (fits_of_scanBound (by rw [z2]; exact hb)))
    exact wpAny_pure (h _ (b1.trans (Heap.SameBut.update _ a _)) ⟨_,es2,_,t3,putZ g1 rfl es2 t3,hex,rfl,hel.perm hp,fun k'=>(hm k').trans ⟨fun ⟨e,he,q⟩=>⟨e,hp.mem_iff.mpr he,q⟩,fun ⟨e,he,q⟩=>⟨e,hp.mem_iff.mp he,q⟩⟩,
      by rw [z2]; exact hb,hfr,z2.trans hn,hnd,hlr.1.trans hled,hrr⟩)
  · exact wpAny_pure (h _ b1 ⟨_,es1,_,t2,g1,hex,rfl,hel,hm,hb,hf,hn,hnd,hled,hpl⟩)
theorem addZ {a:Addr} {σ:List K} {L:Bool} {k:K} {x:Value} {Q:Bool→Shared→Prop} (hkey:knd.is k x=true) (hsc:x.scannable=true) (hS:SetZ knd s.heap a σ L) (hroom:σ.length+1 < scanBound)
    (h:∀ b h',Heap.SameBut a s.heap h'→SetZ knd h' a (dedup1 σ k) L→Q b { s with heap:=h' }):wpAny (model prog w) A (setAddHashed a x (knd.hash k)) Q E s:=by
  obtain ⟨o,es,ep,t,ho,hex,hd,hel,hm,hb,hf,hn,hnd,hled,hpl⟩:=id hS
  unfold setAddHashed setAddHashedIn
  refine wpAny_holding (wpAny_bind (wpAny_setState_of ho hd hf ?_))
  dsimp only
  rw [byScan_of hsc hb hel]
  simp only [↓reduceIte]
  unfold setAddByScan
  refine wpAny_bind ?_
  refine wpAny_bind (wpAny_rule ?_)
  refine wpAny_bind (wpAny_setScan_of hkey ho hd hf hel ?_)
  cases hr:List.findIdx? (fun e=>knd.is k e.2) es.toList with
  | some j =>
    dsimp only
    obtain ⟨hj,hpj,_⟩:=List.findIdx?_eq_some_iff_getElem.mp hr
    have hk:k ∈ σ:=(hm k).mpr ⟨es.toList[j],List.getElem_mem hj,hpj⟩
    refine wpAny_pure (wpAny_pure ?_)
    have q:=h false s.heap (Heap.SameBut.refl a s.heap) (by unfold dedup1; rw [if_pos hk]; exact hS)
    exact q
  | none =>
    dsimp only
    have hk:k ∉ σ:=fun z=>by
      obtain ⟨e,he,hp⟩:=(hm k).mp z
      have:=List.findIdx?_eq_none_iff.mp hr e he
      rw [hp] at this
      cases this
    have way:∀ (b:Bool) {s₁:Shared} {Q':Unit→Shared→Prop},Q' () s₁→wpAny (model prog w) A (match b with | true=>rule "set.scan.the-table-gave-way" | false=>pure ()) Q' E s₁:=fun b s₁ Q' hq=>by
      cases b
      · exact wpAny_pure hq
      · exact wpAny_rule hq
    have hp:=layNew_perm t es (knd.hash k) x
    have hfi:=layNew_fits t es (knd.hash k) x
    have hll:=lay_led t es (knd.hash k) x
    have hlr:=lay_ris t es (knd.hash k) x hpl
    generalize hL:layNew t es (knd.hash k) x=Y at hp hfi hll hlr ⊢
    obtain ⟨es1,t1,wasDummy,gave⟩:=Y
    dsimp only at hp hfi hll hlr ⊢
    rw [Array.toList_push] at hp
    have z1:es1.size=es.size+1:=by rw [← Array.length_toList,hp.length_eq,List.length_append,Array.length_toList]; rfl
    have hel1:ElemsOf knd es1.toList:=(hel.push hkey hsc).perm hp
    have hm1:∀ k',k' ∈ σ++[k]↔∃ e ∈ es1.toList,knd.is k' e.2=true:=fun k'=>by
      rw [List.mem_append,hm k',List.mem_singleton]
      constructor
      · rintro (⟨e,he,q⟩ | rfl)
        · exact ⟨e,hp.mem_iff.mpr (List.mem_append_left _ he),q⟩
        · exact ⟨_,hp.mem_iff.mpr (List.mem_append_right _ (List.mem_singleton.mpr rfl)),hkey⟩
      · rintro ⟨e,he,q⟩
        rcases List.mem_append.mp (hp.mem_iff.mp he) with he | he
        · exact .inl ⟨e,he,q⟩
        · rw [List.mem_singleton] at he
          subst he
          exact .inr (knd.inj x k' k q hkey)
    refine wpAny_bind (way _ ?_)
    have fin:∀ h',Heap.SameBut a s.heap h'→SetZ knd h' a (σ++[k]) L→Q true { s with heap:=h' }:=fun h' b' z=>h true h' b' (by unfold dedup1; rw [if_neg hk]; exact z)
    have hn1:es1.size=(σ++[k]).length:=by rw [List.length_append,z1,hn]; rfl
    split
    · refine wpAny_bind ?_
      rw [hashByValue_scannable 8 hsc]
      refine wpAny_pure ?_
      cases hpk:plainKind x with
      | false =>
        refine tailZ ?_ ho hex hd hel1 hm1 (by (first|lia|omega)) (by rw [if_neg (by decide)]; exact SetTable.fits_plain_off hfi) hn1 (nodup_snoc hnd hk) (L:=L) (by rw [if_neg (by decide)]; exact hll.1.trans hled) (by rw [if_neg (by decide)]; exact fun z=>nomatch z) ?_
        · intro b s₁ Q' hq
          exact way b hq
        · intro h' b' z
          dsimp only
          exact wpAny_pure (fin h' b' z)
      | true =>
        refine tailZ ?_ ho hex hd hel1 hm1 (by (first|lia|omega)) (by rw [if_pos rfl]; exact hfi) hn1 (nodup_snoc hnd hk) (L:=L) (by rw [if_pos rfl]; exact hll.1.trans hled) (by rw [if_pos rfl]; exact hlr) ?_
        · intro b s₁ Q' hq
          exact way b hq
        · intro h' b' z
          dsimp only
          exact wpAny_pure (fin h' b' z)
    · rename_i hpf
      refine wpAny_bind (wpAny_pure ?_)
      simp only [↓reduceIte]
      refine tailZ ?_ ho hex hd hel1 hm1 (by (first|lia|omega)) hfi hn1 (nodup_snoc hnd hk) (L:=L) (hll.1.trans hled) hlr ?_
      · intro b s₁ Q' hq
        exact way b hq
      · intro h' b' z
        dsimp only
        exact wpAny_pure (fin h' b' z)
noncomputable def metZ (val:Nat→K) (i:Nat):List K:=((List.range i).map val).foldl dedup1 []
theorem metZ_succ (val:Nat→K) (i:Nat):metZ val (i+1)=dedup1 (metZ val i) (val i):=by
  unfold metZ
  rw [List.range_succ,List.map_append,List.foldl_append]
  rfl
theorem metZ_len (val:Nat→K):∀ i,(metZ val i).length≤i
  | 0=>Nat.le_refl _
  | i+1=>by
    rw [metZ_succ]
    have ih:=metZ_len val i
    unfold dedup1
    split
    · (first|lia|omega)
    · rw [List.length_append,List.length_singleton]; (first|lia|omega)
theorem metZ_mem (val:Nat→K):∀ (i:Nat) (k:K),k ∈ metZ val i↔∃ j,j < i∧val j=k
  | 0,k=>by
    constructor
    · intro h; cases h
    · rintro ⟨j,hj,_⟩; (first|lia|omega)
  | i+1,k=>by
    have e:k ∈ metZ val (i+1)↔k ∈ metZ val i∨val i=k:=by
      rw [metZ_succ]
      unfold dedup1
      split
      · rename_i h
        exact ⟨.inl,fun z=>z.elim id fun z=>z ▸ h⟩
      · rw [List.mem_append,List.mem_singleton]
        exact ⟨fun z=>z.imp id Eq.symm,fun z=>z.imp id Eq.symm⟩
    rw [e,metZ_mem val i k]
    constructor
    · rintro (⟨j,hj,q⟩ | q)
      · exact ⟨j,by (first|lia|omega),q⟩
      · exact ⟨i,by (first|lia|omega),q⟩
    · rintro ⟨j,hj,q⟩
      by_cases z:j=i
      · exact .inr (z ▸ q)
      · exact .inl ⟨j,by (first|lia|omega),q⟩
theorem updateZ {R:Result→Shared→Prop} {I:Addr} {fp wr:List Addr} {G:Array GenState→Array GenState→Prop} {n:Nat} {P:Nat→Value→Prop} {St:Nat→Shared→Prop} (W:WalksS prog w A.in1 I fp wr G n P St) (S:Addr) (hSf:S ∉ fp) {L:Bool}
    (val:Nat→K) (hval:∀ i v,P i v→knd.is (val i) v=true∧v.scannable=true) (hb:n+1 < scanBound) :
    ∀ (k i:Nat) (s:Shared),n - i=k→i≤n→St i s→SetZ knd s.heap S (metZ val i) L →
      (∀ s',Moved (S::wr) G s s'→SetZ knd s'.heap S (metZ val n) L→R (.ok (.ret .none)) s') →
      codeAny (model prog w) A (.builtin "set.update.loop" ⟨[.ref S,.ref I],[]⟩) R s:=by
  have hSw:S ∉ wr:=fun h=>hSf (W.sub _ h)
  have hsub:∀ b ∈ wr,b ∈ S::wr:=fun b hb=>List.mem_cons_of_mem _ hb
  intro k
  induction k with
  | zero =>
    intro i s hk hi hst hS hR
    obtain rfl:i=n:=by (first|lia|omega)
    refine codeAny_builtin PyProof.Rows.F.entry_set_update_loop ?_
    rw [Around.under_plainId PyProof.Rows.F.plain_set_update_loop _]
    show wpAny _ A.in1 (pyNext (.ref I) >>= _) _ _ s
    refine wpAny_bind (W.done s _ _ hst fun s' hm=>?_)
    show wpAny _ A.in1 (ret Value.none) _ _ s'
    exact wpAny_pure (hR s' (hm.mono hsub) (hS.at fun o ho=>hm.heap S o hSw ho))
  | succ k ih =>
    intro i s hk hi hst hS hR
    have hlt:i < n:=by (first|lia|omega)
    refine codeAny_builtin PyProof.Rows.F.entry_set_update_loop ?_
    rw [Around.under_plainId PyProof.Rows.F.plain_set_update_loop _]
    show wpAny _ A.in1 (pyNext (.ref I) >>= _) _ _ s
    refine wpAny_bind (W.item i s _ _ hlt hst fun v s' hP hst' hm=>?_)
    obtain ⟨hv1,hv2⟩:=hval i v hP
    have hS':SetZ knd s'.heap S (metZ val i) L:=hS.at fun o ho=>hm.heap S o hSw ho
    show wpAny _ A.in1 (holding [v] (setAdd S v) >>= _) _ _ s'
    refine wpAny_bind (wpAny_holding ?_)
    unfold setAdd
    refine wpAny_holding ?_
    refine wpAny_bind (knd.pyHash (k:=val i) hv1 ?_)
    refine addZ (s:={ s' with toks:=s'.toks+1 }) hv1 hv2 hS' (by have:=metZ_len val i; (first|lia|omega)) fun b h' hsb hS2=>?_
    rw [← metZ_succ] at hS2
    refine wpAny_pure ⟨plainId_quiet PyProof.Rows.F.plain_set_update_loop _,ih (i+1) _ (by (first|lia|omega)) hlt (W.frame _ s' _ _ hst' (Nat.le_succ _) fun b hb o e=>?_) hS2 fun s'' hm'' hS''=>?_⟩
    · rw [hsb.2 b (fun h:b=S=>hSf (by rw [← h]; exact hb))]; exact e
    · refine hR s'' (Moved.trans W.gtrans ((hm.mono hsub).then_heap (Nat.le_succ _) fun b o hb e=>?_) hm'') hS''
      rw [hsb.2 b (fun h:b=S=>hb (by rw [h]; exact List.mem_cons_self))]; exact e
end
theorem sub_tuple_set:isSubtype (.type "tuple") (.type "set")=pure false:=by rw [isSubtype_type]; kernel_rfl
theorem sub_tuple_frozenset:isSubtype (.type "tuple") (.type "frozenset")=pure false:=by rw [isSubtype_type]; kernel_rfl
section
variable {prog:Program} {w:World} {A:Around} {E:Value→Shared→Prop} {s:Shared}
noncomputable abbrev byText (w:World):Bool:=w.params.followText "set-order"
noncomputable abbrev freshSet (w:World):Obj:={ cls:=.type "set", dict:=none,data:=.set #[] 0 (.fresh 0 0 (!byText w)) }
theorem new_set (a:Value) {Q₁:Value→Shared→Prop} (h:Q₁ (.ref s.heap.objs.size) { s with heap:=s.heap.push (freshSet w) }) :
    codeAny (model prog w) A (.call (.builtin "set.__new__") ⟨[.type "set", a],[]⟩) (wants Q₁ E) s:=by
  refine codeAny_of_tree ?_
  show wpAny _ A.in1 (do checkBuiltinCall "set.__new__" ⟨[.type "set", a],[]⟩; again (.builtin "set.__new__" ⟨[.type "set", a],[]⟩)) _ _ s
  refine wpAny_bind (wpAny_of_eq (F.newCall_set_1 a) (wpAny_pure ⟨plainId_quiet F.plain_set_new _,codeAny_builtin F.entry_set_new ?_⟩))
  rw [Around.under_plainId F.plain_set_new _]
  unfold Builtin.«set.__new__» Builtin.Frozenset.newClass
  have hsub:=sub_set_self
  obtain ⟨hp,g,d,tk,os⟩:=s
  dsimp only
  wp_walk
  refine wpAny_askSetting (wpAny_pure ?_)
  dsimp only
  simp only [newObj]
  refine wpAny_bind (wpAny_alloc (wpAny_pure ?_))
  exact wpAny_pure h
end
section
variable {prog:Program} {w:World} {K:Type} [DecidableEq K] {knd:KeyKind prog w K} {A:Around} {E:Value→Shared→Prop} {s:Shared}
theorem freshZ {h:Heap} {a:Addr} (ho:h.get? a=some (freshSet w)):SetZ knd h a [] (!byText w) :=
  ⟨_,#[],0,_,ho,⟨rfl,rfl,rfl⟩,rfl,fun e he=>by simp at he,fun k=>by simp,by decide,rfl,rfl,List.nodup_nil,rfl,fun _=>List.Pairwise.nil⟩
set_option maxRecDepth 100000 in
set_option maxHeartbeats 8000000 in
theorem set_of_list {l:Addr} {items:Array Value} {Q:Value→Shared→Prop} (hh:A.handled=none) (hl:s.heap.IsList l items) (val:Nat→K)
    (hval:∀ i v,items[i]?=some v→knd.is (val i) v=true∧v.scannable=true) (hb:items.size+1 < scanBound)
    (h:∀ (h':Heap) (tk:Nat),SetZ knd h' s.heap.objs.size (metZ val items.size) (!byText w)→(∀ b o,b < s.heap.objs.size→s.heap.get? b=some o→h'.get? b=some o)→Q (.ref s.heap.objs.size) { s with heap:=h',toks:=tk }) :
    wpAny (model prog w) A (call (.type "set") [.ref l]) Q E s:=by
  obtain ⟨c,tl,hmro⟩:=F.called_set.mro
  have hmade:=F.called_set.made
  have hsub:=F.called_set.sub
  refine wpAny_call (codeAny_of_tree ?_)
  show wpAny _ _ (callAny (.type "set") _) _ _ _
  refine wpAny_pure ⟨Code.quiet_builtin _ (by decide +kernel),codeAny_builtin F.entry_type_call ?_⟩
  rw [Around.under_plain (weight_type_call_type "set" [.ref l] []) rfl]
  have h1:=F.called_set.notType
  have h2:=F.called_set.canCreate
  have hct:=F.typeCall_set_1 (.ref l)
  repeat (any_goals (first | assumption | wp_step))
  refine codeAny_mono (new_set (.ref l) (E:=E) (Q₁:=fun obj s₁=>obj=.ref s.heap.objs.size∧s₁={ s with heap:=s.heap.push (freshSet w) }) ⟨rfl,rfl⟩) fun r s₁ hr=>?_
  cases r with
  | error e=>exact hr
  | ok fl =>
    cases fl with
    | ret obj =>
      obtain ⟨rfl,rfl⟩:=hr
      have hS:(s.heap.push (freshSet w)).get? s.heap.objs.size=some (freshSet w):=Heap.get?_push_size _ rfl
      have hT:Shared.TypeIs { s with heap:=s.heap.push (freshSet w) } (.ref s.heap.objs.size) "set" := ⟨_,hS,rfl⟩
      have hli:=F.called_set.init.lookup
      have hbi:=F.called_set.init.bind (.ref s.heap.objs.size)
      repeat (any_goals (first | assumption | wp_step))
      refine codeAny_mono (codeAny_call_builtin (R:=wants (fun r s₂=>r=.none∧∃ h' tk,s₂={ s with heap:=h',toks:=tk } ∧
          SetZ knd h' s.heap.objs.size (metZ val items.size) (!byText w)∧(∀ b o,b < s.heap.objs.size→s.heap.get? b=some o→h'.get? b=some o)) E) F.called_set.init.plain F.entry_set_init (check_set_init_1 hT ?_)) fun r₂ s₂ hr₂=>?_
      · obtain ⟨ol,hol,hcl,nl,hdl⟩:=hl
        obtain ⟨ocls,odict,odata,oslots⟩:=ol
        simp only at hcl hdl
        subst hcl; subst hdl
        have hol':(s.heap.push (freshSet w)).get? l=some { cls:=.type "list", dict:=odict,data:=.seq items nl,slots:=oslots }:=Heap.get?_push_of_some _ hol
        have hsls:=F.sub_list_set
        have hslf:=F.sub_list_frozenset
        have hne:(Value.type "list" == Value.type "dict")=false:=by decide
        have hl1:(s.heap.push (freshSet w)).IsList l items:=⟨_,hol',rfl,nl,rfl⟩
        unfold Builtin.«set.__init__» noKeywords Builtin.Frozenset.updateFrom
        generalize hPI:pyIter=PI
        wp_walk
        subst hPI
        refine wpAny_pyIter_list hl1 ?_
        refine wpAny_bind (wpAny_runValue ?_)
        have hlS:l < s.heap.objs.size:=Heap.lt_size hol
        have hh3:A.in1.in1.in1.handled=none:=by simp [hh]
        have hneI:l≠(s.heap.push (freshSet w)).objs.size:=by
          rw [Heap.size_push]; exact Nat.ne_of_lt (Nat.lt_succ_of_lt hlS)
        have hSf:s.heap.objs.size ∉ [(s.heap.push (freshSet w)).objs.size,l]:=by
          rw [Heap.size_push]; simp only [List.mem_cons,List.mem_singleton,List.not_mem_nil,or_false,not_or]
          exact ⟨Nat.ne_of_lt (Nat.lt_succ_self _),Nat.ne_of_gt hlS⟩
        refine updateZ (knd:=knd) ((Walks.list hh3 _ l hneI items).toS) s.heap.objs.size hSf val (fun i v hv=>hval i v hv) hb (items.size - 0) 0 _ (by (first|lia|omega)) (Nat.zero_le _)
          ⟨⟨_,Heap.get?_push_size _ rfl,rfl,rfl⟩,(hl1.push _)⟩ (freshZ (Heap.get?_push_of_some _ hS)) ?hR
        case hR =>
          intro s' hm hS'
          obtain ⟨h',g',d',tk',os'⟩:=s'
          have eg:g'=s.gens:=hm.gens
          have ed:d'=s.drawn:=hm.drawn
          have eo:os'=s.os:=hm.os
          subst eg; subst ed; subst eo
          show wpAny _ _ _ _ _ _
          refine wpAny_pure ?_
          show wpAny _ _ (ret Value.none) _ _ _
          refine wpAny_pure ⟨rfl,h',tk',rfl,hS',fun b o hb e=>?_⟩
          have hb1:b≠s.heap.objs.size:=Nat.ne_of_lt hb
          have hb2:b≠(s.heap.push (freshSet w)).objs.size:=by
            rw [Heap.size_push]; exact Nat.ne_of_lt (Nat.lt_succ_of_lt hb)
          exact hm.heap b o (by simp only [List.mem_cons,List.mem_singleton,List.not_mem_nil,or_false,not_or]; exact ⟨hb1,hb2⟩) (Heap.get?_push_of_some _ (Heap.get?_push_of_some _ e))
      · cases r₂ with
        | error e=>exact hr₂
        | ok fl₂ =>
          cases fl₂ with
          | ret r =>
            obtain ⟨rfl,h',tk,rfl,hS',hk'⟩:=hr₂
            repeat (any_goals (first | assumption | wp_step))
            exact h _ _ hS' hk'
          | next=>exact hr₂.elim
          | brk=>exact hr₂.elim
          | cont=>exact hr₂.elim
    | next=>exact hr.elim
    | brk=>exact hr.elim
    | cont=>exact hr.elim
end
end KS
set_option maxHeartbeats 4000000
namespace KS
open PySem PySem.Spec PyProof.Rows
theorem entry_set_iter:entryFor table "set.__iter__" = some Builtin.«frozenset.__iter__»:=entryFor_alias (id' := "frozenset.__iter__") (by kernel_rfl) rfl (by decide +kernel) (by kernel_rfl)
theorem args_set_iter (a:Value):argsOk "set.__iter__" ⟨[a],[]⟩:=by unfold argsOk; kernel_rfl
theorem slot_seti_iter:Slot "set_iterator" "__iter__" "set_iterator.__iter__" :=
  .of (owner := "set_iterator") (n := "__iter__") (by rw [typeLookup_type,builtinLookup_eq_fast]; kernel_rfl) (by decide +kernel) (by decide +kernel) (by decide +kernel)
    (by first | exact .inl (by decide +kernel) | exact .inr (by decide +kernel)) (by rw [isSubtype_type]; kernel_rfl)
theorem slot_seti_next:Slot "set_iterator" "__next__" "set_iterator.__next__" :=
  .of (owner := "set_iterator") (n := "__next__") (by rw [typeLookup_type,builtinLookup_eq_fast]; kernel_rfl) (by decide +kernel) (by decide +kernel) (by decide +kernel)
    (by first | exact .inl (by decide +kernel) | exact .inr (by decide +kernel)) (by rw [isSubtype_type]; kernel_rfl)
theorem entry_seti_iter:entryFor table "set_iterator.__iter__" = some Builtin.«dict_keyiterator.__iter__»:=entryFor_alias (id' := "dict_keyiterator.__iter__") (by kernel_rfl) rfl (by decide +kernel) (by kernel_rfl)
theorem entry_seti_next:entryFor table "set_iterator.__next__" = some Builtin.«set_iterator.__next__»:=entryFor_of_fast (by kernel_rfl)
theorem args_seti_iter (a:Value):argsOk "set_iterator.__iter__" ⟨[a],[]⟩:=by unfold argsOk; kernel_rfl
theorem args_seti_next (a:Value):argsOk "set_iterator.__next__" ⟨[a],[]⟩:=by unfold argsOk; kernel_rfl
theorem perm_erase {α:Type}:∀ (l:List α) (i:Nat) (h:i < l.length),(l[i]::l.eraseIdx i).Perm l
  | [],_,h=>by simp at h
  | x::l,0,_=>.refl _
  | x::l,i+1,h=>by
    have h':i < l.length:=by first|exact h|exact List.mem_singleton.mp h|simpa using h
    show (l[i]::x::l.eraseIdx i).Perm (x::l)
    exact (List.Perm.swap x l[i] _).trans (List.Perm.cons x (perm_erase l i h'))
section
variable {prog:Program} {w:World} {A:Around} {E:Value→Shared→Prop} {s:Shared}
theorem wpAny_choose {α:Type} {n:Nat} {k:Nat→Sem α} {Q:α→Shared→Prop} {M:Model} (hn:n≠0) (h:∀ i d',i < n→wpAny M A (k i) Q E { s with drawn:=d' }):wpAny M A (choose .order n >>= k) Q E s:=by
  intro Γ p hΓ
  refine ⟨hn,h _ _ (Nat.mod_lt _ (Nat.pos_of_ne_zero hn)) Γ p hΓ⟩
theorem draw_order {α:Type} {M:Model}:∀ (n:Nat) (xs:List α) (s:Shared) (Q:List α→Shared→Prop),xs.length=n→(∀ ys d',ys.Perm xs→Q ys { s with drawn:=d' })→wpAny M A (drawOrder n xs) Q E s
  | 0,xs,s,Q,hl,h=>by
    have e:xs=[]:=List.eq_nil_of_length_eq_zero hl
    subst e
    exact wpAny_pure (h [] s.drawn (.refl _))
  | n+1,[],s,Q,hl,h=>by simp at hl
  | n+1,x::xs,s,Q,hl,h=>by
    refine wpAny_choose (by simp) fun i d1 hi=>?_
    have hx:(x::xs)[i]?=some (x::xs)[i]:=List.getElem?_eq_getElem hi
    rw [hx]
    dsimp only
    refine wpAny_bind (draw_order n ((x::xs).eraseIdx i) _ _ (by rw [List.length_eraseIdx_of_lt hi]; simpa using hl) fun ys d' hp=>wpAny_pure (h _ d' ?_))
    exact (List.Perm.cons _ hp).trans (perm_erase _ i hi)
end
end KS
set_option maxHeartbeats 4000000
namespace KS
open PySem PySem.Spec PyProof.Rows
section
variable {prog:Program} {w:World} {A:Around} {E:Value→Shared→Prop} {s:Shared}
noncomputable abbrev itObj (first:Value) (i:Nat) (x:Value) (n ep:Nat):Obj:={ cls:=.type "set_iterator", dict:=none,data:=.fields #[first,.int (i:Int) 0,x,.int (n:Int) 0,.int (ep:Int) 0],slots:=#[] }
theorem stopped {I:Addr} {Q:Option Value→Shared→Prop} (hh:A.handled=none) (hQ:∀ h',(∀ b o,s.heap.get? b=some o→h'.get? b=some o)→Q none { s with heap:=h' }) {QQ:PySem.Fin→Shared→Prop} :
    wpAny (model prog w) A.in1 (do let e ← newExc (.type "StopIteration") []; raiseNew e:Sem PySem.Fin) QQ (fun e s'=>wpAny (model prog w) A (do if (← isInstance e (.type "StopIteration"))=true then pure none else throw e) Q E s') s:=by
  refine wpAny_bind ?_
  simp only [newExc,newTuple]
  refine wpAny_bind (wpAny_newObj_type ?_ (by size_fits))
  refine wpAny_bind (m:=firstArgMember _ _) (wpAny_of_eq (a:=Value.none) (by first | rfl | (simp only [firstArgMember]; rfl)) ?_)
  refine wpAny_newObj_type ?_ (by size_fits)
  simp only [raiseNew]
  refine wpAny_bind (wpAny_handled ?_)
  rw [show A.in1.handled=none from hh]
  refine wpAny_bind (wpAny_pure (wpAny_throw ?_))
  refine wpAny_bind (wpAny_isInstance (T := "StopIteration") (b:=true) ⟨_,Heap.get?_push_size _ rfl,rfl⟩ isSubtype_stop ?_)
  exact wpAny_pure (hQ _ fun b o e=>Heap.get?_push_of_some _ (Heap.get?_push_of_some _ e))
variable {I a:Addr} {o:Obj} {es:Array (Int×Value)} {ep i n f:Nat} {t:SetTable} {Q:Option Value→Shared→Prop}
theorem item_int {x:Value} {nx:Nat} (ho:s.heap.get? I=some (itObj (.int (f:Int) 0) i (.ref a) n ep)) (ha:s.heap.get? a=some o) (hd:o.data=.set es ep t) (hf:t.fits es.size=true) (hn:n=es.size)
    (hs:∀ (E':Value→Shared→Prop) (Q':Option (Value×Nat)→Shared→Prop),Q' (some (x,nx)) s→wpAny (model prog w) A.in1 (setNext a f i ep) Q' E' s)
    (hQ:∀ h',h'.get? I=some (itObj (.int (nx:Int) 0) (i+1) (.ref a) n ep)→Heap.SameBut I s.heap h'→Q (some x) { s with heap:=h' }):wpAny (model prog w) A (pyNext (.ref I)) Q E s:=by
  have hT:s.TypeIs (.ref I) "set_iterator" := ⟨_,ho,rfl⟩
  subst hn
  unfold pyNext
  refine wpAny_bind (wpAny_attempt (wpAny_callSpecial?_slot (name:=Str.ofString "__next__") hT slot_seti_next (wpAny_call_entry slot_seti_next hT entry_seti_next ?_ (args_seti_next _))))
  unfold Builtin.«set_iterator.__next__»
  refine wpAny_bind (m:=slotArgs "__next__" 0 _) (wpAny_pure ?_)
  try dsimp only
  refine wpAny_bind (wpAny_fieldsOf ho rfl ?_)
  try dsimp only
  refine wpAny_bind (wpAny_setEntries_of ha hd hf ?_)
  rw [if_neg (by simp)]
  try dsimp only
  simp only [Int.toNat_natCast]
  refine wpAny_bind (hs _ _ ?_)
  try dsimp only
  refine wpAny_bind (wpAny_setField_rec ho (by simp) fun h1 g1 b1=>?_)
  refine wpAny_bind (wpAny_setField_rec (s:={ s with heap:=h1 }) g1 (by simp) fun h2 g2 b2=>?_)
  refine wpAny_pure ⟨x,rfl,wpAny_pure (hQ h2 ?_ (b1.trans b2))⟩
  rw [g2]
  rfl
theorem done_int (hh:A.handled=none) (ho:s.heap.get? I=some (itObj (.int (f:Int) 0) i (.ref a) n ep)) (ha:s.heap.get? a=some o) (hd:o.data=.set es ep t) (hf:t.fits es.size=true) (hn:n=es.size)
    (hs:∀ (E':Value→Shared→Prop) (Q':Option (Value×Nat)→Shared→Prop),Q' none s→wpAny (model prog w) A.in1 (setNext a f i ep) Q' E' s)
    (hQ:∀ h',(∀ b ob,b≠I→s.heap.get? b=some ob→h'.get? b=some ob)→Q none { s with heap:=h' }):wpAny (model prog w) A (pyNext (.ref I)) Q E s:=by
  have hT:s.TypeIs (.ref I) "set_iterator" := ⟨_,ho,rfl⟩
  subst hn
  unfold pyNext
  refine wpAny_bind (wpAny_attempt (wpAny_callSpecial?_slot (name:=Str.ofString "__next__") hT slot_seti_next (wpAny_call_entry slot_seti_next hT entry_seti_next ?_ (args_seti_next _))))
  unfold Builtin.«set_iterator.__next__»
  refine wpAny_bind (m:=slotArgs "__next__" 0 _) (wpAny_pure ?_)
  try dsimp only
  refine wpAny_bind (wpAny_fieldsOf ho rfl ?_)
  try dsimp only
  refine wpAny_bind (wpAny_setEntries_of ha hd hf ?_)
  rw [if_neg (by simp)]
  try dsimp only
  simp only [Int.toNat_natCast]
  refine wpAny_bind (hs _ _ ?_)
  try dsimp only
  refine wpAny_bind (wpAny_setField_rec ho (by simp) fun h1 g1 b1=>?_)
  exact stopped (s:={ s with heap:=h1 }) (I:=I) hh fun h' k=>hQ h' fun b ob hb e=>k b ob ((b1.2 b hb).trans e)
theorem item_drawn {x:Value} {hx:Int} {pl:Addr} {op:Obj} {pls:Array Value} {c place:Nat} (ho:s.heap.get? I=some (itObj (.ref pl) i (.ref a) n ep)) (ha:s.heap.get? a=some o) (hd:o.data=.set es ep t) (hf:t.fits es.size=true) (hn:n=es.size)
    (hp:s.heap.get? pl=some op) (hpd:op.data=.seq pls c) (hpi:pls[i]?=some (.int (place:Int) 0)) (hx':es[place]?=some (hx,x))
    (hQ:∀ h',h'.get? I=some (itObj (.ref pl) (i+1) (.ref a) n ep)→Heap.SameBut I s.heap h'→Q (some x) { s with heap:=h' }):wpAny (model prog w) A (pyNext (.ref I)) Q E s:=by
  have hT:s.TypeIs (.ref I) "set_iterator" := ⟨_,ho,rfl⟩
  subst hn
  unfold pyNext
  refine wpAny_bind (wpAny_attempt (wpAny_callSpecial?_slot (name:=Str.ofString "__next__") hT slot_seti_next (wpAny_call_entry slot_seti_next hT entry_seti_next ?_ (args_seti_next _))))
  unfold Builtin.«set_iterator.__next__»
  refine wpAny_bind (m:=slotArgs "__next__" 0 _) (wpAny_pure ?_)
  try dsimp only
  refine wpAny_bind (wpAny_fieldsOf ho rfl ?_)
  try dsimp only
  refine wpAny_bind (wpAny_setEntries_of ha hd hf ?_)
  rw [if_neg (by simp)]
  try dsimp only
  simp only [Int.toNat_natCast]
  refine wpAny_bind (m:=seqItems? _) ?_
  unfold seqItems?
  refine wpAny_bind (wpAny_load hp ?_)
  rw [hpd]
  refine wpAny_pure ?_
  dsimp only
  rw [hpi]
  dsimp only
  simp only [Int.toNat_natCast]
  refine wpAny_bind (m:=setNextDrawn _ _ _) ?_
  unfold setNextDrawn
  refine wpAny_bind (wpAny_setState_of ha hd hf ?_)
  dsimp only
  simp only [bne_self_eq_false,Bool.false_eq_true,if_false]
  rw [hx']
  refine wpAny_pure ?_
  refine wpAny_bind (wpAny_setField_rec ho (by simp) fun h1 g1 b1=>?_)
  refine wpAny_pure ⟨x,rfl,wpAny_pure (hQ h1 ?_ b1)⟩
  rw [g1]
  rfl
theorem done_drawn {pl:Addr} {op:Obj} {pls:Array Value} {c:Nat} (hh:A.handled=none) (ho:s.heap.get? I=some (itObj (.ref pl) i (.ref a) n ep)) (ha:s.heap.get? a=some o) (hd:o.data=.set es ep t) (hf:t.fits es.size=true) (hn:n=es.size)
    (hp:s.heap.get? pl=some op) (hpd:op.data=.seq pls c) (hpi:pls[i]?=none)
    (hQ:∀ h',(∀ b ob,b≠I→s.heap.get? b=some ob→h'.get? b=some ob)→Q none { s with heap:=h' }):wpAny (model prog w) A (pyNext (.ref I)) Q E s:=by
  have hT:s.TypeIs (.ref I) "set_iterator" := ⟨_,ho,rfl⟩
  subst hn
  unfold pyNext
  refine wpAny_bind (wpAny_attempt (wpAny_callSpecial?_slot (name:=Str.ofString "__next__") hT slot_seti_next (wpAny_call_entry slot_seti_next hT entry_seti_next ?_ (args_seti_next _))))
  unfold Builtin.«set_iterator.__next__»
  refine wpAny_bind (m:=slotArgs "__next__" 0 _) (wpAny_pure ?_)
  try dsimp only
  refine wpAny_bind (wpAny_fieldsOf ho rfl ?_)
  try dsimp only
  refine wpAny_bind (wpAny_setEntries_of ha hd hf ?_)
  rw [if_neg (by simp)]
  try dsimp only
  simp only [Int.toNat_natCast]
  refine wpAny_bind (m:=seqItems? _) ?_
  unfold seqItems?
  refine wpAny_bind (wpAny_load hp ?_)
  rw [hpd]
  refine wpAny_pure ?_
  dsimp only
  rw [hpi]
  dsimp only
  refine wpAny_bind (wpAny_setField_rec ho (by simp) fun h1 g1 b1=>?_)
  refine wpAny_bind (wpAny_setField_rec (s:={ s with heap:=h1 }) g1 (by simp) fun h2 g2 b2=>?_)
  exact stopped (s:={ s with heap:=h2 }) (I:=I) hh fun h' k=>hQ h' fun b ob hb e=>k b ob ((b2.2 b hb).trans ((b1.2 b hb).trans e))
theorem setNext_text {slot g:Nat} {r:Option (Value×Nat)} {Q':Option (Value×Nat)→Shared→Prop} {A':Around} (hby:byText w=true) (ha:s.heap.get? a=some o) (hd:o.data=.set es ep t) (hf:t.fits es.size=true)
    (hr:((pickOrder (w.params.setOrder a ep) es)[g]?).map (fun e=>(e.2,slot))=r) (h:Q' r s):wpAny (model prog w) A' (setNext a slot g ep) Q' E s:=by
  unfold setNext
  refine wpAny_bind (wpAny_setState_of ha hd hf ?_)
  dsimp only
  unfold setsByText
  refine wpAny_bind (wpAny_bind (wpAny_askSetting (wpAny_pure ?_)))
  rw [show (model prog w).w.params.followText "set-order" = true from hby]
  simp only [bne_self_eq_false,Bool.false_eq_true,if_false,if_true]
  refine wpAny_bind (m:=setWalk a) ?_
  unfold setWalk
  refine wpAny_bind (wpAny_setState_of ha hd hf ?_)
  dsimp only
  unfold setsByText
  refine wpAny_bind (wpAny_bind (wpAny_askSetting (wpAny_pure ?_)))
  rw [show (model prog w).w.params.followText "set-order" = true from hby]
  simp only [if_true]
  refine wpAny_bind (wpAny_askSetting (wpAny_pure ?_))
  refine wpAny_pure ?_
  rw [← hr] at h
  exact h
theorem setNext_one {slot g:Nat} {Q':Option (Value×Nat)→Shared→Prop} {A':Around} (hby:byText w=false) (ha:s.heap.get? a=some o) (hd:o.data=.set es ep t) (hf:t.fits es.size=true) (hdr:(!t.plain && decide (es.size > 1))=false) (hled:t.led=true)
    (h:Q' (match es[SetTable.below t.place slot]?,t.place[SetTable.below t.place slot]? with | some (_,x),some j=>some (x,j+1) | _,_=>none) s):wpAny (model prog w) A' (setNext a slot g ep) Q' E s:=by
  unfold setNext
  refine wpAny_bind (wpAny_setState_of ha hd hf ?_)
  dsimp only
  unfold setsByText
  refine wpAny_bind (wpAny_bind (wpAny_askSetting (wpAny_pure ?_)))
  rw [show (model prog w).w.params.followText "set-order" = false from hby]
  simp only [Bool.false_eq_true,if_false]
  show wpAny _ _ (if (!t.plain && decide (es.size > 1))=true then _ else _) _ _ _
  rw [hdr]
  simp only [Bool.false_eq_true,if_false]
  refine wpAny_bind ?_
  show wpAny _ _ (if (!t.led && !es.isEmpty)=true then _ else _) _ _ _
  rw [hled]
  simp only [Bool.not_true,Bool.false_and,Bool.false_eq_true,if_false]
  exact wpAny_pure (wpAny_pure h)
end
end KS
set_option maxHeartbeats 4000000
namespace KS
open PySem PySem.Spec PyProof.Rows
theorem pick_go {α:Type} (next:Nat→Nat):∀ (fuel k:Nat) (left:List α) (out:Array α),left.length≤fuel→(pickOrder.go next fuel k left out).toList.Perm (out.toList++left)
  | 0,k,left,out,h=>by
    have e:left=[]:=List.eq_nil_of_length_eq_zero (by (first|lia|omega))
    subst e
    show out.toList.Perm (out.toList++[])
    rw [List.append_nil]
  | fuel+1,k,[],out,_=>by
    show out.toList.Perm (out.toList++[])
    rw [List.append_nil]
  | fuel+1,k,x::left,out,h=>by
    show (match (x::left)[next k % (x::left).length]? with
      | some y=>pickOrder.go next fuel (k+1) ((x::left).eraseIdx (next k % (x::left).length)) (out.push y)
      | none=>out).toList.Perm _
    have hi:next k % (x::left).length < (x::left).length:=Nat.mod_lt _ (by simp)
    rw [List.getElem?_eq_getElem hi]
    dsimp only
    refine (pick_go next fuel (k+1) _ _ (by rw [List.length_eraseIdx_of_lt hi]; simp at h ⊢; (first|lia|omega))).trans ?_
    rw [Array.toList_push,List.append_assoc]
    exact List.Perm.append_left _ (perm_erase _ _ hi)
theorem pick_perm {α:Type} (next:Nat→Nat) (xs:Array α):(pickOrder next xs).toList.Perm xs.toList:=by
  unfold pickOrder
  have q:=pick_go next xs.size 0 xs.toList #[] (by simp)
  simpa using q
theorem fm_map (es:Array (Int×Value)):∀ ys:List Nat,(∀ j ∈ ys,j < es.size)→ys.filterMap (fun j=>(es[j]?).map (·.2))=ys.map fun j=>((es[j]?).map (·.2)).getD Value.none
  | [],_=>rfl
  | j::ys,h=>by
    have hj:=h j List.mem_cons_self
    rw [List.filterMap_cons,Array.getElem?_eq_getElem hj]
    show es[j].2::ys.filterMap (fun j=>(es[j]?).map (·.2))=_
    rw [fm_map es ys fun i hi=>h i (List.mem_cons_of_mem _ hi),List.map_cons,Array.getElem?_eq_getElem hj]
    rfl
section
variable {prog:Program} {w:World} {A:Around} {E:Value→Shared→Prop} {s:Shared} {I a:Addr} {o:Obj} {es:Array (Int×Value)} {ep n:Nat} {t:SetTable}
theorem seti_self {i:Nat} {f x:Value} {Q:Value→Shared→Prop} (ho:s.heap.get? I=some (itObj f i x n ep)) (h:Q (.ref I) s):wpAny (model prog w) A (pyIter (.ref I)) Q E s:=by
  have hT:s.TypeIs (.ref I) "set_iterator" := ⟨_,ho,rfl⟩
  refine wpAny_pyIter_slot hT slot_seti_iter (wpAny_call_entry slot_seti_iter hT entry_seti_iter ?_ (args_seti_iter _))
  show wpAny _ _ (ret (.ref I)) _ _ s
  exact wpAny_pure ⟨_,rfl, "set_iterator", _,hT,slot_seti_next.lookup,h⟩
theorem moved1 {h':Heap} (hs:Heap.SameBut I s.heap h'):Moved [I] Eq s { s with heap:=h' } :=
  ⟨fun b ob hb e=>(hs.2 b (fun z=>hb (by simp [z]))).trans e,rfl,rfl,rfl,Nat.le_refl _⟩
theorem moved2 {h':Heap} (hs:∀ b ob,b≠I→s.heap.get? b=some ob→h'.get? b=some ob):Moved [I] Eq s { s with heap:=h' } :=
  ⟨fun b ob hb e=>hs b ob (fun z=>hb (by simp [z])) e,rfl,rfl,rfl,Nat.le_refl _⟩
theorem walks_text (hh:A.handled=none) (hne:a≠I) (hd:o.data=.set es ep t) (hf:t.fits es.size=true) (hby:byText w=true) :
    WalksS prog w A I [I,a] [I] Eq es.size (fun i v=>((pickOrder (w.params.setOrder a ep) es).toList.map (·.2))[i]?=some v) (fun i s=>s.heap.get? I=some (itObj (.int ((0:Nat):Int) 0) i (.ref a) es.size ep)∧s.heap.get? a=some o) where
  sub:=fun b hb=>by simp at hb; simp [hb]
  grefl:=fun _=>rfl
  gtrans:=fun _ _ _ x y=>x.trans y
  frame:=fun i s h' tk st _ k=>⟨k I (by simp) _ st.1,k a (by simp) _ st.2⟩
  item:=fun i s Q E hi st hQ=>by
    have hl:(pickOrder (w.params.setOrder a ep) es).size=es.size:=by rw [← Array.length_toList,(pick_perm _ es).length_eq,Array.length_toList]
    have hx:(pickOrder (w.params.setOrder a ep) es)[i]?=some ((pickOrder (w.params.setOrder a ep) es)[i]'(by (first|lia|omega))):=Array.getElem?_eq_getElem _
    refine item_int (x:=((pickOrder (w.params.setOrder a ep) es)[i]'(by (first|lia|omega))).2) (nx:=0) st.1 st.2 hd hf rfl (fun E' Q' q=>setNext_text hby st.2 hd hf (by rw [hx]; rfl) q) fun h' g b=>hQ _ _ ?_ ⟨g,(b.2 a hne).trans st.2⟩ (moved1 b)
    rw [List.getElem?_map,Array.getElem?_toList,hx]
    rfl
  done:=fun s Q E st hQ=>by
    have hl:(pickOrder (w.params.setOrder a ep) es).size=es.size:=by rw [← Array.length_toList,(pick_perm _ es).length_eq,Array.length_toList]
    refine done_int hh st.1 st.2 hd hf rfl (fun E' Q' q=>setNext_text hby st.2 hd hf (by rw [Array.getElem?_eq_none (by (first|lia|omega))]; rfl) q) fun h' k=>hQ _ (moved2 k)
  self:=fun i s Q E st h=>seti_self st.1 h
theorem walks_one (hh:A.handled=none) (hne:a≠I) (hd:o.data=.set es ep t) (hf:t.fits es.size=true) (hby:byText w=false) (hdr:(!t.plain && decide (es.size > 1))=false) (hr:Ris t.place) (hled:t.led=true) :
    WalksS prog w A I [I,a] [I] Eq es.size (fun i v=>(es.toList.map (·.2))[i]?=some v) (fun i s=>(∃ f:Nat,SetTable.below t.place f=i∧s.heap.get? I=some (itObj (.int (f:Int) 0) i (.ref a) es.size ep))∧s.heap.get? a=some o) where
  sub:=fun b hb=>by simp at hb; simp [hb]
  grefl:=fun _=>rfl
  gtrans:=fun _ _ _ x y=>x.trans y
  frame:=fun i s h' tk st _ k=>by
    obtain ⟨⟨f,f0,g⟩,ga⟩:=st
    exact ⟨⟨f,f0,k I (by simp) _ g⟩,k a (by simp) _ ga⟩
  item:=fun i s Q E hi st hQ=>by
    obtain ⟨⟨f,f0,g⟩,ga⟩:=st
    have hsz:t.place.size=es.size:=by
      have hf':=hf
      simp only [SetTable.fits,Bool.and_eq_true,beq_iff_eq] at hf'
      exact hf'.1
    have hpl:t.place[i]?=some (t.place[i]'(by (first|lia|omega))):=Array.getElem?_eq_getElem _
    have hes:es[i]?=some (es[i]'hi):=Array.getElem?_eq_getElem _
    refine item_int (x:=(es[i]'hi).2) (nx:=(t.place[i]'(by (first|lia|omega)))+1) g ga hd hf rfl (fun E' Q' q=>setNext_one hby ga hd hf hdr hled (by rw [f0,hes,hpl]; exact q)) fun h' g' b=>hQ _ _ ?_ ⟨⟨_,below_next hr hpl,g'⟩,(b.2 a hne).trans ga⟩ (moved1 b)
    rw [List.getElem?_map,Array.getElem?_toList,hes]
    rfl
  done:=fun s Q E st hQ=>by
    obtain ⟨⟨f,f0,g⟩,ga⟩:=st
    refine done_int hh g ga hd hf rfl (fun E' Q' q=>setNext_one hby ga hd hf hdr hled ?_) fun h' k=>hQ _ (moved2 k)
    have hbe:es[SetTable.below t.place f]?=none:=by rw [f0]; exact Array.getElem?_eq_none (Nat.le_refl _)
    rw [hbe]
    exact q
  self:=fun i s Q E st h=>by
    obtain ⟨⟨f,f0,g⟩,ga⟩:=st
    exact seti_self g h
theorem walks_drawn {pl:Addr} {op:Obj} {ys:List Nat} {c:Nat} (hh:A.handled=none) (hne:a≠I) (hnp:pl≠I) (hd:o.data=.set es ep t) (hf:t.fits es.size=true) (hpd:op.data=.seq (ys.map fun (i:Nat)=>Value.int (i:Int) 0).toArray c) (hys:ys.Perm (List.range es.size)) :
    WalksS prog w A I [I,a,pl] [I] Eq es.size (fun i v=>(ys.filterMap fun j=>(es[j]?).map (·.2))[i]?=some v) (fun i s=>s.heap.get? I=some (itObj (.ref pl) i (.ref a) es.size ep)∧s.heap.get? a=some o∧s.heap.get? pl=some op) where
  sub:=fun b hb=>by simp at hb; simp [hb]
  grefl:=fun _=>rfl
  gtrans:=fun _ _ _ x y=>x.trans y
  frame:=fun i s h' tk st _ k=>⟨k I (by simp) _ st.1,k a (by simp) _ st.2.1,k pl (by simp) _ st.2.2⟩
  item:=fun i s Q E hi st hQ=>by
    have hl:ys.length=es.size:=by rw [hys.length_eq,List.length_range]
    have hyi:ys[i]?=some (ys[i]'(by (first|lia|omega))):=List.getElem?_eq_getElem _
    have hlt:ys[i]'(by (first|lia|omega)) < es.size:=List.mem_range.mp (hys.mem_iff.mp (List.getElem_mem _))
    have hes:es[ys[i]'(by (first|lia|omega))]?=some es[ys[i]'(by (first|lia|omega))]:=Array.getElem?_eq_getElem hlt
    refine item_drawn (x:=es[ys[i]'(by (first|lia|omega))].2) (hx:=es[ys[i]'(by (first|lia|omega))].1) (place:=ys[i]'(by (first|lia|omega))) st.1 st.2.1 hd hf rfl st.2.2 hpd (by rw [List.getElem?_toArray,List.getElem?_map,hyi]; rfl) hes fun h' g b=>hQ _ _ ?_ ⟨g,(b.2 a hne).trans st.2.1,(b.2 pl hnp).trans st.2.2⟩ (moved1 b)
    have all:=fm_map es ys fun j hj=>List.mem_range.mp (hys.mem_iff.mp hj)
    rw [all,List.getElem?_map,hyi]
    show some (((es[ys[i]'(by (first|lia|omega))]?).map (·.2)).getD Value.none)=_
    rw [hes]
    rfl
  done:=fun s Q E st hQ=>by
    have hl:ys.length=es.size:=by rw [hys.length_eq,List.length_range]
    exact done_drawn hh st.1 st.2.1 hd hf rfl st.2.2 hpd (by rw [List.getElem?_toArray,List.getElem?_eq_none (by rw [List.length_map]; (first|lia|omega))]) fun h' k=>hQ _ (moved2 k)
  self:=fun i s Q E st h=>seti_self st.1 h
theorem iter_set {Q:Value→Shared→Prop} (ha:s.heap.get? a=some o) (hex:o.ExactSet) (hd:o.data=.set es ep t) (hf:t.fits es.size=true) (hb:es.size < scanBound) (hled:t.led=!byText w) (hpl:t.plain=true→Ris t.place)
    (h:∀ (I:Addr) (fp:List Addr) (St:Nat→Shared→Prop) (ord:List Value) (h':Heap) (d':Drawn),(∀ A':Around,A'.handled=none→WalksS prog w A' I fp [I] Eq es.size (fun i v=>ord[i]?=some v) St)→St 0 { s with heap:=h',drawn:=d' } →
      (∀ b ∈ fp,b < h'.objs.size)→I ∈ fp→a≠I→(∀ b ∈ fp,b=a∨s.heap.objs.size≤b)→ord.Perm (es.toList.map (·.2))→(∀ b ob,s.heap.get? b=some ob→h'.get? b=some ob)→Q (.ref I) { s with heap:=h',drawn:=d' }) :
    wpAny (model prog w) A (pyIter (.ref a)) Q E s:=by
  have hT:s.TypeIs (.ref a) "set" := ⟨o,ha,hex.1⟩
  refine wpAny_pyIter_slot hT F.slot_set_iter (wpAny_call_entry F.slot_set_iter hT entry_set_iter ?_ (args_set_iter _))
  unfold Builtin.«frozenset.__iter__»
  refine wpAny_bind (m:=Builtin.Frozenset.slot0 "__iter__" _) (wpAny_pure ?_)
  refine wpAny_bind (m:=Builtin.Frozenset.sizeOf _) (wpAny_bind (wpAny_setEntries_of ha hd hf (wpAny_pure ?_)))
  have alt:a < s.heap.objs.size:=Heap.lt_size ha
  unfold setDrawn
  refine wpAny_bind (wpAny_bind (wpAny_setState_of ha hd hf ?_))
  dsimp only
  unfold setsByText
  refine wpAny_bind (wpAny_bind (wpAny_askSetting (wpAny_pure ?_)))
  refine wpAny_pure ?_
  show wpAny _ _ (if (!byText w && (!t.plain && decide (es.size > 1)))=true then _ else _) _ _ _
  have fin:∀ (first:Value) (h1:Heap) (d1:Drawn),(∀ b ob,s.heap.get? b=some ob→h1.get? b=some ob)→s.heap.objs.size≤h1.objs.size →
      (∀ (I:Addr),I=h1.objs.size→Q (.ref I) { s with heap:=h1.push (itObj first 0 (.ref a) es.size ep),drawn:=d1 }) →
      wpAny (model prog w) A.in1 (do
        let e ← setEpoch a
        let v ← newFields "set_iterator" [first,rawInt 0,Value.ref a,rawInt es.size,rawInt e]
        ret v) (fun fin s'=>∃ v,fin=Fin.done (Flow.ret v)∧∃ T' r,s'.TypeIs v T'∧typeLookup (Value.type T') (Str.ofString "__next__")=pure (some r)∧Q v s') E { s with heap:=h1,drawn:=d1 }:=by
    intro first h1 d1 k hz q
    refine wpAny_bind (wpAny_setEpoch_of (s:={ s with heap:=h1,drawn:=d1 }) (k a o ha) hd hf ?_)
    exact wpAny_bind (wpAny_newObj_type (wpAny_pure ⟨_,rfl, "set_iterator", _,⟨_,Heap.get?_push_size _ rfl,rfl⟩,slot_seti_next.lookup,q _ rfl⟩))
  by_cases hdr:(!byText w && (!t.plain && decide (es.size > 1)))=true
  · rw [if_pos hdr]
    refine wpAny_bind (draw_order es.size (List.range es.size) s _ (by simp) fun ys d' hp=>?_)
    refine wpAny_bind (wpAny_newTuple ?_ (by rw [List.length_map,hp.length_eq,List.length_range]; exact fits_of_scanBound hb))
    generalize hP:({ cls:=.type "tuple", data:=.seq (ys.map fun (i:Nat)=>rawInt (i:Int)).toArray }:Obj)=op
    have hz1:(s.heap.push op).objs.size=s.heap.objs.size+1:=Heap.size_push ..
    have hop:op.data=.seq (ys.map fun (i:Nat)=>Value.int (i:Int) 0).toArray 0:=by rw [← hP]; rfl
    refine fin _ (s.heap.push op) d' (fun b ob e=>Heap.get?_push_of_some _ e) (by rw [hz1]; exact Nat.le_succ _) fun I hI=>?_
    rw [hz1] at hI
    have hpI:s.heap.objs.size≠I:=by rw [hI]; exact Nat.ne_of_lt (Nat.lt_succ_self _)
    have haI:a≠I:=by rw [hI]; exact Nat.ne_of_lt (Nat.lt_succ_of_lt alt)
    have hz2:((s.heap.push op).push (itObj (.ref s.heap.objs.size) 0 (.ref a) es.size ep)).objs.size=s.heap.objs.size+2:=by rw [Heap.size_push,hz1]
    have q1:((s.heap.push op).push (itObj (.ref s.heap.objs.size) 0 (.ref a) es.size ep)).get? I=some (itObj (.ref s.heap.objs.size) 0 (.ref a) es.size ep):=by
      rw [hI,← hz1]
      exact Heap.get?_push_size _ rfl
    have q2:((s.heap.push op).push (itObj (.ref s.heap.objs.size) 0 (.ref a) es.size ep)).get? a=some o:=Heap.get?_push_of_some _ (Heap.get?_push_of_some _ ha)
    have q3:((s.heap.push op).push (itObj (.ref s.heap.objs.size) 0 (.ref a) es.size ep)).get? s.heap.objs.size=some op:=Heap.get?_push_of_some _ (Heap.get?_push_size s.heap (o:=op) (by rw [← hP]; rfl))
    have q4:∀ b ∈ [I,a,s.heap.objs.size],b < ((s.heap.push op).push (itObj (.ref s.heap.objs.size) 0 (.ref a) es.size ep)).objs.size:=by
      intro b hb
      rw [hz2]
      simp only [List.mem_cons,List.not_mem_nil,or_false] at hb
      rcases hb with rfl | rfl | rfl
      · rw [hI]; exact Nat.lt_succ_self _
      · exact Nat.lt_succ_of_lt (Nat.lt_succ_of_lt alt)
      · exact Nat.lt_succ_of_lt (Nat.lt_succ_self _)
    have q6:∀ b ∈ [I,a,s.heap.objs.size],b=a∨s.heap.objs.size≤b:=by
      intro b hb
      simp only [List.mem_cons,List.not_mem_nil,or_false] at hb
      rcases hb with rfl | rfl | rfl
      · exact .inr (by rw [hI]; exact Nat.le_succ _)
      · exact .inl rfl
      · exact .inr (Nat.le_refl _)
    have q5:(ys.filterMap fun j=>(es[j]?).map (·.2)).Perm (es.toList.map (·.2)):=by
      refine (hp.filterMap fun j=>(es[j]?).map (·.2)).trans ?_
      rw [← PySem.filterMap_getElem?_range es,List.map_filterMap]
    exact h I [I,a,s.heap.objs.size] _ (ys.filterMap fun j=>(es[j]?).map (·.2)) _ d' (fun A' hA=>walks_drawn (op:=op) hA haI hpI hd hf hop hp) ⟨q1,q2,q3⟩ q4 (by simp) haI q6 q5 (fun b ob e=>Heap.get?_push_of_some _ (Heap.get?_push_of_some _ e))
  · rw [if_neg hdr]
    refine wpAny_bind (wpAny_pure ?_)
    refine fin _ s.heap s.drawn (fun b ob e=>e) (Nat.le_refl _) fun I hI=>?_
    have haI:a≠I:=by rw [hI]; exact Nat.ne_of_lt alt
    have hfp:∀ b ∈ [I,a],b < (s.heap.push (itObj (rawInt 0) 0 (.ref a) es.size ep)).objs.size:=by
      intro b hb
      rw [Heap.size_push]
      simp only [List.mem_cons,List.not_mem_nil,or_false] at hb
      rcases hb with rfl | rfl
      · rw [hI]; exact Nat.lt_succ_self _
      · exact Nat.lt_succ_of_lt alt
    have q1:(s.heap.push (itObj (rawInt 0) 0 (.ref a) es.size ep)).get? I=some (itObj (rawInt 0) 0 (.ref a) es.size ep):=by rw [hI]; exact Heap.get?_push_size _ rfl
    have q2:(s.heap.push (itObj (rawInt 0) 0 (.ref a) es.size ep)).get? a=some o:=Heap.get?_push_of_some _ ha
    have q6:∀ b ∈ [I,a],b=a∨s.heap.objs.size≤b:=by
      intro b hb
      simp only [List.mem_cons,List.not_mem_nil,or_false] at hb
      rcases hb with rfl | rfl
      · exact .inr (by rw [hI]; exact Nat.le_refl _)
      · exact .inl rfl
    cases hby:byText w with
    | true=>exact h I [I,a] _ ((pickOrder (w.params.setOrder a ep) es).toList.map (·.2)) _ s.drawn (fun A' hA=>walks_text hA haI hd hf hby) ⟨q1,q2⟩ hfp (by simp) haI q6 ((pick_perm _ es).map _) (fun b ob e=>Heap.get?_push_of_some _ e)
    | false =>
      have hdr':(!t.plain && decide (es.size > 1))=false:=by
        rw [hby,Bool.not_false,Bool.true_and] at hdr
        exact Bool.eq_false_iff.mpr hdr
      have hr:Ris t.place:=by
        cases q:t.plain with
        | true=>exact hpl q
        | false =>
          rw [q,Bool.not_false,Bool.true_and] at hdr'
          have h1:¬ es.size > 1:=of_decide_eq_false hdr'
          have hsz:t.place.size=es.size:=by
            have hf':=hf
            simp only [SetTable.fits,Bool.and_eq_true,beq_iff_eq] at hf'
            exact hf'.1
          have hl:t.place.toList.length≤1:=by rw [Array.length_toList]; (first|lia|omega)
          unfold Ris
          match hq:t.place.toList,hl with
          | [],_=>exact .nil
          | [x],_=>exact List.pairwise_singleton _ _
      exact h I [I,a] _ (es.toList.map (·.2)) _ s.drawn (fun A' hA=>walks_one hA haI hd hf hby hdr' hr (by rw [hled,hby]; rfl)) ⟨⟨0,below_zero hr,q1⟩,q2⟩ hfp (by simp) haI q6 (.refl _) (fun b ob e=>Heap.get?_push_of_some _ e)
end
end KS
set_option maxHeartbeats 4000000
namespace KS
open PySem PySem.Spec PyProof.Rows
section
variable {prog:Program} {w:World} {A:Around} {E:Value→Shared→Prop} {s:Shared} {a:Addr} {o:Obj} {es:Array (Int×Value)} {ep:Nat} {t:SetTable}
theorem hint_set {Q:Bool→Shared→Prop} (hT:s.TypeIs (.ref a) "set") (h:Q false s):wpAny (model prog w) A (Builtin.List.listLengthHint (.ref a)) Q E s:=by
  unfold Builtin.List.listLengthHint
  refine wpAny_bind (wpAny_specialOf hT F.slot_set_len.lookup ?_)
  generalize hid:("set.__len__" : String)=id0
  wp_delta
  rw [show splitId id0=some ("set", "__len__") from by subst hid; decide +kernel]
  subst hid
  refine wpAny_bind (wpAny_isInstance (b:=true) hT sub_set_self ?_)
  rw [if_neg (by decide)]
  show wpAny _ _ (if _=true then _ else _) _ _ _
  rw [if_pos (by decide +kernel)]
  refine wpAny_bind (wpAny_typeOf hT ?_)
  exact wpAny_pure h
theorem collect_set {Q:List Value→Shared→Prop} (hh:A.handled=none) (ha:s.heap.get? a=some o) (hex:o.ExactSet) (hd:o.data=.set es ep t) (hf:t.fits es.size=true) (hb:es.size < scanBound) (hled:t.led=!byText w) (hpl:t.plain=true→Ris t.place)
    (hQ:∀ (vs:List Value) (h':Heap) (d':Drawn) (tk:Nat),vs.Perm (es.toList.map (·.2))→s.heap.objs.size < h'.objs.size→(∀ b ob,s.heap.get? b=some ob→h'.get? b=some ob)→Q vs { s with heap:=h',drawn:=d',toks:=tk }) :
    wpAny (model prog w) A (collect (.ref a)) Q E s:=by
  have alt:a < s.heap.objs.size:=Heap.lt_size ha
  unfold collect
  refine wpAny_bind (wpAny_runValue (codeAny_builtin F.entry_proto_collect ?_))
  rw [Around.under_plainId F.plain_proto_collect _]
  show wpAny _ A.in1 (newList [] >>= fun l=>again (.builtin "list.__iadd__" ⟨[l,.ref a],[]⟩)) _ _ s
  refine wpAny_bind (wpAny_newObj_type ?_)
  refine wpAny_pure ⟨plainId_quiet F.plain_list_iadd _,codeAny_builtin F.entry_list_iadd ?_⟩
  rw [Around.under_plainId F.plain_list_iadd _]
  generalize hL:({ cls:=.type "list", dict:=none,data:=.seq ([]:List Value).toArray }:Obj)=ol
  have g1:(s.heap.push ol).get? s.heap.objs.size=some ol:=Heap.get?_push_size s.heap (o:=ol) (by rw [← hL]; rfl)
  have ga:(s.heap.push ol).get? a=some o:=Heap.get?_push_of_some _ ha
  have hT:Shared.TypeIs { s with heap:=s.heap.push ol } (.ref a) "set" := ⟨o,ga,hex.1⟩
  show wpAny _ A.in1 (Builtin.List.listExtendWith (.ref s.heap.objs.size) (.ref a) (.ref s.heap.objs.size)) _ _ _
  unfold Builtin.List.listExtendWith
  refine wpAny_bind (wpAny_typeOf hT ?_)
  have h1:Builtin.List.listSameRef (.ref s.heap.objs.size) (.ref a)=false:=by
    simp only [Builtin.List.listSameRef,beq_eq_false_iff_ne]
    exact (Nat.ne_of_lt alt).symm
  rw [if_neg (by rw [h1]; decide)]
  refine wpAny_bind (iter_set (s:={ s with heap:=s.heap.push ol }) ga hex hd hf hb hled hpl fun I fp St ord h2 d2 W st0 hfp hI haI hfq hord hk=>?_)
  refine wpAny_bind (wpAny_holding (hint_set ⟨o,hk a o ga,hex.1⟩ ?_))
  rw [if_pos (by decide)]
  refine wpAny_bind (wpAny_rule ?_)
  refine wpAny_bind ?_
  have g2:h2.get? s.heap.objs.size=some { cls:=.type "list", data:=.seq ([]:List Value).toArray }:=by rw [hL]; exact hk _ _ g1
  show wpAny _ A.in1 (updateSeq s.heap.objs.size (·.push .none) >>= fun _=>updateSeq s.heap.objs.size (·.pop)) _ _ _
  refine wpAny_bind (wpAny_updateSeq (s:={ s with heap:=h2,drawn:=d2 }) g2 rfl ?_)
  have g3:=Heap.get?_update_self (Obj.mapSeq (·.push Value.none)) g2 rfl
  refine wpAny_updateSeq g3 rfl ?_
  have g4:=Heap.get?_update_self (Obj.mapSeq (·.pop)) g3 rfl
  generalize hh3:(h2.update s.heap.objs.size (Obj.mapSeq (·.push Value.none))).update s.heap.objs.size (Obj.mapSeq (·.pop))=h3 at g4 ⊢
  have oth:∀ b ob,b≠s.heap.objs.size→h2.get? b=some ob→h3.get? b=some ob:=fun b ob hne e=>by
    rw [← hh3]
    exact (Heap.get?_update_other _ _ (Ne.symm hne)).trans ((Heap.get?_update_other _ _ (Ne.symm hne)).trans e)
  have hz:(s.heap.push ol).objs.size=s.heap.objs.size+1:=Heap.size_push ..
  have hSf:s.heap.objs.size ∉ fp:=fun hm=>by
    rcases hfq _ hm with z | z
    · exact absurd z (Nat.ne_of_lt alt).symm
    · have z:(s.heap.push ol).objs.size≤s.heap.objs.size:=z
      rw [hz] at z
      exact absurd z (Nat.not_succ_le_self _)
  have hIS:I≠s.heap.objs.size:=fun e=>hSf (e ▸ hI)
  have st1:=(W A.in1 hh).frame 0 _ h3 s.toks st0 (Nat.le_refl _) fun b hb ob e=>oth b ob (fun z=>hSf (z ▸ hb)) e
  have lt0:∀ b ob,s.heap.get? b=some ob→b≠s.heap.objs.size∧b≠I:=fun b ob e=>by
    refine ⟨Nat.ne_of_lt (Heap.lt_size e),fun z=>?_⟩
    rcases hfq _ hI with y | y
    · exact haI y.symm
    · have y:(s.heap.push ol).objs.size≤I:=y
      rw [hz,← z] at y
      exact absurd (Nat.lt_of_lt_of_le (Heap.lt_size e) (Nat.le_of_succ_le y)) (Nat.lt_irrefl _)
  refine wpAny_pure ⟨plainId_quiet F.plain_extend_loop _,codeAny_extend_loopS (W A.in1 hh) (fits_of_scanBound hb) _ hSf _ es.size 0 _ _ _ rfl (Nat.zero_le _) st1 g4 (ItemsOf.nil _) fun s' acc c' hm gS hacc=>?_⟩
  show wpAny _ A (load s.heap.objs.size >>= _) _ _ s'
  refine wpAny_bind (wpAny_load gS ?_)
  refine wpAny_pure ?_
  obtain ⟨h9,g9,d9,tk9,os9⟩:=s'
  have eg:g9=s.gens:=hm.gens.symm
  have ed:d9=d2:=hm.drawn
  have eo:os9=s.os:=hm.os
  subst eg ed eo
  have hl:ord.length=es.size:=by rw [hord.length_eq,List.length_map,Array.length_toList]
  have hv:acc.toList=ord:=by
    refine List.ext_getElem? fun j=>?_
    by_cases hj:j < acc.size
    · have e1:acc[j]?=some acc[j]:=Array.getElem?_eq_getElem hj
      rw [Array.getElem?_toList,e1,hacc.2 j _ e1]
    · have hj':es.size≤j:=by rw [hacc.1] at hj; (first|lia|omega)
      rw [Array.getElem?_toList,Array.getElem?_eq_none (by (first|lia|omega)),List.getElem?_eq_none (by (first|lia|omega))]
  refine hQ _ h9 _ tk9 (by rw [hv]; exact hord) (Heap.lt_size gS) fun b ob e=>?_
  obtain ⟨n1,n2⟩:=lt0 b ob e
  exact hm.heap b ob (by simp [n1,n2]) (oth b ob n1 (hk b ob (Heap.get?_push_of_some _ e)))
end
end KS
set_option maxHeartbeats 4000000
namespace KS
open PySem PySem.Spec PyProof.Rows
theorem perm_pigeon {α:Type} [DecidableEq α]:∀ (σ ss:List α),σ.Nodup→(∀ k ∈ σ,k ∈ ss)→ss.length=σ.length→ss.Perm σ
  | [],ss,_,_,hl=>by
    have:ss=[]:=List.eq_nil_of_length_eq_zero (by first|exact hl|exact List.mem_singleton.mp hl|simpa using hl)
    subst this; exact .refl _
  | k::σ,ss,hn,hm,hl=>by
    have hk:k ∈ ss:=hm k (List.mem_cons_self ..)
    have hp:=List.perm_cons_erase hk
    have hn':=List.nodup_cons.mp hn
    have hlen:(ss.erase k).length=σ.length:=by
      have:=hp.length_eq
      simp only [List.length_cons] at this hl
      (first|lia|omega)
    refine hp.trans (.cons k (perm_pigeon σ (ss.erase k) hn'.2 (fun j hj=>?_) hlen))
    have hne:j≠k:=fun e=>hn'.1 (e ▸ hj)
    exact (List.mem_erase_of_ne hne).mpr (hm j (List.mem_cons_of_mem _ hj))
theorem isStr_of {x:Str} {v:Value} (h:Value.isStrOf x v=true):strOf v=x:=by
  obtain ⟨t,rfl⟩:=Value.isStrOf_shape h; rfl
section
variable {prog:Program} {w:World} {A:Around} {E:Value→Shared→Prop} {s:Shared}
theorem sorted_set {a:Addr} {σ:List Str} {Q:Value→Shared→Prop} (hh:A.handled=none) (hS:SetZ (PySem.strKind prog w) s.heap a σ (!byText w)) (h64:σ.length < 64)
    (hQ:∀ (p:Addr) (out:List Value) (ss:List Str) (e:Nat) (h':Heap) (d':Drawn) (tk:Nat),s.heap.objs.size≤p→h'.get? p=some (seqObj "list" out.toArray e)→StrsAre out ss→ss.Perm σ→sortedS ss=true →
      (∀ b o,s.heap.get? b=some o→h'.get? b=some o)→Q (.ref p) { s with heap:=h',drawn:=d',toks:=tk }) :
    wpAny (model prog w) A (call (.builtin "sorted") [.ref a]) Q E s:=by
  obtain ⟨o,es,ep,t,ho,hex,hd,hE,hmem,hb,hf,hsz,hnd,hled,hpl⟩:=hS
  refine Calls.call_function_entry kind_sorted plain_sorted entry_sorted (args_sorted1 _) ?_
  unfold Builtin.«sorted»
  refine wpAny_bind (m:=checkCount "sorted" 1 1 _) (wpAny_pure ?_)
  refine wpAny_bind (collect_set (by first|exact hh|exact List.mem_singleton.mp hh|simpa using hh) ho hex hd hf hb hled hpl fun vs h' d' tk hperm hlt hk=>?_)
  have hlen:vs.length=σ.length:=by rw [hperm.length_eq,List.length_map,Array.length_toList]; exact hsz
  refine wpAny_bind (wpAny_newList ?_ (hsz:=by rw [sizeLine_eq]; (first|lia|omega)))
  show wpAny _ _ _ _ _ { s with heap:=h'.push (seqObj "list" vs.toArray 0),drawn:=d',toks:=tk }
  have hoL:(h'.push (seqObj "list" vs.toArray 0)).get? h'.objs.size=some (seqObj "list" vs.toArray 0):=Heap.get?_push_size _ rfl
  have hstr:∀ v ∈ vs,∃ x t,v=.str x t:=fun v hv=>by
    have hv':=hperm.mem_iff.mp hv
    obtain ⟨e,he,rfl⟩:=List.mem_map.mp hv'
    obtain ⟨⟨k,hk,_⟩,_⟩:=hE e he
    obtain ⟨t,q⟩:=Value.isStrOf_shape hk
    exact ⟨k,t,q⟩
  have hSA:=strsAre_map vs hstr
  have hps:(vs.map strOf).Perm σ:=by
    refine perm_pigeon σ _ hnd (fun k hk=>?_) (by rw [List.length_map,hlen])
    obtain ⟨e,he,hke⟩:=(hmem k).mp hk
    refine List.mem_map.mpr ⟨e.2,hperm.mem_iff.mpr (List.mem_map.mpr ⟨e,he,rfl⟩),isStr_of hke⟩
  have hle:s.heap.objs.size≤h'.objs.size:=Nat.le_of_lt hlt
  refine wpAny_bind (wpAny_holding (wpAny_call_entry slot_list_sort ⟨_,hoL,rfl⟩ entry_list_sort (list_sort_treeK strKind_oneLt hoL hSA.keysOf (fun v₁ v₂ rest e=>keyKind_strs (by rw [← e]; exact hSA)) (by rw [hlen]; exact h64) fun st' a1 a2=>⟨_,rfl,?_⟩) (args_list_sort _)))
  obtain ⟨ss',b1,b2,b3⟩:=sorted_out_str hSA a1 a2
  obtain ⟨e',he'⟩:=sortedHeap_at (out:=(arrOf st').map (·.2)) hoL
  refine wpAny_pure ⟨_,rfl,hQ h'.objs.size ((arrOf st').map (·.2)).toList ss' e' _ d' tk hle (by rw [Array.toArray_toList]; exact he') b1 (b2.trans hps) b3 fun b ob hb=>?_⟩
  have hbl:b < h'.objs.size:=Nat.lt_of_lt_of_le (Heap.lt_size hb) hle
  rw [sortedHeap_old (Nat.ne_of_lt hbl) (by rw [size_push']; exact Nat.lt_succ_of_lt hbl)]
  exact Heap.get?_push_of_some _ (hk b ob hb)
end
end KS
set_option maxHeartbeats 4000000
namespace L2
open PySem PySem.Spec PyProof.Rows
theorem vals_of_strs {vs:List Value} {ss:List Str} (h:StrsAre vs ss):Vals (ss.map V.str) vs:=by
  induction h with
  | nil=>exact .nil
  | cons y t h ih=>exact .cons ⟨t,rfl⟩ ih
theorem strs_of_vals:∀ {ss:List Str} {vs:List Value},Vals (ss.map V.str) vs→StrsAre vs ss
  | [],_,.nil=>.nil
  | s::ss,_,.cons ⟨t,e⟩ r=>by subst e; exact .cons s t (strs_of_vals r)
theorem strsAt:∀ {vs:List Value} {ss:List Str} {i:Nat} {v:Value},StrsAre vs ss→vs[i]?=some v→∃ t,v=.str (ss.getD i "") t
  | _,_,_,_,.nil,e=>by simp at e
  | _,_,0,_,.cons y t h,e=>by simp at e; exact ⟨t,by rw [← e]; rfl⟩
  | _,_,i+1,v,.cons y t h,e=>by
    obtain ⟨u,q⟩:=strsAt (i:=i) (v:=v) h (by first|exact e|exact List.mem_singleton.mp e|simpa using e)
    exact ⟨u,by first|exact q|exact List.mem_singleton.mp q|simpa using q⟩
theorem StrsAre.len:∀ {vs:List Value} {ss:List Str},StrsAre vs ss→vs.length=ss.length
  | _,_,.nil=>rfl
  | _,_,.cons _ _ h=>by simp [StrsAre.len h]
noncomputable def setO (P:Program) (w:World) (q:Addr) (σ:List Str):HO:=.ext fun h=>KS.SetZ (PySem.strKind P w) h q σ (!KS.byText w)
section
variable {X:Cx}
theorem Inv.laidD {pins:List (Addr×Obj)} {σ:St} {H:Hp} {s:Shared} {h':Heap} {a:Addr} {o:HO} {t':Nat} {d':Drawn} (I:Inv X pins σ H s) (k:∀ b u,s.heap.get? b=some u→h'.get? b=some u) (hp:s.heap.objs.size≤a) (new:ObjOk X.prog X.w (upd H a o) h' a o) :
    Inv X pins σ (upd H a o) { s with heap:=h',drawn:=d',toks:=t' } :=
  I.call (ch:=[]) (g':=s.gens) (Un.laid k hp (I.hok.fresh hp)) (I.hok.laid k hp new) I.bare (fun _ z=>nomatch z)
noncomputable def rSet (P:Program) (w:World) (K:PySem.W.Frag):List V→Hp→VK→Prop:=fun xs H Q=>∃ (p:Addr) (zs:List Str),xs=[.ref p]∧SqL K H p (zs.map .str)∧zs.length+1 < scanBound ∧
  ∀ q σ,H q=none→(∀ k,k ∈ σ↔k ∈ zs)→σ.Nodup→σ.length≤zs.length→Q (.ref q) (upd H q (setO P w q σ))
theorem call_setS (hc:X.calm=true):CallR X (.type "set") (rSet X.prog X.w X.K):=by
  intro pins s σ H xs us Q I r h
  obtain ⟨p,zs,rfl,hq,hz,q⟩:=h
  obtain ⟨u,rfl,rx⟩:=vals1 r
  cases rx
  obtain ⟨its,r',pl,hz'⟩:=I.list hq
  have hS:=strs_of_vals r'
  have hlen:=StrsAre.len hS
  refine KS.set_of_list (knd:=PySem.strKind X.prog X.w) (I.ok.hd hc) pl.isList (fun i=>zs.getD i "") (fun i v e=>?_) (by simp only [List.size_toArray]; (first|lia|omega)) fun h' tk hZ hk=>?_
  · obtain ⟨t,rfl⟩:=strsAt (i:=i) hS (by first|exact e|exact List.mem_singleton.mp e|simpa using e)
    exact ⟨keyIs_str _ t,rfl⟩
  · have hmem:∀ k,k ∈ KS.metZ (fun i=>zs.getD i "") its.toArray.size↔k ∈ zs:=fun k=>by
      rw [KS.metZ_mem]
      simp only [List.size_toArray,hlen]
      constructor
      · rintro ⟨j,hj,rfl⟩
        rw [List.getD,List.getElem?_eq_getElem hj]; exact List.getElem_mem hj
      · intro hk
        obtain ⟨j,hj,e⟩:=List.getElem_of_mem hk
        exact ⟨j,hj,by rw [List.getD,List.getElem?_eq_getElem hj]; exact e⟩
    have hZ':=id hZ
    obtain ⟨o,es,ep,t,ho,_,_,_,_,_,_,_,hnd,_,_⟩:=hZ'
    refine ⟨.ref s.heap.objs.size,_,I.laid (t':=tk) (o:=setO X.prog X.w s.heap.objs.size (KS.metZ (fun i=>zs.getD i "") its.toArray.size)) (fun b o e=>hk b o (Heap.lt_size e) e) (Nat.le_refl _) ?_,rfl,q _ _ (I.hok.fresh (Nat.le_refl _)) hmem hnd ?_⟩
    · exact ⟨hZ,⟨o,ho⟩,fun h1 h2 z k=>KS.SetZ.at z k⟩
    · exact Nat.le_trans (KS.metZ_len _ _) (by simp only [List.size_toArray]; (first|lia|omega))
noncomputable def rSorted (P:Program) (w:World) (K:PySem.W.Frag):List V→Hp→VK→Prop:=fun xs H Q=>∃ (p:Addr) (σ:List Str),xs=[.ref p]∧(H p=some (setO P w p σ)∨SqL K H p (σ.map .str))∧σ.length < 64 ∧
  ∀ q ss,H q=none→ss.Perm σ→sortedS ss=true→Q (.ref q) (upd H q (.lst (ss.map .str)))
theorem call_sortedS (hc:X.calm=true):CallR X (.builtin "sorted") (rSorted X.prog X.w X.K):=by
  intro pins s σ H xs us Q I r h
  obtain ⟨p,τ,rfl,hq,hz,q⟩:=h
  obtain ⟨u,rfl,rx⟩:=vals1 r
  cases rx
  rcases hq with hq | hq
  · obtain ⟨hS,_,_⟩:=I.hok p _ hq
    refine KS.sorted_set (I.ok.hd hc) hS hz fun q' out ss e h' d' tk hle hg hSA hp hs hk=>?_
    have hl:ss.length < 64:=by rw [hp.length_eq]; exact hz
    refine ⟨.ref q',_,I.laidD (t':=tk) (d':=d') (o:=.lst (ss.map .str)) hk hle ⟨?_,out,e,vals_of_strs hSA,hg⟩,rfl,q q' ss (I.hok.fresh hle) hp hs⟩
    rw [List.length_map,sizeLine_eq]; (first|lia|omega)
  · obtain ⟨its,r',pl,hz'⟩:=I.list hq
    have hS:=strs_of_vals r'
    have hlen:=StrsAre.len hS
    refine sorted_strs pl.isList hS (by (first|lia|omega)) fun out ss h1 h2 h3=>?_
    obtain ⟨e,he⟩:=sortedAll_at s.heap its out
    have hl:ss.length < 64:=by rw [h2.length_eq]; exact hz
    refine ⟨.ref (s.heap.objs.size+1),_,I.laid (t':=s.toks) (o:=.lst (ss.map .str)) (fun b o e=>sortedAll_old e) (Nat.le_succ _) ⟨?_,out.toList,e,vals_of_strs h1,by rw [Array.toArray_toList]; exact he⟩,rfl,q _ ss (I.hok.fresh (Nat.le_succ _)) h2 h3⟩
    rw [List.length_map,sizeLine_eq]; (first|lia|omega)
theorem call_listD (hc:X.calm=true):CallR X (.type "list") (fun xs H Q=>∃ p kvs,xs=[.ref p]∧Rd H p (.dK kvs)∧∀ l,H l=none→Q (.ref l) (upd H l (.lst (kvs.map fun kv=>kV kv.1)))):=by
  intro pins s σ H xs us Q I r h
  obtain ⟨p,kvs,rfl,hq,q⟩:=h
  obtain ⟨u,rfl,rx⟩:=vals1 r
  cases rx
  obtain ⟨hz,hS,vs,rv,m⟩:kvs.length≤sizeLine∧(p == sysModules)=false∧∃ vs,KV kvs vs∧s.heap.DictOf (mixKind X.prog X.w) p vs:=hq.ok I.hok
  obtain ⟨ep,hat⟩:=m.dictAt
  have hl:kvs.length=vs.length:=Paired.length rv
  refine PySem.W.kdl_call (PySem.W.kdl_dict (knd:=mixKind X.prog X.w) (kvs:=vs) (ep:=ep) hS) (I.ok.hd hc) hat (by rw [← hl]; exact hz) fun h' tk acc' c' hk hD hacc=>?_
  have hv:Vals (kvs.map fun kv=>kV kv.1) acc'.toList:=by
    have hal:acc'.toList.length=kvs.length:=by rw [Array.length_toList,hacc.1,hl]
    have hget:∀ j v,acc'.toList[j]?=some v→∃ k x,vs[j]?=some (k,x)∧keyIs k v=true:=fun j v e=>hacc.2 j v (by rw [← Array.getElem?_toList]; exact e)
    clear hacc hD
    generalize acc'.toList=us at hal hget
    clear hat m hl hz q hq I
    induction rv generalizing us with
    | nil=>cases us with | nil=>exact .nil | cons a b=>simp at hal
    | cons h1 h2 ih =>
      cases us with
      | nil=>simp at hal
      | cons a b =>
        refine .cons ?_ (ih b (by first|exact hal|exact List.mem_singleton.mp hal|simpa using hal) fun j v e=>by simpa using hget (j+1) v (by first|exact e|exact List.mem_singleton.mp e|simpa using e))
        obtain ⟨k,x,e1,e2⟩:=hget 0 a rfl
        simp only [List.getElem?_cons_zero,Option.some.injEq] at e1
        subst e1
        have e3:_=k:=h1.1
        show RelV (kV _) a
        rw [e3]
        rcases keyIs_shape e2 with ⟨i,t,rfl,rfl⟩ | ⟨z,t,rfl,rfl⟩
        · exact ⟨t,rfl⟩
        · exact ⟨t,rfl⟩
  exact ⟨.ref s.heap.objs.size,_,I.laid (t':=tk) (o:=.lst (kvs.map fun kv=>kV kv.1)) hk (Nat.le_refl _) ⟨by rw [List.length_map]; exact hz,acc'.toList,c',hv,by rw [Array.toArray_toList]; exact hD⟩,rfl,q _ (I.hok.fresh (Nat.le_refl _))⟩
noncomputable def rList (K:PySem.W.Frag):List V→Hp→VK→Prop:=fun xs H Q=>(∃ p ys,xs=[.ref p]∧(SqL K H p ys∨SqT K H p ys)∧∀ l,H l=none→Q (.ref l) (upd H l (.lst ys)))∨∃ p kvs,xs=[.ref p]∧Rd H p (.dK kvs)∧∀ l,H l=none→Q (.ref l) (upd H l (.lst (kvs.map fun kv=>kV kv.1)))
noncomputable def rTuple (K:PySem.W.Frag):List V→Hp→VK→Prop:=fun xs H Q=>∃ p ys,xs=[.ref p]∧((SqL K H p ys∧∀ l,H l=none→Q (.ref l) (upd H l (.tup ys)))∨(SqT K H p ys∧Q (.ref p) H))
theorem wc_list (K:PySem.W.Frag) (hc:X.calm=true) (h:X.K=K):BCall X (.type "list") (rList K):=by subst h; exact ⟨call_list_of.or (call_listD hc)⟩
theorem wc_tuple (K:PySem.W.Frag) (h:X.K=K):BCall X (.type "tuple") (rTuple K):=by subst h; exact ⟨call_tuple_of⟩
theorem wc_set (P:Program) (w:World) (K:PySem.W.Frag) (hc:X.calm=true) (hP:X.prog=P) (hw:X.w=w) (h:X.K=K):BCall X (.type "set") (rSet P w K):=by subst h hP hw; exact ⟨call_setS hc⟩
theorem wm_extend (K:PySem.W.Frag) (h:X.K=K):BMt X "list.extend" rExtend:=⟨mt_extend⟩
theorem ws_dput {o i value:Expr} {td ty tv:TE} {pos' pos:Pos} (hu:X.A.units+1 < cLine) (ho:BE X o td) (hi:BE X i ty) (hv:BE X value tv) (hs:swapsWith value (some (.Subscript o i pos')) pos.line X.env=pure false) :
    BS X (.Assign [.Subscript o i pos'] value pos) (sDPut td ty tv):=⟨ps_dput hu ho.h hi.h hv.h hs⟩
theorem ws_setC {T F:List Str} {ixs:List Nat} {scope:Scope} {i:Nat} {y:Str} {elt tg iter:Expr} {ifs:List Expr} {pos py spos:Pos} {wi:TI} {g:TG} {tc:TT} {te:TE} (hc:X.calm=true) (S:CompScope X T F ixs scope) (hi:BI X tg iter wi)
    (hg:∀ C s H fp,BG (cxComp X (T++F) scope (clFrom X.env scope.names []) C s H fp) tg g) (ht:∀ C s H fp,BIf (cxComp X (T++F) scope (clFrom X.env scope.names []) C s H fp) ifs tc) (he:∀ C s H fp,BE (cxComp X (T++F) scope (clFrom X.env scope.names []) C s H fp) elt te)
    (hs:∀ x,foldedSetIterable iter X.env x=pure x) (hN:X.N.Nodup) (hix:X.N[i]?=some y) (hx:Loc X.env.scope y)
    (hsw:swapsWith (.ListComp elt [⟨tg,iter,ifs,0⟩] scope pos) (some (.Name y py)) spos.line X.env=pure true) (hf:X.fn y=true∨X.env.scope.names.lookup y=some .local) :
    BS X (.Assign [.Name y py] (.ListComp elt [⟨tg,iter,ifs,0⟩] scope pos) spos) (tAsg (tComp T.length ixs wi g tc te) (gName i)) :=
  ⟨ps_setC hc S hi.h (fun C s H fp=>(hg C s H fp).h) (fun C s H fp=>(ht C s H fp).h) (fun C s H fp=>(he C s H fp).h) hs hN hix hx hsw hf⟩
theorem atI_0 {α:Type} {x:α} {r:List α}:atI (x::r) (0:Int)=some x:=atI_nat (j:=0) rfl
noncomputable def GloT (K:PySem.W.Frag) (mg:Str→Option Value) (x:Str) (xs:List V):Prop:=∃ a,mg x=some (.ref a)∧∀ H,SqT K H a xs
theorem rlist_lst {K:PySem.W.Frag} {p:Addr} {ys:List V} {H:Hp} {Q:VK} (h:SqL K H p ys) (q:∀ l,H l=none→Q (.ref l) (upd H l (.lst ys))):rList K [.ref p] H Q:=.inl ⟨p,ys,rfl,.inl h,q⟩
theorem rlist_tup {K:PySem.W.Frag} {p:Addr} {ys:List V} {H:Hp} {Q:VK} (h:SqT K H p ys) (q:∀ l,H l=none→Q (.ref l) (upd H l (.lst ys))):rList K [.ref p] H Q:=.inl ⟨p,ys,rfl,.inr h,q⟩
theorem rlist_dict {K:PySem.W.Frag} {p:Addr} {kvs:List (Key×V)} {H:Hp} {Q:VK} (h:Rd H p (.dK kvs)) (q:∀ l,H l=none→Q (.ref l) (upd H l (.lst (kvs.map fun kv=>kV kv.1)))):rList K [.ref p] H Q:=.inr ⟨p,kvs,rfl,h,q⟩
theorem rtuple_lst {K:PySem.W.Frag} {p:Addr} {ys:List V} {H:Hp} {Q:VK} (h:SqL K H p ys) (q:∀ l,H l=none→Q (.ref l) (upd H l (.tup ys))):rTuple K [.ref p] H Q:=⟨p,ys,rfl,.inl ⟨h,q⟩⟩
theorem dedup1_nodup {zs:List Str} {z:Str} (h:zs.Nodup):(KS.dedup1 zs z).Nodup:=by
  unfold KS.dedup1
  split
  · exact h
  · rename_i hz; exact KS.nodup_snoc h hz
theorem dedup1_mem {zs:List Str} {z y:Str}:y ∈ KS.dedup1 zs z↔y ∈ zs∨y=z:=by
  unfold KS.dedup1
  split
  · rename_i hz
    exact ⟨.inl,fun h=>h.elim id fun e=>e ▸ hz⟩
  · simp
theorem dedup1_len (zs:List Str) (z:Str):zs.length≤(KS.dedup1 zs z).length∧(KS.dedup1 zs z).length≤zs.length+1∧1≤(KS.dedup1 zs z).length:=by
  unfold KS.dedup1
  split
  · rename_i hz
    exact ⟨Nat.le_refl _,Nat.le_succ _,List.length_pos_of_mem hz⟩
  · simp
end
end L2
set_option maxHeartbeats 4000000
namespace L2
open PySem PySem.Spec PyProof.Rows
inductive D where
  | non | bl (b:Bool) | int (i:Int) | str (x:Str) | lst (xs:List D) | tup (xs:List D) | dct (ks:List Key) (xs:List D) | ty (T:String) | opq (a:Addr) (n:Nat)
noncomputable def plKV:Key×V→Bool
  | (.inr z,.int i)=>decide (z.length≤20) && z.cps.toList.all (fun c=>decide (c < 16 ^ 8)) && decide (i.natAbs.log2 < 20) && decide ((PySem.PyData.shown (.int i)).length≤8)
  | _=>false
mutual
inductive Den (K:PySem.W.Frag) (F:Hp):V→D→Prop where
  | non:Den K F .non .non
  | bl (b:Bool):Den K F (.bl b) (.bl b)
  | int (i:Int):Den K F (.int i) (.int i)
  | str (x:Str):Den K F (.str x) (.str x)
  | ty (T:String):Den K F (.ty T) (.ty T)
  | lst {a:Addr} {xs:List V} {ds:List D}:SqL K F a xs→Dens K F xs ds→Den K F (.ref a) (.lst ds)
  | tup {a:Addr} {xs:List V} {ds:List D}:SqT K F a xs→Dens K F xs ds→Den K F (.ref a) (.tup ds)
  | dct {a:Addr} {ys:List (Key×V)} {ks:List Key} {ds:List D}:Rd F a (.dK ys)→ys.map (·.1)=ks→Dens K F (ys.map (·.2)) ds→Den K F (.ref a) (.dct ks ds)
  | opq {a:Addr} {ys:List (Key×V)} {n:Nat}:Rd F a (.dK ys)→ys.length=n→ys.all plKV=true→Den K F (.ref a) (.opq a n)
inductive Dens (K:PySem.W.Frag) (F:Hp):List V→List D→Prop where
  | nil:Dens K F [] []
  | cons {x:V} {d:D} {xs:List V} {ds:List D}:Den K F x d→Dens K F xs ds→Dens K F (x::xs) (d::ds)
end
theorem Same.rd {F F':Hp} {a:Addr} {u:HO} (e:Same F F') (h:Rd F a u):Rd F' a u:=h.elim (fun h=>.inl (e _ _ h)) fun ⟨o,h⟩=>.inr ⟨o,e _ _ h⟩
theorem Den.mono {K:PySem.W.Frag} {F F':Hp} (e:Same F F') {v:V} {d:D} (h:Den K F v d):Den K F' v d :=
  Den.rec (motive_1:=fun v d _=>Den K F' v d) (motive_2:=fun v d _=>Dens K F' v d) .non .bl .int .str .ty (fun h _ t=>.lst (e.seq h) t) (fun h _ t=>.tup (h.same e) t) (fun h k _ t=>.dct (e.rd h) k t) (fun h k p=>.opq (e.rd h) k p) .nil (fun _ _ h t=>.cons h t) h
theorem Dens.mono {K:PySem.W.Frag} {F F':Hp} (e:Same F F') {v:List V} {d:List D} (h:Dens K F v d):Dens K F' v d :=
  Dens.rec (motive_1:=fun _ _ _=>True) (motive_2:=fun v d _=>Dens K F' v d) trivial (fun _=>trivial) (fun _=>trivial) (fun _=>trivial) (fun _=>trivial) (fun _ _ _=>trivial) (fun _ _ _=>trivial) (fun _ _ _ _=>trivial) (fun _ _ _=>trivial) .nil (fun h _ _ t=>.cons (h.mono e) t) h
section
variable {K:PySem.W.Frag} {F H:Hp}
theorem Dens.length {xs:List V} {ds:List D} (h:Dens K F xs ds):xs.length=ds.length :=
  Dens.rec (motive_1:=fun _ _ _=>True) (motive_2:=fun xs ds _=>xs.length=ds.length) trivial (fun _=>trivial) (fun _=>trivial) (fun _=>trivial) (fun _=>trivial) (fun _ _ _=>trivial) (fun _ _ _=>trivial) (fun _ _ _ _=>trivial) (fun _ _ _=>trivial) rfl (fun _ _ _ t=>congrArg (·+1) t) h
theorem Dens.get:∀ {xs:List V} {ds:List D} {i:Nat} {d:D},Dens K F xs ds→ds[i]?=some d→∃ x,xs[i]?=some x∧Den K F x d
  | _,_,_,_,.nil,e=>by simp at e
  | _,_,0,_,.cons h _,e=>by simp at e; subst e; exact ⟨_,rfl,h⟩
  | _,_,i+1,d,.cons h t,e=>by
    obtain ⟨x,h1,h2⟩:=Dens.get (i:=i) (d:=d) t (by first|exact e|exact List.mem_singleton.mp e|simpa using e)
    exact ⟨x,by first|exact h1|exact List.mem_singleton.mp h1|simpa using h1,h2⟩
theorem Dens.get':∀ {xs:List V} {ds:List D} {i:Nat} {x:V},Dens K F xs ds→xs[i]?=some x→∃ d,ds[i]?=some d∧Den K F x d
  | _,_,_,_,.nil,e=>by simp at e
  | _,_,0,_,.cons h _,e=>by simp at e; subst e; exact ⟨_,rfl,h⟩
  | _,_,i+1,d,.cons h t,e=>by
    obtain ⟨x,h1,h2⟩:=Dens.get' (i:=i) (x:=d) t (by first|exact e|exact List.mem_singleton.mp e|simpa using e)
    exact ⟨x,by first|exact h1|exact List.mem_singleton.mp h1|simpa using h1,h2⟩
theorem Dens.append {xs ys:List V} {ds es:List D} (h:Dens K F xs ds) (s:Dens K F ys es):Dens K F (xs++ys) (ds++es) :=
  Dens.rec (motive_1:=fun _ _ _=>True) (motive_2:=fun xs ds _=>Dens K F (xs++ys) (ds++es)) trivial (fun _=>trivial) (fun _=>trivial) (fun _=>trivial) (fun _=>trivial) (fun _ _ _=>trivial) (fun _ _ _=>trivial) (fun _ _ _ _=>trivial) (fun _ _ _=>trivial) s (fun h _ _ t=>.cons h t) h
theorem Dens.take:∀ {xs:List V} {ds:List D} (n:Nat),Dens K F xs ds→Dens K F (xs.take n) (ds.take n)
  | _,_,0,_=>.nil
  | _,_,_+1,.nil=>.nil
  | _,_,n+1,.cons r t=>.cons r (Dens.take n t)
theorem Dens.drop:∀ {xs:List V} {ds:List D} (n:Nat),Dens K F xs ds→Dens K F (xs.drop n) (ds.drop n)
  | _,_,0,r=>r
  | _,_,_+1,.nil=>.nil
  | _,_,n+1,.cons r t=>Dens.drop n t
theorem Dens.set {x:V} {d:D} (r:Den K F x d):∀ {xs:List V} {ds:List D} (i:Nat),Dens K F xs ds→Dens K F (xs.set i x) (ds.set i d)
  | _,_,_,.nil=>.nil
  | _,_,0,.cons _ t=>.cons r t
  | _,_,i+1,.cons q t=>.cons q (Dens.set r i t)
theorem Dens.snoc {xs:List V} {ds:List D} {x:V} {d:D} (h:Dens K F xs ds) (q:Den K F x d):Dens K F (xs++[x]) (ds++[d]):=h.append (.cons q .nil)
theorem Dens.strs:∀ (zs:List Str),Dens K F (zs.map V.str) (zs.map D.str)
  | []=>.nil
  | z::zs=>.cons (.str z) (Dens.strs zs)
theorem Dens.ints:∀ (zs:List Int),Dens K F (zs.map V.int) (zs.map D.int)
  | []=>.nil
  | z::zs=>.cons (.int z) (Dens.ints zs)
theorem Den.str_eq {v:V} {z:Str} (h:Den K F v (.str z)):v=.str z:=by cases h; rfl
theorem Den.int_eq {v:V} {z:Int} (h:Den K F v (.int z)):v=.int z:=by cases h; rfl
theorem Den.bl_eq {v:V} {z:Bool} (h:Den K F v (.bl z)):v=.bl z:=by cases h; rfl
theorem Den.non_eq {v:V} (h:Den K F v .non):v=.non:=by cases h; rfl
theorem Dens.strs_eq:∀ {zs:List Str} {xs:List V},Dens K F xs (zs.map D.str)→xs=zs.map V.str
  | [],_,.nil=>rfl
  | z::zs,_,.cons h t=>by rw [h.str_eq,Dens.strs_eq t]; rfl
theorem Dens.bls_eq:∀ {zs:List Bool} {xs:List V},Dens K F xs (zs.map D.bl)→xs=zs.map V.bl
  | [],_,.nil=>rfl
  | z::zs,_,.cons h t=>by rw [h.bl_eq,Dens.bls_eq t]; rfl
end
mutual
noncomputable def toDV:D→DV
  | .non=>.non
  | .bl b=>.bl b
  | .int i=>.int i
  | .str x=>.str x
  | .lst xs=>.lst (toDVs xs)
  | .tup xs=>.tup (toDVs xs)
  | .dct _ _=>.non
  | .ty _=>.non
  | .opq _ _=>.non
noncomputable def toDVs:List D→List DV
  | []=>[]
  | d::ds=>toDV d::toDVs ds
end
mutual
noncomputable def okD:D→Bool
  | .lst xs=>okDs xs
  | .tup xs=>okDs xs
  | .dct _ _=>false
  | .ty _=>false
  | .opq _ _=>false
  | _=>true
noncomputable def okDs:List D→Bool
  | []=>true
  | d::ds=>okD d && okDs ds
end
theorem Den.deep {K:PySem.W.Frag} {H:Hp} {v:V} {d:D} (h:Den K H v d):okD d=true→Deep K H v (toDV d) :=
  Den.rec (motive_1:=fun v d _=>okD d=true→Deep K H v (toDV d)) (motive_2:=fun v d _=>okDs d=true→Deeps K H v (toDVs d)) (fun _=>.non) (fun b _=>.bl b) (fun b _=>.int b) (fun b _=>.str b) (fun _ o=>nomatch o) (fun h _ t o=>.lst h (t o)) (fun h _ t o=>.tup h (t o)) (fun _ _ _ _ o=>nomatch o) (fun _ _ _ o=>nomatch o) (fun _=>.nil) (fun _ _ h t o=>.cons (h (Bool.and_eq_true_iff.mp o).1) (t (Bool.and_eq_true_iff.mp o).2)) h
noncomputable def dEq (d e:D):Bool:=deq (toDV d) (toDV e)
inductive OV where
  | fz (d:D) | fl (ds:List D) | fd (ks:List Key) (ds:List D)
inductive Ow (K:PySem.W.Frag) (F H:Hp):V→OV→List Addr→Prop where
  | fz {v:V} {d:D}:Den K F v d→Ow K F H v (.fz d) []
  | fl {a:Addr} {xs:List V} {ds:List D}:H a=some (.lst xs)→Dens K F xs ds→Ow K F H (.ref a) (.fl ds) [a]
  | fd {a:Addr} {ys:List (Key×V)} {ks:List Key} {ds:List D}:H a=some (.dK ys)→ys.map (·.1)=ks→Dens K F (ys.map (·.2)) ds→Ow K F H (.ref a) (.fd ks ds) [a]
inductive Ows (K:PySem.W.Frag) (F H:Hp):List V→List OV→List Addr→Prop where
  | nil:Ows K F H [] [] []
  | cons {x:V} {o:OV} {xs:List V} {os:List OV} {A B:List Addr}:Ow K F H x o A→Ows K F H xs os B→Ows K F H (x::xs) (o::os) (A++B)
theorem Ow.keep {K:PySem.W.Frag} {F F' H H':Hp} (e:Same F F') {v:V} {o:OV} {A:List Addr} (h:Ow K F H v o A) (k:∀ a u,a ∈ A→H a=some u→H' a=some u):Ow K F' H' v o A:=by
  cases h with
  | fz h=>exact .fz (h.mono e)
  | fl h t=>exact .fl (k _ _ (List.mem_cons_self ..) h) (t.mono e)
  | fd h q t=>exact .fd (k _ _ (List.mem_cons_self ..) h) q (t.mono e)
theorem Ow.live {K:PySem.W.Frag} {F H:Hp} {v:V} {o:OV} {A:List Addr} (h:Ow K F H v o A):∀ a ∈ A,∃ u,H a=some u:=by
  cases h with
  | fz h=>exact fun _ z=>nomatch z
  | fl h t=>exact fun b z=>⟨_,List.mem_singleton.mp z ▸ h⟩
  | fd h q t=>exact fun b z=>⟨_,List.mem_singleton.mp z ▸ h⟩
noncomputable def snap:OV→D
  | .fz d=>d
  | .fl ds=>.lst ds
  | .fd ks ds=>.dct ks ds
theorem Ow.freeze {K:PySem.W.Frag} {F F' H:Hp} (e:Same F F') {v:V} {o:OV} {A:List Addr} (h:Ow K F H v o A) (k:∀ a u,a ∈ A→H a=some u→F' a=some u):Den K F' v (snap o):=by
  cases h with
  | fz h=>exact h.mono e
  | fl h t=>exact .lst (SqL.of (k _ _ (List.mem_cons_self ..) h)) (t.mono e)
  | fd h q t=>exact .dct (.inl (k _ _ (List.mem_cons_self ..) h)) q (t.mono e)
noncomputable def flat:OV→Option D
  | .fz d=>some d
  | .fl ds=>some (.lst ds)
  | .fd ks ds=>some (.dct ks ds)
inductive Acc (K:PySem.W.Frag) (F H:Hp):V→D→Prop where
  | fz {v:V} {d:D}:Den K F v d→Acc K F H v d
  | lst {a:Addr} {xs:List V} {ds:List D}:H a=some (.lst xs)→Dens K F xs ds→Acc K F H (.ref a) (.lst ds)
  | dct {a:Addr} {ys:List (Key×V)} {ks:List Key} {ds:List D}:H a=some (.dK ys)→ys.map (·.1)=ks→Dens K F (ys.map (·.2)) ds→Acc K F H (.ref a) (.dct ks ds)
section
variable {K:PySem.W.Frag} {F H:Hp}
theorem Ow.acc {v:V} {o:OV} {A:List Addr} {d:D} (h:Ow K F H v o A) (e:flat o=some d):Acc K F H v d:=by
  cases h with
  | fz h=>simp only [flat,Option.some.injEq] at e; subst e; exact .fz h
  | fl h t=>simp only [flat,Option.some.injEq] at e; subst e; exact .lst h t
  | fd h q t=>simp only [flat,Option.some.injEq] at e; subst e; exact .dct h q t
theorem Acc.den {v:V} {d:D} (e:Same F H) (h:Acc K F H v d):Den K H v d:=by
  cases h with
  | fz h=>exact h.mono e
  | lst h t=>exact .lst (SqL.of h) (t.mono e)
  | dct h k t=>exact .dct (.inl h) k (t.mono e)
theorem Acc.asL {v:V} {ds:List D} (e:Same F H) (h:Acc K F H v (.lst ds)):∃ a xs,v=.ref a∧SqL K H a xs∧Dens K F xs ds:=by
  cases h with
  | fz h=>cases h with | lst h t=>exact ⟨_,_,rfl,e.seq h,t⟩
  | lst h t=>exact ⟨_,_,rfl,SqL.of h,t⟩
theorem Acc.asT {v:V} {ds:List D} (e:Same F H) (h:Acc K F H v (.tup ds)):∃ a xs,v=.ref a∧SqT K H a xs∧Dens K F xs ds:=by
  cases h with
  | fz h=>cases h with | tup h t=>exact ⟨_,_,rfl,h.same e,t⟩
theorem Acc.asD {v:V} {ks:List Key} {ds:List D} (e:Same F H) (h:Acc K F H v (.dct ks ds)):∃ a ys,v=.ref a∧Rd H a (.dK ys)∧ys.map (·.1)=ks∧Dens K F (ys.map (·.2)) ds:=by
  cases h with
  | fz h=>cases h with | dct h k t=>exact ⟨_,_,rfl,e.rd h,k,t⟩
  | dct h k t=>exact ⟨_,_,rfl,.inl h,k,t⟩
theorem Acc.str_eq {v:V} {z:Str} (h:Acc K F H v (.str z)):v=.str z:=by cases h with | fz h=>exact h.str_eq
theorem Acc.int_eq {v:V} {z:Int} (h:Acc K F H v (.int z)):v=.int z:=by cases h with | fz h=>exact h.int_eq
theorem Acc.bl_eq {v:V} {z:Bool} (h:Acc K F H v (.bl z)):v=.bl z:=by cases h with | fz h=>exact h.bl_eq
theorem Acc.non_eq {v:V} (h:Acc K F H v .non):v=.non:=by cases h with | fz h=>exact h.non_eq
theorem Acc.ty_eq {v:V} {T:String} (h:Acc K F H v (.ty T)):v=.ty T:=by cases h with | fz h=>cases h; rfl
end
noncomputable abbrev FSt:=List (Option OV)
inductive Slots (K:PySem.W.Frag) (F H:Hp):St→FSt→List Addr→Prop where
  | nil:Slots K F H [] [] []
  | skip {x:Option V} {σ:St} {ρ:FSt} {A:List Addr}:Slots K F H σ ρ A→Slots K F H (x::σ) (none::ρ) A
  | has {v:V} {o:OV} {σ:St} {ρ:FSt} {A B:List Addr}:Ow K F H v o A→Slots K F H σ ρ B→Slots K F H (some v::σ) (some o::ρ) (A++B)
section
variable {K:PySem.W.Frag} {F F' H H':Hp}
theorem Slots.keep (e:Same F F') {σ:St} {ρ:FSt} {A:List Addr} (h:Slots K F H σ ρ A) (k:∀ a u,a ∈ A→H a=some u→H' a=some u):Slots K F' H' σ ρ A:=by
  induction h with
  | nil=>exact .nil
  | skip t ih=>exact .skip (ih k)
  | has h t ih=>exact .has (h.keep e fun a u ha=>k a u (List.mem_append_left _ ha)) (ih fun a u ha=>k a u (List.mem_append_right _ ha))
theorem Slots.live {σ:St} {ρ:FSt} {A:List Addr} (h:Slots K F H σ ρ A):∀ a ∈ A,∃ u,H a=some u:=by
  induction h with
  | nil=>exact fun _ z=>nomatch z
  | skip t ih=>exact ih
  | has h t ih=>exact fun b z=>(List.mem_append.mp z).elim (h.live b) (ih b)
theorem Slots.len {σ:St} {ρ:FSt} {A:List Addr} (h:Slots K F H σ ρ A):σ.length=ρ.length:=by
  induction h with
  | nil=>rfl
  | skip t ih=>exact congrArg (·+1) ih
  | has _ t ih=>exact congrArg (·+1) ih
theorem Slots.take {σ:St} {ρ:FSt} {A:List Addr} {i:Nat} {o:OV} (h:Slots K F H σ ρ A) (e:ρ[i]?=some (some o)):∃ v B A',σ[i]?=some (some v)∧Ow K F H v o B∧A.Perm (B++A')∧Slots K F H σ (ρ.set i none) A':=by
  induction h generalizing i with
  | nil=>cases e
  | skip t ih =>
    cases i with
    | zero=>cases e
    | succ i =>
      obtain ⟨v,B,A',h1,h2,h3,h4⟩:=ih (i:=i) e
      exact ⟨v,B,A',h1,h2,h3,.skip h4⟩
  | @has _ _ _ _ C _ h t ih =>
    cases i with
    | zero=>cases e; exact ⟨_,_,_,rfl,h,List.Perm.refl _,.skip t⟩
    | succ i =>
      obtain ⟨v,B,A',h1,h2,h3,h4⟩:=ih (i:=i) e
      exact ⟨v,B,C++A',h1,h2,(List.Perm.append_left C h3).trans (by rw [← List.append_assoc,← List.append_assoc]; exact List.Perm.append_right A' List.perm_append_comm),.has h h4⟩
theorem Slots.drop {σ:St} {ρ:FSt} {A:List Addr} (i:Nat) (x:Option V) (h:Slots K F H σ ρ A):∃ A' B,A.Perm (B++A')∧Slots K F H (σ.set i x) (ρ.set i none) A':=by
  induction h generalizing i with
  | nil=>exact ⟨[],[],List.Perm.refl _,.nil⟩
  | skip t ih =>
    cases i with
    | zero=>exact ⟨_,[],List.Perm.refl _,.skip t⟩
    | succ i =>
      obtain ⟨A',B,h1,h2⟩:=ih i
      exact ⟨A',B,h1,.skip h2⟩
  | @has _ _ _ _ C _ h t ih =>
    cases i with
    | zero=>exact ⟨_,_,List.Perm.refl _,.skip t⟩
    | succ i =>
      obtain ⟨A',B,h3,h4⟩:=ih i
      exact ⟨C++A',B,(List.Perm.append_left C h3).trans (by rw [← List.append_assoc,← List.append_assoc]; exact List.Perm.append_right A' List.perm_append_comm),.has h h4⟩
theorem Slots.put {σ:St} {ρ:FSt} {A B:List Addr} {i:Nat} {v:V} {o:OV} (s:Slots K F H σ ρ A) (e:ρ[i]?=some none) (hv:σ[i]?=some (some v)) (h:Ow K F H v o B):∃ A',A'.Perm (B++A)∧Slots K F H σ (ρ.set i (some o)) A':=by
  induction s generalizing i with
  | nil=>cases e
  | skip t ih =>
    cases i with
    | zero=>cases hv; exact ⟨_,List.Perm.refl _,.has h t⟩
    | succ i =>
      obtain ⟨A',h1,h2⟩:=ih (i:=i) e hv
      exact ⟨A',h1,.skip h2⟩
  | @has _ _ _ _ C _ h' t ih =>
    cases i with
    | zero=>cases e
    | succ i =>
      obtain ⟨A',h1,h2⟩:=ih (i:=i) e hv
      exact ⟨C++A',(List.Perm.append_left C h1).trans (by rw [← List.append_assoc,← List.append_assoc]; exact List.Perm.append_right _ List.perm_append_comm),.has h' h2⟩
end
end L2
set_option maxHeartbeats 4000000
namespace L2
open PySem PySem.Spec PyProof.Rows
inductive RV where
  | ov (o:OV) | br (i:Nat)
structure Rel (K:PySem.W.Frag) (F Z H:Hp) (σ:St) (ρ:FSt) (A:List Addr):Prop where
  sl:Slots K F H σ ρ A
  nd:A.Nodup
  fr:∀ a ∈ A,F a=none∧Z a=none
  fh:Same F H
  zh:Same Z H
  dj:∀ a o,F a=some o→Z a=none
noncomputable def RV1 (K:PySem.W.Frag) (F H:Hp) (σ:St) (v:V):RV→List Addr→Prop
  | .ov o,B=>Ow K F H v o B
  | .br i,B=>σ[i]?=some (some v)∧B=[]
structure Fresh (F Z:Hp) (A B:List Addr):Prop where
  nd:B.Nodup
  fr:∀ b ∈ B,F b=none∧Z b=none∧b ∉ A
theorem Fresh.nil {F Z:Hp} {A:List Addr}:Fresh F Z A []:=⟨List.nodup_nil,fun _ z=>nomatch z⟩
inductive RVL (K:PySem.W.Frag) (F H:Hp) (σ:St):List V→List RV→List Addr→Prop where
  | nil:RVL K F H σ [] [] []
  | cons {v:V} {r:RV} {vs:List V} {rs:List RV} {A B:List Addr}:RV1 K F H σ v r A→RVL K F H σ vs rs B→RVL K F H σ (v::vs) (r::rs) (A++B)
section
variable {K:PySem.W.Frag} {F F' Z H H':Hp} {σ:St} {ρ:FSt} {A:List Addr}
theorem RV1.keep {v:V} {r:RV} {B:List Addr} (h:RV1 K F H σ v r B) (e:Same F F') (k:∀ a u,a ∈ B→H a=some u→H' a=some u):RV1 K F' H' σ v r B:=by
  cases r with
  | ov o=>exact Ow.keep e h k
  | br i=>exact h
theorem RV1.live {v:V} {r:RV} {B:List Addr} (h:RV1 K F H σ v r B):∀ b ∈ B,∃ u,H b=some u:=by
  cases r with
  | ov o=>exact Ow.live h
  | br i=>intro b hb; rw [h.2] at hb; cases hb
theorem RVL.keep (e:Same F F') {v:List V} {r:List RV} {B:List Addr} (h:RVL K F H σ v r B) (k:∀ a u,a ∈ B→H a=some u→H' a=some u):RVL K F' H' σ v r B:=by
  induction h with
  | nil=>exact .nil
  | cons h t ih=>exact .cons (h.keep e fun a u ha=>k a u (List.mem_append_left _ ha)) (ih fun a u ha=>k a u (List.mem_append_right _ ha))
theorem mix (B:List Addr) (H Z:Hp):∃ G:Hp,(∀ b,b ∈ B→G b=H b)∧∀ b,b ∉ B→G b=Z b:=by
  classical
  exact ⟨fun b=>if b ∈ B then H b else Z b,fun b hb=>if_pos hb,fun b hb=>if_neg hb⟩
theorem Rel.hold {B:List Addr} (R:Rel K F Z H σ ρ A) (live:∀ b ∈ B,∃ u,H b=some u) (f:Fresh F Z A B):∃ Z',Same Z Z'∧Rel K F Z' H σ ρ A∧(∀ b ∈ B,∃ u,Z' b=some u) ∧
    ∀ F2 H2 ρ2 A2,Same F F2→Rel K F2 Z' H2 σ ρ2 A2→Rel K F2 Z H2 σ ρ2 A2∧Fresh F2 Z A2 B∧∀ b u,b ∈ B→H b=some u→H2 b=some u:=by
  obtain ⟨Z',hin,hout⟩:=mix B H Z
  refine ⟨Z',fun b o h=>?_,⟨R.sl,R.nd,fun a ha=>⟨(R.fr a ha).1,?_⟩,R.fh,fun b o h=>?_,fun a o h=>?_⟩,fun b hb=>?_,fun F2 H2 ρ2 A2 e2 R2=>?_⟩
  · rw [hout b fun hb=>by rw [(f.fr b hb).2.1] at h; cases h]; exact h
  · rw [hout a fun hb=>(f.fr a hb).2.2 ha]; exact (R.fr a ha).2
  · by_cases hb:b ∈ B
    · rw [hin b hb] at h; exact h
    · rw [hout b hb] at h; exact R.zh b o h
  · rw [hout a fun hb=>by rw [(f.fr a hb).1] at h; cases h]; exact R.dj a o h
  · obtain ⟨u,hu⟩:=live b hb
    exact ⟨u,by rw [hin b hb]; exact hu⟩
  · have sz:Same Z Z':=fun b o h=>by
      rw [hout b fun hb=>by rw [(f.fr b hb).2.1] at h; cases h]; exact h
    refine ⟨⟨R2.sl,R2.nd,fun a ha=>⟨(R2.fr a ha).1,sz.free (R2.fr a ha).2⟩,R2.fh,sz.trans R2.zh,fun a o h=>sz.free (R2.dj a o h)⟩,⟨f.nd,fun b hb=>?_⟩,fun b u hb hu=>?_⟩
    · obtain ⟨u,hu⟩:=live b hb
      refine ⟨?_,(f.fr b hb).2.1,fun h=>?_⟩
      · cases q:F2 b with
        | none=>rfl
        | some w =>
          have:=R2.dj b w q
          rw [hin b hb,hu] at this; cases this
      · have:=(R2.fr b h).2
        rw [hin b hb,hu] at this; cases this
    · exact R2.zh b u (by rw [hin b hb]; exact hu)
structure Pure (F H F' H':Hp):Prop where
  ff:Same F F'
  hh:Same H H'
  fh:Same F' H'
  nw:∀ a o,F' a=some o→F a=none→H a=none
theorem Pure.refl (e:Same F H):Pure F H F H:=⟨Same.refl _,Same.refl _,e,fun a o h n=>by rw [n] at h; cases h⟩
theorem Pure.new {p:Addr} {o:HO} (e:Same F H) (hp:H p=none):Pure F H F (upd H p o):=⟨Same.refl _,same_new hp,e.trans (same_new hp),fun a o h n=>by rw [n] at h; cases h⟩
theorem Pure.frz {p:Addr} {o:HO} (e:Same F H) (hp:H p=none):Pure F H (upd F p o) (upd H p o):=by
  have hf:F p=none:=e.free hp
  refine ⟨same_new hf,same_new hp,fun b u h=>?_,fun a u h n=>?_⟩
  · by_cases hb:b=p
    · subst hb; rw [upd_same] at h ⊢; exact h
    · rw [upd_ne hb] at h ⊢; exact e b u h
  · by_cases hb:a=p
    · subst hb; exact hp
    · rw [upd_ne hb,n] at h; cases h
theorem Pure.trans {F1 F2 H1 H2:Hp} (a:Pure F H F1 H1) (b:Pure F1 H1 F2 H2):Pure F H F2 H2:=⟨a.ff.trans b.ff,a.hh.trans b.hh,b.fh,fun c o h n=>by
  cases q:F1 c with
  | none=>exact a.hh.free (b.nw c o h q)
  | some u=>exact a.nw c u q n⟩
theorem Rel.step (R:Rel K F Z H σ ρ A) (p:Pure F H F' H'):Rel K F' Z H' σ ρ A:=by
  refine ⟨R.sl.keep p.ff fun a u _ h=>p.hh a u h,R.nd,fun a ha=>⟨?_,(R.fr a ha).2⟩,p.fh,R.zh.trans p.hh,fun a o h=>?_⟩
  · cases q:F' a with
    | none=>rfl
    | some o =>
      have:=p.nw a o q (R.fr a ha).1
      obtain ⟨u,hu⟩:=R.sl.live a ha
      rw [hu] at this; cases this
  · cases q:F a with
    | none=>exact R.zh.free (p.nw a o h q)
    | some u=>exact R.dj a u q
structure New (H F':Hp) (B:List Addr):Prop where
  nd:B.Nodup
  fr:∀ b ∈ B,H b=none∧F' b=none
theorem New.nil:New H F' []:=⟨List.nodup_nil,fun _ z=>nomatch z⟩
theorem New.one {p:Addr} (h:H p=none) (f:F' p=none):New H F' [p]:=⟨by simp,fun b hb=>by
  have:b=p:=by first|exact hb|exact List.mem_singleton.mp hb|simpa using hb
  rw [this]; exact ⟨h,f⟩⟩
theorem Rel.fresh {B:List Addr} (R:Rel K F Z H σ ρ A) (n:New H F' B):Fresh F' Z A B:=⟨n.nd,fun b hb=>⟨(n.fr b hb).2,R.zh.free (n.fr b hb).1,fun ha=>by
  obtain ⟨u,hu⟩:=R.sl.live b ha
  rw [(n.fr b hb).1] at hu; cases hu⟩⟩
noncomputable def fzR0:RV→FSt→Option (D×FSt)
  | .ov o,ρ=>some (snap o,ρ)
  | .br i,ρ=>match ρ[i]? with
    | some (some o)=>some (snap o,ρ.set i (some (.fz (snap o))))
    | _=>none
noncomputable def fzR:RV→FSt→Option (D×FSt)
  | .ov (.fz d),ρ=>some (d,ρ)
  | .ov (.fl ds),ρ=>some (.lst ds,ρ)
  | .ov (.fd ks ds),ρ=>some (.dct ks ds,ρ)
  | .br i,ρ=>match ρ[i]? with
    | some (some (.fz d))=>some (d,ρ)
    | some (some (.fl ds))=>some (.lst ds,ρ.set i (some (.fz (.lst ds))))
    | some (some (.fd ks ds))=>some (.dct ks ds,ρ.set i (some (.fz (.dct ks ds))))
    | _=>none
theorem set_at {ρ:FSt} {i:Nat} {x:Option OV} (h:ρ[i]?=some x):ρ.set i x=ρ:=by
  apply List.ext_getElem?
  intro j
  by_cases hj:i=j
  · subst hj
    rw [h,List.getElem?_set_self (List.getElem?_eq_some_iff.mp h).1]
  · rw [List.getElem?_set_ne hj]
theorem fzR_is (r:RV) (ρ:FSt):fzR r ρ=fzR0 r ρ:=by
  cases r with
  | ov o=>cases o <;> simp [fzR,fzR0,snap]
  | br i =>
    simp only [fzR,fzR0]
    cases e:ρ[i]? with
    | none=>rfl
    | some x =>
      cases x with
      | none=>rfl
      | some o =>
        cases o with
        | fz d=>simp only [snap]; rw [set_at e]
        | fl ds=>simp [snap]
        | fd ks ds=>simp [snap]
noncomputable def fzL:List RV→FSt→Option (List D×FSt)
  | [],ρ=>some ([],ρ)
  | r::rs,ρ=>match fzR r ρ with
    | some (d,ρ1)=>match fzL rs ρ1 with
      | some (ds,ρ2)=>some (d::ds,ρ2)
      | none=>none
    | none=>none
theorem Rel.grow {B:List Addr} (R:Rel K F Z H σ ρ A) (live:∀ b ∈ B,∃ u,H b=some u) (f:∀ b ∈ B,F b=none∧Z b=none∧b ∉ A):∃ F',Same F F'∧Rel K F' Z H σ ρ A∧(∀ a u,a ∈ B→H a=some u→F' a=some u)∧∀ a o,F' a=some o→F a=none→a ∈ B:=by
  obtain ⟨G,hin,hout⟩:=mix B H F
  have s:Same F G:=fun b o h=>by
    rw [hout b fun hb=>by rw [(f b hb).1] at h; cases h]; exact h
  refine ⟨G,s,⟨R.sl.keep s fun _ _ _ h=>h,R.nd,fun a ha=>⟨?_,(R.fr a ha).2⟩,fun b o h=>?_,R.zh,fun a o h=>?_⟩,fun a u ha h=>?_,fun a o h n=>?_⟩
  · rw [hout a fun hb=>(f a hb).2.2 ha]; exact (R.fr a ha).1
  · by_cases hb:b ∈ B
    · rw [hin b hb] at h; exact h
    · rw [hout b hb] at h; exact R.fh b o h
  · by_cases hb:a ∈ B
    · exact (f a hb).2.1
    · rw [hout a hb] at h; exact R.dj a o h
  · rw [hin a ha]; exact h
  · by_cases hb:a ∈ B
    · exact hb
    · rw [hout a hb,n] at h; cases h
theorem perm_nodup {A B C:List Addr} (h:A.Perm (B++C)) (n:A.Nodup):B.Nodup∧C.Nodup∧(∀ b ∈ B,b ∉ C):=by
  have:=h.nodup_iff.mp n
  rw [List.nodup_append] at this
  exact ⟨this.1,this.2.1,fun b hb hc=>this.2.2 b hb b hc rfl⟩
theorem Rel.takeI {i:Nat} {o:OV} (R:Rel K F Z H σ ρ A) (e:ρ[i]?=some (some o)):∃ v B A',σ[i]?=some (some v)∧Ow K F H v o B∧Rel K F Z H σ (ρ.set i none) A'∧Fresh F Z A' B∧A.Perm (B++A'):=by
  obtain ⟨v,B,A',h1,h2,h3,h4⟩:=R.sl.take e
  obtain ⟨n1,n2,n3⟩:=perm_nodup h3 R.nd
  have mA:∀ a ∈ A',a ∈ A:=fun a ha=>h3.mem_iff.mpr (List.mem_append.mpr (.inr ha))
  have mB:∀ a ∈ B,a ∈ A:=fun a ha=>h3.mem_iff.mpr (List.mem_append.mpr (.inl ha))
  exact ⟨v,B,A',h1,h2,⟨h4,n2,fun a ha=>R.fr a (mA a ha),R.fh,R.zh,R.dj⟩,⟨n1,fun b hb=>⟨(R.fr b (mB b hb)).1,(R.fr b (mB b hb)).2,n3 b hb⟩⟩,h3⟩
theorem set_none {ρ:FSt} {i:Nat} {o:OV} (e:ρ[i]?=some (some o)):(ρ.set i none)[i]?=some none:=by
  have hi:i < ρ.length:=(List.getElem?_eq_some_iff.mp e).1
  simp [hi]
theorem Rel.putI {i:Nat} {o:OV} {v:V} {B:List Addr} (R:Rel K F Z H σ ρ A) (e:ρ[i]?=some none) (hv:σ[i]?=some (some v)) (h:Ow K F H v o B) (f:Fresh F Z A B):∃ A',Rel K F Z H σ (ρ.set i (some o)) A'∧A'.Perm (B++A):=by
  obtain ⟨A',h1,h2⟩:=R.sl.put e hv h
  refine ⟨A',⟨h2,h1.nodup_iff.mpr ?_,fun a ha=>?_,R.fh,R.zh,R.dj⟩,h1⟩
  · exact List.nodup_append.mpr ⟨f.nd,R.nd,fun a ha b hb z=>(f.fr a ha).2.2 (z ▸ hb)⟩
  · rcases List.mem_append.mp (h1.mem_iff.mp ha) with q | q
    · exact ⟨(f.fr a q).1,(f.fr a q).2.1⟩
    · exact R.fr a q
theorem Rel.frz {v:V} {r:RV} {B:List Addr} {d:D} {ρ':FSt} (R:Rel K F Z H σ ρ A) (h:RV1 K F H σ v r B) (f:Fresh F Z A B) (e:fzR r ρ=some (d,ρ')) :
    ∃ F' A',Same F F'∧Rel K F' Z H σ ρ' A'∧Den K F' v d∧(∀ a o,F' a=some o→F a=none→a ∈ A∨a ∈ B)∧∀ a ∈ A',a ∈ A:=by
  rw [fzR_is] at e
  cases r with
  | ov o =>
    simp only [fzR0,Option.some.injEq,Prod.mk.injEq] at e
    obtain ⟨rfl,rfl⟩:=e
    obtain ⟨F',s,R',k,n⟩:=R.grow (Ow.live h) f.fr
    exact ⟨F',A,s,R',Ow.freeze s h k,fun a o h1 h2=>.inr (n a o h1 h2),fun _ z=>z⟩
  | br i =>
    simp only [fzR0] at e
    split at e
    · rename_i o ho
      simp only [Option.some.injEq,Prod.mk.injEq] at e
      obtain ⟨rfl,rfl⟩:=e
      obtain ⟨v',B',A',h1,h2,R',f',pm⟩:=R.takeI ho
      have hv:v'=v:=Option.some.inj (Option.some.inj (h1.symm.trans h.1))
      subst hv
      obtain ⟨F',s,R2,k,n⟩:=R'.grow (Ow.live h2) f'.fr
      have dn:=Ow.freeze s h2 k
      obtain ⟨A3,R3,p3⟩:=R2.putI (set_none ho) h1 (.fz dn) Fresh.nil
      rw [List.set_set] at R3
      refine ⟨F',A3,s,R3,dn,fun a o h1 h2=>.inl (pm.mem_iff.mpr (List.mem_append.mpr (.inl (n a o h1 h2)))),fun a ha=>?_⟩
      have:=p3.mem_iff.mp ha
      exact pm.mem_iff.mpr (List.mem_append.mpr (.inr (by first|exact this|exact List.mem_singleton.mp this|simpa using this)))
    · cases e
theorem Rel.frzL:∀ {rs:List RV} {vs:List V} {B:List Addr} {ds:List D} {ρ ρ':FSt} {F:Hp} {A:List Addr},Rel K F Z H σ ρ A→RVL K F H σ vs rs B→Fresh F Z A B→fzL rs ρ=some (ds,ρ') →
    ∃ F' A',Same F F'∧Rel K F' Z H σ ρ' A'∧Dens K F' vs ds:=by
  intro rs
  induction rs with
  | nil =>
    intro vs B ds ρ ρ' F A R h f e
    simp only [fzL,Option.some.injEq,Prod.mk.injEq] at e
    obtain ⟨rfl,rfl⟩:=e
    cases h
    exact ⟨F,A,Same.refl _,R,.nil⟩
  | cons r rs ih =>
    intro vs B ds ρ ρ' F A R h f e
    cases h with
    | @cons v _ vs _ B1 B2 h t =>
      simp only [fzL] at e
      split at e
      · rename_i d ρ1 e1
        split at e
        · rename_i ds' ρ2 e2
          simp only [Option.some.injEq,Prod.mk.injEq] at e
          obtain ⟨rfl,rfl⟩:=e
          obtain ⟨n1,n2,n3⟩:=perm_nodup (List.Perm.refl (B1++B2)) f.nd
          obtain ⟨F1,A1,s1,R1,d1,w1,m1⟩:=R.frz h ⟨n1,fun b hb=>f.fr b (List.mem_append.mpr (.inl hb))⟩ e1
          obtain ⟨F2,A2,s2,R2,d2⟩:=ih R1 (t.keep s1 fun _ _ _ z=>z) ⟨n2,fun b hb=>by
            have fb:=f.fr b (List.mem_append.mpr (.inr hb))
            refine ⟨?_,fb.2.1,fun z=>fb.2.2 (m1 b z)⟩
            cases q:F1 b with
            | none=>rfl
            | some u =>
              rcases w1 b u q fb.1 with z | z
              · exact absurd z fb.2.2
              · exact absurd hb (n3 b z)⟩ e2
          exact ⟨F2,A2,s1.trans s2,R2,.cons (d1.mono s2) d2⟩
        · cases e
      · cases e
noncomputable def look (ρ:FSt):RV→Option OV
  | .ov o=>some o
  | .br i=>match ρ[i]? with
    | some (some o)=>some o
    | _=>none
noncomputable def lookD (ρ:FSt):RV→Option D
  | .ov o=>flat o
  | .br i=>match ρ[i]? with
    | some (some o)=>flat o
    | _=>none
noncomputable def lookDs (ρ:FSt):List RV→Option (List D)
  | []=>some []
  | r::rs=>match lookD ρ r with
    | some d=>match lookDs ρ rs with
      | some ds=>some (d::ds)
      | none=>none
    | none=>none
theorem Rel.acc {v:V} {r:RV} {B:List Addr} {d:D} (R:Rel K F Z H σ ρ A) (h:RV1 K F H σ v r B) (e:lookD ρ r=some d):Acc K F H v d:=by
  cases r with
  | ov o=>exact Ow.acc h e
  | br i =>
    simp only [lookD] at e
    split at e
    · rename_i o ho
      obtain ⟨v',B',A',h1,h2,_⟩:=R.takeI ho
      have hv:v'=v:=Option.some.inj (Option.some.inj (h1.symm.trans h.1))
      subst hv
      exact h2.acc e
    · cases e
inductive Accs (K:PySem.W.Frag) (F H:Hp):List V→List D→Prop where
  | nil:Accs K F H [] []
  | cons {v:V} {d:D} {vs:List V} {ds:List D}:Acc K F H v d→Accs K F H vs ds→Accs K F H (v::vs) (d::ds)
theorem Rel.accs {rs:List RV} {vs:List V} {B:List Addr} {ds:List D} (R:Rel K F Z H σ ρ A) (h:RVL K F H σ vs rs B) (e:lookDs ρ rs=some ds):Accs K F H vs ds:=by
  induction h generalizing ds with
  | nil=>cases e; exact .nil
  | @cons v r vs rs A B h t ih =>
    unfold lookDs at e
    cases e1:lookD ρ r with
    | none=>rw [e1] at e; cases e
    | some d =>
      cases e2:lookDs ρ rs with
      | none=>rw [e1,e2] at e; cases e
      | some ds' =>
        rw [e1,e2] at e
        cases e
        exact .cons (R.acc h e1) (ih e2)
end
end L2
set_option maxHeartbeats 4000000
namespace L2
open PySem PySem.Spec PyProof.Rows
noncomputable abbrev FE:=FSt→(RV→FSt→Prop)→Prop
noncomputable abbrev FT:=FSt→(Bool→FSt→Prop)→Prop
noncomputable abbrev FA:=FSt→(List RV→FSt→Prop)→Prop
noncomputable abbrev FO:=FSt→(Option Int→FSt→Prop)→Prop
noncomputable def View (μ:List Nat) (τ σ:St):Prop:=∀ j i:Nat,μ[j]?=some i→τ[j]?=σ[i]?∧j < τ.length∧i < σ.length
theorem View.id {n:Nat} {σ:St} (hn:σ.length=n):View (List.range n) σ σ:=fun j i h=>by
  rw [List.getElem?_eq_some_iff] at h
  obtain ⟨h1,h2⟩:=h
  rw [List.getElem_range] at h2
  rw [List.length_range] at h1
  subst h2
  exact ⟨rfl,by (first|lia|omega),by (first|lia|omega)⟩
structure EF (K:PySem.W.Frag) (μ:List Nat) (t:TE) (f:FE):Prop where
  h:∀ {F Z H:Hp} {τ σ:St} {ρ:FSt} {A:List Addr} {Q:VK} {P:RV→FSt→Prop},View μ τ σ→Rel K F Z H σ ρ A→f ρ P →
    (∀ r ρ' v F' H' A' B,P r ρ'→Same F F'→Rel K F' Z H' σ ρ' A'→RV1 K F' H' σ v r B→Fresh F' Z A' B→Q v H')→t τ H Q
structure TF (K:PySem.W.Frag) (μ:List Nat) (t:TT) (f:FT):Prop where
  h:∀ {F Z H:Hp} {τ σ:St} {ρ:FSt} {A:List Addr} {Q:Bool→Hp→Prop} {P:Bool→FSt→Prop},View μ τ σ→Rel K F Z H σ ρ A→f ρ P →
    (∀ b ρ' F' H' A',P b ρ'→Same F F'→Rel K F' Z H' σ ρ' A'→Q b H')→t τ H Q
structure AF (K:PySem.W.Frag) (μ:List Nat) (t:TA) (f:FA):Prop where
  h:∀ {F Z H:Hp} {τ σ:St} {ρ:FSt} {A:List Addr} {Q:List V→Hp→Prop} {P:List RV→FSt→Prop},View μ τ σ→Rel K F Z H σ ρ A→f ρ P →
    (∀ rs ρ' vs F' H' A' B,P rs ρ'→Same F F'→Rel K F' Z H' σ ρ' A'→RVL K F' H' σ vs rs B→Fresh F' Z A' B→Q vs H')→t τ H Q
structure OF (K:PySem.W.Frag) (μ:List Nat) (t:TO) (f:FO):Prop where
  h:∀ {F Z H:Hp} {τ σ:St} {ρ:FSt} {A:List Addr} {Q:Option Int→Hp→Prop} {P:Option Int→FSt→Prop},View μ τ σ→Rel K F Z H σ ρ A→f ρ P →
    (∀ x ρ' F' H' A',P x ρ'→Same F F'→Rel K F' Z H' σ ρ' A'→Q x H')→t τ H Q
noncomputable def NewQ (K:PySem.W.Frag) (F H:Hp) (P:OV→Prop) (Q:VK):Prop:=∀ o v F' H' B,P o→Pure F H F' H'→Ow K F' H' v o B→New H F' B→Q v H'
structure OpF (K:PySem.W.Frag) (r:R2) (f:D→D→(OV→Prop)→Prop):Prop where
  h:∀ {F H:Hp} {x y:V} {d e:D} {Q:VK} {P:OV→Prop},Same F H→Acc K F H x d→Acc K F H y e→f d e P→NewQ K F H P Q→r x y H Q
structure CallF (K:PySem.W.Frag) (r:List V→Hp→VK→Prop) (f:List D→(OV→Prop)→Prop):Prop where
  h:∀ {F H:Hp} {xs:List V} {ds:List D} {Q:VK} {P:OV→Prop},Same F H→Accs K F H xs ds→f ds P→NewQ K F H P Q→r xs H Q
structure SlF (K:PySem.W.Frag) (r:V→Option Int→Option Int→Hp→VK→Prop) (f:D→Option Int→Option Int→(OV→Prop)→Prop):Prop where
  h:∀ {F H:Hp} {x:V} {d:D} {lo hi:Option Int} {Q:VK} {P:OV→Prop},Same F H→Acc K F H x d→f d lo hi P→NewQ K F H P Q→r x lo hi H Q
@[irreducible] noncomputable def br (b:Bool) (A B:Prop):Prop:=if b=true then A else B
theorem br_T {A B:Prop} (h:A):br true A B:=by unfold br; exact h
theorem br_F {A B:Prop} (h:B):br false A B:=by unfold br; exact h
theorem of_T {A B:Prop} (h:br true A B):A:=by unfold br at h; exact h
theorem of_F {A B:Prop} (h:br false A B):B:=by unfold br at h; exact h
theorem br_by {b:Bool} {A B:Prop} (c:Prop) (e:b=true↔c) (h1:c→A) (h2:¬ c→B):br b A B:=by
  cases b with
  | true=>exact br_T (h1 (e.mp rfl))
  | false=>exact br_F (h2 fun z=>nomatch e.mpr z)
noncomputable def fVar (i:Nat):FE:=fun ρ Q=>match ρ[i]? with
  | some (some (.fz d))=>Q (.ov (.fz d)) ρ
  | some (some _)=>Q (.br i) ρ
  | _=>False
noncomputable def fC (d:D):FE:=fun ρ Q=>Q (.ov (.fz d)) ρ
noncomputable def on2 (ρ:FSt) (r s:RV) (k:D→D→Prop):Prop:=match lookD ρ r with
  | some d=>match lookD ρ s with
    | some e=>k d e
    | none=>False
  | none=>False
noncomputable def on1 (ρ:FSt) (r:RV) (k:D→Prop):Prop:=match lookD ρ r with
  | some d=>k d
  | none=>False
noncomputable def onL (ρ:FSt) (rs:List RV) (k:List D→Prop):Prop:=match lookDs ρ rs with
  | some d=>k d
  | none=>False
noncomputable def onB (d:D) (k:Bool→Prop):Prop:=match d with
  | .bl b=>k b
  | _=>False
noncomputable def fOp (f:D→D→(OV→Prop)→Prop) (fa fb:FE):FE:=fun ρ Q=>fa ρ fun r ρ1=>fb ρ1 fun s ρ2=>on2 ρ2 r s fun d e=>f d e fun o=>Q (.ov o) ρ2
noncomputable def fChain (f f':D→D→(OV→Prop)→Prop) (fa fb fc:FE):FE:=fun ρ Q=>fa ρ fun r ρ1=>fb ρ1 fun s ρ2=>on2 ρ2 r s fun d e=>f d e fun o=>match o with
  | .fz (.bl k)=>br k (fc ρ2 fun t ρ3=>on2 ρ3 s t fun d' e'=>f' d' e' fun o=>Q (.ov o) ρ3) (Q (.ov (.fz (.bl false))) ρ2)
  | _=>False
noncomputable def fTest (fa:FE):FT:=fun ρ Q=>fa ρ fun r ρ1=>on1 ρ1 r fun d=>onB d fun c=>Q c ρ1
noncomputable def fNot (ft:FT):FT:=fun ρ Q=>ft ρ fun c ρ1=>Q (!c) ρ1
noncomputable def fAnd (fa fb:FT):FT:=fun ρ Q=>fa ρ fun c ρ1=>br c (fb ρ1 Q) (Q false ρ1)
noncomputable def fOr (fa fb:FT):FT:=fun ρ Q=>fa ρ fun c ρ1=>br c (Q true ρ1) (fb ρ1 Q)
noncomputable def truD:D→Option Bool
  | .non=>some false
  | .bl b=>some b
  | .int i=>some (i != 0)
  | .str y=>if y.length≤sizeLine then some ((y.length:Int) != 0) else none
  | .lst xs=>some (!xs.isEmpty)
  | .tup xs=>some (!xs.isEmpty)
  | .dct _ _=>none
  | .ty _=>none
  | .opq _ _=>none
noncomputable def fTru (fa:FE):FT:=fun ρ Q=>fa ρ fun r ρ1=>on1 ρ1 r fun d=>match truD d with
  | some k=>Q k ρ1
  | none=>False
noncomputable def fYes:FT:=fun ρ Q=>Q true ρ
noncomputable def fNil:FA:=fun ρ Q=>Q [] ρ
noncomputable def fCons (fa:FE) (fr:FA):FA:=fun ρ Q=>fa ρ fun r ρ1=>fr ρ1 fun rs ρ2=>Q (r::rs) ρ2
noncomputable def fCB (f:List D→(OV→Prop)→Prop) (fa:FA):FE:=fun ρ Q=>fa ρ fun rs ρ1=>onL ρ1 rs fun ds=>f ds fun o=>Q (.ov o) ρ1
noncomputable def fLst (fa:FA):FE:=fun ρ Q=>fa ρ fun rs ρ1=>match fzL rs ρ1 with
  | some (ds,ρ2)=>ds.length≤sizeLine∧Q (.ov (.fl ds)) ρ2
  | none=>False
noncomputable def fTup (fa:FA):FE:=fun ρ Q=>fa ρ fun rs ρ1=>match fzL rs ρ1 with
  | some (ds,ρ2)=>ds.length≤sizeLine∧Q (.ov (.fz (.tup ds))) ρ2
  | none=>False
noncomputable def fNoPart:FO:=fun ρ Q=>Q none ρ
noncomputable def fPart (fa:FE):FO:=fun ρ Q=>fa ρ fun r ρ1=>on1 ρ1 r fun d=>match d with
  | .int i=>Q (some i) ρ1
  | _=>False
noncomputable def fSl (f:D→Option Int→Option Int→(OV→Prop)→Prop) (fe:FE) (fl fh:FO):FE:=fun ρ Q=>fe ρ fun r ρ1=>fl ρ1 fun lo ρ2=>fh ρ2 fun hi ρ3=>on1 ρ3 r fun d=>f d lo hi fun o=>Q (.ov o) ρ3
noncomputable def fDNew:FE:=fun ρ Q=>Q (.ov (.fd [] [])) ρ
section
variable {K:PySem.W.Frag} {μ:List Nat}
theorem on1_ok {ρ:FSt} {r:RV} {k:D→Prop} (h:on1 ρ r k):∃ d,lookD ρ r=some d∧k d:=by
  unfold on1 at h
  split at h
  · exact ⟨_,by assumption,h⟩
  · exact h.elim
theorem on2_ok {ρ:FSt} {r s:RV} {k:D→D→Prop} (h:on2 ρ r s k):∃ d e,lookD ρ r=some d∧lookD ρ s=some e∧k d e:=by
  unfold on2 at h
  split at h
  · split at h
    · exact ⟨_,_,by assumption,by assumption,h⟩
    · exact h.elim
  · exact h.elim
theorem onL_ok {ρ:FSt} {r:List RV} {k:List D→Prop} (h:onL ρ r k):∃ d,lookDs ρ r=some d∧k d:=by
  unfold onL at h
  split at h
  · exact ⟨_,by assumption,h⟩
  · exact h.elim
theorem onB_ok {d:D} {k:Bool→Prop} (h:onB d k):∃ b,d=.bl b∧k b:=by
  unfold onB at h
  split at h
  · exact ⟨_,rfl,h⟩
  · exact h.elim
theorem ef_var {i j:Nat} (hj:μ[j]?=some i):EF K μ (tVar j) (fVar i):=⟨by
  intro F Z H τ σ ρ A Q P vw R h q
  unfold fVar at h
  generalize e:ρ[i]?=o at h
  cases o with
  | none=>exact False.elim h
  | some o =>
    cases o with
    | none=>exact False.elim h
    | some o =>
      obtain ⟨v,B,A',h1,h2,h3,h4,h5⟩:=R.takeI e
      refine ⟨v,(vw j i hj).1.trans h1,?_⟩
      cases o with
      | fz d =>
        cases h2 with
        | fz dn=>exact q _ _ v F H A [] h (Same.refl _) R (.fz dn) Fresh.nil
      | _=>exact q _ _ v F H A [] h (Same.refl _) R ⟨h1,rfl⟩ Fresh.nil⟩
theorem ef_c {v:V} {d:D} (hd:∀ F,Den K F v d):EF K μ (tC v) (fC d):=⟨fun {F Z H τ σ ρ A Q P} vw R h q=>q _ _ v F H A [] h (Same.refl _) R (.fz (hd F)) Fresh.nil⟩
theorem ef_int {i:Int}:EF K μ (tC (.int i)) (fC (.int i)):=ef_c fun _=>.int i
theorem ef_str {i:Str}:EF K μ (tC (.str i)) (fC (.str i)):=ef_c fun _=>.str i
theorem ef_bl {i:Bool}:EF K μ (tC (.bl i)) (fC (.bl i)):=ef_c fun _=>.bl i
theorem ef_ty {T:String}:EF K μ (tC (.ty T)) (fC (.ty T)):=ef_c fun _=>.ty T
theorem Rel.after {F Z H:Hp} {σ:St} {ρ:FSt} {A:List Addr} {P:OV→Prop} {Q:VK} (R:Rel K F Z H σ ρ A) (q:∀ o v F' H' B,P o→Same F F'→Rel K F' Z H' σ ρ A→Ow K F' H' v o B→Fresh F' Z A B→Q v H'):NewQ K F H P Q :=
  fun o v F' H' B p pu ow nw=>q o v F' H' B p pu.ff (R.step pu) ow (R.fresh nw)
theorem ef_op {r:R2} {f:D→D→(OV→Prop)→Prop} {ta tb:TE} {fa fb:FE} (ho:OpF K r f) (ha:EF K μ ta fa) (hb:EF K μ tb fb):EF K μ (tOp r ta tb) (fOp f fa fb):=⟨by
  intro F Z H τ σ ρ A Q P vw R h q
  refine ha.h vw R h fun r1 ρ1 x F1 H1 A1 B1 h1 s1 R1 v1 f1=>?_
  obtain ⟨Z',sz,R1',zl,back⟩:=R1.hold v1.live f1
  refine hb.h vw R1' h1 fun r2 ρ2 y F2 H2 A2 B2 h2 s2 R2 v2 f2=>?_
  obtain ⟨R2',f1',k1⟩:=back _ _ _ _ s2 R2
  obtain ⟨d,e,e1,e2,h3⟩:=on2_ok h2
  refine ho.h R2'.fh (R2'.acc (v1.keep s2 k1) e1) (R2'.acc v2 e2) h3 (R2'.after fun o v F3 H3 B p s3 R3 ow fr=>q _ _ _ _ _ _ _ p ((s1.trans s2).trans s3) R3 ow fr)⟩
theorem ef_chain {r r':R2} {f f':D→D→(OV→Prop)→Prop} {ta tb tc:TE} {fa fb fc:FE} (ho:OpF K r f) (ho':OpF K r' f') (ha:EF K μ ta fa) (hb:EF K μ tb fb) (hc:EF K μ tc fc):EF K μ (tChain r r' ta tb tc) (fChain f f' fa fb fc):=⟨by
  intro F Z H τ σ ρ A Q P vw R h q
  refine ha.h vw R h fun r1 ρ1 x F1 H1 A1 B1 h1 s1 R1 v1 f1=>?_
  obtain ⟨Z',sz,R1',zl,back⟩:=R1.hold v1.live f1
  refine hb.h vw R1' h1 fun r2 ρ2 y F2 H2 A2 B2 h2 s2 R2 v2 f2=>?_
  obtain ⟨R2',f1',k1⟩:=back _ _ _ _ s2 R2
  obtain ⟨d,e,e1,e2,h3⟩:=on2_ok h2
  have f2':Fresh F2 Z A2 B2:=⟨f2.nd,fun b hb=>⟨(f2.fr b hb).1,sz.free (f2.fr b hb).2.1,(f2.fr b hb).2.2⟩⟩
  refine ho.h R2'.fh (R2'.acc (v1.keep s2 k1) e1) (R2'.acc v2 e2) h3 fun o v F3 H3 B p pu ow nw=>?_
  have R3:=R2'.step pu
  have f3:Fresh F3 Z A2 B2:=⟨f2'.nd,fun b hb=>⟨(by
    cases z:F3 b with
    | none=>rfl
    | some u =>
      obtain ⟨w,hw⟩:=v2.live b hb
      rw [pu.nw b u z (f2'.fr b hb).1] at hw
      exact nomatch hw),(f2'.fr b hb).2⟩⟩
  have v3:=v2.keep pu.ff fun a u _ z=>pu.hh a u z
  split at p
  · rename_i k
    cases ow with
    | fz dn =>
      refine ⟨k,dn.bl_eq,?_⟩
      cases k with
      | false=>exact q _ _ _ _ _ _ _ (of_F p) ((s1.trans s2).trans pu.ff) R3 (.fz (.bl false)) Fresh.nil
      | true =>
        obtain ⟨Z2,sz2,R3',zl2,back2⟩:=R3.hold v3.live f3
        refine hc.h vw R3' (of_T p) fun r4 ρ4 w F4 H4 A4 B4 h4 s4 R4 v4 f4=>?_
        obtain ⟨R4',f4',k4⟩:=back2 _ _ _ _ s4 R4
        obtain ⟨d',e',e1',e2',h5⟩:=on2_ok h4
        exact ho'.h R4'.fh (R4'.acc (v3.keep s4 k4) e1') (R4'.acc v4 e2') h5 (R4'.after fun o v F5 H5 B p s5 R5 ow fr=>q _ _ _ _ _ _ _ p ((((s1.trans s2).trans pu.ff).trans s4).trans s5) R5 ow fr)
  · exact p.elim⟩
theorem tf_test {ta:TE} {fa:FE} (ha:EF K μ ta fa):TF K μ (tTest ta) (fTest fa):=⟨by
  intro F Z H τ σ ρ A Q P vw R h q
  refine ha.h vw R h fun r1 ρ1 x F1 H1 A1 B1 h1 s1 R1 v1 f1=>?_
  obtain ⟨d,e1,h2⟩:=on1_ok h1
  obtain ⟨c,rfl,h3⟩:=onB_ok h2
  exact ⟨c,(R1.acc v1 e1).bl_eq,q _ _ _ _ _ h3 s1 R1⟩⟩
theorem tf_b {ta:TE} {fa:FE} (ha:EF K μ ta fa):TF K μ (tB ta) (fTest fa):=⟨(tf_test ha).h⟩
theorem tf_not {t:TT} {f:FT} (h:TF K μ t f):TF K μ (tNot t) (fNot f):=⟨fun {F Z H τ σ ρ A Q P} vw R p q=>h.h vw R p fun b ρ1 F1 H1 A1 h1=>q _ _ _ _ _ h1⟩
theorem tf_and {t u:TT} {f g:FT} (h:TF K μ t f) (h':TF K μ u g):TF K μ (tAnd t u) (fAnd f g):=⟨fun {F Z H τ σ ρ A Q P} vw R p q=>h.h vw R p fun b ρ1 F1 H1 A1 h1 s1 R1=>by
  cases b with
  | true=>exact h'.h vw R1 (of_T h1) fun b ρ2 F2 H2 A2 h2 s2=>q _ _ _ _ _ h2 (s1.trans s2)
  | false=>exact q _ _ _ _ _ (of_F h1) s1 R1⟩
theorem tf_or {t u:TT} {f g:FT} (h:TF K μ t f) (h':TF K μ u g):TF K μ (tOr t u) (fOr f g):=⟨fun {F Z H τ σ ρ A Q P} vw R p q=>h.h vw R p fun b ρ1 F1 H1 A1 h1 s1 R1=>by
  cases b with
  | false=>exact h'.h vw R1 (of_F h1) fun b ρ2 F2 H2 A2 h2 s2=>q _ _ _ _ _ h2 (s1.trans s2)
  | true=>exact q _ _ _ _ _ (of_T h1) s1 R1⟩
theorem tf_yes:TF K μ tYes fYes:=⟨fun {F Z H τ σ ρ A Q P} vw R p q=>q _ _ _ _ _ p (Same.refl _) R⟩
theorem tru_okD {F H:Hp} {x:V} {d:D} {k:Bool} (e:Same F H) (h:Acc K F H x d) (hk:truD d=some k):TruV K x H k:=by
  cases d with
  | non=>rw [h.non_eq]; exact (Option.some.inj hk).symm
  | bl b=>rw [h.bl_eq]; exact (Option.some.inj hk).symm
  | int i=>rw [h.int_eq]; exact (Option.some.inj hk).symm
  | str y =>
    rw [h.str_eq]
    simp only [truD] at hk
    split at hk
    · exact ⟨by assumption,by simpa using hk.symm⟩
    · cases hk
  | lst ds =>
    obtain ⟨a,xs,rfl,h1,h2⟩:=h.asL e
    have:=h2.length
    refine .inl ⟨xs,h1,?_⟩
    simp only [truD,Option.some.injEq] at hk
    rw [← hk]
    cases xs <;> cases ds <;> simp at this ⊢
  | tup ds =>
    obtain ⟨a,xs,rfl,h1,h2⟩:=h.asT e
    have:=h2.length
    refine .inr (.inl ⟨xs,h1,?_⟩)
    simp only [truD,Option.some.injEq] at hk
    rw [← hk]
    cases xs <;> cases ds <;> simp at this ⊢
  | dct ks ds =>
    simp [truD] at hk
  | ty T=>simp [truD] at hk
  | opq a n=>simp [truD] at hk
theorem tf_tru {ta:TE} {fa:FE} (ha:EF K μ ta fa):TF K μ (tTru K ta) (fTru fa):=⟨by
  intro F Z H τ σ ρ A Q P vw R h q
  refine ha.h vw R h fun r1 ρ1 x F1 H1 A1 B1 h1 s1 R1 v1 f1=>?_
  obtain ⟨d,e1,h2⟩:=on1_ok h1
  split at h2
  · rename_i k hk
    exact ⟨k,tru_okD R1.fh (R1.acc v1 e1) hk,q _ _ _ _ _ h2 s1 R1⟩
  · exact h2.elim⟩
theorem af_nil:AF K μ tNil fNil:=⟨fun {F Z H τ σ ρ A Q P} vw R p q=>q _ _ _ _ _ _ _ p (Same.refl _) R .nil Fresh.nil⟩
theorem af_cons {ta:TE} {tr:TA} {fa:FE} {fr:FA} (ha:EF K μ ta fa) (hr:AF K μ tr fr):AF K μ (tCons ta tr) (fCons fa fr):=⟨by
  intro F Z H τ σ ρ A Q P vw R h q
  refine ha.h vw R h fun r1 ρ1 x F1 H1 A1 B1 h1 s1 R1 v1 f1=>?_
  obtain ⟨Z',sz,R1',zl,back⟩:=R1.hold v1.live f1
  refine hr.h vw R1' h1 fun r2 ρ2 y F2 H2 A2 B2 h2 s2 R2 v2 f2=>?_
  obtain ⟨R2',f1',k1⟩:=back _ _ _ _ s2 R2
  refine q _ _ _ _ _ _ _ h2 (s1.trans s2) R2' (.cons (v1.keep s2 k1) v2) ⟨List.nodup_append.mpr ⟨f1'.nd,f2.nd,fun a ha b hb z=>?_⟩,fun b hb=>?_⟩
  · obtain ⟨u,hu⟩:=zl a ha
    rw [z,(f2.fr b hb).2.1] at hu; cases hu
  · rcases List.mem_append.mp hb with z | z
    · exact f1'.fr b z
    · exact ⟨(f2.fr b z).1,sz.free (f2.fr b z).2.1,(f2.fr b z).2.2⟩⟩
theorem ef_cb {r:List V→Hp→VK→Prop} {f:List D→(OV→Prop)→Prop} {t:TA} {fa:FA} (hc:CallF K r f) (ha:AF K μ t fa):EF K μ (tCB r t) (fCB f fa):=⟨by
  intro F Z H τ σ ρ A Q P vw R h q
  refine ha.h vw R h fun rs ρ1 xs F1 H1 A1 B1 h1 s1 R1 v1 f1=>?_
  obtain ⟨ds,e1,h2⟩:=onL_ok h1
  exact hc.h R1.fh (R1.accs v1 e1) h2 (R1.after fun o v F3 H3 B p s3 R3 ow fr=>q _ _ _ _ _ _ _ p (s1.trans s3) R3 ow fr)⟩
theorem ef_lst {t:TA} {fa:FA} (ha:AF K μ t fa):EF K μ (tLst t) (fLst fa):=⟨by
  intro F Z H τ σ ρ A Q P vw R h q
  refine ha.h vw R h fun rs ρ1 xs F1 H1 A1 B1 h1 s1 R1 v1 f1=>?_
  split at h1
  · rename_i ds ρ2 e
    obtain ⟨F2,A2,s2,R2,dn⟩:=R1.frzL v1 f1 e
    refine ⟨by rw [dn.length]; exact h1.1,fun p hp=>?_⟩
    have hf:F2 p=none:=R2.fh.free hp
    exact R2.after (P:=fun o=>P (.ov o) ρ2) (fun o v F3 H3 B p s3 R3 ow fr=>q _ _ _ _ _ _ _ p ((s1.trans s2).trans s3) R3 ow fr) _ _ F2 _ [p] h1.2 (Pure.new R2.fh hp) (.fl upd_same dn) (New.one hp hf)
  · exact h1.elim⟩
theorem ef_tup {t:TA} {fa:FA} (ha:AF K μ t fa):EF K μ (tTup t) (fTup fa):=⟨by
  intro F Z H τ σ ρ A Q P vw R h q
  refine ha.h vw R h fun rs ρ1 xs F1 H1 A1 B1 h1 s1 R1 v1 f1=>?_
  split at h1
  · rename_i ds ρ2 e
    obtain ⟨F2,A2,s2,R2,dn⟩:=R1.frzL v1 f1 e
    refine ⟨by rw [dn.length]; exact h1.1,fun p hp=>?_⟩
    have hf:F2 p=none:=R2.fh.free hp
    refine R2.after (P:=fun o=>P (.ov o) ρ2) (fun o v F3 H3 B p s3 R3 ow fr=>q _ _ _ _ _ _ _ p ((s1.trans s2).trans s3) R3 ow fr) _ _ (upd F2 p (.tup xs)) _ [] h1.2 (Pure.frz R2.fh hp) (.fz (.tup (SqT.of upd_same) (dn.mono (same_new hf)))) New.nil
  · exact h1.elim⟩
theorem ef_dnew:EF K μ tDNewK fDNew:=⟨by
  intro F Z H τ σ ρ A Q P vw R h q p hp
  have hf:F p=none:=R.fh.free hp
  exact R.after (P:=fun o=>P (.ov o) ρ) (fun o v F3 H3 B p s3 R3 ow fr=>q _ _ _ _ _ _ _ p s3 R3 ow fr) _ _ F _ [p] h (Pure.new R.fh hp) (.fd upd_same rfl .nil) (New.one hp hf)⟩
theorem of_none:OF K μ tNoPart fNoPart:=⟨fun {F Z H τ σ ρ A Q P} vw R p q=>q _ _ _ _ _ p (Same.refl _) R⟩
theorem of_some {ta:TE} {fa:FE} (ha:EF K μ ta fa):OF K μ (tPart ta) (fPart fa):=⟨by
  intro F Z H τ σ ρ A Q P vw R h q
  refine ha.h vw R h fun r1 ρ1 x F1 H1 A1 B1 h1 s1 R1 v1 f1=>?_
  obtain ⟨d,e1,h2⟩:=on1_ok h1
  split at h2
  · rename_i i
    exact ⟨i,(R1.acc v1 e1).int_eq,q _ _ _ _ _ h2 s1 R1⟩
  · exact h2.elim⟩
theorem ef_sl {r:V→Option Int→Option Int→Hp→VK→Prop} {f:D→Option Int→Option Int→(OV→Prop)→Prop} {te:TE} {tl th:TO} {fe:FE} {fl fh:FO} (hr:SlF K r f) (he:EF K μ te fe) (hl:OF K μ tl fl) (hh:OF K μ th fh):EF K μ (tSl r te tl th) (fSl f fe fl fh):=⟨by
  intro F Z H τ σ ρ A Q P vw R h q
  refine he.h vw R h fun r1 ρ1 x F1 H1 A1 B1 h1 s1 R1 v1 f1=>?_
  obtain ⟨Z',sz,R1',zl,back⟩:=R1.hold v1.live f1
  refine hl.h vw R1' h1 fun lo ρ2 F2 H2 A2 h2 s2 R2=>?_
  refine hh.h vw R2 h2 fun hi ρ3 F3 H3 A3 h3 s3 R3=>?_
  obtain ⟨R3',f1',k1⟩:=back _ _ _ _ (s2.trans s3) R3
  obtain ⟨d,e1,h4⟩:=on1_ok h3
  exact hr.h R3'.fh (R3'.acc (v1.keep (s2.trans s3) k1) e1) h4 (R3'.after fun o v F5 H5 B p s5 R5 ow fr=>q _ _ _ _ _ _ _ p (((s1.trans s2).trans s3).trans s5) R5 ow fr)⟩
end
end L2
set_option maxHeartbeats 4000000
namespace L2
open PySem PySem.Spec PyProof.Rows
noncomputable abbrev Ct:=List OV→(OV→List OV→Prop)→Prop
noncomputable def takeR:RV→FSt→Option (OV×FSt)
  | .ov o,ρ=>some (o,ρ)
  | .br i,ρ=>match ρ[i]? with
    | some (some o)=>some (o,ρ.set i none)
    | _=>none
noncomputable def takeL:List RV→FSt→Option (List OV×FSt)
  | [],ρ=>some ([],ρ)
  | r::rs,ρ=>match takeR r ρ with
    | some (o,ρ1)=>match takeL rs ρ1 with
      | some (os,ρ2)=>some (o::os,ρ2)
      | none=>none
    | none=>none
noncomputable def putL:List RV→List OV→FSt→FSt
  | .br i::rs,o::os,ρ=>putL rs os (ρ.set i (some o))
  | .ov _::rs,_::os,ρ=>putL rs os ρ
  | _,_,ρ=>ρ
noncomputable def spM (K:PySem.W.Frag) (c:Ct):Sp:=fun vs H Q _=>∃ (F Z:Hp) (os:List OV) (C:List Addr) (P:OV→List OV→Prop),Same F H∧Same Z H∧(∀ a o,F a=some o→Z a=none)∧Ows K F H vs os C∧C.Nodup∧(∀ a ∈ C,F a=none∧Z a=none)∧c os P ∧
  ∀ o os' v F' H' C' B,P o os'→Same F F'→Same F' H'→Same Z H'→(∀ a o,F' a=some o→Z a=none)→Ows K F' H' vs os' C'→Ow K F' H' v o B→(C'++B).Nodup→(∀ a ∈ C'++B,F' a=none∧Z a=none)→Q v H'
noncomputable def fCall (c:Ct) (fa:FA):FE:=fun ρ Q=>fa ρ fun rs ρ1=>match takeL rs ρ1 with
  | some (os,ρ2)=>c os fun o os'=>Q (.ov o) (putL rs os' ρ2)
  | none=>False
noncomputable def fFz (fe:FE):FE:=fun ρ Q=>fe ρ fun r ρ1=>match fzR r ρ1 with
  | some (d,ρ2)=>Q (.ov (.fz d)) ρ2
  | none=>False
section
variable {K:PySem.W.Frag} {μ:List Nat} {F F' Z H H':Hp} {σ:St} {ρ:FSt} {A:List Addr}
theorem Rel.takeR {v:V} {r:RV} {B:List Addr} {o:OV} {ρ':FSt} (R:Rel K F Z H σ ρ A) (h:RV1 K F H σ v r B) (f:Fresh F Z A B) (e:L2.takeR r ρ=some (o,ρ')) :
    ∃ C A',Rel K F Z H σ ρ' A'∧Ow K F H v o C∧Fresh F Z A' C∧(∀ a ∈ A',a ∈ A)∧∀ a ∈ C,a ∈ A∨a ∈ B:=by
  cases r with
  | ov o' =>
    simp only [L2.takeR,Option.some.injEq,Prod.mk.injEq] at e
    obtain ⟨rfl,rfl⟩:=e
    exact ⟨B,A,R,h,f,fun _ z=>z,fun _ z=>.inr z⟩
  | br i =>
    simp only [L2.takeR] at e
    split at e
    · rename_i o' ho
      simp only [Option.some.injEq,Prod.mk.injEq] at e
      obtain ⟨rfl,rfl⟩:=e
      obtain ⟨v',B',A',h1,h2,R',f',pm⟩:=R.takeI ho
      have hv:v'=v:=Option.some.inj (Option.some.inj (h1.symm.trans h.1))
      subst hv
      exact ⟨B',A',R',h2,f',fun a ha=>pm.mem_iff.mpr (List.mem_append.mpr (.inr ha)),fun a ha=>.inl (pm.mem_iff.mpr (List.mem_append.mpr (.inl ha)))⟩
    · cases e
theorem Rel.takeL:∀ {rs:List RV} {vs:List V} {B:List Addr} {os:List OV} {ρ ρ':FSt} {A:List Addr},Rel K F Z H σ ρ A→RVL K F H σ vs rs B→Fresh F Z A B→L2.takeL rs ρ=some (os,ρ') →
    ∃ C A',Rel K F Z H σ ρ' A'∧Ows K F H vs os C∧Fresh F Z A' C∧(∀ a ∈ A',a ∈ A)∧∀ a ∈ C,a ∈ A∨a ∈ B:=by
  intro rs
  induction rs with
  | nil =>
    intro vs B os ρ ρ' A R h f e
    simp only [L2.takeL,Option.some.injEq,Prod.mk.injEq] at e
    obtain ⟨rfl,rfl⟩:=e
    cases h
    exact ⟨[],A,R,.nil,f,fun _ z=>z,fun _ z=>nomatch z⟩
  | cons r rs ih =>
    intro vs B os ρ ρ' A R h f e
    cases h with
    | @cons v _ vs _ B1 B2 h t =>
      simp only [L2.takeL] at e
      split at e
      · rename_i o ρ1 e1
        split at e
        · rename_i os' ρ2 e2
          simp only [Option.some.injEq,Prod.mk.injEq] at e
          obtain ⟨rfl,rfl⟩:=e
          obtain ⟨n1,n2,n3⟩:=perm_nodup (List.Perm.refl (B1++B2)) f.nd
          obtain ⟨C1,A1,R1,o1,f1,m1,c1⟩:=R.takeR h ⟨n1,fun b hb=>f.fr b (List.mem_append.mpr (.inl hb))⟩ e1
          obtain ⟨C2,A2,R2,o2,f2,m2,c2⟩:=ih R1 t ⟨n2,fun b hb=>by
            have fb:=f.fr b (List.mem_append.mpr (.inr hb))
            exact ⟨fb.1,fb.2.1,fun z=>fb.2.2 (m1 b z)⟩⟩ e2
          refine ⟨C1++C2,A2,R2,.cons o1 o2,⟨List.nodup_append.mpr ⟨f1.nd,f2.nd,fun a ha b hb z=>?_⟩,fun b hb=>?_⟩,fun a ha=>m1 a (m2 a ha),fun a ha=>?_⟩
          · subst z
            rcases c2 a hb with z | z
            · exact (f1.fr a ha).2.2 z
            · rcases c1 a ha with y | y
              · exact (f.fr a (List.mem_append.mpr (.inr z))).2.2 y
              · exact n3 a y z
          · rcases List.mem_append.mp hb with z | z
            · exact ⟨(f1.fr b z).1,(f1.fr b z).2.1,fun y=>(f1.fr b z).2.2 (m2 b y)⟩
            · exact f2.fr b z
          · rcases List.mem_append.mp ha with z | z
            · rcases c1 a z with y | y
              · exact .inl y
              · exact .inr (List.mem_append.mpr (.inl y))
            · rcases c2 a z with y | y
              · exact .inl (m1 a y)
              · exact .inr (List.mem_append.mpr (.inr y))
        · cases e
      · cases e
theorem Rel.assign {i:Nat} {v:V} {o:OV} {B:List Addr} (R:Rel K F Z H σ ρ A) (h:Ow K F H v o B) (f:Fresh F Z A B):∃ A',Rel K F Z H (σ.set i (some v)) (ρ.set i (some o)) A'∧∀ a ∈ A',a ∈ A∨a ∈ B:=by
  obtain ⟨A1,C,pm,s1⟩:=R.sl.drop i (some v)
  obtain ⟨n1,n2,n3⟩:=perm_nodup pm R.nd
  have mA:∀ a ∈ A1,a ∈ A:=fun a ha=>pm.mem_iff.mpr (List.mem_append.mpr (.inr ha))
  have R1:Rel K F Z H (σ.set i (some v)) (ρ.set i none) A1:=⟨s1,n2,fun a ha=>R.fr a (mA a ha),R.fh,R.zh,R.dj⟩
  by_cases hi:i < ρ.length
  · have hl:=R.sl.len
    obtain ⟨A2,R2,p2⟩:=R1.putI (i:=i) (v:=v) (o:=o) (B:=B) (by simp [hi]) (by simp [hl,hi]) h ⟨f.nd,fun b hb=>⟨(f.fr b hb).1,(f.fr b hb).2.1,fun z=>(f.fr b hb).2.2 (mA b z)⟩⟩
    rw [List.set_set] at R2
    refine ⟨A2,R2,fun a ha=>?_⟩
    rcases List.mem_append.mp (p2.mem_iff.mp ha) with z | z
    · exact .inr z
    · exact .inl (mA a z)
  · have hl:=R.sl.len
    rw [List.set_eq_of_length_le (by (first|lia|omega))] at R1 ⊢
    rw [List.set_eq_of_length_le (by (first|lia|omega))] at R1 ⊢
    exact ⟨A1,R1,fun a ha=>.inl (mA a ha)⟩
theorem set_id {σ:St} {i:Nat} {v:V} (h:σ[i]?=some (some v)):σ.set i (some v)=σ:=by
  apply List.ext_getElem?
  intro j
  by_cases hj:i=j
  · subst hj
    have:=(List.getElem?_eq_some_iff.mp h).1
    rw [h,List.getElem?_set_self this]
  · rw [List.getElem?_set_ne hj]
theorem Rel.putL:∀ {rs:List RV} {vs:List V} {os:List OV} {B C:List Addr} {ρ:FSt} {A:List Addr},Rel K F Z H σ ρ A→RVL K F' H' σ vs rs B→Ows K F H vs os C→Fresh F Z A C →
    ∃ A',Rel K F Z H σ (L2.putL rs os ρ) A'∧∀ a ∈ A',a ∈ A∨a ∈ C:=by
  intro rs
  induction rs with
  | nil =>
    intro vs os B C ρ A R h hO f
    exact ⟨A,R,fun _ z=>.inl z⟩
  | cons r rs ih =>
    intro vs os B C ρ A R h hO f
    cases h with
    | @cons v _ vs _ B1 B2 h t =>
      cases hO with
      | @cons _ o _ os C1 C2 h1 t1 =>
        obtain ⟨n1,n2,n3⟩:=perm_nodup (List.Perm.refl (C1++C2)) f.nd
        have f1:Fresh F Z A C1:=⟨n1,fun b hb=>f.fr b (List.mem_append.mpr (.inl hb))⟩
        have f2:Fresh F Z A C2:=⟨n2,fun b hb=>f.fr b (List.mem_append.mpr (.inr hb))⟩
        cases r with
        | ov o' =>
          obtain ⟨A',R',m⟩:=ih R t t1 f2
          refine ⟨A',R',fun a ha=>(m a ha).elim .inl fun z=>.inr (List.mem_append.mpr (.inr z))⟩
        | br i =>
          obtain ⟨A1,R1,m1⟩:=R.assign (i:=i) h1 f1
          rw [set_id h.1] at R1
          obtain ⟨A',R',m⟩:=ih R1 t t1 ⟨n2,fun b hb=>⟨(f2.fr b hb).1,(f2.fr b hb).2.1,fun z=>(m1 b z).elim (f2.fr b hb).2.2 fun y=>n3 b y hb⟩⟩
          refine ⟨A',R',fun a ha=>?_⟩
          rcases m a ha with z | z
          · exact (m1 a z).elim .inl fun y=>.inr (List.mem_append.mpr (.inl y))
          · exact .inr (List.mem_append.mpr (.inr z))
theorem ef_call {c:Ct} {t:TA} {fa:FA} {E:XK} (ha:AF K μ t fa):EF K μ (tCall (spM K c) [] E t) (fCall c fa):=⟨by
  intro F Z H τ σ ρ A Q P vw R h q
  refine ha.h vw R h fun rs ρ1 vs F1 H1 A1 B1 h1 s1 R1 v1 f1=>?_
  rw [List.append_nil]
  split at h1
  · rename_i os ρ2 e
    obtain ⟨C,A2,R2,o2,f2,m2,c2⟩:=R1.takeL v1 f1 e
    -- what is not handed over is held
    obtain ⟨Z',hin,hout⟩:=mix A2 H1 Z
    have hz:∀ a,a ∈ A2→Z a=none:=fun a ha=>(R2.fr a ha).2
    have sz:Same Z Z':=fun a o z=>by rw [hout a fun y=>by rw [hz a y] at z; cases z]; exact z
    refine ⟨F1,Z',os,C,_,R2.fh,fun a o z=>?_,fun a o z=>?_,o2,f2.nd,fun a ha=>⟨(f2.fr a ha).1,by rw [hout a (f2.fr a ha).2.2]; exact (f2.fr a ha).2.1⟩,h1,fun o os' v F3 H3 C3 B p s3 fh zh dj w3 w4 nd fr=>?_⟩
    · by_cases y:a ∈ A2
      · rw [hin a y] at z; exact z
      · rw [hout a y] at z; exact R2.zh a o z
    · rw [hout a fun y=>by rw [(R2.fr a y).1] at z; cases z]; exact R2.dj a o z
    · have nA:∀ a ∈ A2,∃ u,Z' a=some u:=fun a ha=>by
        obtain ⟨u,hu⟩:=R2.sl.live a ha
        exact ⟨u,by rw [hin a ha]; exact hu⟩
      have R3:Rel K F3 Z H3 σ ρ2 A2:=⟨R2.sl.keep s3 fun a u ha hu=>zh a u (by rw [hin a ha]; exact hu),R2.nd,fun a ha=>⟨(by
        cases z:F3 a with
        | none=>rfl
        | some u =>
          have:=dj a u z
          obtain ⟨w,hw⟩:=nA a ha
          rw [hw] at this
          exact nomatch this),(R2.fr a ha).2⟩,fh,sz.trans zh,fun a o z=>sz.free (dj a o z)⟩
      have nC:∀ a ∈ C3++B,a ∉ A2:=fun a ha y=>by
        obtain ⟨w,hw⟩:=nA a y
        rw [(fr a ha).2] at hw; cases hw
      obtain ⟨n1,n2,n3⟩:=perm_nodup (List.Perm.refl (C3++B)) nd
      have fC:Fresh F3 Z A2 C3:=⟨n1,fun b hb=>by
        have:=fr b (List.mem_append.mpr (.inl hb))
        exact ⟨this.1,sz.free this.2,nC b (List.mem_append.mpr (.inl hb))⟩⟩
      obtain ⟨A4,R4,m4⟩:=R3.putL v1 w3 fC
      refine q _ _ _ _ _ _ _ p (s1.trans s3) R4 w4 ⟨n2,fun b hb=>?_⟩
      have:=fr b (List.mem_append.mpr (.inr hb))
      exact ⟨this.1,sz.free this.2,fun z=>(m4 b z).elim (nC b (List.mem_append.mpr (.inr hb))) fun y=>n3 b y hb⟩
  · exact h1.elim⟩
theorem ef_fz {te:TE} {fe:FE} (he:EF K μ te fe):EF K μ te (fFz fe):=⟨by
  intro F Z H τ σ ρ A Q P vw R h q
  refine he.h vw R h fun r ρ1 v F1 H1 A1 B1 h1 s1 R1 v1 f1=>?_
  split at h1
  · rename_i d ρ2 e
    obtain ⟨F2,A2,s2,R2,dn,_,_⟩:=R1.frz v1 f1 e
    exact q _ _ _ _ _ _ _ h1 (s1.trans s2) R2 (.fz dn) Fresh.nil
  · exact h1.elim⟩
end
theorem nodup_at:∀ {l:List Nat} {j k i:Nat},l.Nodup→l[j]?=some i→l[k]?=some i→j=k
  | [],_,_,_,_,h,_=>by simp at h
  | a::l,0,0,_,_,_,_=>rfl
  | a::l,0,k+1,i,n,h,h'=>by
    simp at h h'
    subst h
    exact absurd (List.mem_of_getElem? h') (List.nodup_cons.mp n).1
  | a::l,j+1,0,i,n,h,h'=>by
    simp at h h'
    subst h'
    exact absurd (List.mem_of_getElem? h) (List.nodup_cons.mp n).1
  | a::l,j+1,k+1,i,n,h,h'=>by
    simp at h h'
    rw [nodup_at (List.nodup_cons.mp n).2 h h']
noncomputable abbrev FG:=D→FSt→(FSt→Prop)→Prop
noncomputable abbrev FGs:=List D→FSt→(FSt→Prop)→Prop
structure GF (K:PySem.W.Frag) (μ:List Nat) (T:List Nat) (g:TG) (f:FG):Prop where
  h:∀ {F Z H:Hp} {τ σ:St} {ρ:FSt} {A:List Addr} {v:V} {d:D} {Q:St→Hp→Prop} {P:FSt→Prop},View μ τ σ→Rel K F Z H σ ρ A→Den K F v d→f d ρ P →
    (∀ τ' σ' ρ' A',P ρ'→View μ τ' σ'→Rel K F Z H σ' ρ' A'→(∀ i,i ∉ T→σ'[i]?=σ[i]?)→σ'.length=σ.length→((∀ j i:Nat,μ[j]?=some i→i=j)→τ=σ→τ'=σ')→(∀ a ∈ A',a ∈ A)→Q τ' H)→g v τ H Q
structure GsF (K:PySem.W.Frag) (μ:List Nat) (T:List Nat) (g:TGs) (f:FGs):Prop where
  h:∀ {F Z H:Hp} {τ σ:St} {ρ:FSt} {A:List Addr} {v:List V} {d:List D} {Q:St→Hp→Prop} {P:FSt→Prop},View μ τ σ→Rel K F Z H σ ρ A→Dens K F v d→f d ρ P →
    (∀ τ' σ' ρ' A',P ρ'→View μ τ' σ'→Rel K F Z H σ' ρ' A'→(∀ i,i ∉ T→σ'[i]?=σ[i]?)→σ'.length=σ.length→((∀ j i:Nat,μ[j]?=some i→i=j)→τ=σ→τ'=σ')→(∀ a ∈ A',a ∈ A)→Q τ' H)→g v τ H Q
noncomputable def fgName (i:Nat):FG:=fun d ρ P=>P (ρ.set i (some (.fz d)))
noncomputable def fgNil:FGs:=fun ds ρ P=>match ds with
  | []=>P ρ
  | _=>False
noncomputable def fgCons (f:FG) (fs:FGs):FGs:=fun ds ρ P=>match ds with
  | d::ds=>f d ρ fun ρ1=>fs ds ρ1 P
  | _=>False
noncomputable def fgTup (n:Nat) (f:FGs):FG:=fun d ρ P=>match d with
  | .tup ds=>ds.length=n∧f ds ρ P
  | _=>False
section
variable {K:PySem.W.Frag} {μ:List Nat}
theorem gf_name {i j:Nat} (hj:μ[j]?=some i) (hn:μ.Nodup):GF K μ [i] (gName j) (fgName i):=⟨by
  intro F Z H τ σ ρ A v d Q P vw R dn h q
  obtain ⟨A',R',m⟩:=R.assign (i:=i) (.fz dn) Fresh.nil
  refine q _ (σ.set i (some v)) _ _ h (fun j' i' h'=>⟨?_,by rw [List.length_set]; exact (vw j' i' h').2.1,by rw [List.length_set]; exact (vw j' i' h').2.2⟩) R' (fun i' hi'=>?_) (List.length_set ..) (fun hid e=>?_) fun a ha=>(m a ha).elim id fun z=>nomatch z
  · by_cases hjj:j=j'
    · subst hjj
      rw [hj] at h'; cases h'
      have:=vw j i hj
      rw [List.getElem?_set_self this.2.1,List.getElem?_set_self this.2.2]
    · have hii:i≠i':=fun z=>by
        subst z
        exact hjj (nodup_at hn hj h')
      rw [List.getElem?_set_ne hjj,List.getElem?_set_ne hii]
      exact (vw j' i' h').1
  · rw [List.getElem?_set_ne fun z=>hi' (by simp [z])]
  · rw [hid j i hj,e]⟩
theorem gsf_nil:GsF K μ [] gNil fgNil:=⟨by
  intro F Z H τ σ ρ A v d Q P vw R dn h q
  cases dn with
  | nil=>exact ⟨rfl,q _ _ _ _ h vw R (fun _ _=>rfl) rfl (fun _ e=>e) fun _ z=>z⟩
  | cons _ _=>exact h.elim⟩
theorem gsf_cons {T T':List Nat} {g:TG} {gs:TGs} {f:FG} {fs:FGs} (h1:GF K μ T g f) (h2:GsF K μ T' gs fs):GsF K μ (T++T') (gCons g gs) (fgCons f fs):=⟨by
  intro F Z H τ σ ρ A v d Q P vw R dn h q
  cases dn with
  | nil=>exact h.elim
  | cons d1 d2 =>
    refine ⟨_,_,rfl,h1.h vw R d1 h fun τ' σ' ρ' A' p vw' R' k kl id' m=>h2.h vw' R' d2 p fun τ2 σ2 ρ2 A2 p2 vw2 R2 k2 kl2 id2 m2=>q _ _ _ _ p2 vw2 R2 (fun i hi=>?_) (kl2.trans kl) (fun a b=>id2 a (id' a b)) fun a ha=>m a (m2 a ha)⟩
    rw [List.mem_append,not_or] at hi
    rw [k2 i hi.2,k i hi.1]⟩
theorem gf_tup {n:Nat} {T:List Nat} {gs:TGs} {fs:FGs} (h2:GsF K μ T gs fs):GF K μ T (gTup K n gs) (fgTup n fs):=⟨by
  intro F Z H τ σ ρ A v d Q P vw R dn h q
  cases dn with
  | tup hs t=>exact ⟨_,_,rfl,hs.same R.fh,t.length.trans h.1,h2.h vw R t h.2 q⟩
  | _=>exact h.elim⟩
end
end L2
set_option maxHeartbeats 4000000
namespace L2
open PySem PySem.Spec PyProof.Rows
structure Walk (K:PySem.W.Frag) (F:Hp) (J:It) (ds:List D):Prop where
  go:∀ H i,Same F H→i < ds.length→J.go i H
  yld:∀ H i x H',Same F H→i < ds.length→J.yld i H x H'→H'=H∧∃ d,ds[i]?=some d∧Den K F x d
  stop:∀ H,Same F H→J.stop ds.length H
noncomputable abbrev FI:=FSt→(List D→FSt→Prop)→Prop
structure ITF (K:PySem.W.Frag) (μ:List Nat) (t:TI) (f:FI):Prop where
  h:∀ {F Z H:Hp} {τ σ:St} {ρ:FSt} {A:List Addr} {Q:It→Hp→Prop} {P:List D→FSt→Prop},View μ τ σ→Rel K F Z H σ ρ A→f ρ P →
    (∀ ds ρ' J F' H' A',P ds ρ'→Same F F'→Rel K F' Z H' σ ρ' A'→Walk K F' J ds→Q J H')→t τ H Q
noncomputable def fiList (fe:FE):FI:=fun ρ Q=>fe ρ fun r ρ1=>match fzR r ρ1 with
  | some (.lst ds,ρ2)=>Q ds ρ2
  | _=>False
noncomputable def fiTup (fe:FE):FI:=fun ρ Q=>fe ρ fun r ρ1=>match fzR r ρ1 with
  | some (.tup ds,ρ2)=>Q ds ρ2
  | _=>False
noncomputable def rangeD (lo:Int) (n:Nat):List D:=(List.range n).map fun (k:Nat)=>.int (lo+(k:Int))
noncomputable def fiRng1 (fa:FA):FI:=fun ρ Q=>fa ρ fun rs ρ1=>onL ρ1 rs fun ds=>match ds with
  | [.int j]=>(-(2 ^ 62)≤j∧j < 2 ^ 62)∧Q (rangeD 0 j.toNat) ρ1
  | _=>False
section
variable {K:PySem.W.Frag} {μ:List Nat} {F:Hp}
theorem walk_list {a:Addr} {xs:List V} {ds:List D} (h:SqL K F a xs) (t:Dens K F xs ds):Walk K F (Itl K a) ds :=
  ⟨fun H i s hi=>by
    obtain ⟨x,h1,h2⟩:=t.get (List.getElem?_eq_getElem hi)
    exact ⟨xs,x,s.seq h,h1⟩,fun H i x H' s hi y=>by
    obtain ⟨rfl,y⟩:=y
    obtain ⟨d,h1,h2⟩:=t.get' (y xs (s.seq h))
    exact ⟨rfl,d,h1,h2⟩,fun H s=>⟨xs,s.seq h,by rw [t.length]; exact Nat.le_refl _⟩⟩
theorem walk_tup {a:Addr} {xs:List V} {ds:List D} (h:SqT K F a xs) (t:Dens K F xs ds):Walk K F (Itt K a) ds :=
  ⟨fun H i s hi=>by
    obtain ⟨x,h1,h2⟩:=t.get (List.getElem?_eq_getElem hi)
    exact ⟨xs,x,h.same s,h1⟩,fun H i x H' s hi y=>by
    obtain ⟨rfl,y⟩:=y
    obtain ⟨d,h1,h2⟩:=t.get' (y xs (h.same s))
    exact ⟨rfl,d,h1,h2⟩,fun H s=>⟨xs,h.same s,by rw [t.length]; exact Nat.le_refl _⟩⟩
theorem walk_rng {lo:Int} {n:Nat}:Walk K F (Itr lo n) (rangeD lo n) :=
  ⟨fun H i s hi=>by (have hi:i < n:=by simpa [rangeD] using hi); exact hi,fun H i x H' s hi y=>by
    obtain ⟨rfl,rfl⟩:=y
    have hi:i < n:=by simpa [rangeD] using hi
    exact ⟨rfl,.int (lo+i),by simp [rangeD,hi],.int _⟩,fun H s=>by
    show n≤(rangeD lo n).length
    simp [rangeD]⟩
theorem itf_list {te:TE} {fe:FE} (he:EF K μ te fe):ITF K μ (iList K te) (fiList fe):=⟨by
  intro F Z H τ σ ρ A Q P vw R h q
  refine he.h vw R h fun r ρ1 v F1 H1 A1 B1 h1 s1 R1 v1 f1=>?_
  generalize e:fzR r ρ1=o at h1
  obtain _ | ⟨d,ρ2⟩:=o
  · exact False.elim h1
  cases d
  case lst ds =>
    obtain ⟨F2,A2,s2,R2,dn,_,_⟩:=R1.frz v1 f1 e
    cases dn with
    | lst hs t=>exact ⟨_,rfl,⟨_,R2.fh.seq hs⟩,q _ _ _ _ _ _ h1 (s1.trans s2) R2 (walk_list hs t)⟩
  all_goals exact False.elim h1⟩
theorem itf_tup {te:TE} {fe:FE} (he:EF K μ te fe):ITF K μ (iTup K te) (fiTup fe):=⟨by
  intro F Z H τ σ ρ A Q P vw R h q
  refine he.h vw R h fun r ρ1 v F1 H1 A1 B1 h1 s1 R1 v1 f1=>?_
  generalize e:fzR r ρ1=o at h1
  obtain _ | ⟨d,ρ2⟩:=o
  · exact False.elim h1
  cases d
  case tup ds =>
    obtain ⟨F2,A2,s2,R2,dn,_,_⟩:=R1.frz v1 f1 e
    cases dn with
    | tup hs t=>exact ⟨_,rfl,⟨_,hs.same R2.fh⟩,q _ _ _ _ _ _ h1 (s1.trans s2) R2 (walk_tup hs t)⟩
  all_goals exact False.elim h1⟩
theorem accs_1 {F H:Hp} {xs:List V} {d:D} (h:Accs K F H xs [d]):∃ x,xs=[x]∧Acc K F H x d:=by
  cases h with | cons a t=>cases t; exact ⟨_,rfl,a⟩
theorem accs_2 {F H:Hp} {xs:List V} {d e:D} (h:Accs K F H xs [d,e]):∃ x y,xs=[x,y]∧Acc K F H x d∧Acc K F H y e:=by
  cases h with | cons a t=>obtain ⟨y,rfl,b⟩:=accs_1 t; exact ⟨_,_,rfl,a,b⟩
theorem itf_rng1 {t:TA} {fa:FA} (ha:AF K μ t fa):ITF K μ (iRng1 t) (fiRng1 fa):=⟨by
  intro F Z H τ σ ρ A Q P vw R h q
  refine ha.h vw R h fun rs ρ1 xs F1 H1 A1 B1 h1 s1 R1 v1 f1=>?_
  obtain ⟨ds,e1,h2⟩:=onL_ok h1
  obtain _ | ⟨d,r⟩:=ds
  · exact False.elim h2
  cases d
  case int j =>
    cases r with
    | cons=>exact False.elim h2
    | nil =>
      obtain ⟨x,rfl,a⟩:=accs_1 (R1.accs v1 e1)
      exact ⟨j,by rw [a.int_eq],h2.1.1,h2.1.2,q _ _ _ _ _ _ h2.2 s1 R1 walk_rng⟩
  all_goals exact False.elim h2⟩
end
structure FEnds where
  nx:FSt→Prop
  rt:OV→FSt→Prop
  bk:FSt→Prop:=fun _=>False
  ct:FSt→Prop:=fun _=>False
noncomputable abbrev FS:=FEnds→FSt→Prop
noncomputable def Pin (n:Nat) (m:List Nat) (σ0 σ:St):Prop:=σ.length=n∧∀ i ∈ m,σ[i]?=σ0[i]?
structure EndsOk (K:PySem.W.Frag) (n:Nat) (m:List Nat) (F Z:Hp) (σ0:St) (D:Ends) (fD:FEnds):Prop where
  nx:∀ F' H' σ' ρ' A',Same F F'→Rel K F' Z H' σ' ρ' A'→Pin n m σ0 σ'→fD.nx ρ'→D.nx σ' H'
  rt:∀ F' H' σ' ρ' A' v o B,Same F F'→Rel K F' Z H' σ' ρ' A'→Pin n m σ0 σ'→Ow K F' H' v o B→Fresh F' Z A' B→fD.rt o ρ'→D.rt v H'
  bk:∀ F' H' σ' ρ' A',Same F F'→Rel K F' Z H' σ' ρ' A'→Pin n m σ0 σ'→fD.bk ρ'→D.bk σ' H'
  ct:∀ F' H' σ' ρ' A',Same F F'→Rel K F' Z H' σ' ρ' A'→Pin n m σ0 σ'→fD.ct ρ'→D.ct σ' H'
theorem EndsOk.mono {K:PySem.W.Frag} {n:Nat} {m:List Nat} {F F1 Z:Hp} {σ0:St} {D:Ends} {fD:FEnds} (E:EndsOk K n m F Z σ0 D fD) (e:Same F F1):EndsOk K n m F1 Z σ0 D fD :=
  ⟨fun F' H' σ' ρ' A' s=>E.nx F' H' σ' ρ' A' (e.trans s),fun F' H' σ' ρ' A' v o B s=>E.rt F' H' σ' ρ' A' v o B (e.trans s),fun F' H' σ' ρ' A' s=>E.bk F' H' σ' ρ' A' (e.trans s),fun F' H' σ' ρ' A' s=>E.ct F' H' σ' ρ' A' (e.trans s)⟩
structure SF (K:PySem.W.Frag) (n:Nat) (m:List Nat) (t:TS) (f:FS):Prop where
  h:∀ {F Z H:Hp} {σ0 σ:St} {ρ:FSt} {A:List Addr} {D:Ends} {fD:FEnds},Rel K F Z H σ ρ A→Pin n m σ0 σ→EndsOk K n m F Z σ0 D fD→f fD ρ→t D σ H
noncomputable def fNext:FS:=fun D ρ=>D.nx ρ
noncomputable def fBreak:FS:=fun D ρ=>D.bk ρ
noncomputable def force:FSt→(FSt→Prop)→Prop
  | [],k=>k []
  | a::l,k=>force l fun l'=>k (a::l')
theorem force_is:∀ (ρ:FSt) (k:FSt→Prop),force ρ k↔k ρ
  | [],k=>Iff.rfl
  | a::l,k=>by rw [force,force_is l]
noncomputable def fSeq (f g:FS):FS:=fun D ρ=>f { D with nx:=fun ρ'=>force ρ' (g D) } ρ
@[irreducible] noncomputable def fIf (c:FT) (f g:FS) (E:FEnds) (ρ:FSt):Prop:=c ρ fun b ρ1=>br b (f E ρ1) (g E ρ1)
theorem if_go {c:FT} {f g:FS} {E:FEnds} {ρ:FSt} (h:c ρ fun b ρ1=>br b (f E ρ1) (g E ρ1)):fIf c f g E ρ:=by unfold fIf; exact h
theorem if_guard {c:FT} {f:FS} {E:FEnds} {ρ:FSt} (p:Prop) (rest:p→E.nx ρ) (h:(p→E.nx ρ)→c ρ fun b ρ1=>br b (f E ρ1) (E.nx ρ1)):fIf c f fNext E ρ:=if_go (h rest)
noncomputable def fRet (fe:FE):FS:=fun D ρ=>fe ρ fun r ρ1=>match takeR r ρ1 with
  | some (o,ρ2)=>D.rt o ρ2
  | none=>False
noncomputable def fDrop (fe:FE):FS:=fun D ρ=>fe ρ fun _ ρ1=>D.nx ρ1
noncomputable def fAsg (fe:FE) (fg:FG):FS:=fun D ρ=>fe ρ fun r ρ1=>match fzR r ρ1 with
  | some (d,ρ2)=>fg d ρ2 D.nx
  | none=>False
noncomputable def fSetO (i:Nat) (fe:FE):FS:=fun D ρ=>fe ρ fun r ρ1=>match r with
  | .ov o=>D.nx (ρ1.set i (some o))
  | .br _=>False
noncomputable def floopR (fg:FG) (fb:FS) (E:FEnds):List D→FSt→Prop
  | [],ρ=>E.nx ρ
  | d::ds,ρ=>fg d ρ fun ρ1=>fb { nx:=floopR fg fb E ds,ct:=floopR fg fb E ds,bk:=E.nx,rt:=E.rt } ρ1
@[irreducible] noncomputable def floop (fg:FG) (fb:FS) (E:FEnds) (ds:List D) (ρ:FSt):Prop:=floopR fg fb E ds ρ
theorem floop_is (fg:FG) (fb:FS) (E:FEnds) (ds:List D):floop fg fb E ds=floopR fg fb E ds:=by funext ρ; unfold floop; rfl
theorem floop_eq1 (fg:FG) (fb:FS) (E:FEnds) (ρ:FSt):floop fg fb E [] ρ=E.nx ρ:=by rw [floop_is]; rfl
theorem floop_eq2 (fg:FG) (fb:FS) (E:FEnds) (d:D) (ds:List D) (ρ:FSt):floop fg fb E (d::ds) ρ=fg d ρ fun ρ1=>fb { nx:=floop fg fb E ds,ct:=floop fg fb E ds,bk:=E.nx,rt:=E.rt } ρ1:=by rw [floop_is,floop_is]; rfl
noncomputable def fFor (fi:FI) (fg:FG) (fb:FS):FS:=fun D ρ=>fi ρ fun ds ρ1=>force ρ1 (floop fg fb D ds)
noncomputable def fwhileR (fc:FT) (fb:FS) (E:FEnds):Nat→FSt→Prop
  | 0,_=>False
  | n+1,ρ=>fc ρ fun b ρ1=>br b (fb { nx:=fwhileR fc fb E n,ct:=fwhileR fc fb E n,bk:=E.nx,rt:=E.rt } ρ1) (E.nx ρ1)
@[irreducible] noncomputable def fwhile (fc:FT) (fb:FS) (E:FEnds) (n:Nat) (ρ:FSt):Prop:=fwhileR fc fb E n ρ
theorem fwhile_is (fc:FT) (fb:FS) (E:FEnds) (n:Nat):fwhile fc fb E n=fwhileR fc fb E n:=by funext ρ; unfold fwhile; rfl
theorem fwhile_eq1 (fc:FT) (fb:FS) (E:FEnds) (ρ:FSt):fwhile fc fb E 0 ρ=False:=by rw [fwhile_is]; rfl
theorem fwhile_eq2 (fc:FT) (fb:FS) (E:FEnds) (n:Nat) (ρ:FSt):fwhile fc fb E (n+1) ρ=fc ρ fun b ρ1=>br b (fb { nx:=fwhile fc fb E n,ct:=fwhile fc fb E n,bk:=E.nx,rt:=E.rt } ρ1) (E.nx ρ1):=by rw [fwhile_is,fwhile_is]; rfl
theorem floop_nil {fg:FG} {fb:FS} {E:FEnds} {ρ:FSt} (h:E.nx ρ):floop fg fb E [] ρ:=by rw [floop_eq1]; exact h
theorem floop_cons {fg:FG} {fb:FS} {E:FEnds} {d:D} {ds:List D} {ρ:FSt} (h:fg d ρ fun ρ1=>fb { nx:=floop fg fb E ds,ct:=floop fg fb E ds,bk:=E.nx,rt:=E.rt } ρ1):floop fg fb E (d::ds) ρ:=by rw [floop_eq2]; exact h
theorem fwhile_succ {fc:FT} {fb:FS} {E:FEnds} {n:Nat} {ρ:FSt} (h:fc ρ fun b ρ1=>br b (fb { nx:=fwhile fc fb E n,ct:=fwhile fc fb E n,bk:=E.nx,rt:=E.rt } ρ1) (E.nx ρ1)):fwhile fc fb E (n+1) ρ:=by rw [fwhile_eq2]; exact h
noncomputable def fWhile (fc:FT) (fb:FS):FS:=fun D ρ=>∃ n,fwhile fc fb D n ρ
section
variable {K:PySem.W.Frag} {n:Nat} {m:List Nat}
theorem Pin.refl {σ:St} (h:σ.length=n):Pin n m σ σ:=⟨h,fun _ _=>rfl⟩
theorem Pin.set {σ0 σ:St} {i:Nat} {x:Option V} (p:Pin n m σ0 σ) (hi:i ∉ m):Pin n m σ0 (σ.set i x):=⟨by rw [List.length_set]; exact p.1,fun j hj=>by
  rw [List.getElem?_set_ne fun z=>hi (by rw [z]; exact hj)]; exact p.2 j hj⟩
theorem sf_next:SF K n m tNext fNext:=⟨fun {F Z H σ0 σ ρ A D fD} R p E h=>E.nx _ _ _ _ _ (Same.refl _) R p h⟩
theorem sf_break:SF K n m tBreak fBreak:=⟨fun {F Z H σ0 σ ρ A D fD} R p E h=>E.bk _ _ _ _ _ (Same.refl _) R p h⟩
theorem sf_seq {t u:TS} {f g:FS} (h1:SF K n m t f) (h2:SF K n m u g):SF K n m (tSeq t u) (fSeq f g):=⟨fun {F Z H σ0 σ ρ A D fD} R p E h =>
  h1.h (fD:={ fD with nx:=fun ρ'=>force ρ' (g fD) }) R p ⟨fun F' H' σ' ρ' A' s R' p' q=>h2.h R' p' (E.mono s) ((force_is ρ' (g fD)).mp q),E.rt,E.bk,E.ct⟩ h⟩
theorem sf_if {c:TT} {t u:TS} {fc:FT} {f g:FS} (hc:TF K (List.range n) c fc) (h1:SF K n m t f) (h2:SF K n m u g):SF K n m (tIfS c t u) (fIf fc f g):=⟨fun {F Z H σ0 σ ρ A D fD} R p E h =>
  hc.h (P:=fun b ρ1=>br b (f fD ρ1) (g fD ρ1)) (View.id p.1) R (by unfold fIf at h; exact h) fun b ρ1 F1 H1 A1 q s R1=>by
    cases b with
    | true=>exact h1.h R1 p (E.mono s) (of_T q)
    | false=>exact h2.h R1 p (E.mono s) (of_F q)⟩
theorem sf_ret {te:TE} {fe:FE} (he:EF K (List.range n) te fe):SF K n m (tRet te) (fRet fe):=⟨by
  intro F Z H σ0 σ ρ A D fD R p E h
  refine he.h (View.id p.1) R h fun r ρ1 v F1 H1 A1 B1 h1 s1 R1 v1 f1=>?_
  split at h1
  · rename_i o ρ2 e
    obtain ⟨C,A2,R2,o2,f2,_,_⟩:=R1.takeR v1 f1 e
    exact E.rt _ _ _ _ _ _ _ _ s1 R2 p o2 f2 h1
  · exact h1.elim⟩
theorem sf_drop {te:TE} {fe:FE} (he:EF K (List.range n) te fe):SF K n m (tDrop te) (fDrop fe):=⟨fun {F Z H σ0 σ ρ A D fD} R p E h =>
  he.h (View.id p.1) R h fun r ρ1 v F1 H1 A1 B1 h1 s1 R1 v1 f1=>E.nx _ _ _ _ _ s1 R1 p h1⟩
theorem range_id (n:Nat):∀ j i:Nat,(List.range n)[j]?=some i→i=j:=fun j i h=>by
  obtain ⟨h1,h2⟩:=List.getElem?_eq_some_iff.mp h
  rw [List.getElem_range] at h2; exact h2.symm
theorem sf_asg {te:TE} {fe:FE} {g:TG} {fg:FG} {T:List Nat} (he:EF K (List.range n) te fe) (hg:GF K (List.range n) T g fg) (hT:∀ i ∈ m,i ∉ T):SF K n m (tAsg te g) (fAsg fe fg):=⟨by
  intro F Z H σ0 σ ρ A D fD R p E h
  refine he.h (View.id p.1) R h fun r ρ1 v F1 H1 A1 B1 h1 s1 R1 v1 f1=>?_
  split at h1
  · rename_i d ρ2 e
    obtain ⟨F2,A2,s2,R2,dn,_,_⟩:=R1.frz v1 f1 e
    refine hg.h (View.id p.1) R2 dn h1 fun τ' σ' ρ' A' q _ R' k kl id' _=>?_
    rw [id' (range_id n) rfl]
    exact E.nx _ _ _ _ _ (s1.trans s2) R' ⟨kl.trans p.1,fun i hi=>by rw [k i (hT i hi)]; exact p.2 i hi⟩ q
  · exact h1.elim⟩
theorem sf_setO {i:Nat} {te:TE} {fe:FE} (he:EF K (List.range n) te fe) (hi:i ∉ m):SF K n m (tAsg te (gName i)) (fSetO i fe):=⟨by
  intro F Z H σ0 σ ρ A D fD R p E h
  refine he.h (View.id p.1) R h fun r ρ1 v F1 H1 A1 B1 h1 s1 R1 v1 f1=>?_
  cases r with
  | ov o =>
    obtain ⟨A2,R2,_⟩:=R1.assign (i:=i) v1 f1
    exact E.nx _ _ _ _ _ s1 R2 (p.set hi) h1
  | br j=>exact h1.elim⟩
theorem sf_for {wi:TI} {fi:FI} {g:TG} {fg:FG} {T:List Nat} {tb:TS} {fb:FS} (hi:ITF K (List.range n) wi fi) (hg:GF K (List.range n) T g fg) (hT:∀ i ∈ m,i ∉ T) (hb:SF K n m tb fb):SF K n m (tFor wi g tb) (fFor fi fg fb):=⟨by
  intro F Z H σ0 σ ρ A D fD R p E h
  refine hi.h (View.id p.1) R h fun ds ρ1 J F1 H1 A1 h1 s1 R1 wk=>?_
  rw [force_is] at h1
  refine ⟨fun i k σ' H'=>k=ds.length - i∧i≤ds.length∧∃ F' ρ' A',Same F1 F'∧Rel K F' Z H' σ' ρ' A'∧Pin n m σ0 σ'∧floop fg fb fD (ds.drop i) ρ',⟨_,rfl,Nat.zero_le _,F1,ρ1,A1,Same.refl _,R1,p,by rw [List.drop_zero]; exact h1⟩,?_⟩
  rintro i k σ' H' ⟨rfl,hle,F',ρ',A',s',R',p',h'⟩
  by_cases hlt:i < ds.length
  · rw [List.drop_eq_getElem_cons hlt,floop_eq2] at h'
    refine .inr ⟨wk.go H' i (s'.trans R'.fh) hlt,fun σ2 H2=>∃ F2 ρ2 A2,Same F1 F2∧Rel K F2 Z H2 σ2 ρ2 A2∧Pin n m σ0 σ2∧floop fg fb fD (ds.drop (i+1)) ρ2,fun σ2 H2 q=>⟨_,by (first|lia|omega),rfl,hlt,q⟩,fun x H2 y=>?_⟩
    obtain ⟨rfl,d,hd,dn⟩:=wk.yld H' i x H2 (s'.trans R'.fh) hlt y
    rw [List.getElem?_eq_getElem hlt] at hd
    cases hd
    refine hg.h (View.id p'.1) R' (dn.mono s') h' fun τ' σ2 ρ2 A2 q _ R2 k kl id' _=>?_
    rw [id' (range_id n) rfl]
    have nxt:∀ F3 H3 σ3 ρ3 A3,Same F' F3→Rel K F3 Z H3 σ3 ρ3 A3→Pin n m σ0 σ3→floop fg fb fD (ds.drop (i+1)) ρ3→∃ F2 ρ2 A2,Same F1 F2∧Rel K F2 Z H3 σ3 ρ2 A2∧Pin n m σ0 σ3∧floop fg fb fD (ds.drop (i+1)) ρ2 :=
      fun F3 H3 σ3 ρ3 A3 s3 R3 p3 q3=>⟨F3,ρ3,A3,s'.trans s3,R3,p3,q3⟩
    refine hb.h (fD:={ nx:=floop fg fb fD (ds.drop (i+1)),ct:=floop fg fb fD (ds.drop (i+1)),bk:=fD.nx,rt:=fD.rt }) R2 ⟨kl.trans p'.1,fun i hi=>by rw [k i (hT i hi)]; exact p'.2 i hi⟩ ⟨nxt,fun F3 H3 σ3 ρ3 A3 v o B s3=>E.rt F3 H3 σ3 ρ3 A3 v o B (s1.trans (s'.trans s3)),fun F3 H3 σ3 ρ3 A3 s3=>E.nx F3 H3 σ3 ρ3 A3 (s1.trans (s'.trans s3)),nxt⟩ q
  · have e:i=ds.length:=by (first|lia|omega)
    subst e
    rw [List.drop_length,floop_eq1] at h'
    exact .inl ⟨wk.stop H' (s'.trans R'.fh),E.nx _ _ _ _ _ (s1.trans s') R' p' h'⟩⟩
theorem sf_while {c:TT} {fc:FT} {tb:TS} {fb:FS} (hc:TF K (List.range n) c fc) (hb:SF K n m tb fb):SF K n m (tWhile c tb) (fWhile fc fb):=⟨by
  intro F Z H σ0 σ ρ A D fD R p E h
  obtain ⟨N,h⟩:=h
  refine ⟨fun k σ' H'=>∃ F' ρ' A',Same F F'∧Rel K F' Z H' σ' ρ' A'∧Pin n m σ0 σ'∧fwhile fc fb fD k ρ',⟨N,F,ρ,A,Same.refl _,R,p,h⟩,?_⟩
  rintro k σ' H' ⟨F',ρ',A',s',R',p',h'⟩
  cases k with
  | zero=>rw [fwhile_eq1] at h'; exact h'.elim
  | succ k =>
    rw [fwhile_eq2] at h'
    refine hc.h (View.id p'.1) R' h' fun b ρ1 F1 H1 A1 q s1 R1=>?_
    cases b with
    | false=>exact E.nx _ _ _ _ _ (s'.trans s1) R1 p' (of_F q)
    | true =>
      replace q:=of_T q
      rw [if_pos rfl]
      have nxt:∀ F3 H3 σ3 ρ3 A3,Same F1 F3→Rel K F3 Z H3 σ3 ρ3 A3→Pin n m σ0 σ3→fwhile fc fb fD k ρ3→∃ F2 ρ2 A2,Same F F2∧Rel K F2 Z H3 σ3 ρ2 A2∧Pin n m σ0 σ3∧fwhile fc fb fD k ρ2 :=
        fun F3 H3 σ3 ρ3 A3 s3 R3 p3 q3=>⟨F3,ρ3,A3,(s'.trans s1).trans s3,R3,p3,q3⟩
      exact ⟨fun σ2 H2=>∃ F2 ρ2 A2,Same F F2∧Rel K F2 Z H2 σ2 ρ2 A2∧Pin n m σ0 σ2∧fwhile fc fb fD k ρ2,fun σ2 H2 q=>⟨k,Nat.lt_succ_self k,q⟩,
        hb.h (fD:={ nx:=fwhile fc fb fD k,ct:=fwhile fc fb fD k,bk:=fD.nx,rt:=fD.rt }) R1 p' ⟨nxt,fun F3 H3 σ3 ρ3 A3 v o B s3=>E.rt F3 H3 σ3 ρ3 A3 v o B ((s'.trans s1).trans s3),fun F3 H3 σ3 ρ3 A3 s3=>E.nx F3 H3 σ3 ρ3 A3 ((s'.trans s1).trans s3),nxt⟩ q⟩⟩
end
end L2
set_option maxHeartbeats 4000000
namespace L2
open PySem PySem.Spec PyProof.Rows
noncomputable def fcompR (fg:FG) (ft:FT) (fe:FE) (P:List D→FSt→Prop):List D→List D→FSt→Prop
  | [],as,ρ=>P as ρ
  | d::ds,as,ρ=>fg d ρ fun ρ1=>ft ρ1 fun b ρ2=>br b (fe ρ2 fun r ρ3=>match fzR r ρ3 with
    | some (y,ρ4)=>as.length < sizeLine∧fcompR fg ft fe P ds (as++[y]) ρ4
    | none=>False) (fcompR fg ft fe P ds as ρ2)
@[irreducible] noncomputable def fcomp (fg:FG) (ft:FT) (fe:FE) (P:List D→FSt→Prop) (ds as:List D) (ρ:FSt):Prop:=fcompR fg ft fe P ds as ρ
theorem fcomp_is (fg:FG) (ft:FT) (fe:FE) (P:List D→FSt→Prop) (ds:List D):fcomp fg ft fe P ds=fcompR fg ft fe P ds:=by funext as ρ; unfold fcomp; rfl
theorem fcomp_eq1 (fg:FG) (ft:FT) (fe:FE) (P:List D→FSt→Prop) (as:List D) (ρ:FSt):fcomp fg ft fe P [] as ρ=P as ρ:=by rw [fcomp_is]; rfl
theorem fcomp_eq2 (fg:FG) (ft:FT) (fe:FE) (P:List D→FSt→Prop) (d:D) (ds as:List D) (ρ:FSt):fcomp fg ft fe P (d::ds) as ρ=(fg d ρ fun ρ1=>ft ρ1 fun b ρ2=>br b (fe ρ2 fun r ρ3=>match fzR r ρ3 with
    | some (y,ρ4)=>as.length < sizeLine∧fcomp fg ft fe P ds (as++[y]) ρ4
    | none=>False) (fcomp fg ft fe P ds as ρ2)):=by rw [fcomp_is,fcomp_is]; rfl
theorem fcomp_nil {fg:FG} {ft:FT} {fe:FE} {P:List D→FSt→Prop} {as:List D} {ρ:FSt} (h:P as ρ):fcomp fg ft fe P [] as ρ:=by rw [fcomp_eq1]; exact h
theorem fcomp_cons {fg:FG} {ft:FT} {fe:FE} {P:List D→FSt→Prop} {d:D} {ds as:List D} {ρ:FSt} (h:fg d ρ fun ρ1=>ft ρ1 fun b ρ2=>br b (fe ρ2 fun r ρ3=>match fzR r ρ3 with
    | some (y,ρ4)=>as.length < sizeLine∧fcomp fg ft fe P ds (as++[y]) ρ4
    | none=>False) (fcomp fg ft fe P ds as ρ2)):fcomp fg ft fe P (d::ds) as ρ:=by rw [fcomp_eq2]; exact h
noncomputable def fComp (no:Nat) (fi:FI) (fg:FG) (ft:FT) (fe:FE):FE:=fun ρ Q=>fi ρ fun ds ρ1=>force (List.replicate no none++ρ1) (fcomp fg ft fe (fun as ρ'=>Q (.ov (.fl as)) (ρ'.drop no)) ds [])
noncomputable def muC (no:Nat) (ixs μ:List Nat):List Nat:=List.range no++ixs.map fun j=>no+μ.getD j 0
section
variable {K:PySem.W.Frag} {μ:List Nat} {F Z H:Hp} {σ:St} {ρ:FSt} {A:List Addr}
theorem Slots.none_app {K:PySem.W.Frag} {F H:Hp} {σ:St} {ρ:FSt} {A:List Addr} (h:Slots K F H σ ρ A):∀ n,Slots K F H (List.replicate n none++σ) (List.replicate n none++ρ) A
  | 0=>h
  | n+1=>.skip (Slots.none_app h n)
theorem Slots.dropN {K:PySem.W.Frag} {F H:Hp} {σ:St} {ρ:FSt} {A:List Addr} (n:Nat) (h:Slots K F H σ ρ A):∃ A' B,A=B++A'∧Slots K F H (σ.drop n) (ρ.drop n) A':=by
  induction h generalizing n with
  | nil=>cases n <;> exact ⟨[],[],rfl,.nil⟩
  | skip t ih =>
    cases n with
    | zero=>exact ⟨_,[],rfl,.skip t⟩
    | succ n=>exact ih n
  | @has _ _ _ _ C _ h t ih =>
    cases n with
    | zero=>exact ⟨_,[],rfl,.has h t⟩
    | succ n =>
      obtain ⟨A',B,rfl,h2⟩:=ih n
      exact ⟨A',C++B,by rw [List.append_assoc],h2⟩
theorem Rel.write {a:Addr} {o:HO} (R:Rel K F Z H σ ρ A) (hA:a ∉ A) (hF:F a=none) (hZ:Z a=none):Rel K F Z (upd H a o) σ ρ A:=by
  have e:∀ b u,b≠a→H b=some u→upd H a o b=some u:=fun b u h q=>by rw [upd_ne h]; exact q
  exact ⟨R.sl.keep (Same.refl _) fun b u hb q=>e b u (fun z=>hA (z ▸ hb)) q,R.nd,R.fr,fun b u q=>e b u (fun z=>by rw [z,hF] at q; cases q) (R.fh b u q),fun b u q=>e b u (fun z=>by rw [z,hZ] at q; cases q) (R.zh b u q),R.dj⟩
theorem view_comp {no:Nat} {ixs:List Nat} {τ:St} (vw:View μ τ σ) (hix:∀ j ∈ ixs,j < μ.length):View (muC no ixs μ) (List.replicate no none++capOf τ ixs) (List.replicate no none++σ):=by
  intro j i h
  unfold muC at h
  by_cases hj:j < no
  · rw [List.getElem?_append_left (by first|exact hj|exact List.mem_singleton.mp hj|simpa using hj)] at h
    have:=range_id no j i h
    subst this
    rw [List.getElem?_append_left (by first|exact hj|exact List.mem_singleton.mp hj|simpa using hj),List.getElem?_append_left (by first|exact hj|exact List.mem_singleton.mp hj|simpa using hj)]
    refine ⟨rfl,?_,?_⟩ <;> simp <;> (first|lia|omega)
  · rw [List.getElem?_append_right (by first|exact hj|exact List.mem_singleton.mp hj|simpa using hj)] at h
    rw [List.length_range,List.getElem?_map,Option.map_eq_some_iff] at h
    obtain ⟨j0,h1,h2⟩:=h
    have hj0:=hix j0 (List.mem_of_getElem? h1)
    obtain ⟨v1,v2,v3⟩:=vw j0 (μ.getD j0 0) (by rw [List.getD_eq_getElem?_getD,List.getElem?_eq_getElem hj0]; rfl)
    have hk:j - no < ixs.length:=(List.getElem?_eq_some_iff.mp h1).1
    refine ⟨?_,?_,?_⟩
    · rw [List.getElem?_append_right (by first|exact hj|exact List.mem_singleton.mp hj|simpa using hj),List.length_replicate,← h2,List.getElem?_append_right (by simp),List.length_replicate,Nat.add_sub_cancel_left,← v1]
      unfold capOf
      rw [List.getElem?_map,h1]
      show some ((τ[j0]?).getD none)=τ[j0]?
      rw [List.getElem?_eq_getElem v2]; rfl
    · unfold capOf; simp; (first|lia|omega)
    · simp; (first|lia|omega)
noncomputable abbrev CompI (K:PySem.W.Frag) (fg:FG) (fc:FT) (fe:FE) (P:RV→FSt→Prop) (no:Nat) (m:List Nat) (F1 Z:Hp) (σ:St) (a:Addr) (rest:List D) (acc:List V) (τ':St) (H':Hp):Prop :=
  ∃ F' ρ' A' σ' as,Same F1 F'∧Rel K F' Z H' σ' ρ' A'∧View m τ' σ'∧(∀ i,no≤i→σ'[i]?=(List.replicate no none++σ)[i]?)∧H' a=some (.lst acc)∧F' a=none∧a ∉ A'∧Dens K F' acc as ∧
      fcomp fg fc fe (fun as ρ'=>P (.ov (.fl as)) (ρ'.drop no)) rest as ρ'
theorem ef_comp {no:Nat} {ixs:List Nat} {wi:TI} {fi:FI} {g:TG} {fg:FG} {T:List Nat} {tc:TT} {fc:FT} {te:TE} {fe:FE} (hi:ITF K μ wi fi) (hix:∀ j ∈ ixs,j < μ.length) (hg:GF K (muC no ixs μ) T g fg) (hT:∀ i ∈ T,i < no)
    (hc:TF K (muC no ixs μ) tc fc) (he:EF K (muC no ixs μ) te fe):EF K μ (tComp no ixs wi g tc te) (fComp no fi fg fc fe):=⟨by
  intro F Z H τ σ ρ A Q P vw R h q
  refine hi.h vw R h fun ds ρ1 J F1 H1 A1 h1 s1 R1 wk=>?_
  rw [force_is] at h1
  intro a ha
  have hF1:F1 a=none:=R1.fh.free ha
  have hZ1:Z a=none:=R1.zh.free ha
  have hA1:a ∉ A1:=fun z=>by
    obtain ⟨u,hu⟩:=R1.sl.live a z
    rw [ha] at hu; cases hu
  have R1':Rel K F1 Z (upd H1 a (.lst [])) (List.replicate no none++σ) (List.replicate no none++ρ1) A1:=by
    have:=R1.write (o:=.lst []) hA1 hF1 hZ1
    exact ⟨this.sl.none_app no,this.nd,this.fr,this.fh,this.zh,this.dj⟩
  have hfin:∀ F' H' σ' ρ' A' acc as,Same F1 F'→Rel K F' Z H' σ' ρ' A'→(∀ i,no≤i→σ'[i]?=(List.replicate no none++σ)[i]?)→H' a=some (.lst acc)→F' a=none→a ∉ A'→Dens K F' acc as→P (.ov (.fl as)) (ρ'.drop no)→Q (.ref a) H':=by
    intro F' H' σ' ρ' A' acc as s' R' k ha' hF' hA' dn p
    obtain ⟨A2,B2,e2,sl2⟩:=R'.sl.dropN no
    have es:σ'.drop no=σ:=by
      apply List.ext_getElem?
      intro i
      rw [List.getElem?_drop,k (no+i) (by omega),List.getElem?_append_right (by simp),List.length_replicate,Nat.add_sub_cancel_left]
    rw [es] at sl2
    have m2:∀ b ∈ A2,b ∈ A':=fun b hb=>by rw [e2]; exact List.mem_append.mpr (.inr hb)
    have R2:Rel K F' Z H' σ (ρ'.drop no) A2:=⟨sl2,by have:=R'.nd; rw [e2,List.nodup_append] at this; exact this.2.1,fun b hb=>R'.fr b (m2 b hb),R'.fh,R'.zh,R'.dj⟩
    exact q _ _ _ _ _ _ [a] p (s1.trans s') R2 (.fl ha' dn) ⟨by simp,fun b hb=>by
      have:b=a:=by first|exact hb|exact List.mem_singleton.mp hb|simpa using hb
      subst this
      exact ⟨hF',hZ1,fun z=>hA' (m2 _ z)⟩⟩
  refine ⟨fun i k acc τ' H'=>k=ds.length - i∧i≤ds.length∧CompI K fg fc fe P no (muC no ixs μ) F1 Z σ a (ds.drop i) acc τ' H',
    ⟨_,rfl,Nat.zero_le _,F1,_,A1,_,[],Same.refl _,R1',view_comp vw hix,fun _ _=>rfl,upd_same,hF1,hA1,.nil,by rw [List.drop_zero]; exact h1⟩,?_⟩
  rintro i k acc τ' H' ⟨rfl,hle,F',ρ',A',σ',as,s',R',vw',kp,hD,hFD,hAD,dn,h'⟩
  by_cases hlt:i < ds.length
  · rw [List.drop_eq_getElem_cons hlt,fcomp_eq2] at h'
    refine .inr ⟨wk.go H' i (s'.trans R'.fh) hlt,fun acc τ' H'=>CompI K fg fc fe P no (muC no ixs μ) F1 Z σ a (ds.drop (i+1)) acc τ' H',fun acc' σ2 H2 z=>⟨_,by omega,rfl,hlt,z⟩,fun x H2 y=>?_⟩
    obtain ⟨rfl,d,hd,dx⟩:=wk.yld H' i x H2 (s'.trans R'.fh) hlt y
    rw [List.getElem?_eq_getElem hlt] at hd
    cases hd
    refine hg.h vw' R' (dx.mono s') h' fun τ2 σ2 ρ2 A2 p2 vw2 R2 k2 kl2 _ m2=>?_
    have kp2:∀ i,no≤i→σ2[i]?=(List.replicate no none++σ)[i]?:=fun i hi=>by
      rw [k2 i fun z=>by have:=hT i z; omega]; exact kp i hi
    have fD:Fresh F' Z A2 [a]:=⟨by simp,fun b hb=>by
      have:b=a:=by first|exact hb|exact List.mem_singleton.mp hb|simpa using hb
      subst this
      exact ⟨hFD,hZ1,fun z=>hAD (m2 _ z)⟩⟩
    obtain ⟨Z',sz,R2',zl,back⟩:=R2.hold (B:=[a]) (fun b hb=>by
      have:b=a:=by first|exact hb|exact List.mem_singleton.mp hb|simpa using hb
      subst this
      exact ⟨_,hD⟩) fD
    refine hc.h vw2 R2' p2 fun b ρ3 F3 H3 A3 p3 s3 R3=>?_
    cases b with
    | false =>
      replace p3:=of_F p3
      rw [if_neg Bool.false_ne_true]
      obtain ⟨R3',f3,k3⟩:=back _ _ _ _ s3 R3
      have fa:=f3.fr a (by simp)
      exact ⟨F3,ρ3,A3,σ2,as,s'.trans s3,R3',vw2,kp2,k3 a _ (by simp) hD,fa.1,fa.2.2,dn.mono s3,p3⟩
    | true =>
      replace p3:=of_T p3
      rw [if_pos rfl]
      refine he.h vw2 R3 p3 fun r ρ4 v F4 H4 A4 B4 p4 s4 R4 v4 f4=>?_
      split at p4
      · rename_i y ρ5 e5
        obtain ⟨F5,A5,s5,R5,dy,_,_⟩:=R4.frz v4 f4 e5
        obtain ⟨R5',f5,k5⟩:=back _ _ _ _ ((s3.trans s4).trans s5) R5
        have fa:=f5.fr a (by simp)
        refine ⟨k5 a _ (by simp) hD,by rw [dn.length]; exact p4.1,F5,ρ5,A5,σ2,as++[y],((s'.trans s3).trans s4).trans s5,R5'.write fa.2.2 fa.1 hZ1,vw2,kp2,upd_same,fa.1,fa.2.2,(dn.mono ((s3.trans s4).trans s5)).snoc dy,p4.2⟩
      · exact p4.elim
  · have e:i=ds.length:=by omega
    subst e
    rw [List.drop_length,fcomp_eq1] at h'
    exact .inl ⟨wk.stop H' (s'.trans R'.fh),hfin _ _ _ _ _ _ _ s' R' kp hD hFD hAD dn h'⟩⟩
noncomputable def unL (ρ:FSt) (i:Nat):Option (List D):=match ρ[i]? with
  | some (some (.fl ds))=>some ds
  | _=>none
noncomputable def unD (ρ:FSt) (i:Nat):Option (List Key×List D):=match ρ[i]? with
  | some (some (.fd ks ds))=>some (ks,ds)
  | _=>none
theorem unL_at {i:Nat} {ds:List D} (h:unL ρ i=some ds):ρ[i]?=some (some (.fl ds)):=by
  unfold unL at h
  split at h
  · rename_i os e
    cases h; exact e
  · cases h
theorem unD_at {i:Nat} {ks:List Key} {ds:List D} (h:unD ρ i=some (ks,ds)):ρ[i]?=some (some (.fd ks ds)):=by
  unfold unD at h
  split at h
  · rename_i ks' os e
    cases h; exact e
  · cases h
theorem Rel.mutL {i:Nat} {ds:List D} (R:Rel K F Z H σ ρ A) (h:unL ρ i=some ds):∃ a xs,σ[i]?=some (some (.ref a))∧H a=some (.lst xs)∧Dens K F xs ds ∧
    ∀ xs' ds',Dens K F xs' ds'→∃ A',Rel K F Z (upd H a (.lst xs')) σ (ρ.set i (some (.fl ds'))) A':=by
  have e:=unL_at h
  obtain ⟨v,B,A',h1,h2,R',f',pm⟩:=R.takeI e
  cases h2 with
  | @fl a xs os hl dn =>
    have fa:=f'.fr a (by simp)
    refine ⟨a,xs,h1,hl,dn,fun xs' ds' dn'=>?_⟩
    have R2:=R'.write (o:=.lst xs') fa.2.2 fa.1 fa.2.1
    obtain ⟨A3,R3,_⟩:=R2.putI (set_none e) h1 (.fl upd_same dn') f'
    rw [List.set_set] at R3
    exact ⟨A3,R3⟩
theorem Rel.mutD {i:Nat} {ks:List Key} {ds:List D} (R:Rel K F Z H σ ρ A) (h:unD ρ i=some (ks,ds)):∃ a ys,σ[i]?=some (some (.ref a))∧H a=some (.dK ys)∧ys.map (·.1)=ks∧Dens K F (ys.map (·.2)) ds ∧
    ∀ ys' ks' ds',ys'.map (·.1)=ks'→Dens K F (ys'.map (·.2)) ds'→∃ A',Rel K F Z (upd H a (.dK ys')) σ (ρ.set i (some (.fd ks' ds'))) A':=by
  have e:=unD_at h
  obtain ⟨v,B,A',h1,h2,R',f',pm⟩:=R.takeI e
  cases h2 with
  | @fd a ys ks os hl hk dn =>
    have fa:=f'.fr a (by simp)
    refine ⟨a,ys,h1,hl,hk,dn,fun ys' ks' ds' hk' dn'=>?_⟩
    have R2:=R'.write (o:=.dK ys') fa.2.2 fa.1 fa.2.1
    obtain ⟨A3,R3,_⟩:=R2.putI (set_none e) h1 (.fd upd_same hk' dn') f'
    rw [List.set_set] at R3
    exact ⟨A3,R3⟩
noncomputable def fApp (i:Nat) (fe:FE):FE:=fun ρ Q=>(unL ρ i).isSome=true∧fe ρ fun r ρ1=>match fzR r ρ1 with
  | some (d,ρ2)=>(match unL ρ2 i with
    | some ds=>ds.length < sizeLine∧Q (.ov (.fz .non)) (ρ2.set i (some (.fl (ds++[d]))))
    | none=>False)
  | none=>False
theorem ef_app {i j:Nat} {te:TE} {fe:FE} (hj:μ[j]?=some i) (he:EF K μ te fe):EF K μ (tBM K "list" rAppend (tVar j) (tCons te tNil)) (fApp i fe):=⟨by
  intro F Z H τ σ ρ A Q P vw R h q
  obtain ⟨h0,h⟩:=h
  obtain ⟨ds0,e0⟩:=Option.isSome_iff_exists.mp h0
  obtain ⟨a,xs,h1,h2,h3,_⟩:=R.mutL e0
  refine ⟨.ref a,(vw j i hj).1.trans h1,.inl ⟨rfl,xs,SqL.of h2⟩,?_⟩
  refine he.h vw R h fun r ρ1 v F1 H1 A1 B1 p1 s1 R1 v1 f1=>?_
  split at p1
  · rename_i d ρ2 e2
    obtain ⟨F2,A2,s2,R2,dy,_,_⟩:=R1.frz v1 f1 e2
    split at p1
    · rename_i ds e3
      obtain ⟨a',xs',h1',h2',h3',mt⟩:=R2.mutL e3
      rw [h1] at h1'
      cases h1'
      obtain ⟨A3,R3⟩:=mt (xs'++[v]) (ds++[d]) (h3'.snoc dy)
      exact ⟨a,xs',v,rfl,rfl,h2',by rw [h3'.length]; exact p1.1,q _ _ _ _ _ _ _ p1.2 (s1.trans s2) R3 (.fz .non) Fresh.nil⟩
    · exact p1.elim
  · exact p1.elim⟩
noncomputable def fStore (i:Nat) (fe fk:FE):FS:=fun E ρ=>fe ρ fun r ρ1=>match fzR r ρ1 with
  | some (d,ρ2)=>(unL ρ2 i).isSome=true∧fk ρ2 fun s ρ3=>on1 ρ3 s fun dk=>(match dk,unL ρ3 i with
    | .int k,some ds=>(match ixN ds.length k with
      | some x=>E.nx (ρ3.set i (some (.fl (ds.set x d))))
      | none=>False)
    | _,_=>False)
  | none=>False
noncomputable def keyD:D→Option Key
  | .int i=>some (.inl i)
  | .str z=>some (.inr z)
  | _=>none
noncomputable def putD (ks:List Key) (ds:List D) (k:Key) (d:D):List Key×List D :=
  if (ks.any fun x=>decide (x=k))=true then (ks,(ks.zip ds).map fun kd=>if kd.1=k then d else kd.2) else (ks++[k],ds++[d])
noncomputable def fDPut (i:Nat) (fe fk:FE):FS:=fun E ρ=>fe ρ fun r ρ1=>match fzR r ρ1 with
  | some (d,ρ2)=>(unD ρ2 i).isSome=true∧fk ρ2 fun s ρ3=>on1 ρ3 s fun dk=>(match keyD dk,unD ρ3 i with
    | some k,some (ks,ds)=>ks.length < sizeLine∧E.nx (ρ3.set i (some (.fd (putD ks ds k d).1 (putD ks ds k d).2)))
    | _,_=>False)
  | none=>False
theorem key_acc {F H:Hp} {v:V} {d:D} {k:Key} (h:Acc K F H v d) (e:keyD d=some k):v=kV k:=by
  cases d with
  | int i=>simp only [keyD,Option.some.injEq] at e; subst e; exact h.int_eq
  | str z=>simp only [keyD,Option.some.injEq] at e; subst e; exact h.str_eq
  | _=>simp [keyD] at e
theorem dens_put {ys:List (Key×V)} {ks:List Key} {ds:List D} {k:Key} {v:V} {d:D} (hk:ys.map (·.1)=ks) (dn:Dens K F (ys.map (·.2)) ds) (dv:Den K F v d):(putK ys k v).map (·.1)=(putD ks ds k d).1∧Dens K F ((putK ys k v).map (·.2)) (putD ks ds k d).2:=by
  have hl:ys.length=ds.length:=by have:=dn.length; simpa using this
  unfold putD putK
  have hq:(ks.any fun x=>decide (x=k))=(ys.any fun kv=>decide (kv.1=k)):=by rw [← hk,List.any_map]; rfl
  by_cases hm:(ks.any fun x=>decide (x=k))=true
  · have hany:(ys.any fun kv=>decide (kv.1=k))=true:=hq ▸ hm
    rw [if_pos hany,if_pos hm]
    constructor
    · rw [List.map_map,← hk]
      refine List.map_congr_left fun kv _=>?_
      show (if kv.1=k then (kv.1,v) else kv).1=kv.1
      split <;> rfl
    · subst hk
      clear hm hany hl hq
      induction ys generalizing ds with
      | nil=>cases dn; exact .nil
      | cons y ys ih =>
        cases dn with
        | cons d1 d2 =>
          refine .cons ?_ (ih d2)
          show Den K F (if y.1=k then (y.1,v) else y).2 (if y.1=k then d else _)
          split
          · exact dv
          · exact d1
  · have hany:¬ (ys.any fun kv=>decide (kv.1=k))=true:=hq ▸ hm
    rw [if_neg hany,if_neg hm]
    refine ⟨by rw [List.map_append,hk]; rfl,?_⟩
    rw [List.map_append]
    exact dn.snoc dv
variable {n:Nat} {m:List Nat}
theorem sf_store {i:Nat} {te ti:TE} {fe fk:FE} (hin:i < n) (he:EF K (List.range n) te fe) (hk:EF K (List.range n) ti fk):SF K n m (tAsg te (gSub (tVar i) ti rSetL)) (fStore i fe fk):=⟨by
  intro F Z H σ0 σ ρ A D fD R p E h
  refine he.h (View.id p.1) R h fun r ρ1 v F1 H1 A1 B1 p1 s1 R1 v1 f1=>?_
  split at p1
  · rename_i d ρ2 e2
    obtain ⟨F2,A2,s2,R2,dy,_,_⟩:=R1.frz v1 f1 e2
    obtain ⟨h0,p1⟩:=p1
    obtain ⟨ds0,e0⟩:=Option.isSome_iff_exists.mp h0
    obtain ⟨a,xs,h1,h2,h3,_⟩:=R2.mutL e0
    refine ⟨.ref a,h1,?_⟩
    refine hk.h (View.id p.1) R2 p1 fun s ρ3 w F3 H3 A3 B3 p3 s3 R3 v3 f3=>?_
    obtain ⟨dk,ek,p4⟩:=on1_ok p3
    split at p4
    · rename_i k ds e3
      split at p4
      · rename_i x ex
        obtain ⟨a',xs',h1',h2',h3',mt⟩:=R3.mutL e3
        rw [h1] at h1'
        cases h1'
        obtain ⟨A4,R4⟩:=mt (xs'.set x v) (ds.set x d) (h3'.set (dy.mono s3) x)
        exact ⟨a,xs',k,x,rfl,(R3.acc v3 ek).int_eq,h2',by rw [h3'.length]; exact ex,E.nx _ _ _ _ _ ((s1.trans s2).trans s3) R4 p p4⟩
      · exact p4.elim
    · exact p4.elim
  · exact p1.elim⟩
theorem sf_dput {i:Nat} {ty tv:TE} {fe fk:FE} (he:EF K (List.range n) tv fe) (hk:EF K (List.range n) ty fk):SF K n m (sDPut (tVar i) ty tv) (fDPut i fe fk):=⟨by
  intro F Z H σ0 σ ρ A D fD R p E h
  refine he.h (View.id p.1) R h fun r ρ1 v F1 H1 A1 B1 p1 s1 R1 v1 f1=>?_
  generalize e2:fzR r ρ1=o at p1
  obtain _ | ⟨d,ρ2⟩:=o
  · exact False.elim p1
  · obtain ⟨F2,A2,s2,R2,dy,_,_⟩:=R1.frz v1 f1 e2
    obtain ⟨h0,p1⟩:=p1
    obtain ⟨⟨ks0,ds0⟩,e0⟩:=Option.isSome_iff_exists.mp h0
    obtain ⟨a,xs,h1,h2,h3,_⟩:=R2.mutD e0
    refine ⟨.ref a,h1,?_⟩
    refine hk.h (View.id p.1) R2 p1 fun s ρ3 w F3 H3 A3 B3 p3 s3 R3 v3 f3=>?_
    obtain ⟨dk,ek,p4⟩:=on1_ok p3
    generalize e4:keyD dk=o at p4
    generalize e3:unD ρ3 i=o' at p4
    obtain _ | k:=o
    · exact False.elim p4
    obtain _ | ⟨ks,ds⟩:=o'
    · exact False.elim p4
    · obtain ⟨a',ys,h1',h2',hk',h3',mt⟩:=R3.mutD e3
      rw [h1] at h1'
      cases h1'
      obtain ⟨q1,q2⟩:=dens_put (k:=k) hk' h3' (dy.mono s3)
      obtain ⟨A4,R4⟩:=mt (putK ys k v) _ _ q1 q2
      have hl:ys.length=ks.length:=by rw [← hk',List.length_map]
      exact ⟨a,_,rfl,.inl ⟨ys,k,h2',key_acc (R3.acc v3 ek) e4,by rw [hl]; exact p4.1,rfl⟩,E.nx _ _ _ _ _ ((s1.trans s2).trans s3) R4 p p4.2⟩⟩
end
end L2
set_option maxHeartbeats 4000000
namespace L2
open PySem PySem.Spec PyProof.Rows
noncomputable def outs (m:List Nat):Nat→List OV→FSt→Option (List OV)
  | _,[],_=>some []
  | i,o::os,ρ=>if m.contains i=true then (match ρ[i]? with
      | some (some o')=>(outs m (i+1) os (ρ.set i none)).map (o'::·)
      | _=>none) else (outs m (i+1) os ρ).map (o::·)
noncomputable def isFz:OV→Bool
  | .fz _=>true
  | _=>false
noncomputable def fin (m:List Nat) (os:List OV) (P:OV→List OV→Prop) (o:OV) (ρ:FSt):Prop:=match outs m 0 os ρ with
  | some os'=>P o os'
  | none=>False
noncomputable def startF (n:Nat) (os:List OV):FSt:=os.map some++List.replicate (n - os.length) none
section
variable {K:PySem.W.Frag}
theorem Ows.length {F H:Hp} {vs:List V} {os:List OV} {A:List Addr} (h:Ows K F H vs os A):vs.length=os.length:=by
  induction h with
  | nil=>rfl
  | cons _ t ih=>exact congrArg (·+1) ih
theorem Slots.nones {F H:Hp} (k:Nat):Slots K F H (List.replicate k none) (List.replicate k none) []:=by
  induction k with
  | zero=>exact .nil
  | succ k ih=>exact .skip ih
theorem Slots.of_ows {F H:Hp} (k:Nat) {vs:List V} {os:List OV} {A:List Addr} (h:Ows K F H vs os A):Slots K F H (vs.map some++List.replicate k none) (os.map some++List.replicate k none) A:=by
  induction h with
  | nil=>exact Slots.nones k
  | cons h t ih=>exact .has h ih
theorem Rel.outs {F F' Z H H':Hp} {σ:St} {m:List Nat}:∀ {vs:List V} {os:List OV} {C:List Addr} {i:Nat} {ρ:FSt} {A:List Addr} {os':List OV},Ows K F H vs os C→Same F F'→(∀ j o,os[j]?=some o→i+j ∉ m→isFz o=true) →
    (∀ j v,vs[j]?=some v→i+j ∈ m→σ[i+j]?=some (some v))→Rel K F' Z H' σ ρ A→L2.outs m i os ρ=some os'→∃ C' A':List Addr,Ows K F' H' vs os' C'∧Rel K F' Z H' σ ρ A∧C'.Nodup∧(∀ a,a ∈ C'→a ∈ A∧a ∉ A')∧(∀ a,a ∈ A'→a ∈ A):=by
  intro vs
  induction vs with
  | nil =>
    intro os C i ρ A os' h s hz hp R e
    cases h
    simp only [L2.outs,Option.some.injEq] at e
    subst e
    exact ⟨[],A,.nil,R,List.nodup_nil,fun _ z=>(nomatch z),fun _ z=>z⟩
  | cons v vs ih =>
    intro os C i ρ A os' h s hz hp R e
    cases h with
    | @cons _ o _ os C1 C2 h t =>
      simp only [L2.outs] at e
      have hz':∀ j o,os[j]?=some o→i+1+j ∉ m→isFz o=true:=fun j o q n=>hz (j+1) o (by first|exact q|exact List.mem_singleton.mp q|simpa using q) (by rw [show i+(j+1)=i+1+j by (first|lia|omega)]; exact n)
      have hp':∀ j v,vs[j]?=some v→i+1+j ∈ m→σ[i+1+j]?=some (some v):=fun j v q n=>by
        have:=hp (j+1) v (by first|exact q|exact List.mem_singleton.mp q|simpa using q) (by rw [show i+(j+1)=i+1+j by (first|lia|omega)]; exact n)
        rw [show i+1+j=i+(j+1) by (first|lia|omega)]; exact this
      split at e
      · rename_i hm
        have hm:i ∈ m:=by first|exact hm|exact List.mem_singleton.mp hm|simpa using hm
        split at e
        · rename_i o' ho
          rw [Option.map_eq_some_iff] at e
          obtain ⟨os2,e2,rfl⟩:=e
          obtain ⟨v',B',A',h1,h2,R',f',pm⟩:=R.takeI ho
          have hv:=hp 0 v rfl (by first|exact hm|exact List.mem_singleton.mp hm|simpa using hm)
          rw [Nat.add_zero] at hv
          have:v'=v:=by rw [hv] at h1; simpa using h1.symm
          subst this
          obtain ⟨C',A2,w1,_,n1,m1,m2⟩:=ih t s hz' hp' R' e2
          refine ⟨B'++C',A2,.cons h2 w1,R,List.nodup_append.mpr ⟨f'.nd,n1,fun a ha b hb z=>(f'.fr a ha).2.2 (by rw [z]; exact (m1 b hb).1)⟩,fun a ha=>?_,fun a ha=>pm.mem_iff.mpr (List.mem_append.mpr (.inr (m2 a ha)))⟩
          rcases List.mem_append.mp ha with z | z
          · exact ⟨pm.mem_iff.mpr (List.mem_append.mpr (.inl z)),fun y=>(f'.fr a z).2.2 (m2 a y)⟩
          · exact ⟨pm.mem_iff.mpr (List.mem_append.mpr (.inr (m1 a z).1)),(m1 a z).2⟩
        · cases e
      · rename_i hm
        rw [Option.map_eq_some_iff] at e
        obtain ⟨os2,e2,rfl⟩:=e
        have hm:i ∉ m:=by first|exact hm|exact List.mem_singleton.mp hm|simpa using hm
        have hf:=hz 0 o rfl (by first|exact hm|exact List.mem_singleton.mp hm|simpa using hm)
        obtain ⟨C',A2,w1,_,n1,m1,m2⟩:=ih t s hz' hp' R e2
        cases h with
        | fz dn=>exact ⟨C',A2,.cons (.fz (dn.mono s)) w1,R,n1,m1,m2⟩
        | _=>simp [isFz] at hf
theorem Fun.okF {P:Program} {w:World} {mg:Str→Option Value} {base:Heap} {x qual:Str} {st:Stmt} {f:Addr} {fd:FuncData} {N ps:List Str} {k:Nat} {c:Ct} {m:List Nat} {fs:FS} (F:Fun K x qual st f fd) (S:FnScope N ps (defScope st))
    (hN:ps.length≤N.length) (hlen:∀ os P,c os P→os.length=ps.length∧∀ j o,os[j]?=some o→j ∉ m→isFz o=true) (hm:∀ i ∈ m,i < ps.length)
    (hbody:∀ (cdv:Value) (A:Around) (outer:List Env) (s:Shared) (H:Hp) (E:XK),Room k (A.deeper (envOfC qual (defScope st) s.heap.objs.size f cdv)) →
      ∃ t,BSs (cxOf CX0 P w K mg base N qual (defScope st) f cdv A outer s H E).nox (defBody st) t∧SF K N.length m t fs)
    (hc:∀ os P,c os P→fs { nx:=fin m os P (.fz .non),rt:=fin m os P } (startF N.length os)):FnOk P w K mg base CX0 (k+1) f fd ps (spM K c):=by
  refine F.okB S (fun vs H Q E h=>?_) (fun cdv A outer s H vs Q E hr h=>?_)
  · obtain ⟨F1,Z,os,C,Pq,_,_,_,ho,_,_,hcc,_⟩:=h
    rw [ho.length]; exact (hlen os Pq hcc).1
  · obtain ⟨F1,Z,os,C,Pq,sf,sz,dj,ho,nd,fr,hcc,q⟩:=h
    obtain ⟨t,ht,hs⟩:=hbody cdv A outer s H E hr
    refine ⟨t,ht,?_⟩
    have hl:=(hlen os Pq hcc).1
    have hvl:=ho.length
    have R:Rel K F1 Z H (start N vs) (startF N.length os) C:=by
      refine ⟨?_,nd,fr,sf,sz,dj⟩
      unfold start startF
      rw [hvl]
      exact Slots.of_ows _ ho
    have hn:(start N vs).length=N.length:=by unfold start; simp; (first|lia|omega)
    have fin_ok:∀ F' H' σ' ρ' A' v o B,Same F1 F'→Rel K F' Z H' σ' ρ' A'→Pin N.length m (start N vs) σ'→Ow K F' H' v o B→Fresh F' Z A' B→fin m os Pq o ρ'→Q v H':=by
      intro F' H' σ' ρ' A' v o B s' R' p' ow f' h'
      unfold fin at h'
      split at h'
      · rename_i os' e
        obtain ⟨C',A2,w1,_,n1,m1,m2⟩:=Rel.outs (i:=0) ho s' (fun j o q n=>(hlen os Pq hcc).2 j o q (by first|exact n|exact List.mem_singleton.mp n|simpa using n)) (fun j v q n=>by
          have hj:j < vs.length:=(List.getElem?_eq_some_iff.mp q).1
          rw [Nat.zero_add] at n ⊢
          rw [p'.2 j n]
          unfold start
          rw [List.getElem?_append_left (by first|exact hj|exact List.mem_singleton.mp hj|simpa using hj),List.getElem?_map,q]; rfl) R' e
        refine q o os' v F' H' C' B h' s' R'.fh R'.zh R'.dj w1 ow (List.nodup_append.mpr ⟨n1,f'.nd,fun a ha b hb z=>(f'.fr b hb).2.2 (by rw [← z]; exact (m1 a ha).1)⟩) fun a ha=>?_
        rcases List.mem_append.mp ha with z | z
        · exact R'.fr a (m1 a z).1
        · exact ⟨(f'.fr a z).1,(f'.fr a z).2.1⟩
      · exact h'.elim
    exact hs.h (fD:={ nx:=fin m os Pq (.fz .non),rt:=fin m os Pq }) R (Pin.refl hn) ⟨fun F' H' σ' ρ' A' s' R' p' h'=>fin_ok F' H' σ' ρ' A' .non (.fz .non) [] s' R' p' (.fz .non) Fresh.nil h',
      fin_ok,fun _ _ _ _ _ _ _ _ z=>z.elim,fun _ _ _ _ _ _ _ _ z=>z.elim⟩ (hc os Pq hcc)
end
end L2
set_option maxHeartbeats 4000000
namespace L2
open PySem PySem.Spec PyProof.Rows
section
variable {X:Cx}
noncomputable def rIxD:R2:=fun x y H Q=>∃ a v,x=.ref a∧DGet H a y (some v)∧Q v H
theorem ix_dict (hu:X.A.units+1 < cLine):IxR X rIxD:=by
  intro value slice pins s σ H x y v u Q I rx ry h hs
  obtain ⟨a,z,rfl,g,q⟩:=h
  cases rx
  exact tail_any (dict_typeIs I g) PySem.F.slot_dict_getitem.lookup (d_getItem hu I g ry fun w' s3 I3 rw'=>⟨z,H,I3,rw',q⟩) hs
noncomputable def rIxA (K:PySem.W.Frag):R2:=fun x y H Q=>rIx K x y H Q∨rIxD x y H Q
noncomputable def rInD:R2:=fun x y H Q=>∃ a o,y=.ref a∧DGet H a x o∧Q (.bl o.isSome) H
noncomputable def rNotInD:R2:=fun x y H Q=>∃ a o,y=.ref a∧DGet H a x o∧Q (.bl (!o.isSome)) H
theorem op_inD (hu:X.A.units+1 < cLine):OpR X (compareOp .In) rInD:=by
  intro pins s σ H x y v u Q I rx ry h
  obtain ⟨a,o,rfl,g,q⟩:=h
  cases ry
  exact d_in hu I g rx fun s3 I3=>⟨.bl o.isSome,H,I3,rfl,q⟩
theorem op_notInD (hu:X.A.units+1 < cLine):OpR X (compareOp .NotIn) rNotInD:=by
  intro pins s σ H x y v u Q I rx ry h
  obtain ⟨a,o,rfl,g,q⟩:=h
  cases ry
  exact d_notIn hu I g rx fun s3 I3=>⟨.bl (!o.isSome),H,I3,rfl,q⟩
noncomputable def rInB (K:PySem.W.Frag):R2:=fun x y H Q=>rInA K x y H Q∨rInD x y H Q
noncomputable def rNotInB (K:PySem.W.Frag):R2:=fun x y H Q=>rNotInA K x y H Q∨rNotInD x y H Q
theorem wop_inB (K:PySem.W.Frag) (hu:X.A.units+64 < cLine) (h:X.K=K):BOp X (compareOp .In) (rInB K):=by subst h; exact ⟨OpR.or op_inA (op_inD (by (first|lia|omega)))⟩
theorem wop_notInB (K:PySem.W.Frag) (hu:X.A.units+64 < cLine) (h:X.K=K):BOp X (compareOp .NotIn) (rNotInB K):=by subst h; exact ⟨OpR.or op_notInA (op_notInD (by (first|lia|omega)))⟩
theorem we_ixA {a b:Expr} {ta tb:TE} {pos:Pos} (K:PySem.W.Frag) (hu:X.A.units+64 < cLine) (ha:BE X a ta) (hb:BE X b tb) (hs:∀ o i,subscripted b false o i=operate [o,i] (getItem o i)) (hK:X.K=K):BE X (.Subscript a b pos) (tOp (rIxA K) ta tb):=by
  subst hK; exact ⟨pe_ix (IxR.or ix_seq (ix_dict (by (first|lia|omega)))) ha.h hb.h hs⟩
noncomputable def rCmp (pI:Int→Int→Bool) (pS:Str→Str→Bool):R2:=fun x y H Q=>(∃ i j,x=.int i∧y=.int j∧Q (.bl (pI i j)) H)∨∃ i j,x=.str i∧y=.str j∧Q (.bl (pS i j)) H
noncomputable def strLt (x y:Str):Bool:=decide (x.cps.toList < y.cps.toList)
theorem op_ltS:OpR X (compareOp .Lt) (fun x y H Q=>∃ i j,x=.str i∧y=.str j∧Q (.bl (strLt i j)) H):=by
  intro pins s σ H x y v u Q I rx ry h
  obtain ⟨i,j,rfl,rfl,q⟩:=h
  obtain ⟨t,rfl⟩:=rx
  obtain ⟨t',rfl⟩:=ry
  exact PyProof.Rows.lt_str ⟨.bl _,H,I,rfl,q⟩
theorem op_gtS:OpR X (compareOp .Gt) (fun x y H Q=>∃ i j,x=.str i∧y=.str j∧Q (.bl (strLt j i)) H):=by
  intro pins s σ H x y v u Q I rx ry h
  obtain ⟨i,j,rfl,rfl,q⟩:=h
  obtain ⟨t,rfl⟩:=rx
  obtain ⟨t',rfl⟩:=ry
  exact PySem.P.gt_str ⟨.bl _,H,I,rfl,q⟩
theorem wop_ltA:BOp X (compareOp .Lt) (rCmp (fun i j=>decide (i < j)) strLt):=⟨OpR.or op_lt op_ltS⟩
theorem wop_gtA:BOp X (compareOp .Gt) (rCmp (fun i j=>decide (j < i)) fun i j=>strLt j i):=⟨OpR.or op_gt op_gtS⟩
noncomputable def tyD:D→String
  | .non => "NoneType"
  | .bl _ => "bool"
  | .int _ => "int"
  | .str _ => "str"
  | .lst _ => "list"
  | .tup _ => "tuple"
  | .dct _ _ => "dict"
  | .ty _ => "type"
  | .opq _ _ => "dict"
noncomputable def okTy (T:String):Bool:=T == "str" || T == "int" || T == "bool" || T == "list" || T == "tuple" || T == "dict" || T == "NoneType"
theorem okTy_ok {T:String} (h:okTy T=true):okT T:=by
  simp only [okTy,Bool.or_eq_true,beq_iff_eq] at h
  unfold okT
  rcases h with (((((h | h) | h) | h) | h) | h) | h <;> simp [h]
noncomputable def rIsD (K:PySem.W.Frag):List V→Hp→VK→Prop:=fun xs H Q=>∃ x d T,xs=[x,.ty T]∧Den K H x d∧okTy (tyD d)=true∧okTy T=true∧Q (.bl (isT (tyD d) T)) H
theorem call_isD:CallR X (.builtin "isinstance") (rIsD X.K):=by
  intro pins s σ H xs us Q I r h
  obtain ⟨x,d,T,rfl,dn,o1,o2,q⟩:=h
  obtain ⟨u,u',rfl,ru,ru'⟩:=vals2 r
  cases (show u'=Value.type T from ru')
  have e:=kit_of (K:=X.K) (okTy_ok o1) (okTy_ok o2)
  have fin:∀ tk,EP X pins σ Q (.bool (isT (tyD d) T)) { s with toks:=tk }:=fun tk=>⟨.bl _,H,I.tok tk,rfl,q⟩
  cases dn with
  | non=>exact isinst_ok I ru .non e fin
  | bl b=>exact isinst_ok I ru (.bl b) e fin
  | int i=>exact isinst_ok I ru (.int i) e fin
  | str z=>exact isinst_ok I ru (.str z) e fin
  | ty T'=>simp [tyD,okTy] at o1
  | @lst a ys ds hs t =>
    cases (show u=Value.ref a from ru)
    obtain ⟨its,_,⟨o,n,h1,h2,_⟩,_⟩:=I.list hs
    exact PySem.W.kia_one PySem.W.kitx_list I.kIn ⟨_,h1,h2⟩ e (fun z=>nomatch z) fin
  | @tup a ys ds hs t =>
    cases (show u=Value.ref a from ru)
    obtain ⟨its,_,⟨o,h1,h2,_⟩,_⟩:=I.tuple hs
    exact PySem.W.kia_one PySem.W.kitx_tuple I.kIn ⟨o,h1,h2⟩ e (fun z=>nomatch z) fin
  | @dct a ys ks ds hs hk t =>
    cases (show u=Value.ref a from ru)
    obtain ⟨_,_,vs,_,p⟩:=(show ObjOk X.prog X.w H s.heap a (.dK ys) from hs.ok I.hok)
    obtain ⟨o,es,ep,h1,h2,_⟩:=p
    exact PySem.W.kia_one PySem.W.kitx_dict I.kIn ⟨o,h1,h2.1⟩ e (fun z=>nomatch z) fin
  | @opq a ys n hs hn hpl =>
    cases (show u=Value.ref a from ru)
    obtain ⟨_,_,vs,_,p⟩:=(show ObjOk X.prog X.w H s.heap a (.dK ys) from hs.ok I.hok)
    obtain ⟨o,es,ep,h1,h2,_⟩:=p
    exact PySem.W.kia_one PySem.W.kitx_dict I.kIn ⟨o,h1,h2.1⟩ e (fun z=>nomatch z) fin
theorem wc_isD (K:PySem.W.Frag) (h:X.K=K):BCall X (.builtin "isinstance") (rIsD K):=by subst h; exact ⟨call_isD⟩
noncomputable def rCatL (K:PySem.W.Frag):R2:=fun x y H Q=>∃ l b xs zs,x=.ref l∧y=.ref b∧SqL K H l xs∧SqL K H b zs∧xs.length+zs.length≤sizeLine∧∀ p,H p=none→Q (.ref p) (upd H p (.lst (xs++zs)))
theorem op_catL:OpR X (binaryOp .Add) (rCatL X.K):=by
  intro pins s σ H x y v u Q I rx ry h
  obtain ⟨l,b,xs,zs,rfl,rfl,hH,hB,hz,q⟩:=h
  cases rx
  cases ry
  obtain ⟨its,r,⟨⟨cls,dd,data,sl⟩,n,ho,hc,hdd,hd⟩,_⟩:=I.list hH
  obtain ⟨its2,r2,⟨⟨cls2,dd2,data2,sl2⟩,n2,ho2,hc2,hdd2,hd2⟩,_⟩:=I.list hB
  dsimp only at hc hd hc2 hd2 hdd hdd2
  subst hc hd hc2 hd2 hdd hdd2
  have hl:=r.length
  have hl2:=r2.length
  refine concat_meets ⟨_,ho,rfl⟩ ⟨_,ho2,rfl⟩ noFill_list_add seq_list_add PySem.F.slot_list_add PySem.F.entry_list_add (PySem.F.args_list_add_2 _ _) (list_addW l b its.toArray its2.toArray n n2 none none sl sl2 (by simp; (first|lia|omega))) ⟨ho,ho2,?_⟩
  have ea:its.toArray++its2.toArray=(its++its2).toArray:=by simp
  rw [ea]
  exact ⟨.ref _,_,I.lnew (t':=s.toks) (r.append r2) (by rw [List.length_append]; (first|lia|omega)),rfl,q _ I.fresh⟩
noncomputable def rAddB (K:PySem.W.Frag):R2:=fun x y H Q=>(∃ i j,x=.int i∧y=.int j∧Q (.int (i+j)) H)∨(∃ i j,x=.str i∧y=.str j∧i.length+j.length≤sizeLine∧Q (.str (i++j)) H)∨rCatL K x y H Q∨rCatT K x y H Q
theorem wop_addB (K:PySem.W.Frag) (h:X.K=K):BOp X (binaryOp .Add) (rAddB K):=by subst h; exact ⟨op_add.or (op_add_str.or (op_catL.or op_catT))⟩
noncomputable def tGU (K:PySem.W.Frag) (xs:List V):TE:=fun _ H Q=>∀ a,(∀ H',SqT K H' a xs)→Q (.ref a) H
theorem we_gloU {K:PySem.W.Frag} {x:Str} {xs:List V} {pos:Pos} (h:GloT K X.mg x xs) (hg:X.env.kindOf x=some .globalImplicit) (hd:autoParam ((x == ("__debug__" : Str))=false) L2.aD._auto_1):BE X (.Name x pos) (tGU K xs):=by
  obtain ⟨a,e,hs⟩:=h
  exact ⟨fun pins s σ H Q I q=>pe_glo (v:=.ref a) ⟨_,e,rfl⟩ hg hd pins s σ H Q I (q a hs)⟩
end
section
variable {K:PySem.W.Frag} {μ:List Nat}
theorem newq_fz {F H:Hp} {P:OV→Prop} {Q:VK} {v:V} {d:D} (e:Same F H) (n:NewQ K F H P Q) (h:Den K F v d) (p:P (.fz d)):Q v H:=n _ v F H [] p (Pure.refl e) (.fz h) New.nil
theorem newq_lst {F H:Hp} {P:OV→Prop} {Q:VK} {xs:List V} {ds:List D} (e:Same F H) (n:NewQ K F H P Q) (h:Dens K F xs ds) (p:P (.fl ds)):∀ q,H q=none→Q (.ref q) (upd H q (.lst xs)):=fun q hq =>
  n _ (.ref q) F _ [q] p (Pure.new e hq) (.fl upd_same h) (New.one hq (e.free hq))
theorem newq_tup {F H:Hp} {P:OV→Prop} {Q:VK} {xs:List V} {ds:List D} (e:Same F H) (n:NewQ K F H P Q) (h:Dens K F xs ds) (p:P (.fz (.tup ds))):∀ q,H q=none→Q (.ref q) (upd H q (.tup xs)):=fun q hq =>
  n _ (.ref q) (upd F q (.tup xs)) _ [] p (Pure.frz e hq) (.fz (.tup (SqT.of upd_same) (h.mono (same_new (e.free hq))))) New.nil
theorem ef_gu {xs:List V} {ds:List D} (hd:∀ F,Dens K F xs ds):EF K μ (tGU K xs) (fC (.tup ds)):=⟨fun {F Z H τ σ ρ A Q P} vw R h q a ha=>q _ _ _ F H A [] h (Same.refl _) R (.fz (.tup (ha F) (hd F))) Fresh.nil⟩
noncomputable def aI0 (g:Int→Int→D):D→D→(OV→Prop)→Prop
  | .int i,.int j,P=>P (.fz (g i j))
  | _,_,_=>False
noncomputable def aIC (C:Int→Int→Prop) (g:Int→Int→D):D→D→(OV→Prop)→Prop
  | .int i,.int j,P=>C i j∧P (.fz (g i j))
  | _,_,_=>False
theorem opf_i0 {gV:Int→Int→V} {gD:Int→Int→D} (h:∀ F i j,Den K F (gV i j) (gD i j)):OpF K (rI0 gV) (aI0 gD):=⟨by
  intro F H x y d e Q P s hx hy f n
  cases d with
  | int i =>
    cases e with
    | int j =>
      exact ⟨_,_,hx.int_eq,hy.int_eq,newq_fz s n (h F _ _) f⟩
    | _=>exact False.elim f
  | _=>exact False.elim f⟩
theorem opf_iC {C:Int→Int→Prop} {gV:Int→Int→V} {gD:Int→Int→D} (h:∀ F i j,Den K F (gV i j) (gD i j)):OpF K (rI C gV) (aIC C gD):=⟨by
  intro F H x y d e Q P s hx hy f n
  cases d with
  | int i =>
    cases e with
    | int j =>
      exact ⟨_,_,hx.int_eq,hy.int_eq,f.1,newq_fz s n (h F _ _) f.2⟩
    | _=>exact False.elim f
  | _=>exact False.elim f⟩
theorem opf_sub:OpF K (rI0 fun i j=>.int (i - j)) (aI0 fun i j=>.int (i - j)):=opf_i0 fun _ _ _=>.int _
theorem opf_mul:OpF K (rI CMul fun i j=>.int (i * j)) (aIC CMul fun i j=>.int (i * j)):=opf_iC fun _ _ _=>.int _
theorem opf_fdiv:OpF K (rI CDiv fun i j=>.int (i / j)) (aIC CDiv fun i j=>.int (i / j)):=opf_iC fun _ _ _=>.int _
theorem opf_mod:OpF K (rI (fun _ j=>0 < j) fun i j=>.int (i % j)) (aIC (fun _ j=>0 < j) fun i j=>.int (i % j)):=opf_iC fun _ _ _=>.int _
theorem opf_pow:OpF K (rI CPow fun i j=>.int (i ^ j.toNat)) (aIC CPow fun i j=>.int (i ^ j.toNat)):=opf_iC fun _ _ _=>.int _
theorem opf_powB:OpF K (rI CPowB fun i j=>.int (i ^ j.toNat)) (aIC CPowB fun i j=>.int (i ^ j.toNat)):=opf_iC fun _ _ _=>.int _
noncomputable def aCmp (pI:Int→Int→Bool) (pS:Str→Str→Bool):D→D→(OV→Prop)→Prop
  | .int i,.int j,P=>P (.fz (.bl (pI i j)))
  | .str i,.str j,P=>P (.fz (.bl (pS i j)))
  | _,_,_=>False
theorem opf_cmp {pI:Int→Int→Bool} {pS:Str→Str→Bool}:OpF K (rCmp pI pS) (aCmp pI pS):=⟨by
  intro F H x y d e Q P s hx hy f n
  cases d with
  | int i =>
    cases e with
    | int j =>
      exact .inl ⟨_,_,hx.int_eq,hy.int_eq,newq_fz s n (.bl _) f⟩
    | _=>exact False.elim f
  | str i =>
    cases e with
    | str j =>
      exact .inr ⟨_,_,hx.str_eq,hy.str_eq,newq_fz s n (.bl _) f⟩
    | _=>exact False.elim f
  | _=>exact False.elim f⟩
noncomputable def aAdd:D→D→(OV→Prop)→Prop
  | .int i,.int j,P=>P (.fz (.int (i+j)))
  | .str i,.str j,P=>i.length+j.length≤sizeLine∧P (.fz (.str (i++j)))
  | .lst xs,.lst ys,P=>xs.length+ys.length≤sizeLine∧P (.fl (xs++ys))
  | .tup xs,.tup ys,P=>xs≠[]∧xs.length+ys.length≤sizeLine∧P (.fz (.tup (xs++ys)))
  | _,_,_=>False
theorem opf_add:OpF K (rAddB K) aAdd:=⟨by
  intro F H x y d e Q P s hx hy f n
  cases d with
  | int i =>
    cases e with
    | int j =>
      exact .inl ⟨_,_,hx.int_eq,hy.int_eq,newq_fz s n (.int _) f⟩
    | _=>exact False.elim f
  | str i =>
    cases e with
    | str j =>
      exact .inr (.inl ⟨_,_,hx.str_eq,hy.str_eq,f.1,newq_fz s n (.str _) f.2⟩)
    | _=>exact False.elim f
  | lst ds =>
    cases e with
    | lst es =>
      obtain ⟨a,xs,rfl,h1,h2⟩:=hx.asL s
      obtain ⟨b,ys,rfl,h3,h4⟩:=hy.asL s
      exact .inr (.inr (.inl ⟨a,b,xs,ys,rfl,rfl,h1,h3,by rw [h2.length,h4.length]; exact f.1,newq_lst s n (h2.append h4) f.2⟩))
    | _=>exact False.elim f
  | tup ds =>
    cases e with
    | tup es =>
      have hy':=hy
      obtain ⟨a,xs,rfl,h1,h2⟩:=hx.asT s
      obtain ⟨b,ys,rfl,h3,h4⟩:=hy.asT s
      refine .inr (.inr (.inr ⟨a,b,xs,ys,rfl,rfl,h1,h3,fun z=>f.1 ?_,by rw [h2.length,h4.length]; exact f.2.1,fun z=>?_,fun z=>newq_tup s n (h2.append h4) f.2.2⟩))
      · have:=h2.length; rw [z] at this; exact List.eq_nil_of_length_eq_zero this.symm
      · subst z
        cases h4
        have f2:=f.2.2
        rw [List.append_nil] at f2
        cases hx with
        | fz hd=>exact newq_fz s n hd f2
    | _=>exact False.elim f
  | _=>exact False.elim f⟩
end
end L2
set_option maxHeartbeats 4000000
namespace L2
open PySem PySem.Spec PyProof.Rows
noncomputable def strLe (a b:Str):Bool:=!strLt b a
theorem strLe_iff {a b:Str}:strLe a b=true↔¬ (b.cps.toList < a.cps.toList):=by unfold strLe strLt; simp
theorem strLe_trans (a b c:Str) (h1:strLe a b=true) (h2:strLe b c=true):strLe a c=true:=by
  rw [strLe_iff] at *
  exact List.not_lt.mpr (List.le_trans (List.not_lt.mp h1) (List.not_lt.mp h2))
theorem strLe_total (a b:Str):(strLe a b || strLe b a)=true:=by
  rw [Bool.or_eq_true,strLe_iff,strLe_iff]
  rcases List.le_total a.cps.toList b.cps.toList with h | h
  · exact .inl (List.not_lt.mpr h)
  · exact .inr (List.not_lt.mpr h)
theorem strLe_anti {a b:Str} (h1:strLe a b=true) (h2:strLe b a=true):a=b:=by
  rw [strLe_iff] at *
  exact str_ext (List.le_antisymm (List.not_lt.mp h1) (List.not_lt.mp h2))
noncomputable def sortS (zs:List Str):List Str:=zs.mergeSort strLe
theorem sortS_perm (zs:List Str):(sortS zs).Perm zs:=List.mergeSort_perm zs _
theorem sortS_sorted (zs:List Str):(sortS zs).Pairwise fun a b=>strLe a b=true:=List.pairwise_mergeSort strLe_trans strLe_total zs
theorem rising_pairwise:∀ (p:Str) (l:List Str),risingS p l=true→(p::l).Pairwise fun a b=>strLe a b=true
  | p,[],_=>List.pairwise_singleton _ _
  | p,x::r,h=>by
    simp only [risingS,Bool.and_eq_true] at h
    have ih:=rising_pairwise x r h.2
    have hpx:strLe p x=true:=by
      unfold strLe strLt
      rw [← ltCps_eq]; exact h.1
    refine List.pairwise_cons.mpr ⟨fun y hy=>?_,ih⟩
    rcases List.mem_cons.mp hy with rfl | hy
    · exact hpx
    · exact strLe_trans _ _ _ hpx (List.rel_of_pairwise_cons ih hy)
theorem sortedS_pairwise:∀ (l:List Str),sortedS l=true→l.Pairwise fun a b=>strLe a b=true
  | [],_=>.nil
  | x::r,h=>rising_pairwise x r h
theorem sortS_unique {ss zs:List Str} (hp:ss.Perm zs) (hs:sortedS ss=true):ss=sortS zs :=
  List.Perm.eq_of_pairwise (le:=fun a b=>strLe a b=true) (fun a b _ _ h1 h2=>strLe_anti h1 h2) (sortedS_pairwise ss hs) (sortS_sorted zs) (hp.trans (sortS_perm zs).symm)
theorem sortS_of_sorted {ss zs:List Str} (hp:ss.Perm zs) (hs:ss.Pairwise fun a b=>strLe a b=true):ss=sortS zs :=
  List.Perm.eq_of_pairwise (le:=fun a b=>strLe a b=true) (fun a b _ _ h1 h2=>strLe_anti h1 h2) hs (sortS_sorted zs) (hp.trans (sortS_perm zs).symm)
section
open PySem.Calls
variable {prog:Program} {w:World} {A:Around} {E:Value→Shared→Prop} {s:Shared} {T:String} {r d:Addr} {n:Nat} {P:Nat→Value→Prop} {OK:Heap→Prop}
theorem gather {R:List Value→Shared→Prop} (S:PySem.W.KdlSrc prog w T r d n P OK) (calm:A.handled=none) (ok:OK s.heap) (few:n≤sizeLine)
    (go:∀ (g:Heap) (tk:Nat) (acc:Array Value),(∀ b o,s.heap.get? b=some o→g.get? b=some o)→s.heap.objs.size < g.objs.size→ItemsOf P acc n→R acc.toList { s with heap:=g,toks:=tk }) :
    wpAny (model prog w) A (collect (.ref r)) R E s:=by
  obtain ⟨l1,l2⟩:=S.there _ ok
  unfold collect
  refine wpAny_bind (wpAny_runValue (codeAny_builtin entry_proto_collect' ?_)); rw [Around.under_plainId PySem.F.plain_proto_collect _]
  show wpAny _ A.in1 (newList [] >>= fun x=>again (.builtin "list.__iadd__" ⟨[x,.ref r],[]⟩)) _ _ s
  refine wpAny_bind (wpAny_newObj_type (wpAny_pure ⟨plainId_quiet PySem.F.plain_list_iadd _,codeAny_builtin entry_list_iadd' ?_⟩)); rw [Around.under_plainId PySem.F.plain_list_iadd _]
  have top:(s.heap.push { cls:=.type "list", data:=.seq ([]:List Value).toArray }).get? s.heap.objs.size=some { cls:=.type "list", data:=.seq #[] }:=Heap.get?_push_size _ rfl
  show wpAny _ A.in1 (Builtin.List.listExtendWith (.ref s.heap.objs.size) (.ref r) (.ref s.heap.objs.size)) _ _ _
  have main:=PySem.W.kdl_extend (A:=A) (s:={ s with heap:=s.heap.push { cls:=.type "list", data:=.seq ([]:List Value).toArray } })
    (R:=fun (q:Result) (s':Shared)=>∃ (g:Heap) (tk:Nat) (acc:Array Value) (c:Nat),q=.ok (.ret (.ref s.heap.objs.size))∧s'={ s with heap:=g,toks:=tk } ∧
      (∀ b o,s.heap.get? b=some o→g.get? b=some o)∧g.get? s.heap.objs.size=some { cls:=.type "list", dict:=none,data:=.seq acc c,slots:=#[] }∧ItemsOf P acc n)
    S calm (S.keep _ _ ok fun b _ o e=>Heap.get?_push_of_some _ e) s.heap.objs.size (Nat.ne_of_gt l1) (Nat.ne_of_gt l2) (.ref s.heap.objs.size) 0 top
    (fun g tk acc c hk hS hacc=>⟨g,tk,acc,c,rfl,rfl,fun b o e=>hk b o (Nat.ne_of_lt (Heap.lt_size e)) (Heap.get?_push_of_some _ e),hS,hacc⟩) few
  refine wpAny_mono main (fun z s' x=>?_) fun e s' x=>?_
  · cases z with
    | done f =>
      obtain ⟨g,tk,acc,c,e,rfl,hk,hS,hacc⟩:=x
      cases e
      exact wpAny_bind (wpAny_load hS (wpAny_pure (go g tk acc hk (Heap.lt_size hS) hacc)))
    | again c₁ =>
      refine ⟨x.1,codeAny_mono x.2 fun q s₂ y=>?_⟩
      obtain ⟨g,tk,acc,c,rfl,rfl,hk,hS,hacc⟩:=y
      exact wpAny_bind (wpAny_load hS (wpAny_pure (go g tk acc hk (Heap.lt_size hS) hacc)))
  · obtain ⟨_,_,_,_,e',_⟩:=x
    cases e'
end
section
variable {X:Cx}
theorem call_sortedD (hc:X.calm=true):CallR X (.builtin "sorted") (fun xs H Q=>∃ p kvs zs,xs=[.ref p]∧Rd H p (.dK kvs)∧kvs.map (·.1)=zs.map Sum.inr∧kvs.length < 64∧∀ q ss,H q=none→ss.Perm zs→sortedS ss=true→Q (.ref q) (upd H q (.lst (ss.map .str)))):=by
  intro pins s σ H xs us Q I r h
  obtain ⟨p,kvs,zs,rfl,hq,hz,h64,q⟩:=h
  obtain ⟨u,rfl,rx⟩:=vals1 r
  cases rx
  obtain ⟨hsz,hS,vs,rv,m⟩:kvs.length≤sizeLine∧(p == sysModules)=false∧∃ vs,KV kvs vs∧s.heap.DictOf (mixKind X.prog X.w) p vs:=hq.ok I.hok
  obtain ⟨ep,hat⟩:=m.dictAt
  have hl:kvs.length=vs.length:=Paired.length rv
  refine Calls.call_function_entry kind_sorted plain_sorted entry_sorted (args_sorted1 _) ?_
  unfold Builtin.«sorted»
  refine wpAny_bind (m:=checkCount "sorted" 1 1 _) (wpAny_pure ?_)
  refine wpAny_bind (gather (PySem.W.kdl_dict (knd:=mixKind X.prog X.w) (kvs:=vs) (ep:=ep) hS) (by simpa using I.ok.hd hc) hat (by rw [← hl]; exact hsz) fun h' tk acc hk hgr hacc=>?_)
  have hal:acc.toList.length=kvs.length:=by rw [Array.length_toList,hacc.1,hl]
  have hSA:StrsAre acc.toList zs:=by
    have hget:∀ (j:Nat) v,acc.toList[j]?=some v→∃ k x,vs[j]?=some (k,x)∧keyIs k v=true:=fun j v e=>hacc.2 j v (by rw [← Array.getElem?_toList]; exact e)
    clear hacc hk q hq m hat
    generalize acc.toList=us at hal hget
    clear hsz hl h64 I r
    induction rv generalizing us zs with
    | nil =>
      cases zs with
      | nil=>cases us with | nil=>exact .nil | cons a b=>simp at hal
      | cons z zs=>simp at hz
    | cons h1 h2 ih =>
      cases zs with
      | nil=>simp at hz
      | cons z zs =>
        cases us with
        | nil=>simp at hal
        | cons a b =>
          simp only [List.map_cons,List.cons.injEq] at hz
          obtain ⟨k,x,e1,e2⟩:=hget 0 a rfl
          simp only [List.getElem?_cons_zero,Option.some.injEq] at e1
          subst e1
          have e3:_=k:=h1.1
          rw [← e3,hz.1] at e2
          rcases keyIs_shape e2 with ⟨i,t,q,_⟩ | ⟨z',t,q,rfl⟩
          · cases q
          · cases q
            exact .cons _ t (ih zs hz.2 b (by first|exact hal|exact List.mem_singleton.mp hal|simpa using hal) fun j v e=>by simpa using hget (j+1) v (by first|exact e|exact List.mem_singleton.mp e|simpa using e))
  refine wpAny_bind (wpAny_newList ?_ (hsz:=by rw [hal]; exact hsz))
  have hoL:(h'.push (seqObj "list" acc.toList.toArray 0)).get? h'.objs.size=some (seqObj "list" acc.toList.toArray 0):=Heap.get?_push_size _ rfl
  have hle:s.heap.objs.size≤h'.objs.size:=Nat.le_of_lt hgr
  refine wpAny_bind (wpAny_holding (wpAny_call_entry slot_list_sort ⟨_,hoL,rfl⟩ entry_list_sort (list_sort_treeK strKind_oneLt hoL hSA.keysOf (fun v₁ v₂ rest e=>keyKind_strs (by rw [← e]; exact hSA)) (by rw [hal]; exact h64) fun st' a1 a2=>⟨_,rfl,?_⟩) (args_list_sort _)))
  obtain ⟨ss',b1,b2,b3⟩:=sorted_out_str hSA a1 a2
  obtain ⟨e',he'⟩:=sortedHeap_at (out:=(arrOf st').map (·.2)) hoL
  have hlz:ss'.length=kvs.length:=by rw [b2.length_eq]; have:=congrArg List.length hz; simpa using this.symm
  refine wpAny_pure ⟨_,rfl,.ref h'.objs.size,_,I.laid (t':=tk) (o:=.lst (ss'.map .str)) (fun b ob hb=>?_) hle ⟨by rw [List.length_map,hlz]; exact hsz,((arrOf st').map (·.2)).toList,e',vals_of_strs b1,by rw [Array.toArray_toList]; exact he'⟩,rfl,q h'.objs.size ss' (I.hok.fresh hle) b2 b3⟩
  have hbl:b < h'.objs.size:=Nat.lt_of_lt_of_le (Heap.lt_size hb) hle
  rw [sortedHeap_old (Nat.ne_of_lt hbl) (by rw [size_push']; exact Nat.lt_succ_of_lt hbl)]
  exact Heap.get?_push_of_some _ (hk b ob hb)
end
end L2
set_option maxHeartbeats 4000000
namespace L2
open PySem PySem.Spec PyProof.Rows
section
variable {K:PySem.W.Frag} {μ:List Nat}
noncomputable def eqOk (d e:D):Prop:=okD d=true∧okD e=true∧dep (toDV d)≤40
noncomputable def aEq:D→D→(OV→Prop)→Prop:=fun d e P=>eqOk d e∧P (.fz (.bl (dEq d e)))
noncomputable def aNe:D→D→(OV→Prop)→Prop:=fun d e P=>eqOk d e∧P (.fz (.bl (!dEq d e)))
theorem opf_eq:OpF K (rEqA K) aEq:=⟨fun {F H x y d e Q P} s hx hy f n=>.inr ⟨_,_,(hx.den s).deep f.1.1,(hy.den s).deep f.1.2.1,f.1.2.2,newq_fz s n (.bl _) f.2⟩⟩
theorem opf_ne:OpF K (rNeA K) aNe:=⟨fun {F H x y d e Q P} s hx hy f n=>.inr ⟨_,_,(hx.den s).deep f.1.1,(hy.den s).deep f.1.2.1,f.1.2.2,newq_fz s n (.bl _) f.2⟩⟩
noncomputable def vOf:D→V
  | .non=>.non
  | .bl b=>.bl b
  | .int i=>.int i
  | .str z=>.str z
  | _=>.non
noncomputable def flD:D→Bool
  | .non=>true
  | .bl _=>true
  | .int _=>true
  | .str _=>true
  | _=>false
theorem Den.flat {F:Hp} {v:V} {d:D} (h:Den K F v d) (f:flD d=true):v=vOf d∧flatV v=true:=by
  cases h <;> first | exact ⟨rfl,rfl⟩ | exact (Bool.false_ne_true f).elim
theorem Dens.flat {F:Hp} {v:List V} {d:List D} (h:Dens K F v d) (f:d.all flD=true):v=d.map vOf∧v.all flatV=true:=by
  induction d generalizing v with
  | nil=>cases h; exact ⟨rfl,rfl⟩
  | cons d ds ih =>
    cases h with
    | cons h t =>
      rw [List.all_cons,Bool.and_eq_true] at f
      obtain ⟨h1,h2⟩:=h.flat f.1
      obtain ⟨h3,h4⟩:=ih t f.2
      exact ⟨by rw [List.map_cons,← h1,← h3],by rw [List.all_cons,h2,h4]; rfl⟩
theorem Acc.flat {F H:Hp} {v:V} {d:D} (h:Acc K F H v d) (f:flD d=true):v=vOf d∧flatV v=true:=by
  cases h with
  | fz h=>exact h.flat f
  | lst _ _=>exact (Bool.false_ne_true f).elim
  | dct _ _ _=>exact (Bool.false_ne_true f).elim
noncomputable def inD (d:D) (ds:List D):Bool:=inV (vOf d) (ds.map vOf)
noncomputable def hasK (ks:List Key) (k:Key):Bool:=ks.any fun x=>decide (x=k)
noncomputable def bIn (d:D) (R:Bool→Prop):D→Prop
  | .str y=>(match d with
    | .str x=>(match x.cps.toList with
      | [c]=>R (decide (c ∈ y.cps.toList))
      | _=>False)
    | _=>False)
  | .lst ds=>(flD d=true∧ds.all flD=true)∧R (inD d ds)
  | .tup ds=>(flD d=true∧ds.all flD=true)∧R (inD d ds)
  | .dct ks _=>(match keyD d with
    | some k=>R (hasK ks k)
    | none=>False)
  | _=>False
noncomputable def aIn (d e:D) (P:OV→Prop):Prop:=bIn d (fun b=>P (.fz (.bl b))) e
noncomputable def aNotIn (d e:D) (P:OV→Prop):Prop:=bIn d (fun b=>P (.fz (.bl (!b)))) e
theorem one_of {x:Str} {c:Nat} (h:x.cps.toList=[c]):x=⟨#[c]⟩:=str_ext h
theorem hasK_val {ys:List (Key×V)} {ks:List Key} {k:Key} (h:ys.map (·.1)=ks):(valV ys k).isSome=hasK ks k:=by
  rw [← valV_any,hasK,← h,List.any_map]; rfl
theorem bin_ok {F H:Hp} {x y:V} {d e:D} {Q:VK} {R:Bool→Prop} (s:Same F H) (hx:Acc K F H x d) (hy:Acc K F H y e) (f:bIn d R e) (n:∀ b,R b→Q (.bl b) H):rInB K x y H Q:=by
  cases e with
  | str z =>
    cases d with
    | str u =>
      unfold bIn at f; dsimp only at f
      generalize hc:u.cps.toList=l at f
      cases l with
      | nil=>exact False.elim f
      | cons c r =>
        cases r with
        | nil=>exact .inl (.inl ⟨c,_,by rw [hx.str_eq,one_of hc],hy.str_eq,n _ f⟩)
        | cons=>exact False.elim f
    | _=>exact False.elim f
  | lst ds =>
    obtain ⟨a,xs,rfl,h1,h2⟩:=hy.asL s
    obtain ⟨e1,e2⟩:=hx.flat f.1.1
    obtain ⟨e3,e4⟩:=h2.flat f.1.2
    subst e1 e3
    exact .inl (.inr ⟨a,_,rfl,.inl h1,e2,e4,n _ f.2⟩)
  | tup ds =>
    obtain ⟨a,xs,rfl,h1,h2⟩:=hy.asT s
    obtain ⟨e1,e2⟩:=hx.flat f.1.1
    obtain ⟨e3,e4⟩:=h2.flat f.1.2
    subst e1 e3
    exact .inl (.inr ⟨a,_,rfl,.inr h1,e2,e4,n _ f.2⟩)
  | dct ks vs =>
    unfold bIn at f; dsimp only at f
    generalize hk:keyD d=l at f
    cases l with
    | none=>exact False.elim f
    | some k =>
      obtain ⟨a,ys,rfl,h1,h2,h3⟩:=hy.asD s
      refine .inr ⟨a,valV ys k,rfl,by rw [key_acc hx hk]; exact DGet.kR h1,?_⟩
      rw [hasK_val h2]
      exact n _ f
  | _=>exact False.elim f
theorem opf_in:OpF K (rInB K) aIn:=⟨fun s hx hy f n=>bin_ok s hx hy f fun _ q=>newq_fz s n (.bl _) q⟩
theorem opf_notIn:OpF K (rNotInB K) aNotIn:=⟨by
  intro F H x y d e Q P s hx hy f n
  have h:=bin_ok (Q:=fun v H'=>∀ b,v=.bl b→Q (.bl (!b)) H') s hx hy f fun b q c e=>by cases e; exact newq_fz s n (.bl _) q
  obtain (⟨c,z,e1,e2,q⟩ | ⟨a,xs,e1,e2,e3,e4,q⟩) | ⟨a,o,e1,e2,q⟩:=h
  · exact .inl (.inl ⟨c,z,e1,e2,q _ rfl⟩)
  · exact .inl (.inr ⟨a,xs,e1,e2,e3,e4,q _ rfl⟩)
  · exact .inr ⟨a,o,e1,e2,q _ rfl⟩⟩
noncomputable def dGet (ks:List Key) (ds:List D) (k:Key):Option D:=((ks.zip ds).find? fun kd=>decide (kd.1=k)).map (·.2)
noncomputable def aIx:D→D→(OV→Prop)→Prop
  | .lst ds,.int i,P=>(match atI ds i with
    | some d=>P (.fz d)
    | none=>False)
  | .tup ds,.int i,P=>(match atI ds i with
    | some d=>P (.fz d)
    | none=>False)
  | .str z,.int i,P=>z.length≤sizeLine∧(match atI z.cps.toList i with
    | some c=>P (.fz (.str ⟨#[c]⟩))
    | none=>False)
  | .dct ks ds,k,P=>(match keyD k with
    | some k=>(match dGet ks ds k with
      | some d=>P (.fz d)
      | none=>False)
    | none=>False)
  | _,_,_=>False
theorem Dens.atI {F:Hp} {xs:List V} {ds:List D} {i:Int} {d:D} (h:Dens K F xs ds) (e:L2.atI ds i=some d):∃ x,L2.atI xs i=some x∧Den K F x d:=by
  unfold L2.atI at e ⊢
  rw [h.length]
  cases q:ixN ds.length i with
  | none=>rw [q] at e; cases e
  | some j=>rw [q] at e; exact h.get e
theorem dens_get {F:Hp} {ys:List (Key×V)} {ks:List Key} {ds:List D} {k:Key} {d:D} (hk:ys.map (·.1)=ks) (h:Dens K F (ys.map (·.2)) ds) (e:dGet ks ds k=some d):∃ v,valV ys k=some v∧Den K F v d:=by
  subst hk
  unfold dGet at e
  induction ys generalizing ds with
  | nil=>simp at e
  | cons y ys ih =>
    cases h with
    | @cons _ d1 _ ds h1 h2 =>
      by_cases hy:y.1=k
      · rw [valV_pos hy]
        simp only [List.map_cons,List.zip_cons_cons,List.find?_cons,hy,decide_true,Option.map_some,Option.some.injEq] at e
        subst e
        exact ⟨y.2,rfl,h1⟩
      · rw [valV_neg hy]
        simp only [List.map_cons,List.zip_cons_cons,List.find?_cons,hy,decide_false] at e
        exact ih h2 e
theorem opf_ix:OpF K (rIxA K) aIx:=⟨by
  intro F H x y d e Q P s hx hy f n
  cases d with
  | lst ds =>
    cases e with
    | int i =>
      unfold aIx at f
      dsimp only at f
      cases hd:L2.atI ds i with
      | none=>rw [hd] at f; exact False.elim f
      | some d =>
        rw [hd] at f
        obtain ⟨a,xs,rfl,h1,h2⟩:=hx.asL s
        obtain ⟨v,h3,h4⟩:=h2.atI hd
        exact .inl (.inl ⟨a,xs,_,v,rfl,hy.int_eq,h1,h3,newq_fz s n h4 f⟩)
    | _=>exact False.elim f
  | tup ds =>
    cases e with
    | int i =>
      unfold aIx at f
      dsimp only at f
      cases hd:L2.atI ds i with
      | none=>rw [hd] at f; exact False.elim f
      | some d =>
        rw [hd] at f
        obtain ⟨a,xs,rfl,h1,h2⟩:=hx.asT s
        obtain ⟨v,h3,h4⟩:=h2.atI hd
        exact .inl (.inr (.inl ⟨a,xs,_,v,rfl,hy.int_eq,h1,h3,newq_fz s n h4 f⟩))
    | _=>exact False.elim f
  | str z =>
    cases e with
    | int i =>
      obtain ⟨f1,f⟩:=f
      cases hc:L2.atI z.cps.toList i with
      | none=>rw [hc] at f; exact False.elim f
      | some c =>
        rw [hc] at f
        exact .inl (.inr (.inr ⟨_,_,c,hx.str_eq,hy.int_eq,f1,hc,newq_fz s n (.str _) f⟩))
    | _=>exact False.elim f
  | dct ks ds =>
    unfold aIx at f
    dsimp only at f
    cases hk:keyD e with
    | none=>rw [hk] at f; exact False.elim f
    | some k =>
      rw [hk] at f
      dsimp only at f
      cases hd:dGet ks ds k with
      | none=>rw [hd] at f; exact False.elim f
      | some d =>
        rw [hd] at f
        obtain ⟨a,ys,rfl,h1,h2,h3⟩:=hx.asD s
        obtain ⟨v,h4,h5⟩:=dens_get h2 h3 hd
        exact .inr ⟨a,v,rfl,by rw [key_acc hy hk,← h4]; exact DGet.kR h1,newq_fz s n h5 f⟩
  | _=>exact False.elim f⟩
noncomputable def notWhole (n:Nat) (lo hi:Option Int):Prop:=¬ (HT.sIx n 0 lo=0∧HT.sIx n n hi=n)
noncomputable def cutS (z:Str) (lo hi:Option Int):Str:=⟨(cutL z.cps.toList lo hi).toArray⟩
noncomputable def aSl:D→Option Int→Option Int→(OV→Prop)→Prop
  | .str z,lo,hi,P=>z.length≤sizeLine∧P (.fz (.str (cutS z lo hi)))
  | .lst ds,lo,hi,P=>P (.fl (cutL ds lo hi))
  | .tup ds,lo,hi,P=>notWhole ds.length lo hi∧P (.fz (.tup (cutL ds lo hi)))
  | _,_,_,_=>False
theorem Dens.cut {F:Hp} {xs:List V} {ds:List D} {lo hi:Option Int} (h:Dens K F xs ds):Dens K F (cutL xs lo hi) (cutL ds lo hi):=by
  unfold cutL
  rw [h.length]
  exact (h.drop _).take _
theorem slf_any:SlF K (rSlA K) aSl:=⟨by
  intro F H x d lo hi Q P s hx f n
  cases d with
  | str z =>
    refine .inl ⟨_,hx.str_eq,f.1,fun y hy=>?_⟩
    have e:y=cutS z lo hi:=str_ext (hy.trans (by simp [cutS]))
    rw [e]
    exact newq_fz s n (.str _) f.2
  | lst ds =>
    obtain ⟨a,xs,rfl,h1,h2⟩:=hx.asL s
    exact .inr (.inl ⟨a,xs,rfl,h1,newq_lst s n h2.cut f⟩)
  | tup ds =>
    obtain ⟨a,xs,rfl,h1,h2⟩:=hx.asT s
    exact .inr (.inr ⟨a,xs,rfl,h1,by rw [h2.length]; exact f.1,newq_tup s n h2.cut f.2⟩)
  | _=>exact False.elim f⟩
noncomputable def cLen:List D→(OV→Prop)→Prop
  | [.str z],P=>z.length≤sizeLine∧P (.fz (.int z.length))
  | [.lst ds],P=>P (.fz (.int ds.length))
  | [.tup ds],P=>P (.fz (.int ds.length))
  | [.dct ks _],P=>P (.fz (.int ks.length))
  | _,_=>False
theorem cf_len:CallF K (rLen K) cLen:=⟨by
  intro F H xs ds Q P s ha f n
  cases ds with
  | nil=>exact False.elim f
  | cons d tl =>
  cases d with
  | str z =>
    cases tl with
    | cons _ _=>exact False.elim f
    | nil =>
    obtain ⟨x,rfl,a⟩:=accs_1 ha
    exact .inl ⟨_,by rw [a.str_eq],f.1,newq_fz s n (.int _) f.2⟩
  | lst ds =>
    cases tl with
    | cons _ _=>exact False.elim f
    | nil =>
    obtain ⟨x,rfl,a⟩:=accs_1 ha
    obtain ⟨p,ys,rfl,h1,h2⟩:=a.asL s
    exact .inr (.inl ⟨p,ys,rfl,.inl h1,by rw [h2.length]; exact newq_fz s n (.int _) f⟩)
  | tup ds =>
    cases tl with
    | cons _ _=>exact False.elim f
    | nil =>
    obtain ⟨x,rfl,a⟩:=accs_1 ha
    obtain ⟨p,ys,rfl,h1,h2⟩:=a.asT s
    exact .inr (.inl ⟨p,ys,rfl,.inr h1,by rw [h2.length]; exact newq_fz s n (.int _) f⟩)
  | dct ks es =>
    cases tl with
    | cons _ _=>exact False.elim f
    | nil =>
    obtain ⟨x,rfl,a⟩:=accs_1 ha
    obtain ⟨p,ys,rfl,h1,h2,h3⟩:=a.asD s
    subst h2
    have f:P (.fz (.int (ys.map (·.1)).length)):=f
    rw [List.length_map] at f
    exact .inr (.inr ⟨p,ys,rfl,h1,newq_fz s n (.int _) f⟩)
  | _=>exact False.elim f⟩
noncomputable def cMax:List D→(OV→Prop)→Prop
  | [.int i,.int j],P=>P (.fz (.int (if j > i then j else i)))
  | _,_=>False
noncomputable def cMin:List D→(OV→Prop)→Prop
  | [.int i,.int j],P=>P (.fz (.int (if j < i then j else i)))
  | _,_=>False
theorem cf_max:CallF K rMax cMax:=⟨by
  intro F H xs ds Q P s ha f n
  cases ds with
  | nil=>exact False.elim f
  | cons d tl =>
  cases d with
  | int i =>
    cases tl with
    | nil=>exact False.elim f
    | cons e tl =>
    cases e with
    | int j =>
      cases tl with
      | cons _ _=>exact False.elim f
      | nil =>
      obtain ⟨x,y,rfl,a,b⟩:=accs_2 ha
      exact ⟨_,_,by rw [a.int_eq,b.int_eq],newq_fz s n (.int _) f⟩
    | _=>exact False.elim f
  | _=>exact False.elim f⟩
theorem cf_min:CallF K rMin cMin:=⟨by
  intro F H xs ds Q P s ha f n
  cases ds with
  | nil=>exact False.elim f
  | cons d tl =>
  cases d with
  | int i =>
    cases tl with
    | nil=>exact False.elim f
    | cons e tl =>
    cases e with
    | int j =>
      cases tl with
      | cons _ _=>exact False.elim f
      | nil =>
      obtain ⟨x,y,rfl,a,b⟩:=accs_2 ha
      exact ⟨_,_,by rw [a.int_eq,b.int_eq],newq_fz s n (.int _) f⟩
    | _=>exact False.elim f
  | _=>exact False.elim f⟩
noncomputable def cIs:List D→(OV→Prop)→Prop
  | [d,.ty T],P=>(okTy (tyD d)=true∧okTy T=true)∧P (.fz (.bl (isT (tyD d) T)))
  | _,_=>False
theorem cf_is:CallF K (rIsD K) cIs:=⟨by
  intro F H xs ds Q P s ha f n
  cases ds with
  | nil=>exact False.elim f
  | cons d ds =>
  cases ds with
  | nil=>exact False.elim f
  | cons e ds =>
  cases e with
  | ty T =>
    cases ds with
    | cons _ _=>exact False.elim f
    | nil =>
    obtain ⟨x,y,rfl,a,b⟩:=accs_2 ha
    exact ⟨x,_,_,by rw [b.ty_eq],a.den s,f.1.1,f.1.2,newq_fz s n (.bl _) f.2⟩
  | _=>exact False.elim f⟩
noncomputable def blsOf:List D→Option (List Bool)
  | []=>some []
  | .bl b::ds=>(blsOf ds).map (b::·)
  | _::_=>none
theorem blsOf_eq:∀ {ds:List D} {bs:List Bool},blsOf ds=some bs→ds=bs.map .bl
  | [],_,h=>by simp only [blsOf,Option.some.injEq] at h; subst h; rfl
  | d::ds,bs,h=>by
    cases d <;> simp [blsOf] at h
    obtain ⟨cs,h1,rfl⟩:=h
    rw [blsOf_eq h1]; rfl
theorem blsOf_map:∀ bs:List Bool,blsOf (bs.map .bl)=some bs
  | []=>rfl
  | b::bs=>by rw [List.map_cons,blsOf,blsOf_map bs]; rfl
noncomputable def cAll:List D→(OV→Prop)→Prop
  | [.lst ds],P=>(match blsOf ds with
    | some bs=>P (.fz (.bl (bs.all id)))
    | none=>False)
  | _,_=>False
noncomputable def cAny:List D→(OV→Prop)→Prop
  | [.lst ds],P=>(match blsOf ds with
    | some bs=>P (.fz (.bl (bs.any id)))
    | none=>False)
  | _,_=>False
theorem cf_all:CallF K (rAll K) cAll:=⟨by
  intro F H xs ds Q P s ha f n
  cases ds with
  | nil=>exact False.elim f
  | cons d tl =>
  cases d with
  | lst ds =>
    cases tl with
    | cons _ _=>exact False.elim f
    | nil =>
    obtain ⟨x,rfl,a⟩:=accs_1 ha
    obtain ⟨p,ys,rfl,h1,h2⟩:=a.asL s
    unfold cAll at f
    dsimp only at f
    cases hb:blsOf ds with
    | none=>rw [hb] at f; exact False.elim f
    | some bs =>
      rw [hb] at f
      rw [blsOf_eq hb] at h2
      exact ⟨p,bs,rfl,by rw [← h2.bls_eq]; exact h1,newq_fz s n (.bl _) f⟩
  | _=>exact False.elim f⟩
theorem cf_any:CallF K (rAny K) cAny:=⟨by
  intro F H xs ds Q P s ha f n
  cases ds with
  | nil=>exact False.elim f
  | cons d tl =>
  cases d with
  | lst ds =>
    cases tl with
    | cons _ _=>exact False.elim f
    | nil =>
    obtain ⟨x,rfl,a⟩:=accs_1 ha
    obtain ⟨p,ys,rfl,h1,h2⟩:=a.asL s
    unfold cAny at f
    dsimp only at f
    cases hb:blsOf ds with
    | none=>rw [hb] at f; exact False.elim f
    | some bs =>
      rw [hb] at f
      rw [blsOf_eq hb] at h2
      exact ⟨p,bs,rfl,by rw [← h2.bls_eq]; exact h1,newq_fz s n (.bl _) f⟩
  | _=>exact False.elim f⟩
noncomputable def dKey:Key→D
  | .inl i=>.int i
  | .inr z=>.str z
theorem dens_keys {F:Hp}:∀ (ks:List Key),Dens K F (ks.map kV) (ks.map dKey)
  | []=>.nil
  | .inl i::ks=>.cons (.int i) (dens_keys ks)
  | .inr z::ks=>.cons (.str z) (dens_keys ks)
noncomputable def cList:List D→(OV→Prop)→Prop
  | [.lst ds],P=>P (.fl ds)
  | [.tup ds],P=>P (.fl ds)
  | [.dct ks _],P=>P (.fl (ks.map dKey))
  | _,_=>False
theorem cf_list:CallF K (rList K) cList:=⟨by
  intro F H xs ds Q P s ha f n
  cases ds with
  | nil=>exact False.elim f
  | cons d tl =>
  cases d with
  | lst ds =>
    cases tl with
    | cons _ _=>exact False.elim f
    | nil =>
    obtain ⟨x,rfl,a⟩:=accs_1 ha
    obtain ⟨p,ys,rfl,h1,h2⟩:=a.asL s
    exact rlist_lst h1 (newq_lst s n h2 f)
  | tup ds =>
    cases tl with
    | cons _ _=>exact False.elim f
    | nil =>
    obtain ⟨x,rfl,a⟩:=accs_1 ha
    obtain ⟨p,ys,rfl,h1,h2⟩:=a.asT s
    exact rlist_tup h1 (newq_lst s n h2 f)
  | dct ks es =>
    cases tl with
    | cons _ _=>exact False.elim f
    | nil =>
    obtain ⟨x,rfl,a⟩:=accs_1 ha
    obtain ⟨p,ys,rfl,h1,h2,h3⟩:=a.asD s
    refine rlist_dict h1 (newq_lst s n ?_ f)
    have e:(ys.map fun kv=>kV kv.1)=(ys.map (·.1)).map kV:=by rw [List.map_map]; rfl
    rw [e,h2]
    exact dens_keys _
  | _=>exact False.elim f⟩
noncomputable def cTuple:List D→(OV→Prop)→Prop
  | [.lst ds],P=>P (.fz (.tup ds))
  | [.tup ds],P=>P (.fz (.tup ds))
  | _,_=>False
theorem cf_tuple:CallF K (rTuple K) cTuple:=⟨by
  intro F H xs ds Q P s ha f n
  cases ds with
  | nil=>exact False.elim f
  | cons d tl =>
  cases d with
  | lst ds =>
    cases tl with
    | cons _ _=>exact False.elim f
    | nil =>
    obtain ⟨x,rfl,a⟩:=accs_1 ha
    obtain ⟨p,ys,rfl,h1,h2⟩:=a.asL s
    exact rtuple_lst h1 (newq_tup s n h2 f)
  | tup ds =>
    cases tl with
    | cons _ _=>exact False.elim f
    | nil =>
    obtain ⟨x,rfl,a⟩:=accs_1 ha
    have a':=a
    obtain ⟨p,ys,rfl,h1,h2⟩:=a.asT s
    refine ⟨p,ys,rfl,.inr ⟨h1,?_⟩⟩
    cases a' with
    | fz h=>exact newq_fz s n h f
  | _=>exact False.elim f⟩
noncomputable def strsOf:List D→Option (List Str)
  | []=>some []
  | .str z::ds=>(strsOf ds).map (z::·)
  | _::_=>none
theorem strsOf_eq:∀ {ds:List D} {zs:List Str},strsOf ds=some zs→ds=zs.map .str
  | [],_,h=>by simp only [strsOf,Option.some.injEq] at h; subst h; rfl
  | d::ds,bs,h=>by
    cases d <;> simp [strsOf] at h
    obtain ⟨cs,h1,rfl⟩:=h
    rw [strsOf_eq h1]; rfl
theorem strsOf_map:∀ zs:List Str,strsOf (zs.map .str)=some zs
  | []=>rfl
  | b::bs=>by rw [List.map_cons,strsOf,strsOf_map bs]; rfl
noncomputable def keyStrs:List Key→Option (List Str)
  | []=>some []
  | .inr z::ks=>(keyStrs ks).map (z::·)
  | .inl _::_=>none
theorem keyStrs_eq:∀ {ds:List Key} {zs:List Str},keyStrs ds=some zs→ds=zs.map Sum.inr
  | [],_,h=>by simp only [keyStrs,Option.some.injEq] at h; subst h; rfl
  | d::ds,bs,h=>by
    cases d <;> simp [keyStrs] at h
    obtain ⟨cs,h1,rfl⟩:=h
    rw [keyStrs_eq h1]; rfl
noncomputable def cSort:List D→(OV→Prop)→Prop
  | [.lst ds],P=>(match strsOf ds with
    | some zs=>zs.length < 64∧P (.fl ((sortS zs).map .str))
    | none=>False)
  | [.dct ks _],P=>(match keyStrs ks with
    | some zs=>zs.length < 64∧P (.fl ((sortS zs).map .str))
    | none=>False)
  | _,_=>False
noncomputable def rSortA (P:Program) (w:World) (K:PySem.W.Frag):List V→Hp→VK→Prop:=fun xs H Q=>rSorted P w K xs H Q∨∃ p kvs zs,xs=[.ref p]∧Rd H p (.dK kvs)∧kvs.map (·.1)=zs.map Sum.inr∧kvs.length < 64∧∀ q ss,H q=none→ss.Perm zs→sortedS ss=true→Q (.ref q) (upd H q (.lst (ss.map .str)))
theorem cf_sort {P:Program} {w:World}:CallF K (rSortA P w K) cSort:=⟨by
  intro F H xs ds Q Pq s ha f n
  cases ds with
  | nil=>exact False.elim f
  | cons d tl =>
  cases d with
  | lst ds =>
    cases tl with
    | cons _ _=>exact False.elim f
    | nil =>
    obtain ⟨x,rfl,a⟩:=accs_1 ha
    obtain ⟨p,ys,rfl,h1,h2⟩:=a.asL s
    unfold cSort at f
    dsimp only at f
    cases hz:strsOf ds with
    | none=>rw [hz] at f; exact False.elim f
    | some zs =>
      rw [hz] at f
      rw [strsOf_eq hz] at h2
      rw [h2.strs_eq] at h1
      refine .inl ⟨p,zs,rfl,.inr h1,f.1,fun q ss hq hp hs=>?_⟩
      rw [sortS_unique hp hs]
      exact newq_lst s n (Dens.strs _) f.2 q hq
  | dct ks es =>
    cases tl with
    | cons _ _=>exact False.elim f
    | nil =>
    obtain ⟨x,rfl,a⟩:=accs_1 ha
    obtain ⟨p,ys,rfl,h1,h2,h3⟩:=a.asD s
    unfold cSort at f
    dsimp only at f
    cases hz:keyStrs ks with
    | none=>rw [hz] at f; exact False.elim f
    | some zs =>
      rw [hz] at f
      rw [keyStrs_eq hz] at h2
      have hl:ys.length=zs.length:=by have:=congrArg List.length h2; rwa [List.length_map,List.length_map] at this
      refine .inr ⟨p,ys,zs,rfl,h1,h2,by rw [hl]; exact f.1,fun q ss hq hp hs=>?_⟩
      rw [sortS_unique hp hs]
      exact newq_lst s n (Dens.strs _) f.2 q hq
  | _=>exact False.elim f⟩
noncomputable def dedupS (zs:List Str):List Str:=zs.foldl (fun acc z=>KS.dedup1 acc z) []
theorem dedup_fold:∀ (zs acc:List Str),acc.Nodup→(zs.foldl (fun acc z=>KS.dedup1 acc z) acc).Nodup∧∀ k,k ∈ zs.foldl (fun acc z=>KS.dedup1 acc z) acc↔k ∈ acc∨k ∈ zs
  | [],acc,h=>⟨h,fun k=>by simp⟩
  | z::zs,acc,h=>by
    obtain ⟨h1,h2⟩:=dedup_fold zs (KS.dedup1 acc z) (dedup1_nodup h)
    refine ⟨h1,fun k=>?_⟩
    rw [List.foldl_cons,h2 k,dedup1_mem,List.mem_cons]
    constructor
    · rintro ((a | a) | a)
      · exact .inl a
      · exact .inr (.inl a)
      · exact .inr (.inr a)
    · rintro (a | a | a)
      · exact .inl (.inl a)
      · exact .inl (.inr a)
      · exact .inr a
theorem dedupS_nodup (zs:List Str):(dedupS zs).Nodup:=(dedup_fold zs [] List.nodup_nil).1
theorem dedupS_mem {zs:List Str} {k:Str}:k ∈ dedupS zs↔k ∈ zs:=by
  have:=(dedup_fold zs [] List.nodup_nil).2 k
  simpa [dedupS] using this
noncomputable def setS (zs:List Str):List Str:=sortS (dedupS zs)
theorem setS_mem {zs:List Str} {k:Str}:k ∈ setS zs↔k ∈ zs:=by rw [setS,(sortS_perm _).mem_iff,dedupS_mem]
theorem setS_nodup (zs:List Str):(setS zs).Nodup:=(sortS_perm _).nodup_iff.mpr (dedupS_nodup zs)
theorem setS_sorted (zs:List Str):(setS zs).Pairwise fun a b=>strLe a b=true:=sortS_sorted _
theorem perm_of_mem {a b:List Str} (ha:a.Nodup) (hb:b.Nodup) (h:∀ k,k ∈ a↔k ∈ b):a.Perm b:=(List.perm_ext_iff_of_nodup ha hb).mpr h
theorem setS_unique {zs ss:List Str} (hn:ss.Nodup) (hm:∀ k,k ∈ ss↔k ∈ zs) (hs:ss.Pairwise fun a b=>strLe a b=true):ss=setS zs :=
  sortS_of_sorted (perm_of_mem hn (dedupS_nodup zs) fun k=>(hm k).trans dedupS_mem.symm) hs
noncomputable def fSortSet (fe:FE):FE:=fun ρ Q=>fe ρ fun r ρ1=>on1 ρ1 r fun d=>match d with
  | .lst ds=>(match strsOf ds with
    | some zs=>(zs.length+1 < scanBound∧(setS zs).length < 64)∧Q (.ov (.fl ((setS zs).map .str))) ρ1
    | none=>False)
  | _=>False
theorem ef_sortSet {P:Program} {w:World} {te:TE} {fe:FE} (he:EF K μ te fe):EF K μ (tCB (rSortA P w K) (tCons (tCB (rSet P w K) (tCons te tNil)) tNil)) (fSortSet fe):=⟨by
  intro F Z H τ σ ρ A Q Pq vw R h q
  refine he.h vw R h fun r ρ1 v F1 H1 A1 B1 h1 s1 R1 v1 f1=>?_
  obtain ⟨d,e1,h2⟩:=on1_ok h1
  split at h2
  · split at h2
    · rename_i zs hz
      obtain ⟨p,ys,rfl,a1,a2⟩:=(R1.acc v1 e1).asL R1.fh
      rw [strsOf_eq hz] at a2
      rw [a2.strs_eq] at a1
      refine ⟨p,zs,rfl,a1,h2.1.1,fun l τs hl hm hn _=>?_⟩
      refine .inl ⟨l,τs,rfl,.inl upd_same,?_,fun l2 ss hl2 hp hs=>?_⟩
      · have hp:τs.Perm (setS zs):=perm_of_mem hn (setS_nodup zs) fun k=>(hm k).trans setS_mem.symm
        rw [hp.length_eq]; exact h2.1.2
      · have e:ss=setS zs:=setS_unique (hp.nodup_iff.mpr hn) (fun k=>(hp.mem_iff).trans (hm k)) (sortedS_pairwise ss hs)
        subst e
        have pu:=(Pure.new (o:=setO P w l τs) R1.fh hl).trans (Pure.new (p:=l2) (o:=.lst ((setS zs).map .str)) (R1.fh.trans (same_new hl)) hl2)
        have hl2':H1 l2=none:=(same_new hl).free hl2
        exact R1.after (P:=fun o=>Pq (.ov o) ρ1) (fun o v F3 H3 B p s3 R3 ow fr=>q _ _ _ _ _ _ _ p (s1.trans s3) R3 ow fr) _ _ F1 _ [l2] h2.2 pu (.fl upd_same (Dens.strs _)) (New.one hl2' (R1.fh.free hl2'))
    · exact h2.elim
  · exact h2.elim⟩
end
end L2
set_option maxHeartbeats 4000000
namespace KS
open PySem PySem.Spec PyProof.Rows
section
variable {prog:Program} {w:World} {A:Around} {E:Value→Shared→Prop} {s:Shared}
end
end KS
namespace L2
open PySem PySem.Spec PyProof.Rows
section
variable {X:Cx}
end
section
variable {K:PySem.W.Frag} {μ:List Nat}
end
end L2
set_option maxHeartbeats 4000000
namespace L2
open PySem PySem.Spec PyProof.Rows PySem.W
noncomputable def Good (n:Nat) {α:Type} (Post:α→Prop):KasT α→Prop
  | .ret a=>Post a
  | .ask i j k=>i < n∧j < n∧∀ b,Good n Post (k b)
theorem Good.bind {n:Nat} {α β:Type} {Post:α→Prop} {Post':β→Prop} {f:α→KasT β}:∀ {t:KasT α},Good n Post t→(∀ a,Post a→Good n Post' (f a))→Good n Post' (t.bind f)
  | .ret a,h,k=>k a h
  | .ask i j g,h,k=>⟨h.1,h.2.1,fun b=>Good.bind (h.2.2 b) k⟩
theorem Good.run {n:Nat} {α:Type} {Post:α→Prop} {cmp:Nat→Nat→(Bool→Shared→Prop)→Shared→Prop} {G:α→Shared→Prop} {s:Shared} (hc:∀ i j C,i < n→j < n→(∀ b,C b s)→cmp i j C s):∀ {t:KasT α},Good n Post t→(∀ a,Post a→G a s)→t.kasWp cmp G s
  | .ret a,h,k=>k a h
  | .ask i j g,h,k=>hc i j _ h.1 h.2.1 fun b=>Good.run hc (h.2.2 b) k
noncomputable def IsPerm (n:Nat) (p:Array Nat):Prop:=p.toList.Perm (List.range n)
theorem IsPerm.lt {n:Nat} {p:Array Nat} (h:IsPerm n p) (hn:0 < n) (i:Nat):p.getD i 0 < n:=by
  by_cases hi:i < p.size
  · have e:p.getD i 0=p[i]:=by simp [Array.getD,hi]
    rw [e]
    have:p[i] ∈ p.toList:=by simp
    exact List.mem_range.mp (h.mem_iff.mp this)
  · have e:p.getD i 0=0:=by simp [Array.getD,hi]
    rw [e]; exact hn
theorem IsPerm.rev {n:Nat} {p:Array Nat} (h:IsPerm n p) (i j:Nat):IsPerm n (kas_rev p i j):=(Array.perm_iff_toList_perm.mp (mirror_perm p i j ((j - i) / 2))).trans h
theorem IsPerm.bubble {n:Nat} {p:Array Nat} (h:IsPerm n p) (i j:Nat):IsPerm n (PyProof.Rows.bubble p i j):=(Array.perm_iff_toList_perm.mp (bubble_perm p i j)).trans h
theorem good_asc {n:Nat} (hn:0 < n) {p:Array Nat} (h:IsPerm n p):∀ (f k:Nat),Good n (fun _=>True) (kas_asc p f k)
  | 0,k=>trivial
  | f+1,k=>⟨h.lt hn _,h.lt hn _,fun b=>by
    cases b with
    | true=>exact trivial
    | false=>exact good_asc hn h f (k+1)⟩
theorem good_desc {n:Nat} (hn:0 < n):∀ (f:Nat) (p:Array Nat) (k q:Nat),IsPerm n p→Good n (fun r=>IsPerm n r.1) (kas_desc f p k q)
  | 0,p,k,q,h=>h
  | f+1,p,k,q,h=>⟨h.lt hn _,h.lt hn _,fun b=>by
    cases b with
    | true =>
      dsimp only; rw [if_pos rfl]
      split
      · exact good_desc hn f _ _ _ (h.rev _ _)
      · exact good_desc hn f _ _ _ h
    | false =>
      dsimp only; rw [if_neg Bool.false_ne_true]
      exact ⟨h.lt hn _,h.lt hn _,fun d=>by
        cases d with
        | true=>dsimp only; rw [if_pos rfl]; exact h
        | false=>dsimp only; rw [if_neg Bool.false_ne_true]; exact good_desc hn f _ _ _ h⟩⟩
theorem good_tail {n:Nat} (hn:0 < n) {p:Array Nat} (h:IsPerm n p) (a b:Nat):Good n (fun r=>IsPerm n r.2) (kas_tail3 a b p):=(good_asc hn (h.rev 0 a) _ _).bind fun m _=>h.rev 0 a
theorem good_descPart {n:Nat} (hn:0 < n) {p:Array Nat} (h:IsPerm n p) (a b:Nat):Good n (fun r=>IsPerm n r.2) (kas_descPart a b p):=(good_desc hn _ _ _ _ h).bind fun r hr=>by
  split
  · exact good_tail hn (hr.rev _ _) _ _
  · exact good_tail hn hr _ _
theorem good_count {n:Nat} (hn:0 < n) {p:Array Nat} (h:IsPerm n p) (b:Nat):Good n (fun r=>IsPerm n r.2) (kas_count b p):=(good_asc hn h _ _).bind fun r _=>by
  split
  · exact h
  · split
    · exact ⟨h.lt hn _,h.lt hn _,fun c=>by
        cases c with
        | true=>dsimp only; rw [if_pos rfl]; exact h
        | false=>dsimp only; rw [if_neg Bool.false_ne_true]; exact good_descPart hn (h.rev _ _) _ _⟩
    · exact good_descPart hn h _ _
theorem good_place {n:Nat} (hn:0 < n) {p:Array Nat} (h:IsPerm n p) (k:Nat):∀ (f l r:Nat),Good n (fun _=>True) (kas_place p k f l r)
  | 0,l,r=>trivial
  | f+1,l,r=>by
    unfold kas_place
    split
    · exact trivial
    · exact ⟨h.lt hn _,h.lt hn _,fun c=>by
        cases c with
        | true=>dsimp only; rw [if_pos rfl]; exact good_place hn h k f _ _
        | false=>dsimp only; rw [if_neg Bool.false_ne_true]; exact good_place hn h k f _ _⟩
theorem good_bin {n:Nat} (hn:0 < n):∀ (f:Nat) (p:Array Nat) (k:Nat),IsPerm n p→Good n (IsPerm n) (kas_bin f p k)
  | 0,p,k,h=>h
  | f+1,p,k,h=>(good_place hn h k _ _ _).bind fun l _=>good_bin hn f _ _ (h.bubble _ _)
theorem good_sort {n:Nat} (hn:0 < n):Good n (IsPerm n) (kas_sort n):=(good_count hn (show IsPerm n (List.toArray (List.range n)) from List.Perm.refl _) n).bind fun r hr=>by
  split
  · exact good_bin hn _ _ _ hr
  · exact hr
section
variable {prog:Program} {w:World} {A:Around} {E:Value→Shared→Prop} {s:Shared}
theorem sorted_few {l:Addr} {vs:List Value} {Q:Value→Shared→Prop} (hl:s.heap.IsList l vs.toArray) (few:vs.length < 2) (h:Q (.ref (s.heap.objs.size+1)) { s with heap:=sortedAll s.heap vs (pairsOf vs |>.map (·.2)) }) :
    wpAny (model prog w) A (call (.builtin "sorted") [.ref l]) Q E s:=by
  refine Calls.call_function_entry kind_sorted plain_sorted entry_sorted (args_sorted1 _) ?_
  unfold Builtin.«sorted»
  refine wpAny_bind (m:=checkCount "sorted" 1 1 _) (wpAny_pure (wpAny_bind (collect_list hl (wpAny_bind (wpAny_newList ?_)))))
  have z1:((s.heap.push (seqObj "list" #[] 0)).update s.heap.objs.size (Obj.mapSeq (·++vs.toArray))).objs.size=s.heap.objs.size+1:=(Heap.size_update ..).trans (size_push' ..)
  have top:(((s.heap.push (seqObj "list" #[] 0)).update s.heap.objs.size (Obj.mapSeq (·++vs.toArray))).push (seqObj "list" vs.toArray 0)).get? (s.heap.objs.size+1)=some (seqObj "list" vs.toArray 0):=z1 ▸ Heap.get?_push_size _ rfl
  show wpAny _ _ _ _ _ { s with heap:=((s.heap.push (seqObj "list" #[] 0)).update s.heap.objs.size (Obj.mapSeq (·++vs.toArray))).push (seqObj "list" vs.toArray 0) }
  rw [z1]
  refine wpAny_bind (wpAny_holding (wpAny_call_entry slot_list_sort ⟨_,top,rfl⟩ entry_list_sort ?_ (args_list_sort _)))
  generalize hG:((s.heap.push (seqObj "list" #[] 0)).update s.heap.objs.size (Obj.mapSeq (·++vs.toArray))).push (seqObj "list" vs.toArray 0)=G at top
  generalize ha:s.heap.objs.size+1=a at top
  have lt:a < G.objs.size:=Heap.lt_size top
  rw [list_sort_plain]
  refine wpAny_bind (listItems_at (s:={ s with heap:=G }) top rfl (wpAny_bind (listUpdate_at (s:={ s with heap:=G }) top rfl ?_)))
  obtain ⟨e1,o1⟩:∃ e1,(G.update a (Obj.mapSeq fun _=>#[])).get? a=some (seqObj "list" #[] e1):=⟨_,get?_update_seq top (fun _=>#[])⟩
  refine wpAny_bind (seqEpoch_at (s:={ s with heap:=G.update a (Obj.mapSeq fun _=>#[]) }) o1 rfl (wpAny_bind (wpAny_newTuple (wpAny_bind (wpAny_newList (wpAny_holding ?_))))))
  have o6:(((G.update a (Obj.mapSeq fun _=>#[])).push (seqObj "tuple" vs.toArray 0)).push (seqObj "list" #[] 0)).get? a=some (seqObj "list" #[] e1):=Heap.get?_push_of_some _ (Heap.get?_push_of_some _ o1)
  show wpAny (model prog w) _ _ _ E { s with heap:=((G.update a (Obj.mapSeq fun _=>#[])).push (seqObj "tuple" vs.toArray 0)).push (seqObj "list" #[] 0) }
  have h2:vs.toArray.size < 2:=by first|exact few|exact List.mem_singleton.mp few|simpa using few
  dsimp only
  rw [if_pos h2,if_pos h2]
  refine wpAny_bind (wpAny_pure ?_)
  rw [StateT.run_pure]
  refine wpAny_bind (wpAny_pure (wpAny_bind (seqEpoch_at o6 rfl (wpAny_bind (listUpdate_at o6 rfl ?_ (hsz2:=?_))))))
  · simp only [bne_self_eq_false,Bool.false_eq_true,if_false]
    refine wpAny_pure ⟨_,rfl,wpAny_pure ⟨_,rfl,?_⟩⟩
    subst ha
    have e:sortedAll s.heap vs (pairsOf vs |>.map (·.2))=sortedHeap G (s.heap.objs.size+1) vs (pairsOf vs |>.map (·.2)):=by rw [← hG]; rfl
    rw [e] at h
    exact h
  · rw [Array.size_map]; show (pairsOf vs).size≤_; rw [pairsOf_size,sizeLine_eq]; (first|lia|omega)
end
section
variable {prog:Program} {w:World} {A:Around} {s:Shared} {C:Bool→Shared→Prop} {bb fn:Bool}
theorem kat_self (hC:∀ b,C b s):∀ (l:List Value) (i:Nat),KatLex prog w A bb fn C (l.zip l) i s
  | [],i=>kat_nil (hC _)
  | v::l,i=>kat_cons (SeqAt.EqAt.same v prog w _ _ (kat_yes (kat_self hC l (i+1))))
theorem kat_texts (hC:∀ b,C b s) {a b:Str} {t u:Tok} {l:List (Value×Value)} (hne:a≠b):KatLex prog w A true fn C ((.str a t,.str b u)::l) 0 s:=by
  refine kat_cons (SeqAt.EqAt.str_str a t b u prog w _ _ ?_)
  rw [show (a == b)=false from beq_eq_false_iff_ne.mpr hne]
  refine kat_no ?_
  exact oneLt_str (hC _)
end
theorem ObjOk.get {P:Program} {w:World} {H:Hp} {h:Heap} {a:Addr} {o:HO} (x:ObjOk P w H h a o):∃ u,h.get? a=some u:=by
  cases o with
  | lst xs=>obtain ⟨_,_,_,_,e⟩:=x; exact ⟨_,e⟩
  | tup xs=>obtain ⟨_,_,_,_,e,_⟩:=x; exact ⟨_,e⟩
  | dK kvs=>obtain ⟨_,_,_,_,o,_,_,e,_⟩:=x; exact ⟨_,e⟩
  | dT kvs=>obtain ⟨_,_,_,_,o,_,_,e,_⟩:=x; exact ⟨_,e⟩
  | set S n=>obtain ⟨o,_,_,_,e,_⟩:=x; exact ⟨_,e⟩
  | ins C dx fs=>obtain ⟨_,_,_,e,_⟩:=x; exact ⟨_,e⟩
  | own y=>obtain ⟨_,e⟩:=x; exact ⟨_,e⟩
  | xd fs=>obtain ⟨_,⟨_,_,_,e,_⟩,_⟩:=x; exact ⟨_,e⟩
  | rng lo hi=>obtain ⟨_,_,_,e⟩:=x; exact ⟨_,e⟩
  | frz ob u=>obtain ⟨e,_⟩:=x; exact ⟨_,e⟩
  | tbl ps=>exact ⟨_,(show h.get? a=some _ from x)⟩
  | met f y=>exact ⟨_,(show h.get? a=some _ from x)⟩
  | ext φ=>obtain ⟨_,⟨_,e⟩,_⟩:=x; exact ⟨_,e⟩
section
variable {X:Cx}
noncomputable def rSortT (K:PySem.W.Frag):List V→Hp→VK→Prop:=fun xs H Q=>∃ (p:Addr) (rows:List (Addr×Str×List V)),xs=[.ref p]∧SqL K H p (rows.map fun r=>.ref r.1)∧(∀ r ∈ rows,SqT K H r.1 (.str r.2.1::r.2.2))∧(rows.map (·.2.1)).Nodup∧rows.length < 64 ∧
  ∀ (q:Addr) (rows':List (Addr×Str×List V)),H q=none→rows'.Perm rows→Q (.ref q) (upd H q (.lst (rows'.map fun r=>.ref r.1)))
theorem vals_refs:∀ {rows:List (Addr×Str×List V)} {us:List Value},Vals (rows.map fun r=>V.ref r.1) us→us=rows.map fun r=>.ref r.1
  | [],_,.nil=>rfl
  | r::rows,_,.cons h t=>by rw [List.map_cons,vals_refs t,show _=Value.ref r.1 from h]
theorem refs_vals:∀ (rows:List (Addr×Str×List V)),Vals (rows.map fun r=>V.ref r.1) (rows.map fun r=>.ref r.1)
  | []=>.nil
  | r::rows=>.cons rfl (refs_vals rows)
theorem pick_perm {α:Type} (d:α) (xs:List α) {l:List Nat} (h:l.Perm (List.range xs.length)):(l.map fun i=>xs.getD i d).Perm xs:=by
  refine (h.map _).trans ?_
  have e:(List.range xs.length).map (fun i=>xs.getD i d)=xs:=by
    apply List.ext_getElem?
    intro i
    rw [List.getElem?_map]
    by_cases hi:i < xs.length
    · rw [List.getElem?_range hi]; simp [hi]
    · rw [List.getElem?_eq_none (by first|exact hi|exact List.mem_singleton.mp hi|simpa using hi),List.getElem?_eq_none (by first|exact hi|exact List.mem_singleton.mp hi|simpa using hi)]; rfl
  rw [e]
theorem call_sortedT:CallR X (.builtin "sorted") (rSortT X.K):=by
  intro pins s σ H xs us Q I r h
  obtain ⟨p,rows,rfl,hq,ht,hn,h64,q⟩:=h
  obtain ⟨u,rfl,rx⟩:=vals1 r
  cases rx
  obtain ⟨its,rv,pl,hz⟩:=I.list hq
  have hits:=vals_refs rv
  subst hits
  have hlen:(rows.map fun r=>Value.ref r.1).length=rows.length:=List.length_map ..
  have hzr:rows.length≤sizeLine:=by rw [sizeLine_eq]; (first|lia|omega)
  by_cases h2:rows.length < 2
  · refine sorted_few pl.isList (by rw [hlen]; exact h2) ?_
    have e0:(pairsOf (rows.map fun r=>Value.ref r.1) |>.map (·.2))=(rows.map fun r=>Value.ref r.1).toArray:=by
      apply Array.toList_inj.mp
      rw [Array.toList_map,pairsOf_toList,List.map_snd_zip (Nat.le_refl _)]
    rw [e0]
    obtain ⟨e,he⟩:=sortedAll_at s.heap (rows.map fun r=>Value.ref r.1) (rows.map fun r=>Value.ref r.1).toArray
    exact ⟨.ref (s.heap.objs.size+1),_,I.laid (t':=s.toks) (o:=.lst (rows.map fun r=>.ref r.1)) (fun b o e=>sortedAll_old e) (Nat.le_succ _) ⟨by rw [List.length_map]; exact hzr,_,e,refs_vals rows,he⟩,rfl,q _ rows (I.hok.fresh (Nat.le_succ _)) (.refl _)⟩
  · obtain ⟨m,hns,_⟩:=I.loc
    -- the tuples as they stand
    have tup:∀ r ∈ rows,∃ (o:Obj) (t:Tok) (vs:List Value) (n:Nat),s.heap.get? r.1=some o∧o.cls=.type "tuple" ∧ o.data=.seq (Value.str r.2.1 t::vs).toArray n∧r.1≠X.env.locals:=fun r hr=>by
      obtain ⟨its,rv,⟨o,ho,hc,n,hd⟩,_⟩:=I.tuple (ht r hr)
      cases rv with
      | cons r1 r2 =>
        obtain ⟨t,rfl⟩:=r1
        refine ⟨o,t,_,n,ho,hc,hd,fun z=>?_⟩
        obtain ⟨o',es,ep,ho',hd',_⟩:=hns
        rw [← z,ho] at ho'
        cases ho'
        rw [hd] at hd'; cases hd'
    refine kat_sorted (Att.fr_all hns) news_all pl.isList (by rw [hlen]; (first|lia|omega)) (by rw [hlen]; exact h64) fun D e1 h' F' N' hlt=>?_
    have kept:∀ b o,b≠X.env.locals→s.heap.get? b=some o→h'.get? b=some o:=fun b o hb e=>(N' (b,o) (List.mem_cons_of_mem _ (mem_allNews hb (Att.noObjs_get _ _) e))).1
    have nD:∀ b o,b≠X.env.locals→s.heap.get? b=some o→b < D:=fun b o hb e=>hlt (b,o) (mem_allNews hb (Att.noObjs_get _ _) e)
    have hDL:D≠X.env.locals:=(N' _ (List.mem_cons_self ..)).2.1
    have tup':∀ r ∈ rows,∃ (o:Obj) (t:Tok) (vs:List Value) (n:Nat),h'.get? r.1=some o∧o.cls=.type "tuple" ∧ o.data=.seq (Value.str r.2.1 t::vs).toArray n:=fun r hr=>by
      obtain ⟨o,t,vs,n,h1,h2,h3,h4⟩:=tup r hr
      exact ⟨o,t,vs,n,kept _ _ h4 h1,h2,h3⟩
    obtain ⟨fs,hkt,hfl,hfs⟩:∃ fs,KatTups h' (rows.map fun r=>Value.ref r.1) fs∧fs.length=rows.length∧∀ v ∈ fs,∃ x t,v=Value.str x t:=by
      clear hq hn h64 q rv pl hz hlen hzr h2 N' F' kept nD tup ht
      induction rows with
      | nil=>exact ⟨[],KatTups.nil,rfl,fun _ z=>nomatch z⟩
      | cons r rows ih =>
        obtain ⟨o,t,vs,n,h1,h2,h3⟩:=tup' r (List.mem_cons_self ..)
        obtain ⟨fs,k1,k2,k3⟩:=ih fun r hr=>tup' r (List.mem_cons_of_mem _ hr)
        refine ⟨.str r.2.1 t::fs,KatTups.cons h1 h2 h3 rfl k1,by rw [List.length_cons,List.length_cons,k2],fun v hv=>?_⟩
        rcases List.mem_cons.mp hv with rfl | hv
        · exact ⟨_,_,rfl⟩
        · exact k3 v hv
    refine kat_kind (s:={ s with heap:=h' }) (T:=.type "str") hkt (by (first|lia|omega)) (fun v hv=>?_) (by decide) ?_
    · obtain ⟨x,t,rfl⟩:=hfs v hv
      exact Looks.of_pure rfl
    rw [hlen]
    refine Good.run (n:=rows.length) (fun i j C hi hj hC=>?_) (good_sort (by (first|lia|omega))) fun pm hp=>?_
    · -- two tuples asked
      have gi:(rows.map fun r=>Value.ref r.1).getD i Value.none=.ref rows[i].1:=by simp [hi]
      have gj:(rows.map fun r=>Value.ref r.1).getD j Value.none=.ref rows[j].1:=by simp [hj]
      unfold kas_ask
      rw [gi,gj]
      obtain ⟨o,t,vs,n,a1,a2,a3⟩:=tup' rows[i] (List.getElem_mem hi)
      obtain ⟨o2,t2,vs2,n2,b1,b2,b3⟩:=tup' rows[j] (List.getElem_mem hj)
      refine kat_lt (s:={ s with heap:=h' }) a1 a3 b1 b3 ?_
      by_cases hij:i=j
      · subst hij
        rw [a1] at b1
        cases b1
        rw [a3] at b3
        injection b3 with b3 _
        rw [b3]
        exact kat_self hC _ 0
      · refine kat_texts hC fun z=>hij ?_
        have e1:(rows.map (·.2.1))[i]'(by first|exact hi|exact List.mem_singleton.mp hi|simpa using hi)=(rows.map (·.2.1))[j]'(by first|exact hj|exact List.mem_singleton.mp hj|simpa using hj):=by first|exact z|exact List.mem_singleton.mp z|simpa using z
        exact (List.getElem_inj hn).mp e1
    · -- the end
      refine KasFin.intro (s:={ s with heap:=h' }) F' N' (.head fun p hp=>Nat.ne_of_lt (hlt p hp)) fun h3 c F3 N3=>?_
      have kept3:∀ b o,b≠X.env.locals→s.heap.get? b=some o→h3.get? b=some o:=fun b o hb e=>(N3 (b,o) (List.mem_cons_of_mem _ (mem_allNews hb (Att.noObjs_get _ _) e))).1
      have hD3:=(N3 (D,_) (List.mem_cons_self ..)).1
      have hfree:s.heap.get? D=none:=by
        cases z:s.heap.get? D with
        | none=>rfl
        | some o=>exact absurd (nD D o hDL z) (Nat.lt_irrefl _)
      have hHD:H D=none:=by
        cases z:H D with
        | none=>rfl
        | some o =>
          exfalso
          have lt:=(I.hok D o z).lt
          obtain ⟨o',ho'⟩:∃ o',s.heap.get? D=some o':=ObjOk.get (I.hok D o z)
          rw [hfree] at ho'; cases ho'
      have hne:∀ b o,s.heap.get? b=some o→b≠D:=fun b o e z=>by rw [z,hfree] at e; cases e
      let rows':=pm.toList.map fun i=>rows.getD i (0, "", [])
      have hpr:rows'.Perm rows:=pick_perm _ rows hp
      have hout:(pm.toList.map fun i=>(rows.map fun r=>Value.ref r.1).getD i Value.none)=rows'.map fun r=>.ref r.1:=by
        rw [List.map_map]
        refine List.map_congr_left fun i hi=>?_
        have hi':i < rows.length:=List.mem_range.mp (hp.mem_iff.mp hi)
        simp [hi']
      rw [hout] at hD3
      have Inv3:Inv X pins σ (upd H D (.lst (rows'.map fun r=>.ref r.1))) { s with heap:=h3 }:=by
        refine I.step (g':=s.gens) (d':=s.drawn) (t':=s.toks) (ch:=[]) (fun _ z=>nomatch z) (fun b o hb _ _ e _=>kept3 b o hb e) (fun b o hb _ _ e _=>⟨o.slots,kept3 b o hb e⟩) (fun b o _ e n=>by rw [upd_ne (hne b o e)]; exact n)
          (fun b o _ e=>?_) (fun b ys e=>by rw [upd_ne (ne_of_none e hHD)]; exact e) (fun b o u e=>by rw [upd_ne (ne_of_none e hHD)]; exact e) (fun b ps e=>⟨#[],by rw [upd_ne (ne_of_none e hHD),e]; simp⟩) (fun m' hm'=>?_) ?_ I.bare
        · by_cases hb:b=X.env.locals
          · subst hb
            obtain ⟨o',_,_,ho',_⟩:=F3.ns
            exact ⟨o',ho'⟩
          · exact ⟨o,kept3 b o hb e⟩
        · have em:m'=m:=by
            funext x
            obtain ⟨o1,e1,p1,g1,d1,_,n1⟩:=hm'
            obtain ⟨o2,e2,p2,g2,d2,_,n2⟩:=hns
            rw [g1] at g2; cases g2
            rw [d1] at d2
            injection d2 with d2 _
            rw [← n1 x,← n2 x,d2]
          rw [em]; exact F3.ns
        · intro b o e
          by_cases hb:b=D
          · subst hb
            rw [upd_same] at e
            cases e
            exact ⟨by rw [List.length_map,hpr.length_eq]; exact hzr,_,c,refs_vals rows',hD3⟩
          · rw [upd_ne hb] at e
            refine (I.hok b o e).stay (fun b' u hb' q'=>kept3 b' u (fun z=>?_) q') (fun b' q'=>by rw [upd_ne (ne_of_none q' hHD)]; exact q') fun b' ys q'=>by rw [upd_ne (ne_of_none q' hHD)]; exact q'
            subst z
            rcases hb' with z | z
            · rw [← z,I.free] at e; cases e
            · rw [I.free] at z; cases z
      exact ⟨.ref D,_,Inv3,rfl,q D rows' hHD hpr⟩
end
end L2
set_option maxHeartbeats 4000000
namespace L2
open PySem PySem.Spec PyProof.Rows
theorem perm_map {α β:Type} {f:α→β}:∀ {l l':List β},l.Perm l'→∀ m:List α,l'=m.map f→∃ m':List α,m'.Perm m∧l=m'.map f:=by
  intro l l' h
  induction h with
  | nil =>
    intro m e
    have:m=[]:=by simpa using e.symm
    subst this
    exact ⟨[],.refl _,rfl⟩
  | cons x _ ih =>
    intro m e
    cases m with
    | nil=>cases e
    | cons a m =>
      simp only [List.map_cons,List.cons.injEq] at e
      obtain ⟨m',h1,h2⟩:=ih m e.2
      exact ⟨a::m',.cons a h1,by rw [List.map_cons,h2,e.1]⟩
  | swap x y l =>
    intro m e
    match m,e with
    | a::b::m,e =>
      simp only [List.map_cons,List.cons.injEq] at e
      exact ⟨b::a::m,.swap _ _ _,by rw [List.map_cons,List.map_cons,e.1,e.2.1,e.2.2]⟩
  | trans _ _ ih1 ih2 =>
    intro m e
    obtain ⟨m2,h1,h2⟩:=ih2 m e
    obtain ⟨m1,h3,h4⟩:=ih1 m2 h2
    exact ⟨m1,h3.trans h1,h4⟩
section
variable {K:PySem.W.Frag} {μ:List Nat}
noncomputable def rowNames:List D→Option (List Str)
  | []=>some []
  | .tup (.str z::_)::ds=>(rowNames ds).map (z::·)
  | _::_=>none
theorem rows_of {F:Hp} {ds:List D} {xs:List V} {zs:List Str} (h:Dens K F xs ds) (e:rowNames ds=some zs):∃ L:List ((Addr×Str×List V)×D),xs=L.map (fun r=>.ref r.1.1)∧ds=L.map (·.2)∧(∀ r ∈ L,SqT K F r.1.1 (.str r.1.2.1::r.1.2.2)∧Den K F (.ref r.1.1) r.2)∧L.map (·.1.2.1)=zs:=by
  induction ds generalizing xs zs with
  | nil=>cases h; cases e; exact ⟨[],rfl,rfl,(fun _ z=>nomatch z),rfl⟩
  | cons d ds ih =>
    cases h with
    | cons h t =>
    cases h with
    | @tup a ys es hs ht =>
      cases es with
      | nil=>exact nomatch e
      | cons c es =>
      cases c with
      | str z =>
        obtain ⟨zs',e1,rfl⟩:=Option.map_eq_some_iff.mp (show (rowNames ds).map (z::·)=some zs from e)
        obtain ⟨L,rfl,rfl,h3,h4⟩:=ih t e1
        have h':Den K F (.ref a) (.tup (.str z::es)):=.tup hs ht
        cases ht with
        | @cons _ _ zs1 _ k1 k2 =>
          have:=k1.str_eq
          subst this
          refine ⟨((a,z,zs1),.tup (.str z::es))::L,rfl,rfl,fun r hr=>?_,by rw [List.map_cons,h4]⟩
          rcases List.mem_cons.mp hr with rfl | hr
          · exact ⟨hs,h'⟩
          · exact h3 r hr
      | _=>exact nomatch e
    | _=>exact nomatch e
theorem dens_of {F:Hp}:∀ {L:List ((Addr×Str×List V)×D)},(∀ r ∈ L,Den K F (.ref r.1.1) r.2)→Dens K F (L.map fun r=>.ref r.1.1) (L.map (·.2))
  | [],_=>.nil
  | r::L,h=>.cons (h r (List.mem_cons_self ..)) (dens_of fun r hr=>h r (List.mem_cons_of_mem _ hr))
noncomputable def rSortB (P:Program) (w:World) (K:PySem.W.Frag):List V→Hp→VK→Prop:=fun xs H Q=>rSortA P w K xs H Q∨rSortT K xs H Q
theorem wc_sortB {X:Cx} (P:Program) (w:World) (K:PySem.W.Frag) (hc:X.calm=true) (hP:X.prog=P) (hw:X.w=w) (h:X.K=K):BCall X (.builtin "sorted") (rSortB P w K):=by subst h hP hw; exact ⟨((call_sortedS hc).or (call_sortedD hc)).or call_sortedT⟩
@[irreducible] noncomputable def cSortB:List D→(OV→Prop)→Prop
  | [.lst ds],P=>(match strsOf ds with
    | some zs=>zs.length < 64∧P (.fl ((sortS zs).map .str))
    | none=>(match rowNames ds with
      | some zs=>(zs.Nodup∧zs.length < 64)∧∀ ds':List D,ds'.Perm ds→P (.fl ds')
      | none=>False))
  | [.dct ks _],P=>(match keyStrs ks with
    | some zs=>zs.length < 64∧P (.fl ((sortS zs).map .str))
    | none=>False)
  | _,_=>False
theorem cf_sortB {P:Program} {w:World}:CallF K (rSortB P w K) cSortB:=⟨by
  intro F H xs ds Q Pq s ha f n
  unfold cSortB at f
  cases ds with
  | nil=>exact False.elim f
  | cons d r =>
    cases d with
    | lst ds =>
      cases r with
      | cons=>exact False.elim f
      | nil =>
        dsimp only at f
        generalize hz:strsOf ds=o at f
        cases o with
        | some zs =>
          refine .inl (cf_sort.h s ha ?_ n)
          unfold cSort
          dsimp only
          rw [hz]
          exact f
        | none =>
          dsimp only at f
          clear hz
          generalize hz:rowNames ds=o at f
          cases o with
          | none=>exact False.elim f
          | some zs =>
            obtain ⟨x,rfl,a⟩:=accs_1 ha
            obtain ⟨p,ys,rfl,h1,h2⟩:=a.asL s
            obtain ⟨L,e1,e2,h3,h4⟩:=rows_of h2 hz
            subst e1 e2
            have el:(L.map fun r=>V.ref r.1.1)=(L.map (·.1)).map fun r=>V.ref r.1:=by rw [List.map_map]; rfl
            refine .inr ⟨p,L.map (·.1),rfl,by rw [← el]; exact h1,fun r hr=>?_,by rw [List.map_map]; exact h4 ▸ f.1.1,by rw [List.length_map,← List.length_map (f:=(·.1.2.1)) (as:=L),h4]; exact f.1.2,fun q rows' hq hp=>?_⟩
            · obtain ⟨r',hr',rfl⟩:=List.mem_map.mp hr
              exact (h3 r' hr').1.same s
            · obtain ⟨L',p1,rfl⟩:=perm_map hp L rfl
              have el':((L'.map (·.1)).map fun r=>V.ref r.1)=L'.map fun r=>V.ref r.1.1:=by rw [List.map_map]; rfl
              rw [el']
              exact newq_lst s n (dens_of fun r hr=>(h3 r (p1.mem_iff.mp hr)).2) (f.2 _ (p1.map _)) q hq
    | dct ks vs =>
      cases r with
      | cons=>exact False.elim f
      | nil=>exact .inl (cf_sort.h s ha f n)
    | _=>exact False.elim f⟩
theorem ef_sortSetB {P:Program} {w:World} {te:TE} {fe:FE} (he:EF K μ te fe):EF K μ (tCB (rSortB P w K) (tCons (tCB (rSet P w K) (tCons te tNil)) tNil)) (fSortSet fe):=⟨by
  intro F Z H τ σ ρ A Q Pq vw R h q
  have:=(ef_sortSet (P:=P) (w:=w) he).h vw R h q
  refine he.h vw R h fun r ρ1 v F1 H1 A1 B1 h1 s1 R1 v1 f1=>?_
  obtain ⟨d,e1,h2⟩:=on1_ok h1
  split at h2
  · split at h2
    · rename_i zs hz
      obtain ⟨p,ys,rfl,a1,a2⟩:=(R1.acc v1 e1).asL R1.fh
      rw [strsOf_eq hz] at a2
      rw [a2.strs_eq] at a1
      refine ⟨p,zs,rfl,a1,h2.1.1,fun l τs hl hm hn _=>?_⟩
      refine .inl (.inl ⟨l,τs,rfl,.inl upd_same,?_,fun l2 ss hl2 hp hs=>?_⟩)
      · have hp:τs.Perm (setS zs):=perm_of_mem hn (setS_nodup zs) fun k=>(hm k).trans setS_mem.symm
        rw [hp.length_eq]; exact h2.1.2
      · have e:ss=setS zs:=setS_unique (hp.nodup_iff.mpr hn) (fun k=>(hp.mem_iff).trans (hm k)) (sortedS_pairwise ss hs)
        subst e
        have pu:=(Pure.new (o:=setO P w l τs) R1.fh hl).trans (Pure.new (p:=l2) (o:=.lst ((setS zs).map .str)) (R1.fh.trans (same_new hl)) hl2)
        have hl2':H1 l2=none:=(same_new hl).free hl2
        exact R1.after (P:=fun o=>Pq (.ov o) ρ1) (fun o v F3 H3 B p s3 R3 ow fr=>q _ _ _ _ _ _ _ p (s1.trans s3) R3 ow fr) _ _ F1 _ [l2] h2.2 pu (.fl upd_same (Dens.strs _)) (New.one hl2' (R1.fh.free hl2'))
    · exact h2.elim
  · exact h2.elim⟩
noncomputable def tOrT (K:PySem.W.Frag) (ta tb:TE):TE:=fun σ H Q=>ta σ H fun x H1=>∃ k,TruV K x H1 k∧if k=true then Q x H1 else tb σ H1 Q
theorem we_orT {X:Cx} {a b:Expr} {rest:List Expr} {ta tb:TE} {pos:Pos} (K:PySem.W.Frag) (ha:BE X a ta) (hb:BE X (.BoolOp .Or (b::rest) pos) tb) (hK:X.K=K):BE X (.BoolOp .Or (a::b::rest) pos) (tOrT K ta tb):=by
  subst hK
  refine ⟨fun pins s σ H Q I h=>?_⟩
  refine BoolOp_or (thn (ha.h pins s σ H _ I h) fun v s1 ⟨x,H1,I1,r1,k,e,q1⟩=>?_)
  refine thn (tru_ok pins s1 σ H1 x v (fun b H'=>b=k∧H'=H1) I1 r1 ⟨k,e,rfl,rfl⟩) fun c s2 ⟨H2,I2,ec,eh⟩=>?_
  subst ec eh
  cases c with
  | false=>exact hb.h pins s2 σ H2 Q I2 q1
  | true=>exact ⟨x,H2,I2,r1,q1⟩
noncomputable def fOrT (fa fb:FE):FE:=fun ρ Q=>fa ρ fun r ρ1=>on1 ρ1 r fun d=>match truD d with
  | some k=>br k (Q r ρ1) (fb ρ1 Q)
  | none=>False
theorem ef_orT {ta tb:TE} {fa fb:FE} (ha:EF K μ ta fa) (hb:EF K μ tb fb):EF K μ (tOrT K ta tb) (fOrT fa fb):=⟨by
  intro F Z H τ σ ρ A Q P vw R h q
  refine ha.h vw R h fun r1 ρ1 x F1 H1 A1 B1 h1 s1 R1 v1 f1=>?_
  obtain ⟨d,e1,h2⟩:=on1_ok h1
  split at h2
  · rename_i k hk
    refine ⟨k,tru_okD R1.fh (R1.acc v1 e1) hk,?_⟩
    cases k with
    | true=>exact q _ _ _ _ _ _ _ (of_T h2) s1 R1 v1 f1
    | false=>exact hb.h vw R1 (of_F h2) fun r2 ρ2 y F2 H2 A2 B2 h2 s2=>q _ _ _ _ _ _ _ h2 (s1.trans s2)
  · exact h2.elim⟩
noncomputable def fJoin (fo fe:FE):FE:=fun ρ Q=>fo ρ fun r ρ1=>on1 ρ1 r fun d=>match d with
  | .str z=>fe ρ1 fun r2 ρ2=>on1 ρ2 r2 fun d2=>(match d2 with
    | .lst ds=>(match strsOf ds with
      | some zs=>(zs.map (·.length)).sum+zs.length * z.length≤16777216∧Q (.ov (.fz (.str (Builtin.Str.glued z zs)))) ρ2
      | none=>False)
    | _=>False)
  | _=>False
theorem ef_join {to te:TE} {fo fe:FE} (ho:EF K μ to fo) (he:EF K μ te fe):EF K μ (tBM K "str" (rJoin K) to (tCons te tNil)) (fJoin fo fe):=⟨by
  intro F Z H τ σ ρ A Q P vw R h q
  refine ho.h vw R h fun r1 ρ1 x F1 H1 A1 B1 h1 s1 R1 v1 f1=>?_
  obtain ⟨d,e1,h2⟩:=on1_ok h1
  split at h2
  · rename_i z
    have ex:=(R1.acc v1 e1).str_eq
    subst ex
    refine ⟨rfl,he.h vw R1 h2 fun r2 ρ2 y F2 H2 A2 B2 h3 s2 R2 v2 f2=>?_⟩
    obtain ⟨d2,e2,h4⟩:=on1_ok h3
    split at h4
    · split at h4
      · rename_i zs hz
        obtain ⟨p,ys,rfl,a1,a2⟩:=(R2.acc v2 e2).asL R2.fh
        rw [strsOf_eq hz] at a2
        rw [a2.strs_eq] at a1
        exact ⟨z,p,zs,rfl,rfl,a1,h4.1,q _ _ _ _ _ _ [] h4.2 (s1.trans s2) R2 (.fz (.str _)) Fresh.nil⟩
      · exact h4.elim
    · exact h4.elim
  · exact h2.elim⟩
end
end L2
namespace L2
open PySem PySem.Spec PyProof.Rows
section
variable {K:PySem.W.Frag}
theorem ef_v {n j:Nat} (h:j < n):EF K (List.range n) (tVar j) (fVar j):=ef_var (by simp [h])
theorem gf_n {n j:Nat} (h:j < n):GF K (List.range n) [j] (gName j) (fgName j):=gf_name (by simp [h]) List.nodup_range
theorem ef_appV {n j:Nat} {te:TE} {fe:FE} (h:j < n) (he:EF K (List.range n) te fe):EF K (List.range n) (tBM K "list" rAppend (tVar j) (tCons te tNil)) (fApp j fe):=ef_app (by simp [h]) he
theorem ix_range {ixs:List Nat} {n:Nat} (h:ixs.all (fun j=>decide (j < n))=true):∀ j ∈ ixs,j < (List.range n).length:=fun j hj=>by
  rw [List.length_range]; exact of_decide_eq_true (List.all_eq_true.mp h j hj)
theorem notIn_of {m T:List Nat} (h:(m.all fun i=>!T.contains i)=true):∀ i ∈ m,i ∉ T:=fun i hi hT=>by
  have:=List.all_eq_true.mp h i hi
  simp [hT] at this
theorem lt_of {T:List Nat} {no:Nat} (h:(T.all fun i=>decide (i < no))=true):∀ i ∈ T,i < no:=fun i hi=>of_decide_eq_true (List.all_eq_true.mp h i hi)
theorem Fun.okG {P:Program} {w:World} {mg:Str→Option Value} {base:Heap} {x qual:Str} {st:Stmt} {f:Addr} {fd:FuncData} {N ps:List Str} {k:Nat} {c:Ct} {fs:FS} (n:Nat) (m:List Nat) (F:Fun K x qual st f fd) (S:FnScope N ps (defScope st)) (hn:N.length=n)
    (hN:ps.length≤n) (hlen:∀ os P,c os P→os.length=ps.length∧∀ j o,os[j]?=some o→j ∉ m→isFz o=true) (hm:∀ i ∈ m,i < ps.length)
    (hbody:∀ (cdv:Value) (A:Around) (outer:List Env) (s:Shared) (H:Hp) (E:XK),Room k (A.deeper (envOfC qual (defScope st) s.heap.objs.size f cdv)) →
      ∃ t,BSs (cxOf CX0 P w K mg base N qual (defScope st) f cdv A outer s H E).nox (defBody st) t∧SF K n m t fs)
    (hc:∀ os P,c os P→fs { nx:=fin m os P (.fz .non),rt:=fin m os P } (startF n os)):FnOk P w K mg base CX0 (k+1) f fd ps (spM K c):=by
  subst hn
  exact Fun.okF F S hN hlen hm hbody hc
end
end L2
set_option maxHeartbeats 4000000
namespace L2
open PySem PySem.Spec PyProof.Rows
theorem fcomp_by {fg:FG} {ft:FT} {fe:FE} {P:List D→FSt→Prop} {ds as0:List D} {ρ:FSt} (I:Nat→List D→FSt→Prop) (h0:I 0 as0 ρ)
    (hs:∀ (i:Nat) (d:D) (as:List D) (ρ:FSt) (R:List D→FSt→Prop),ds[i]?=some d→I i as ρ→(∀ as' ρ',I (i+1) as' ρ'→R as' ρ') →
      fg d ρ fun ρ1=>ft ρ1 fun b ρ2=>br b (fe ρ2 fun r ρ3=>match fzR r ρ3 with
        | some (y,ρ4)=>as.length < sizeLine∧R (as++[y]) ρ4
        | none=>False) (R as ρ2))
    (hd:∀ as ρ,I ds.length as ρ→P as ρ):fcomp fg ft fe P ds as0 ρ:=by
  have main:∀ (k i:Nat) (as:List D) (ρ:FSt),i+k=ds.length→I i as ρ→fcomp fg ft fe P (ds.drop i) as ρ:=by
    intro k
    induction k with
    | zero =>
      intro i as ρ e h
      have:i=ds.length:=by (first|lia|omega)
      subst this
      rw [List.drop_length]
      exact fcomp_nil (hd as ρ h)
    | succ k ih =>
      intro i as ρ e h
      have hi:i < ds.length:=by (first|lia|omega)
      rw [List.drop_eq_getElem_cons hi]
      exact fcomp_cons (hs i ds[i] as ρ _ (List.getElem?_eq_getElem hi) h fun as' ρ' h'=>ih (i+1) as' ρ' (by (first|lia|omega)) h')
  have:=main ds.length 0 as0 ρ (by (first|lia|omega)) h0
  rwa [List.drop_zero] at this
theorem floop_by {fg:FG} {fb:FS} {E:FEnds} {ds:List D} {ρ:FSt} (I:Nat→FSt→Prop) (h0:I 0 ρ)
    (hs:∀ (i:Nat) (d:D) (ρ:FSt) (R:FSt→Prop),ds[i]?=some d→I i ρ→(∀ ρ',I (i+1) ρ'→R ρ')→fg d ρ fun ρ1=>fb { nx:=R,ct:=R,bk:=E.nx,rt:=E.rt } ρ1)
    (hd:∀ ρ,I ds.length ρ→E.nx ρ):floop fg fb E ds ρ:=by
  have main:∀ (k i:Nat) (ρ:FSt),i+k=ds.length→I i ρ→floop fg fb E (ds.drop i) ρ:=by
    intro k
    induction k with
    | zero =>
      intro i ρ e h
      have:i=ds.length:=by (first|lia|omega)
      subst this
      rw [List.drop_length]
      exact floop_nil (hd ρ h)
    | succ k ih =>
      intro i ρ e h
      have hi:i < ds.length:=by (first|lia|omega)
      rw [List.drop_eq_getElem_cons hi]
      exact floop_cons (hs i ds[i] ρ _ (List.getElem?_eq_getElem hi) h fun ρ' h'=>ih (i+1) ρ' (by (first|lia|omega)) h')
  have:=main ds.length 0 ρ (by (first|lia|omega)) h0
  rwa [List.drop_zero] at this
theorem fwhile_by {fc:FT} {fb:FS} {E:FEnds} {ρ:FSt} (I:Nat→FSt→Prop) (n:Nat) (h0:I n ρ)
    (hs:∀ (m:Nat) (ρ:FSt) (R:FSt→Prop),I m ρ→(∀ k ρ',k < m→I k ρ'→R ρ')→fc ρ fun b ρ1=>br b (fb { nx:=R,ct:=R,bk:=E.nx,rt:=E.rt } ρ1) (E.nx ρ1)):fWhile fc fb E ρ:=by
  refine ⟨n+1,?_⟩
  have main:∀ (N m:Nat) (ρ:FSt),m < N→I m ρ→fwhile fc fb E N ρ:=by
    intro N
    induction N with
    | zero=>intro m ρ h _; (first|lia|omega)
    | succ N ih =>
      intro m ρ h hi
      exact fwhile_succ (hs m ρ _ hi fun k ρ' hk h'=>ih k ρ' (by (first|lia|omega)) h')
  exact main (n+1) n ρ (by (first|lia|omega)) h0
theorem rangeD_at {lo:Int} {n i:Nat} {d:D} (h:(rangeD lo n)[i]?=some d):i < n∧d=.int (lo+i):=by
  unfold rangeD at h
  rw [List.getElem?_map,Option.map_eq_some_iff] at h
  obtain ⟨k,h1,rfl⟩:=h
  obtain ⟨h2,h3⟩:=List.getElem?_eq_some_iff.mp h1
  rw [List.getElem_range] at h3
  rw [List.length_range] at h2
  subst h3
  exact ⟨h2,rfl⟩
theorem rangeD_len {lo:Int} {n:Nat}:(rangeD lo n).length=n:=by simp [rangeD]
theorem item_by {xs:List D} {i:Int} {Q:D→Prop} (h0:0≤i) (h:i < xs.length) (q:∀ d ∈ xs,Q d):match atI xs i with
    | some d=>Q d
    | none=>False:=by
  obtain ⟨c,h1,h2⟩:=atI_lt h0 h
  rw [h1]
  exact q c h2
theorem sign_by {xs:List Nat} {i:Int} {Q:Nat→Prop} (h0:0≤i) (h:i < xs.length) (q:∀ d ∈ xs,Q d):match atI xs i with
    | some d=>Q d
    | none=>False:=by
  obtain ⟨c,h1,h2⟩:=atI_lt h0 h
  rw [h1]
  exact q c h2
theorem dEq_str {a b:Str}:dEq (.str a) (.str b)=true↔a=b:=by
  show (a == b)=true↔_
  rw [beq_iff_eq]
theorem dEq_int {a b:Int}:dEq (.int a) (.int b)=true↔a=b:=by
  show (a == b)=true↔_
  rw [beq_iff_eq]
theorem ndEq_str {a b:Str}:(!dEq (.str a) (.str b))=true↔a≠b:=by
  rw [Bool.not_eq_true',Bool.eq_false_iff,Ne,dEq_str]
theorem eqOk_str {a b:Str}:eqOk (.str a) (.str b):=⟨rfl,rfl,Nat.zero_le _⟩
theorem eqOk_int {a b:Int}:eqOk (.int a) (.int b):=⟨rfl,rfl,Nat.zero_le _⟩
theorem inV_strs {z:Str}:∀ {zs:List Str},inV (.str z) (zs.map V.str)=true↔z ∈ zs
  | []=>by simp [inV]
  | y::zs=>by
    have ih:=inV_strs (z:=z) (zs:=zs)
    unfold inV at ih ⊢
    rw [List.map_cons,List.any_cons,Bool.or_eq_true,ih,List.mem_cons]
    have:eqV (.str y) (.str z)=true↔z=y:=by
      show (y == z)=true↔_
      rw [beq_iff_eq]; exact eq_comm
    rw [this]
theorem inD_strs {z:Str} {zs:List Str}:inD (.str z) (zs.map D.str)=true↔z ∈ zs:=by
  unfold inD
  have:(zs.map D.str).map vOf=zs.map V.str:=by rw [List.map_map]; rfl
  rw [this]
  exact inV_strs
theorem flD_strs (zs:List Str):(zs.map D.str).all flD=true:=by
  induction zs with
  | nil=>rfl
  | cons z zs ih=>exact ih
theorem hasK_strs {z:Str} {zs:List Str}:hasK (zs.map Sum.inr) (.inr z)=true↔z ∈ zs:=by
  unfold hasK
  rw [List.any_map,List.any_eq_true]
  constructor
  · rintro ⟨y,h1,h2⟩
    have:=of_decide_eq_true h2
    cases this
    exact h1
  · intro h
    exact ⟨z,h,by simp⟩
theorem strs_by {zs:List Str} {Q:List Str→Prop} (q:Q zs):match strsOf (zs.map .str) with
    | some zs=>Q zs
    | none=>False:=by
  rw [strsOf_map]; exact q
theorem bls_by {bs:List Bool} {Q:List Bool→Prop} (q:Q bs):match blsOf (bs.map .bl) with
    | some zs=>Q zs
    | none=>False:=by
  rw [blsOf_map]; exact q
theorem putD_strs {zs:List Str} {ds:List D} {z:Str} {d:D}:(putD (zs.map Sum.inr) ds (.inr z) d).1=(KS.dedup1 zs z).map Sum.inr:=by
  unfold putD KS.dedup1
  by_cases h:z ∈ zs
  · have e:((zs.map Sum.inr).any fun x=>decide (x=(Sum.inr z:Key)))=true:=hasK_strs.mpr h
    rw [if_pos e,if_pos h]
  · have e:¬ ((zs.map Sum.inr).any fun x=>decide (x=(Sum.inr z:Key)))=true:=fun q=>h (hasK_strs.mp q)
    rw [if_neg e,if_neg h,List.map_append]; rfl
theorem keys_dKey (zs:List Str):(zs.map Sum.inr).map dKey=zs.map D.str:=by rw [List.map_map]; rfl
theorem dedup_len:∀ (zs acc:List Str),(zs.foldl (fun acc z=>KS.dedup1 acc z) acc).length≤acc.length+zs.length
  | [],acc=>by simp
  | z::zs,acc=>by
    rw [List.foldl_cons,List.length_cons]
    have:=dedup_len zs (KS.dedup1 acc z)
    have:=(dedup1_len acc z).2.1
    (first|lia|omega)
theorem setS_len (zs:List Str):(setS zs).length≤zs.length:=by
  rw [setS,(sortS_perm _).length_eq]
  have:=dedup_len zs []
  simpa [dedupS] using this
theorem sort_strs {zs:List Str} {P:OV→Prop} (hl:zs.length < 64) (h:P (.fl ((sortS zs).map .str))):cSortB [.lst (zs.map .str)] P:=by
  unfold cSortB
  simp only [strsOf_map]
  exact ⟨hl,h⟩
theorem sort_rows {α:Type} {name:α→Str} {rest:α→List D} {rows:List α} {P:OV→Prop} (hn:(rows.map name).Nodup) (hl:rows.length < 64)
    (h:∀ rows':List α,rows'.Perm rows→P (.fl (rows'.map fun r=>.tup (.str (name r)::rest r)))):cSortB [.lst (rows.map fun r=>.tup (.str (name r)::rest r))] P:=by
  unfold cSortB
  cases rows with
  | nil =>
    simp only [List.map_nil,strsOf]
    refine ⟨by decide,?_⟩
    have:=h [] (.refl _)
    have e:sortS []=[]:=(sortS_perm []).eq_nil
    rw [e]; exact this
  | cons a rows =>
    simp only [List.map_cons,strsOf]
    have e:∀ l:List α,rowNames (l.map fun r=>D.tup (.str (name r)::rest r))=some (l.map name):=fun l=>by
      induction l with
      | nil=>rfl
      | cons b l ih=>exact (congrArg (Option.map (name b::·)) ih)
    have e1:=e (a::rows)
    rw [List.map_cons] at e1
    simp only [e1]
    refine ⟨⟨hn,by rw [List.length_map]; exact hl⟩,fun ds' hp=>?_⟩
    have hp':ds'.Perm ((a::rows).map fun r=>.tup (.str (name r)::rest r)):=hp
    obtain ⟨m,h1,h2⟩:=perm_map hp' (a::rows) rfl
    rw [h2]
    exact h m h1
noncomputable def fNeg (fa:FE):FE:=fun ρ Q=>fa ρ fun r ρ1=>on1 ρ1 r fun d=>match d with
  | .int i=>Q (.ov (.fz (.int (-i)))) ρ1
  | _=>False
theorem ef_neg {K:PySem.W.Frag} {μ:List Nat} {ta:TE} {fa:FE} (ha:EF K μ ta fa):EF K μ (tUn (rU fun i=>.int (-i)) ta) (fNeg fa):=⟨by
  intro F Z H τ σ ρ A Q P vw R h q
  refine ha.h vw R h fun r1 ρ1 x F1 H1 A1 B1 h1 s1 R1 v1 f1=>?_
  obtain ⟨d,e1,h2⟩:=on1_ok h1
  split at h2
  · rename_i i
    exact ⟨i,(R1.acc v1 e1).int_eq,q _ _ _ _ _ _ _ h2 s1 R1 (.fz (.int _)) Fresh.nil⟩
  · exact h2.elim⟩
theorem cutL_nat {α:Type} (xs:List α) (a b:Nat):cutL xs (some (a:Int)) (some (b:Int))=(xs.drop (min a xs.length)).take (min b xs.length - min a xs.length):=by
  unfold cutL
  rw [HT.sIx_nat,HT.sIx_nat]
theorem cutL_one {α:Type} {xs:List α} {k:Nat} (h:k+1 < xs.length):cutL xs (some ((k:Int)+1)) (some ((k:Int)+2))=[xs[k+1]]:=by
  have:=cutL_nat xs (k+1) (k+2)
  rw [show (((k+1:Nat)):Int)=(k:Int)+1 by (first|lia|omega),show (((k+2:Nat)):Int)=(k:Int)+2 by (first|lia|omega)] at this
  rw [this,Nat.min_eq_left (by (first|lia|omega)),Nat.min_eq_left (by (first|lia|omega)),List.drop_eq_getElem_cons h,show k+2 - (k+1)=1 by (first|lia|omega)]
  rfl
theorem head_by {x:D} {r:List D} {Q:D→Prop} (q:Q x):match atI (x::r) 0 with
    | some d=>Q d
    | none=>False:=by
  rw [atI_0]; exact q
end L2
set_option maxHeartbeats 4000000
namespace KS
open PySem PySem.Spec PyProof.Rows
open PySem.W
section
variable {prog:Program} {w:World} {K:Type} [DecidableEq K] {knd:KeyKind prog w K} {A:Around} {E:Value→Shared→Prop} {s:Shared}
set_option maxRecDepth 100000 in
set_option maxHeartbeats 8000000 in
theorem set_of_tuple {l:Addr} {items:Array Value} {Q:Value→Shared→Prop} (hh:A.handled=none) (hl:s.heap.IsTuple l items) (val:Nat→K)
    (hval:∀ i v,items[i]?=some v→knd.is (val i) v=true∧v.scannable=true) (hb:items.size+1 < scanBound)
    (h:∀ (h':Heap) (tk:Nat),SetZ knd h' s.heap.objs.size (metZ val items.size) (!byText w)→(∀ b o,b < s.heap.objs.size→s.heap.get? b=some o→h'.get? b=some o)→Q (.ref s.heap.objs.size) { s with heap:=h',toks:=tk }) :
    wpAny (model prog w) A (call (.type "set") [.ref l]) Q E s:=by
  obtain ⟨c,tl,hmro⟩:=F.called_set.mro
  have hmade:=F.called_set.made
  have hsub:=F.called_set.sub
  refine wpAny_call (codeAny_of_tree ?_)
  show wpAny _ _ (callAny (.type "set") _) _ _ _
  refine wpAny_pure ⟨Code.quiet_builtin _ (by decide +kernel),codeAny_builtin F.entry_type_call ?_⟩
  rw [Around.under_plain (weight_type_call_type "set" [.ref l] []) rfl]
  have h1:=F.called_set.notType
  have h2:=F.called_set.canCreate
  have hct:=F.typeCall_set_1 (.ref l)
  repeat (any_goals (first | assumption | wp_step))
  refine codeAny_mono (new_set (.ref l) (E:=E) (Q₁:=fun obj s₁=>obj=.ref s.heap.objs.size∧s₁={ s with heap:=s.heap.push (freshSet w) }) ⟨rfl,rfl⟩) fun r s₁ hr=>?_
  cases r with
  | error e=>exact hr
  | ok fl =>
    cases fl with
    | ret obj =>
      obtain ⟨rfl,rfl⟩:=hr
      have hS:(s.heap.push (freshSet w)).get? s.heap.objs.size=some (freshSet w):=Heap.get?_push_size _ rfl
      have hT:Shared.TypeIs { s with heap:=s.heap.push (freshSet w) } (.ref s.heap.objs.size) "set" := ⟨_,hS,rfl⟩
      have hli:=F.called_set.init.lookup
      have hbi:=F.called_set.init.bind (.ref s.heap.objs.size)
      repeat (any_goals (first | assumption | wp_step))
      refine codeAny_mono (codeAny_call_builtin (R:=wants (fun r s₂=>r=.none∧∃ h' tk,s₂={ s with heap:=h',toks:=tk } ∧
          SetZ knd h' s.heap.objs.size (metZ val items.size) (!byText w)∧(∀ b o,b < s.heap.objs.size→s.heap.get? b=some o→h'.get? b=some o)) E) F.called_set.init.plain F.entry_set_init (check_set_init_1 hT ?_)) fun r₂ s₂ hr₂=>?_
      · obtain ⟨ol,hol,hcl,nl,hdl⟩:=hl
        obtain ⟨ocls,odict,odata,oslots⟩:=ol
        simp only at hcl hdl
        subst hcl; subst hdl
        have hol':(s.heap.push (freshSet w)).get? l=some { cls:=.type "tuple", dict:=odict,data:=.seq items nl,slots:=oslots }:=Heap.get?_push_of_some _ hol
        have hsls:=sub_tuple_set
        have hslf:=sub_tuple_frozenset
        have hne:(Value.type "tuple" == Value.type "dict")=false:=by decide
        have hl1:(s.heap.push (freshSet w)).IsTuple l items:=⟨_,hol',rfl,nl,rfl⟩
        unfold Builtin.«set.__init__» noKeywords Builtin.Frozenset.updateFrom
        generalize hPI:pyIter=PI
        wp_walk
        subst hPI
        refine wpAny_pyIter_tuple hl1 ?_
        refine wpAny_bind (wpAny_runValue ?_)
        have hlS:l < s.heap.objs.size:=Heap.lt_size hol
        have hh3:A.in1.in1.in1.handled=none:=by simp [hh]
        have hneI:l≠(s.heap.push (freshSet w)).objs.size:=by
          rw [Heap.size_push]; exact Nat.ne_of_lt (Nat.lt_succ_of_lt hlS)
        have hSf:s.heap.objs.size ∉ [(s.heap.push (freshSet w)).objs.size,l]:=by
          rw [Heap.size_push]; simp only [List.mem_cons,List.mem_singleton,List.not_mem_nil,or_false,not_or]
          exact ⟨Nat.ne_of_lt (Nat.lt_succ_self _),Nat.ne_of_gt hlS⟩
        refine updateZ (knd:=knd) ((Walks.tuple hh3 _ l hneI items).toS) s.heap.objs.size hSf val (fun i v hv=>hval i v hv) hb (items.size - 0) 0 _ (by (first|lia|omega)) (Nat.zero_le _)
          ⟨⟨_,Heap.get?_push_size _ rfl,rfl,rfl⟩,(hl1.push _)⟩ (freshZ (Heap.get?_push_of_some _ hS)) ?hR
        case hR =>
          intro s' hm hS'
          obtain ⟨h',g',d',tk',os'⟩:=s'
          have eg:g'=s.gens:=hm.gens
          have ed:d'=s.drawn:=hm.drawn
          have eo:os'=s.os:=hm.os
          subst eg; subst ed; subst eo
          show wpAny _ _ _ _ _ _
          refine wpAny_pure ?_
          show wpAny _ _ (ret Value.none) _ _ _
          refine wpAny_pure ⟨rfl,h',tk',rfl,hS',fun b o hb e=>?_⟩
          have hb1:b≠s.heap.objs.size:=Nat.ne_of_lt hb
          have hb2:b≠(s.heap.push (freshSet w)).objs.size:=by
            rw [Heap.size_push]; exact Nat.ne_of_lt (Nat.lt_succ_of_lt hb)
          exact hm.heap b o (by simp only [List.mem_cons,List.mem_singleton,List.not_mem_nil,or_false,not_or]; exact ⟨hb1,hb2⟩) (Heap.get?_push_of_some _ (Heap.get?_push_of_some _ e))
      · cases r₂ with
        | error e=>exact hr₂
        | ok fl₂ =>
          cases fl₂ with
          | ret r =>
            obtain ⟨rfl,h',tk,rfl,hS',hk'⟩:=hr₂
            repeat (any_goals (first | assumption | wp_step))
            exact h _ _ hS' hk'
          | next=>exact hr₂.elim
          | brk=>exact hr₂.elim
          | cont=>exact hr₂.elim
    | next=>exact hr.elim
    | brk=>exact hr.elim
    | cont=>exact hr.elim
end
end KS
namespace L2
open PySem PySem.Spec PyProof.Rows
section
variable {X:Cx}
noncomputable def rSetT (P:Program) (w:World) (K:PySem.W.Frag):List V→Hp→VK→Prop:=fun xs H Q=>∃ (p:Addr) (zs:List Str),xs=[.ref p]∧SqT K H p (zs.map .str)∧zs.length+1 < scanBound ∧
  ∀ q σ,H q=none→(∀ k,k ∈ σ↔k ∈ zs)→σ.Nodup→σ.length≤zs.length→Q (.ref q) (upd H q (setO P w q σ))
theorem call_setT (hc:X.calm=true):CallR X (.type "set") (rSetT X.prog X.w X.K):=by
  intro pins s σ H xs us Q I r h
  obtain ⟨p,zs,rfl,hq,hz,q⟩:=h
  obtain ⟨u,rfl,rx⟩:=vals1 r
  cases rx
  obtain ⟨its,r',pl,hz'⟩:=I.tuple hq
  have hS:=strs_of_vals r'
  have hlen:=StrsAre.len hS
  refine KS.set_of_tuple (knd:=PySem.strKind X.prog X.w) (I.ok.hd hc) pl (fun i=>zs.getD i "") (fun i v e=>?_) (by simp only [List.size_toArray]; (first|lia|omega)) fun h' tk hZ hk=>?_
  · obtain ⟨t,rfl⟩:=strsAt (i:=i) hS (by first|exact e|exact List.mem_singleton.mp e|simpa using e)
    exact ⟨keyIs_str _ t,rfl⟩
  · have hmem:∀ k,k ∈ KS.metZ (fun i=>zs.getD i "") its.toArray.size↔k ∈ zs:=fun k=>by
      rw [KS.metZ_mem]
      simp only [List.size_toArray,hlen]
      constructor
      · rintro ⟨j,hj,rfl⟩
        rw [List.getD,List.getElem?_eq_getElem hj]; exact List.getElem_mem hj
      · intro hk
        obtain ⟨j,hj,e⟩:=List.getElem_of_mem hk
        exact ⟨j,hj,by rw [List.getD,List.getElem?_eq_getElem hj]; exact e⟩
    have hZ':=id hZ
    obtain ⟨o,es,ep,t,ho,_,_,_,_,_,_,_,hnd,_,_⟩:=hZ'
    refine ⟨.ref s.heap.objs.size,_,I.laid (t':=tk) (o:=setO X.prog X.w s.heap.objs.size (KS.metZ (fun i=>zs.getD i "") its.toArray.size)) (fun b o e=>hk b o (Heap.lt_size e) e) (Nat.le_refl _) ?_,rfl,q _ _ (I.hok.fresh (Nat.le_refl _)) hmem hnd ?_⟩
    · exact ⟨hZ,⟨o,ho⟩,fun h1 h2 z k=>KS.SetZ.at z k⟩
    · exact Nat.le_trans (KS.metZ_len _ _) (by simp only [List.size_toArray]; (first|lia|omega))
theorem wc_setT (P:Program) (w:World) (K:PySem.W.Frag) (hc:X.calm=true) (hP:X.prog=P) (hw:X.w=w) (h:X.K=K):BCall X (.type "set") (rSetT P w K):=by subst h hP hw; exact ⟨call_setT hc⟩
end
section
variable {K:PySem.W.Frag} {μ:List Nat}
noncomputable def fSortSetT (fe:FE):FE:=fun ρ Q=>fe ρ fun r ρ1=>on1 ρ1 r fun d=>match d with
  | .tup ds=>(match strsOf ds with
    | some zs=>(zs.length+1 < scanBound∧(setS zs).length < 64)∧Q (.ov (.fl ((setS zs).map .str))) ρ1
    | none=>False)
  | _=>False
theorem ef_sortSetT {P:Program} {w:World} {te:TE} {fe:FE} (he:EF K μ te fe):EF K μ (tCB (rSortB P w K) (tCons (tCB (rSetT P w K) (tCons te tNil)) tNil)) (fSortSetT fe):=⟨by
  intro F Z H τ σ ρ A Q Pq vw R h q
  refine he.h vw R h fun r ρ1 v F1 H1 A1 B1 h1 s1 R1 v1 f1=>?_
  obtain ⟨d,e1,h2⟩:=on1_ok h1
  split at h2
  · split at h2
    · rename_i zs hz
      obtain ⟨p,ys,rfl,a1,a2⟩:=(R1.acc v1 e1).asT R1.fh
      rw [strsOf_eq hz] at a2
      rw [a2.strs_eq] at a1
      refine ⟨p,zs,rfl,a1,h2.1.1,fun l τs hl hm hn _=>?_⟩
      refine .inl (.inl ⟨l,τs,rfl,.inl upd_same,?_,fun l2 ss hl2 hp hs=>?_⟩)
      · have hp:τs.Perm (setS zs):=perm_of_mem hn (setS_nodup zs) fun k=>(hm k).trans setS_mem.symm
        rw [hp.length_eq]; exact h2.1.2
      · have e:ss=setS zs:=setS_unique (hp.nodup_iff.mpr hn) (fun k=>(hp.mem_iff).trans (hm k)) (sortedS_pairwise ss hs)
        subst e
        have pu:=(Pure.new (o:=setO P w l τs) R1.fh hl).trans (Pure.new (p:=l2) (o:=.lst ((setS zs).map .str)) (R1.fh.trans (same_new hl)) hl2)
        have hl2':H1 l2=none:=(same_new hl).free hl2
        exact R1.after (P:=fun o=>Pq (.ov o) ρ1) (fun o v F3 H3 B p s3 R3 ow fr=>q _ _ _ _ _ _ _ p (s1.trans s3) R3 ow fr) _ _ F1 _ [l2] h2.2 pu (.fl upd_same (Dens.strs _)) (New.one hl2' (R1.fh.free hl2'))
    · exact h2.elim
  · exact h2.elim⟩
end
end L2
set_option maxHeartbeats 4000000
namespace L2
open PySem PySem.Spec PyProof.Rows
section
variable {X:Cx}
end
section
variable {K:PySem.W.Frag} {μ:List Nat}
end
end L2
set_option maxHeartbeats 4000000
namespace L2
open PySem PySem.Spec PyProof.Rows
section
variable {X:Cx}
end
section
variable {K:PySem.W.Frag} {μ:List Nat}
end
section
variable {X:Cx}
end
section
variable {K:PySem.W.Frag} {μ:List Nat}
end
end L2
set_option maxHeartbeats 4000000
namespace L2
open PySem PySem.Spec PyProof.Rows
section
variable {K:PySem.W.Frag} {μ:List Nat}
end
end L2
set_option maxHeartbeats 4000000
namespace L2
open PySem PySem.Spec PyProof.Rows
section
variable {X:Cx}
end
section
variable {K:PySem.W.Frag}
end
end L2
namespace L2
open PySem PySem.Spec PyProof.Rows
section
variable {X:Cx}
end
section
variable {K:PySem.W.Frag}
end
end L2
set_option maxHeartbeats 4000000
namespace L2
open PySem PySem.Spec PyProof.Rows
section
variable {X:Cx} {pins:List (Addr×Obj)} {σ:St} {H:Hp} {s:Shared} {tg:Expr}
end
section
variable {K:PySem.W.Frag} {μ:List Nat}
end
theorem ws_never {X:Cx} {st:Stmt}:BS X st tNever:=⟨ps_never⟩
noncomputable def fNever:FS:=fun _ _=>False
theorem sf_never {K:PySem.W.Frag} {n:Nat} {m:List Nat}:SF K n m tNever fNever:=⟨fun _ _ _ h=>h.elim⟩
theorem if_join {c:FT} {f g:FS} {E:FEnds} {ρ:FSt} (I:FSt→Prop) (rest:∀ ρ,I ρ→E.nx ρ) (h:(∀ ρ,I ρ→E.nx ρ)→c ρ fun b ρ1=>br b (f E ρ1) (g E ρ1)):fIf c f g E ρ:=if_go (h rest)
noncomputable def fExt (i:Nat) (fe:FE):FE:=fun ρ Q=>(unL ρ i).isSome=true∧fe ρ fun r ρ1=>match r with
  | .ov (.fl es)=>(match unL ρ1 i with
    | some ds=>ds.length+es.length≤sizeLine∧Q (.ov (.fz .non)) (ρ1.set i (some (.fl (ds++es))))
    | none=>False)
  | _=>False
section
variable {K:PySem.W.Frag} {μ:List Nat}
theorem ef_ext {i j:Nat} {te:TE} {fe:FE} (hj:μ[j]?=some i) (he:EF K μ te fe):EF K μ (tBM K "list" rExtend (tVar j) (tCons te tNil)) (fExt i fe):=⟨by
  intro F Z H τ σ ρ A Q P vw R h q
  obtain ⟨h0,h⟩:=h
  obtain ⟨ds0,e0⟩:=Option.isSome_iff_exists.mp h0
  obtain ⟨a,xs,h1,h2,h3,_⟩:=R.mutL e0
  refine ⟨.ref a,(vw j i hj).1.trans h1,.inl ⟨rfl,xs,SqL.of h2⟩,?_⟩
  refine he.h vw R h fun r ρ1 v F1 H1 A1 B1 p1 s1 R1 v1 f1=>?_
  split at p1
  · rename_i es
    split at p1
    · rename_i ds e3
      obtain ⟨a',xs',h1',h2',h3',mt⟩:=R1.mutL e3
      rw [h1] at h1'
      cases h1'
      cases v1 with
      | @fl b ys _ hb dn =>
        obtain ⟨A3,R3⟩:=mt (xs'++ys) (ds++es) (h3'.append dn)
        exact ⟨a,b,xs',ys,rfl,rfl,h2',hb,by rw [h3'.length,dn.length]; exact p1.1,q _ _ _ _ _ _ _ p1.2 s1 R3 (.fz .non) Fresh.nil⟩
    · exact p1.elim
  · exact p1.elim⟩
theorem ef_extV {n j:Nat} {te:TE} {fe:FE} (h:j < n) (he:EF K (List.range n) te fe):EF K (List.range n) (tBM K "list" rExtend (tVar j) (tCons te tNil)) (fExt j fe):=ef_ext (by simp [h]) he
end
end L2
set_option maxHeartbeats 4000000
namespace L2
open PySem PySem.Spec PyProof.Rows PyProof.Rows
noncomputable abbrev bmV:List Value:=[.type "ValueError", .type "Exception", .type "BaseException", .type "object"]
noncomputable def isExcIn (K:PySem.W.Frag) (C:Addr):Prop:=PySem.W.excIn K C bmV "ValueError.__new__" = true
noncomputable def exP (f:Addr→List Value→Option Value→Option Value→Option Value→Option Value→String→Option Value→Bool) (m:List Value) (sl:List (Option Value)):Prop:=∃ C bm a0 a1 a2 a3 n a5,m=.ref C::bm∧sl=[a0,a1,a2,a3,some (.builtin n),a5]∧f C bm a0 a1 a2 a3 n a5=true
noncomputable def exQ (f:Option Addr→ClassData→Array (Option Value)→Bool) (o:Option Obj):Prop:=∃ dd cd sl,o=some ⟨.type "type", dd,.cls cd,sl⟩∧f dd cd sl=true
theorem exc_m1 {m:List Value} {sl:List (Option Value)} {f:Addr→List Value→Option Value→Option Value→Option Value→Option Value→String→Option Value→Bool} (q:PySem.W.excIn.match_1 (fun _ _=>Bool) m sl f (fun _ _=>false)=true):exP f m sl:=by
  obtain _ | ⟨v,bm⟩:=m
  · exact (Bool.false_ne_true q).elim
  cases v
  case ref C =>
    obtain _ | ⟨a0,sl⟩:=sl
    · exact (Bool.false_ne_true q).elim
    obtain _ | ⟨a1,sl⟩:=sl
    · exact (Bool.false_ne_true q).elim
    obtain _ | ⟨a2,sl⟩:=sl
    · exact (Bool.false_ne_true q).elim
    obtain _ | ⟨a3,sl⟩:=sl
    · exact (Bool.false_ne_true q).elim
    obtain _ | ⟨a4,sl⟩:=sl
    · exact (Bool.false_ne_true q).elim
    obtain _ | a4:=a4
    · exact (Bool.false_ne_true q).elim
    cases a4
    case builtin n =>
      obtain _ | ⟨a5,sl⟩:=sl
      · exact (Bool.false_ne_true q).elim
      obtain _ | _:=sl
      · exact ⟨_,_,_,_,_,_,_,_,rfl,rfl,q⟩
      · exact (Bool.false_ne_true q).elim
    all_goals exact (Bool.false_ne_true q).elim
  all_goals exact (Bool.false_ne_true q).elim
theorem exc_m6 {o:Option Obj} {f:Option Addr→ClassData→Array (Option Value)→Bool} (q:PySem.W.excIn.match_6 (fun _=>Bool) o f (fun _=>false)=true):exQ f o:=by
  obtain _ | ⟨c,dd,data,sl⟩:=o
  · exact (Bool.false_ne_true q).elim
  cases c
  case type t =>
    by_cases ht:t = "type"
    · subst ht
      cases data
      case cls cd=>exact ⟨_,_,_,rfl,q⟩
      all_goals exact (Bool.false_ne_true q).elim
    · unfold PySem.W.excIn.match_6 at q
      change dite (t = "type") _ _=true at q
      rw [dif_neg ht] at q
      exact (Bool.false_ne_true q).elim
  all_goals exact (Bool.false_ne_true q).elim
theorem exc_eq {dd:Option Addr} {cd:ClassData} {sl:Array (Option Value)} {C:Addr} {bm:List Value} {a0 a1 a2 a3 a5:Option Value} {n:String} (e1:cd.mro=.ref C::bm) (e2:sl.toList=[a0,a1,a2,a3,some (.builtin n),a5]) (e3:cd.hasDel=false) :
    (⟨.type "type", dd,.cls cd,sl⟩:Obj)=excClassObj cd.name cd.qualname C cd.ns cd.bases bm cd.hasDict cd.slotNames cd.subclasses cd.abstract cd.collection dd a0 a1 a2 a3 a5 n:=by
  cases cd; cases sl; cases e1; cases e2; cases e3; rfl
theorem exc_obj {K:PySem.W.Frag} {h:Heap} {C:Addr} (X:K.In h) (q:isExcIn K C):∃ (bm:List Value) (N:Addr) (nm qn:Str) (bs:List Value) (hd:Bool) (sn:List Str) (sub:List Value) (ab:Bool) (col:Option Bool) (dd:Option Addr) (k0 k1 k2 k3 k5:Option Value) (mN:Str→Option Value),
    h.get? C=some (excClassObj nm qn C N bs bm hd sn sub ab col dd k0 k1 k2 k3 k5 "ValueError.__new__")∧h.Ns N mN∧mN "__init__" = none∧OwnTail h bmV bm:=by
  obtain ⟨dd,cd,sl,lk,q⟩:=exc_m6 q
  obtain ⟨C2,bm,a0,a1,a2,a3,n,a5,e1,e2,q⟩:=exc_m1 q
  have w1:=Bool.and_eq_true_iff.mp q
  have w2:=Bool.and_eq_true_iff.mp w1.1
  have w3:=Bool.and_eq_true_iff.mp w2.1
  have w4:=Bool.and_eq_true_iff.mp w3.1
  have w5:=Bool.and_eq_true_iff.mp w4.1
  have f1:C2=C:=eq_of_beq w5.1
  have f2:n = "ValueError.__new__" := eq_of_beq w5.2
  exact ⟨_,_,_,_,_,_,_,_,_,_,_,_,_,_,_,_,_,X _ _ (lk.trans (congrArg some (exc_eq (f1 ▸ e1) (f2 ▸ e2) ((Bool.not_eq_true' _).mp w4.2)))),.of_isNs (PySem.W.isNs_of_in X w2.2),PySem.W.nsMap_none_of_in X w2.2 (eq_of_beq w1.2),PySem.W.tail_of_in X w3.2⟩
noncomputable def CXr (P:Program) (w:World):CXT:=fun outer H s E e s'=>∃ (ea C:Addr) (a0:Value) (B:Heap) (H':Hp),e=.ref ea∧Heap.FlyingW B outer ea (.ref C) a0 s'.heap∧HOk P w H' B∧Same H H' ∧
  (∀ b o,s.heap.get? b=some o→H b=none→b ∉ frs outer→B.get? b=some o)∧(∀ b o,s.heap.get? b=some o→H b=none→H' b=none)∧(∀ b ∈ frs outer,∀ o,s.heap.get? b=some o→∃ sl,s'.heap.get? b=some { o with slots:=sl }) ∧
  s'.os=s.os∧AllBare s'.gens∧H' ea=none∧s.heap.get? ea=none∧E (.ref C) none H'
theorem objOk_there {P:Program} {w:World} {H:Hp} {h:Heap} {a:Addr} {o:HO} (x:ObjOk P w H h a o):∃ u,h.get? a=some u:=by
  cases o with
  | lst xs=>obtain ⟨_,_,_,_,e⟩:=x; exact ⟨_,e⟩
  | tup xs=>obtain ⟨_,_,_,⟨_,e,_⟩⟩:=x; exact ⟨_,e⟩
  | dK kvs=>obtain ⟨_,_,_,_,o,_,_,e,_⟩:=x; exact ⟨_,e⟩
  | dT kvs=>obtain ⟨_,_,_,_,o,_,_,e,_⟩:=x; exact ⟨_,e⟩
  | set S n=>obtain ⟨o,_,_,_,e,_⟩:=x; exact ⟨_,e⟩
  | ins C dx fs=>obtain ⟨_,_,_,e,_⟩:=x; exact ⟨_,e⟩
  | own y=>exact x
  | xd fs=>obtain ⟨_,⟨_,_,_,e,_⟩,_⟩:=x; exact ⟨_,e⟩
  | rng lo hi=>obtain ⟨_,_,_,e⟩:=x; exact ⟨_,e⟩
  | frz ob u=>obtain ⟨e,_⟩:=x; exact ⟨_,e⟩
  | tbl ps=>exact ⟨_,(show h.get? a=some _ from x)⟩
  | met f y=>exact ⟨_,(show h.get? a=some _ from x)⟩
  | ext φ=>obtain ⟨_,e,_⟩:=x; exact e
section
variable {X:Cx} {pins:List (Addr×Obj)} {σ:St} {H:Hp} {s:Shared}
theorem ps_raise {x:Str} {C:Addr} {e:Expr} {np cpos pos:Pos} {te:TE} (G:Hp→Prop) (hc:X.calm=true) (hm:X.mg x=some (.ref C)) (hx:isExcIn X.K C) (he:PE X e te)
    (hE:∀ pins σ H s h' ea args,Inv X pins σ H s→G H→Heap.MadeExcOf s.heap h' ea (.ref C) args→X.xe (.ref ea) { s with heap:=h' })
    (hg:autoParam (Gl X x) L2.aR._auto_1) (hdb:autoParam ((x == ("__debug__" : Str))=false) L2.aD._auto_1) (hs:autoParam (starEach [e] X.env=[(false,eval e X.env)]) L2.aR._auto_1) :
    PS X (.Raise (some (.Call (.Name x np) [e] [] cpos)) none pos) (fun _ σ H=>te σ H fun x H'=>[x].length=1∧G H'):=by
  intro pins s σ H D I h
  obtain ⟨bm,N,nm,qn,bs,hd,sn,sub,ab,col,dd,k0,k1,k2,k3,k5,mN,hC,hN,hni,T⟩:=exc_obj I.mod.kin hx
  refine wpAny_Raise_call_subT (C:=C) (nm:=nm) (q:=qn) (N:=N) (bs:=bs) (bm:=bm) (hdct:=hd) (sn:=sn) (sub:=sub) (ab:=ab) (col:=col) (dd:=dd) (k0:=k0) (k1:=k1) (k2:=k2) (k3:=k3) (k5:=k5)
    PySem.F.excBase_ValueError (mN:=mN) (T.hasType PySem.F.excBase_ValueError.hasBase) (I.ok.hd hc) (by rw [hs]; rfl) hni (ld_glob I hg hm ⟨rfl,?_⟩ hdb)
  have ha:PA X [e] (tCons te tNil):=pa_cons he pa_nil hs
  have hp:=ha cpos pins s σ H (fun vs H'=>vs.length=1∧G H') I h
  rw [hs] at hp ⊢
  refine Calls.evalArgs_plain (thn hp fun us s2 ⟨vs,H2,I2,r2,hl,g2⟩=>?_)
  exact ⟨rfl,by rw [← r2.length,hl]; decide,I2.bk _ _ hC,hN.keeps I2.bk,T.keeps I2.bk,fun h' ea hm'=>hE pins σ H2 s2 h' ea us I2 g2 hm'⟩
theorem frames_hide {base h:Heap} {as:List Addr}:∀ {l:List Env},h.FunFrames base l→(∀ b ∈ frs l,b ∈ as)→h.FunFrames (PySem.W.hideAll h as) l
  | [],_,_=>trivial
  | env::r,⟨q1,⟨L,o,q2,_,q3,q4⟩,q5⟩,hin=>⟨q1,⟨L,o,q2,PySem.W.hideAll_none _ (hin L (by unfold frs; rw [List.filterMap_cons,q2]; exact List.mem_cons_self ..)),q3,q4⟩,frames_hide q5 fun b hb=>hin b (by
    unfold frs
    rw [List.filterMap_cons,q2]
    exact List.mem_cons_of_mem _ hb)⟩
theorem hok_hide {P:Program} {w:World} {H:Hp} {h:Heap} {as:List Addr} (x:HOk P w H h) (n:∀ b ∈ as,H b=none):HOk P w H (PySem.W.hideAll h as):=fun a o e =>
  (x a o e).stay (fun b u hb q=>PySem.W.hideAll_get _ q fun z=>by
    have hn:=n b z
    rcases hb with hb | hb
    · rw [hb,e] at hn; cases hn
    · rw [hb] at hn; cases hn) (fun _ q=>q) fun _ _ q=>q
theorem raise_leaves {P:Program} {w:World} {K:PySem.W.Frag} {mg:Str→Option Value} {base:Heap} {N:List Str} {qual:Str} {scope:Scope} {f:Addr} {cd:Value} {A:Around} {outer:List Env} {s0 s:Shared} {H0 H:Hp} {E:XK} {C ea:Addr} {h':Heap} {args:List Value} {pins:List (Addr×Obj)} {σ:St}
    (hE:∀ H',Same H0 H'→E (.ref C) none H') (I:Inv (cxOf (CXr P w) P w K mg base N qual scope f cd A outer s0 H0 E) pins σ H s) (g:Same H0 H) (m:Heap.MadeExcOf s.heap h' ea (.ref C) args) :
    (cxOf (CXr P w) P w K mg base N qual scope f cd A outer s0 H0 E).xe (.ref ea) { s with heap:=h' }:=by
  have hfr:(A.deeper (envOfC qual scope s0.heap.objs.size f cd)).frames=some (envOfC qual scope s0.heap.objs.size f cd::outer):=I.ok.frames
  have hst:=I.stack
  have hsf:=I.stkFree
  have hbase:Un (frs outer) [] H0 H s0.heap s.heap:=I.base
  have hfunO:s0.heap.FunFrames base outer:=I.ok.funs
  have hfrf:∀ b ∈ frs outer,H0 b=none:=I.ok.frf
  show wpAny (model P w) (A.deeper (envOfC qual scope s0.heap.objs.size f cd)) (leaving (envOfC qual scope s0.heap.objs.size f cd) (.ref ea)) (fun _ s''=>CXr P w outer H0 s0 E (.ref ea) s'') (fun e' s''=>CXr P w outer H0 s0 E e' s'') { s with heap:=h' }
  have hEa:s.heap.get? ea=none:=m.new
  have hLs:s0.heap.objs.size≤(envOfC qual scope s0.heap.objs.size f cd).locals:=I.ok.above
  refine wpAny_leaves_madeW (base:=PySem.W.hideAll s.heap (frs (envOfC qual scope s0.heap.objs.size f cd::outer))) hfr rfl (fun b o q=>PySem.W.of_hideAll _ q) (frames_hide hst fun _ q=>q) m fun h2 t fl tup tn up=>?_
  refine ⟨ea,C,.ref t,_,H,rfl,fl,hok_hide I.hok hsf,g,fun b o q n hb=>?_,fun b o q n=>hbase.free b o q n (by simp),fun b hb o q=>?_,I.os,I.bare,?_,?_,hE H g⟩
  · refine PySem.W.hideAll_get _ (hbase.keep b o q n hb (by simp)) fun z=>?_
    unfold frs at z
    rw [List.filterMap_cons] at z
    rcases List.mem_cons.mp z with e | e
    · have hlt:=Heap.lt_size q
      rw [show b=s0.heap.objs.size from e] at hlt
      exact absurd hlt (Nat.lt_irrefl _)
    · exact hb e
  · obtain ⟨sl,q1⟩:=hbase.slot b o q (hfrf b hb) hb (by simp)
    obtain ⟨_,o',q2,q3⟩:=hfunO.mem hb
    rw [q] at q2
    cases q2
    obtain ⟨sl2,q4⟩:=up b _ (m.keeps b _ q1) q3
    exact ⟨sl2,q4⟩
  · cases q:H ea with
    | none=>rfl
    | some u =>
      have:=I.hok.lt q
      obtain ⟨o,ho⟩:=(show ∃ o,s.heap.get? ea=some o from objOk_there (I.hok ea u q))
      rw [hEa] at ho; cases ho
  · cases q:s0.heap.get? ea with
    | none=>rfl
    | some o =>
      obtain ⟨o',ho'⟩:=hbase.there ea o q (by simp)
      rw [hEa] at ho'; cases ho'
end
structure SFX (K:PySem.W.Frag) (n:Nat) (m:List Nat) (G:Hp→Prop) (t:TS) (f:FS):Prop where
  h:∀ {F Z H:Hp} {σ0 σ:St} {ρ:FSt} {A:List Addr} {D:Ends} {fD:FEnds},(∀ H',Same F H'→Same Z H'→G H')→Rel K F Z H σ ρ A→Pin n m σ0 σ→EndsOk K n m F Z σ0 D fD→f fD ρ→t D σ H
noncomputable def fRaise:FS:=fun _ _=>True
section
variable {K:PySem.W.Frag} {n:Nat} {m:List Nat} {G:Hp→Prop}
theorem SF.x {t:TS} {f:FS} (h:SF K n m t f):SFX K n m G t f:=⟨fun _=>h.h⟩
theorem sfx_raise {v:V}:SFX K n m G (fun _ σ H=>tC v σ H fun x H'=>[x].length=1∧G H') fRaise:=⟨fun g R _ _ _=>⟨rfl,g _ R.fh R.zh⟩⟩
theorem sfx_seq {t u:TS} {f g:FS} (h1:SFX K n m G t f) (h2:SFX K n m G u g):SFX K n m G (tSeq t u) (fSeq f g):=⟨fun {F Z H σ0 σ ρ A D fD} gg R p E h =>
  h1.h (fD:={ fD with nx:=fun ρ'=>force ρ' (g fD) }) gg R p ⟨fun F' H' σ' ρ' A' s R' p' q=>h2.h (fun H2 a b=>gg H2 (s.trans a) b) R' p' (E.mono s) ((force_is ρ' (g fD)).mp q),E.rt,E.bk,E.ct⟩ h⟩
end
noncomputable def spR (K:PySem.W.Frag) (cr:List D→Prop) (C:Addr):Sp:=fun vs H Q E=>∃ (F:Hp) (ds:List D),Same F H∧Dens K F vs ds∧cr ds∧∀ H',Same H H'→E (.ref C) none H'
theorem ows_fz {K:PySem.W.Frag} {F H:Hp} {vs:List V} {ds:List D} (h:Dens K F vs ds):Ows K F H vs (ds.map .fz) [] :=
  Dens.rec (motive_1:=fun _ _ _=>True) (motive_2:=fun vs ds _=>Ows K F H vs (ds.map .fz) []) trivial (fun _=>trivial) (fun _=>trivial) (fun _=>trivial) (fun _=>trivial) (fun _ _ _=>trivial) (fun _ _ _=>trivial) (fun _ _ _ _=>trivial) (fun _ _ _=>trivial) .nil (fun h _ _ t=>.cons (A:=[]) (B:=[]) (.fz h) t) h
theorem Fun.okX {P:Program} {w:World} {K:PySem.W.Frag} {mg:Str→Option Value} {base:Heap} {x qual:Str} {st:Stmt} {f:Addr} {fd:FuncData} {N ps:List Str} {k:Nat} {cr:List D→Prop} {C:Addr} {fs:FS} (F:Fun K x qual st f fd) (S:FnScope N ps (defScope st))
    (hlen:∀ ds,cr ds→ds.length=ps.length) (hpl:ps.length≤N.length)
    (hbody:∀ (cdv:Value) (A:Around) (outer:List Env) (s:Shared) (H:Hp) (E:XK),Room k (A.deeper (envOfC qual (defScope st) s.heap.objs.size f cdv)) →
      (∀ pins σ H1 s1 h' ea args,Inv (cxOf (CXr P w) P w K mg base N qual (defScope st) f cdv A outer s H E) pins σ H1 s1→Same H H1→Heap.MadeExcOf s1.heap h' ea (.ref C) args→(cxOf (CXr P w) P w K mg base N qual (defScope st) f cdv A outer s H E).xe (.ref ea) { s1 with heap:=h' }) →
      ∃ t,BSs (cxOf (CXr P w) P w K mg base N qual (defScope st) f cdv A outer s H E) (defBody st) t∧SFX K N.length [] (Same H) t fs)
    (hc:∀ ds,cr ds→fs { nx:=fun _=>False,rt:=fun _ _=>False } (startF N.length (ds.map .fz))):FnOk P w K mg base (CXr P w) (k+1) f fd ps (spR K cr C):=by
  obtain ⟨oc,od,kV,doc,pm,an,cdv,ct,osl,rfl,lk,hcd⟩:=F.ex
  refine fn_of lk hcd S (fun vs H Q E h=>?_) fun A outer s H vs Q E hr hsp=>?_
  · obtain ⟨F1,ds,_,hd,hcc,_⟩:=h
    rw [hd.length]; exact hlen ds hcc
  · obtain ⟨F1,ds,sf,hd,hcc,hE⟩:=hsp
    obtain ⟨t,ht,hs⟩:=hbody cdv A outer s H E hr fun pins σ H1 s1 h' ea args I g m=>raise_leaves hE I g m
    refine ⟨t,ht.h,?_⟩
    have hl:=hlen ds hcc
    have hvl:=hd.length
    obtain ⟨Z,z1,z2⟩:∃ Z:Hp,(∀ b,F1 b=none→Z b=H b)∧∀ b o,F1 b=some o→Z b=none:=by
      classical
      exact ⟨fun b=>if F1 b=none then H b else none,fun b hb=>if_pos hb,fun b o hb=>if_neg (by rw [hb]; exact fun z=>nomatch z)⟩
    have sz:Same Z H:=fun b o z=>by
      cases q:F1 b with
      | none=>rw [z1 b q] at z; exact z
      | some u=>rw [z2 b u q] at z; cases z
    have hn:(start N vs).length=N.length:=by unfold start; simp; (first|lia|omega)
    have R:Rel K F1 Z H (start N vs) (startF N.length (ds.map .fz)) []:=by
      refine ⟨?_,List.nodup_nil,(fun _ z=>nomatch z),sf,sz,z2⟩
      unfold start startF
      rw [hvl,List.length_map]
      exact Slots.of_ows _ (ows_fz hd)
    refine hs.h (fD:={ nx:=fun _=>False,rt:=fun _ _=>False }) (fun H' a b=>fun c o hc=>?_) R (Pin.refl hn) ⟨fun _ _ _ _ _ _ _ _ z=>z.elim,fun _ _ _ _ _ _ _ _ _ _ _ _ _ z=>z.elim,fun _ _ _ _ _ _ _ _ z=>z.elim,fun _ _ _ _ _ _ _ _ z=>z.elim⟩ (hc ds hcc)
    cases q:F1 c with
    | none=>exact b c o (by rw [z1 c q]; exact hc)
    | some u =>
      have e:=sf c u q
      rw [hc] at e
      cases e
      exact a c _ q
end L2
set_option maxHeartbeats 4000000
namespace L2
open PySem PySem.Spec PyProof.Rows
section
variable {X:Cx} {pins:List (Addr×Obj)} {σ:St} {H:Hp} {s:Shared}
theorem PS.nox {st:Stmt} {t:TS} (h:PS X.nox st t):PS X st t:=fun pins s σ H D I hw =>
  wpAny_mono (h pins s σ H D (I.wish _) hw) (fun _ _ q=>q.unwish) fun _ _ z=>False.elim z
theorem ws_nox {st:Stmt} {t:TS} (h:BS X.nox st t):BS X st t:=⟨PS.nox h.h⟩
theorem ws_raise {x:Str} {C:Addr} {e:Expr} {np cpos pos:Pos} {te:TE} (G:Hp→Prop) (hc:X.calm=true) (hm:X.mg x=some (.ref C)) (hx:isExcIn X.K C) (he:BE X e te)
    (hE:∀ pins σ H s h' ea args,Inv X pins σ H s→G H→Heap.MadeExcOf s.heap h' ea (.ref C) args→X.xe (.ref ea) { s with heap:=h' })
    (hg:Gl X x) (hdb:(x == ("__debug__" : Str))=false) (hs:starEach [e] X.env=[(false,eval e X.env)]) :
    BS X (.Raise (some (.Call (.Name x np) [e] [] cpos)) none pos) (fun _ σ H=>te σ H fun x H'=>[x].length=1∧G H'):=⟨ps_raise G hc hm hx he.h hE hg hdb hs⟩
theorem run_raise {k:Nat} {f C:Addr} {fd:FuncData} {ps:List Str} {cr:List D→Prop} {us:List Value} {vs:List V} {E:XK} {Q:Value→Shared→Prop} {W:Value→Shared→Prop} (F:FnOk X.prog X.w X.K X.mg X.base (CXr X.prog X.w) k f fd ps (spR X.K cr C)) (hr:Room k X.A) (hb:Binds X.K fd ps [])
    (I:Inv X pins σ H s) (r:Vals vs us) (h:spR X.K cr C vs H (fun _ _=>False) E) (hW:∀ e s',CXr X.prog X.w X.stack H s E e s'→W e s'):wpAny (model X.prog X.w) X.A (call (.ref f) us) Q W s:=by
  have hl:(us++[]).length=ps.length:=by rw [List.append_nil,← r.length]; exact F.len _ _ _ _ h
  have hbt:=hb s us I.kIn hl
  rw [List.append_nil] at hbt
  refine wpAny_call (codeAny_mono (F.run X.A X.stack s H ⟨us,[]⟩ us vs _ E hr I.env0 hbt r h) fun r s' hq=>?_)
  cases r with
  | error e=>exact hW e s' hq
  | ok fl =>
    cases fl with
    | ret u =>
      obtain ⟨v,H',_,_,_,_,_,q⟩:=(show CE _ _ _ _ _ _ _ _ from hq)
      exact q.elim
    | next=>exact False.elim hq
    | brk=>exact False.elim hq
    | cont=>exact False.elim hq
theorem call_raise {k:Nat} {f C:Addr} {fd:FuncData} {ps:List Str} {cr:List D→Prop} {x:Str} {p pos:Pos} {e:Expr} {es:List Expr} {t:TA} {E:XK} {Q:Value→Shared→Prop} {W:Value→Shared→Prop} (F:FnOk X.prog X.w X.K X.mg X.base (CXr X.prog X.w) k f fd ps (spR X.K cr C)) (hr:Room k X.A) (hg:Gl X x) (hm:X.mg x=some (.ref f)) (hk:PySem.W.keepIn X.K (.ref f)=true) (hb:Binds X.K fd ps [])
    (ha:PA X.nox (e::es) t) (I:Inv X pins σ H s) (Z:Hp→Prop) (h:t σ H fun vs H1=>spR X.K cr C vs H1 (fun _ _=>False) E∧Same H H1∧Z H1) (hW:∀ H1 s1 e s',Inv X pins σ H1 s1→Same H H1→Z H1→CXr X.prog X.w X.stack H1 s1 E e s'→W e s')
    (hdb:autoParam ((x == ("__debug__" : Str))=false) L2.aD._auto_1) (he:autoParam (starEach (e::es) X.env=(false,eval e X.env)::starEach es X.env) L2.aR._auto_1) (hpl:autoParam ((backTo pos (starEach es X.env)).any (·.1)=false) L2.aR._auto_1) :
    wpAny (model X.prog X.w) X.A (eval (.Call (.Name x p) (e::es) [] pos) X.env) Q W s:=by
  refine wpAny_Call_Name_kw (ld_glob I hg hm ?_ hdb)
  refine PySem.W.callWith_K (h₀:=X.base) I.ok.mod.kin hk (wpAny_mono (ha pos pins s σ H _ (I.wish _) h) (fun us s1 ⟨vs,H1,I1,r,q,sm,z⟩=>⟨I1.unwish.kIn,?_⟩) fun _ _ z=>False.elim z) he hpl
  exact run_raise F hr hb I1.unwish r q fun e s' c=>hW H1 s1 e s' I1.unwish sm z c
end
theorem pass_leaves {P:Program} {w:World} {K:PySem.W.Frag} {mg:Str→Option Value} {base:Heap} {N:List Str} {qual:Str} {scope:Scope} {f:Addr} {cd:Value} {A:Around} {outer:List Env} {s0 s s':Shared} {H0 H:Hp} {E:XK} {e:Value} {pins:List (Addr×Obj)} {σ:St}
    (I:Inv (cxOf (CXr P w) P w K mg base N qual scope f cd A outer s0 H0 E) pins σ H s) (g:Same H0 H) (c:CXr P w (envOfC qual scope s0.heap.objs.size f cd::outer) H s E e s') :
    (cxOf (CXr P w) P w K mg base N qual scope f cd A outer s0 H0 E).xe e s':=by
  obtain ⟨ea,C,a0,B,H',rfl,fl,hok,same,bk,fre,slt,os,bare,n1,n2,he⟩:=c
  have hfr:(A.deeper (envOfC qual scope s0.heap.objs.size f cd)).frames=some (envOfC qual scope s0.heap.objs.size f cd::outer):=I.ok.frames
  have hbase:Un (frs outer) [] H0 H s0.heap s.heap:=I.base
  have hfunO:s0.heap.FunFrames base outer:=I.ok.funs
  have hfrf:∀ b ∈ frs outer,H0 b=none:=I.ok.frf
  have hos:s.os=s0.os:=I.os
  show wpAny (model P w) (A.deeper (envOfC qual scope s0.heap.objs.size f cd)) (leaving (envOfC qual scope s0.heap.objs.size f cd) (.ref ea)) (fun _ s''=>CXr P w outer H0 s0 E (.ref ea) s'') (fun e' s''=>CXr P w outer H0 s0 E e' s'') s'
  refine wpAny_leaves_onW hfr rfl fl fun h2 fl2 up=>?_
  refine ⟨ea,C,a0,B,H',rfl,fl2,hok,g.trans same,fun b o q n hb=>?_,fun b o q n=>?_,fun b hb o q=>?_,os.trans hos,bare,n1,?_,he⟩
  · refine bk b o (hbase.keep b o q n hb (by simp)) (hbase.free b o q n (by simp)) fun z=>?_
    unfold frs at z
    rw [List.filterMap_cons] at z
    rcases List.mem_cons.mp z with e | e
    · have hlt:=Heap.lt_size q
      rw [show b=s0.heap.objs.size from e] at hlt
      exact absurd hlt (Nat.lt_irrefl _)
    · exact hb e
  · obtain ⟨o',q'⟩:=hbase.there b o q (by simp)
    exact fre b o' q' (hbase.free b o q n (by simp))
  · obtain ⟨sl,q1⟩:=hbase.slot b o q (hfrf b hb) hb (by simp)
    obtain ⟨_,o',q2,q3⟩:=hfunO.mem hb
    rw [q] at q2
    cases q2
    obtain ⟨sl1,q4⟩:=slt b (by unfold frs; rw [List.filterMap_cons]; exact List.mem_cons_of_mem _ hb) _ q1
    obtain ⟨sl2,q5⟩:=up b _ q4 q3
    exact ⟨sl2,q5⟩
  · cases q:s0.heap.get? ea with
    | none=>rfl
    | some o =>
      obtain ⟨o',ho'⟩:=hbase.there ea o q (by simp)
      rw [n2] at ho'; cases ho'
section
variable {X:Cx} {pins:List (Addr×Obj)} {σ:St} {H:Hp} {s:Shared}
theorem Inv.unbind {n:Str} {i:Nat} {v:Option Value} {m:Str→Option Value} {h':Heap} {tk:Nat} (I:Inv X pins σ H s) (hn:s.heap.Ns X.env.locals m) (hi:X.N[i]?=some n) (hloc:X.env.scope.names.lookup n=some .local) (hN:X.N.Nodup) (hm:∀ (j:Nat) (y:Str) (v':V),X.N[j]?=some y→σ[j]?=some (some v')→Vis X.env.scope y→∃ u,RelV v' u∧Look X.env s.heap m y u)
    (hn':h'.Ns X.env.locals (fun x=>if x=n then v else m x)) (sb:Heap.SameBut X.env.locals s.heap h'):Inv X pins (σ.set i none) H { s with heap:=h',toks:=tk }:=by
  have neL:∀ b o,X.s₀.heap.get? b=some o→b≠X.env.locals:=fun b o e=>Nat.ne_of_lt (Nat.lt_of_lt_of_le (Heap.lt_size e) I.ok.above)
  obtain ⟨oL,_,_,hoL,_⟩:=id hn
  refine ⟨I.ok,I.os,I.bare,⟨fun b o e q hb hx=>(sb.2 b (neL b o e)).trans (I.base.keep b o e q hb hx),fun b o e q hb hx=>?_,I.base.free,fun b o e hx=>?_,I.base.tups,I.base.frzs,I.base.tbls⟩,⟨_,hn',fun j y v' e1 e2 e3=>?_⟩,fun y c e=>?_,I.free,I.freeC,fun p hp=>?_,fun b u e=>?_,by rw [List.length_set]; exact I.len⟩
  · obtain ⟨sl,z⟩:=I.base.slot b o e q hb hx
    exact ⟨sl,(sb.2 b (neL b o e)).trans z⟩
  · obtain ⟨o',z⟩:=I.base.there b o e hx
    exact ⟨o',(sb.2 b (neL b o e)).trans z⟩
  · by_cases hj:i=j
    · subst hj
      rw [List.getElem?_set_self (by rw [I.len]; exact (List.getElem?_eq_some_iff.mp hi).1)] at e2
      cases e2
    · rw [List.getElem?_set_ne hj] at e2
      obtain ⟨u,r,l⟩:=hm j y v' e1 e2 e3
      refine ⟨u,r,?_⟩
      rcases l with ⟨k,l⟩ | ⟨k,c,l1,l2⟩
      · by_cases hy:y=n
        · subst hy
          obtain ⟨h1,h2⟩:=List.getElem?_eq_some_iff.mp hi
          obtain ⟨h3,h4⟩:=List.getElem?_eq_some_iff.mp e1
          exact absurd ((List.getElem_inj hN).mp (h2.trans h4.symm)) hj
        · exact .inl ⟨k,by show (if y=n then v else m y)=some u; rw [if_neg hy]; exact l⟩
      · obtain ⟨o,ho,hd⟩:=l2
        exact .inr ⟨k,c,l1,o,(sb.2 c (I.cne y c l1)).trans ho,hd⟩
  · obtain ⟨v0,o,ho,hd⟩:=I.cell y c e
    exact ⟨v0,o,(sb.2 c (I.cne y c e)).trans ho,hd⟩
  · obtain ⟨q1,q2,q3,q4⟩:=I.pin p hp
    exact ⟨(sb.2 p.1 q3).trans q1,q2,q3,q4⟩
  · refine (I.hok b u e).stay (fun c w' hc q=>(sb.2 c ?_).trans q) (fun _ q=>q) fun _ _ q=>q
    rintro rfl
    rcases hc with z | z
    · rw [← z,I.free] at e; cases e
    · rw [I.free] at z; cases z
noncomputable def ExcOf (a C:Addr):HO:=.ext fun h=>∃ o,h.get? a=some o∧o.cls=.ref C∧∃ vs,o.data=.fields vs
theorem CXr.caught {P:Program} {w:World} {outer:List Env} {E:XK} {e:Value} {s':Shared} {ea C:Addr} {a0:Value} {B h5:Heap} {H':Hp} {base:Heap} (hst:s.heap.FunFrames base outer) (fl:Heap.FlyingW B outer ea (.ref C) a0 h5) (hok:HOk P w H' B) (same:Same H H')
    (bk:∀ b o,s.heap.get? b=some o→H b=none→b ∉ frs outer→B.get? b=some o) (fre:∀ b o,s.heap.get? b=some o→H b=none→H' b=none) (slt:∀ b ∈ frs outer,∀ o,s.heap.get? b=some o→∃ sl,s'.heap.get? b=some { o with slots:=sl })
    (n1:H' ea=none) (n2:s.heap.get? ea=none) (up:s'.heap.UpToSlots h5) (hfree:∀ b ∈ frs outer,H b=none):Un (frs outer) [] H H' s.heap h5∧HOk P w H' h5:=by
  have hok5:HOk P w H' h5:=hok.kept fl.1
  have slot:∀ b ∈ frs outer,∀ o,s.heap.get? b=some o→∃ sl,h5.get? b=some { o with slots:=sl }:=fun b hb o q=>by
    obtain ⟨_,o',q2,q3⟩:=hst.mem hb
    rw [q] at q2
    cases q2
    obtain ⟨sl1,q4⟩:=slt b hb o q
    obtain ⟨sl2,q5⟩:=up b _ q4 q3
    exact ⟨sl2,q5⟩
  refine ⟨⟨fun b o q n hb _=>fl.1 b o (bk b o q n hb),fun b o q n hb _=>slot b hb o q,fun b o q n _=>fre b o q n,fun b o q _=>?_,fun b xs q=>same b _ q,fun b o u q=>same b _ q,fun b ps q=>⟨#[],by rw [same b _ q]; simp⟩⟩,hok5⟩
  by_cases hb:b ∈ frs outer
  · obtain ⟨sl,z⟩:=slot b hb o q
    exact ⟨_,z⟩
  · cases hH:H b with
    | none=>exact ⟨o,fl.1 b o (bk b o q hH hb)⟩
    | some u=>exact objOk_there (hok5 b u (same b u hH))
end
end L2
set_option maxHeartbeats 4000000
namespace L2
open PySem PySem.W PySem.Spec PyProof.Rows PySem.Calls PySem.Builtin PySem.Builtin.ObjectAttr PySem.Builtin.Getset_descriptor
section
variable {prog:Program} {w:World} {A:Around} {E:Value→Shared→Prop} {s:Shared} {K:PySem.W.Frag} {a C:Addr} {o:Obj}
theorem exc_get {R:Result→Shared→Prop} {tp:Value} (X:K.In s.heap) (hx:s.heap.get? a=some o) (hc:o.cls=.ref C) (hm:mroIn K C (.type "object")=some true)
    (h:R (.ok (.ret (.ref C))) s):codeAny (model prog w) A (.call (.builtin "getset_descriptor.__get__") ⟨[.builtin "object.__class__", .ref a,tp],[]⟩) R s:=by
  obtain ⟨hh,g,dr,t,os⟩:=s
  have L0:Looks (model prog w) hh (typeOf (.ref a)) (.ref C):=hc ▸ (Looks.ld hx).andThen .now
  have L1:=looks_mroIn (M:=model prog w) X hm
  refine codeAny_call_builtin KF.slot_gs.plain KF.entry_gs (KF.slot_gs.check _ _ _ _ _ _ _ _ KF.type_class (KF.args_gs _ _ _) (?_:wpAny _ _ (Builtin.«getset_descriptor.__get__» _) _ _ _))
  unfold Builtin.«getset_descriptor.__get__» descrGet; rw [dga_obj]
  refine wpAny_bind (wpAny_pure (?_:wpAny _ _ _ _ _ _))
  unfold descrGetter descrCheckInstance descrNameAndClass isInstance; simp only [KF.owner_class]
  repeat lk
  refine ⟨Code.quiet_builtin _ (by decide +kernel),codeAny_builtin KF.entry_class (?_:wpAny _ _ _ _ _ _)⟩
  unfold Builtin.«object.__class__» shownTypeOf; repeat lk
  exact h
theorem exc_find (X:K.In s.heap) (ha:findIn K (.ref C) "__class__" = some (some (.builtin "object.__class__"))) (hn:specialIn K (.builtin "object.__class__") "__get__" = some (some (.builtin "getset_descriptor.__get__"))) (htk:takesIn K (.builtin "object.__class__")=some true) :
    Looks (model prog w) s.heap (find (.ref a) (.ref C) "__class__") (.bind (.builtin "getset_descriptor.__get__") (.builtin "object.__class__")):=by
  have L1:=looks_findIn (M:=model prog w) X ha
  have L2:Looks (model prog w) s.heap (getOf (some (.builtin "object.__class__"))) (some (.builtin "getset_descriptor.__get__")):=looks_specialIn X hn
  have L3:=looks_takesIn (M:=model prog w) X htk
  unfold find
  refine L1.andThen (L2.andThen ?_)
  have L4:Looks (model prog w) s.heap (dataDescriptor? (some (Value.builtin "object.__class__")) (some (Value.builtin "getset_descriptor.__get__"))) (some (Value.builtin "getset_descriptor.__get__", Value.builtin "object.__class__")):=by
    unfold dataDescriptor?
    exact L3.andThen .now
  exact L4.andThen (Looks.tag .now)
theorem exc_check {M:Model} {nameV:Value} {Q:Unit→Shared→Prop} (X:K.In s.heap) (hx:s.heap.get? a=some o) (hc:o.cls=.ref C) (hb:mroIn K C (.type "BaseException")=some true) (hq:Q () s) :
    wpAny M A (checkBuiltinCall "BaseException.__getattribute__" ⟨[.ref a,nameV],[]⟩) Q E s:=by
  have hk:builtinKind "BaseException.__getattribute__" = some .slot:=by decide +kernel
  have hsp:splitId "BaseException.__getattribute__" = some ("BaseException", "__getattribute__"):=by decide +kernel
  obtain ⟨hh,g,d,t,os⟩:=s
  have L0:Looks M hh (typeOf (.ref a)) (.ref C):=hc ▸ (Looks.ld hx).andThen .now
  have LI:Looks M hh (isInstance (.ref a) (.type "BaseException")) true:=L0.andThen (looks_mroIn X hb)
  have har:=PySem.F.args_bexc_ga (.ref a) nameV
  simp only [checkBuiltinCall,hk,hsp]
  refine wpAny_bind (LI.at ?_)
  repeat (first | assumption | wp_step)
theorem exc_cls {Q:Option Value→Shared→Prop} (X:K.In s.heap) (hx:s.heap.get? a=some o) (hc:o.cls=.ref C) (hga:PySem.W.findIn K (.ref C) "__getattribute__" = some (some (.builtin "BaseException.__getattribute__"))) (hgn:PySem.W.findIn K (.ref C) "__getattr__" = some none)
    (ha:PySem.W.findIn K (.ref C) "__class__" = some (some (.builtin "object.__class__"))) (hn:PySem.W.specialIn K (.builtin "object.__class__") "__get__" = some (some (.builtin "getset_descriptor.__get__"))) (htk:PySem.W.takesIn K (.builtin "object.__class__")=some true) (hm:PySem.W.mroIn K C (.type "object")=some true) (hb:mroIn K C (.type "BaseException")=some true)
    (h:Q (some (.ref C)) { s with toks:=s.toks+1 }):wpAny (model prog w) A (getAttr? (.ref a) "__class__") Q E s:=by
  obtain ⟨hh,g,d,t,os⟩:=s
  have L0:Looks (model prog w) hh (typeOf (.ref a)) (.ref C):=hc ▸ (Looks.ld hx).andThen .now
  have L1:=PySem.W.looks_findIn (M:=model prog w) X hga
  unfold getAttr? getAttrBy? getAttrBy
  refine wpAny_bind (wpAny_mkText (wpAny_bind (wpAny_attempt (wpAny_holding (wpAny_bind (L0.at (wpAny_bind (L1.at ?_))))))))
  dsimp only
  have hne:(Value.builtin "BaseException.__getattribute__" == Value.builtin "object.__getattribute__")=false:=by decide +kernel
  rw [hne,Bool.and_false,if_neg Bool.false_ne_true]
  have L2:=looks_findIn (M:=model prog w) X hgn
  have LF:=exc_find (prog:=prog) (w:=w) (a:=a) (s:=⟨hh,g,d,t,os⟩) X ha hn htk
  have FB:=PySem.F.attrBase_ValueError
  unfold getAttrByItsOwn hookBefore callGetattribute boundAndCalled
  rw [show onTheHeap (Value.ref C)=true from rfl,if_pos (show true=true from rfl),Bool.false_and,if_neg Bool.false_ne_true,FB.ga.bind (.ref a)]
  refine wpAny_bind (L2.at (wpAny_bind (wpAny_attempt (wpAny_holding ?_))))
  refine wpAny_bind (wpAny_pure (wpAny_call (codeAny_call_builtin FB.ga.plain F.entry_bexc_ga ?_)))
  refine exc_check (s:=⟨hh,g,d,t+1,os⟩) X hx hc hb ?_
  unfold Builtin.«object.__getattribute__»
  repeat (first | (with_reducible refine wpAny_call (exc_get (s:=⟨hh,g,d,t+1,os⟩) X hx hc hm ?_)) | assumption | lk)
end
structure ExcCl (K:Frag) (C:Addr):Prop where
  ex:isExcIn K C
  is:(clsIn K C).isSome=true
  ga:findIn K (.ref C) "__getattribute__" = some (some (.builtin "BaseException.__getattribute__"))
  gn:findIn K (.ref C) "__getattr__" = some none
  cl:findIn K (.ref C) "__class__" = some (some (.builtin "object.__class__"))
  sp:specialIn K (.builtin "object.__class__") "__get__" = some (some (.builtin "getset_descriptor.__get__"))
  tk:takesIn K (.builtin "object.__class__")=some true
  mo:mroIn K C (.type "object")=some true
  mb:mroIn K C (.type "BaseException")=some true
noncomputable def IsExc (a C:Addr) (h:Heap):Prop:=∃ o,h.get? a=some o∧o.cls=.ref C
theorem kitx_exc {K:Frag} {a C:Addr} (c:ExcCl K C):KitX K (.ref a) (.ref C) (IsExc a C) where
  ty:=fun M h _ p=>by
    obtain ⟨o,h1,h2⟩:=p
    exact h2 ▸ (Looks.ld h1).andThen .now
  it:=fun M h X _=>by
    obtain ⟨_,_,_,lk,_⟩:=exc_m6 c.ex
    intro A' Q' E' s' k q
    unfold isType loadHead; exact wpAny_bind (wpAny_loadPart (k _ _ (X _ _ lk)) (wpAny_pure q))
  ne:=fun h tp dd its n sl X htp=>by
    obtain ⟨_,_,_,lk,_⟩:=exc_m6 c.ex
    refine Bool.eq_false_iff.mpr fun q=>?_
    have e:C=tp:=Value.ref.inj (beq_iff_eq.mp q)
    subst e
    cases congrArg (Option.map Obj.data) ((X _ _ lk).symm.trans htp)
  ca:=fun X p k=>by
    obtain ⟨o,h1,h2⟩:=p
    exact exc_cls X h1 h2 c.ga c.gn c.cl c.sp c.tk c.mo c.mb k
section
variable {X:Cx}
noncomputable def rIsX (K:Frag) (C:Addr) (c:V) (b:Bool):List V→Hp→VK→Prop:=fun xs H Q=>∃ ea,xs=[.ref ea,c]∧H ea=some (ExcOf ea C)∧Q (.bl b) H
theorem exc_at {pins:List (Addr×Obj)} {σ:St} {H:Hp} {s:Shared} {ea C:Addr} (I:Inv X pins σ H s) (h:H ea=some (ExcOf ea C)):IsExc ea C s.heap:=by
  obtain ⟨⟨o,h1,h2,_⟩,_⟩:=(show ObjOk X.prog X.w H s.heap ea (ExcOf ea C) from I.hok ea _ h)
  exact ⟨o,h1,h2⟩
theorem call_isX {C:Addr} {c:V} {u:Value} {b:Bool} (hc:ExcCl X.K C) (hu:∀ u',RelV c u'→u'=u) (e:kitOne X.K (.ref C) u=some b):CallR X (.builtin "isinstance") (rIsX X.K C c b):=by
  intro pins s σ H xs us Q I r h
  obtain ⟨ea,rfl,ha,q⟩:=h
  obtain ⟨u1,u2,rfl,r1,r2⟩:=vals2 r
  cases (show u1=Value.ref ea from r1)
  rw [hu u2 r2]
  exact kia_one (kitx_exc hc) I.kIn (exc_at I ha) e (fun z=>nomatch z) fun tk=>⟨.bl b,H,I.tok tk,rfl,q⟩
noncomputable def rIsXs (K:Frag) (C:Addr) (cs:List Addr) (b:Bool):List V→Hp→VK→Prop:=fun xs H Q=>∃ ea p,xs=[.ref ea,.ref p]∧H ea=some (ExcOf ea C)∧H p=some (.tup (cs.map V.ref))∧Q (.bl b) H
theorem refs_eq:∀ {cs:List Addr} {us:List Value},Vals (cs.map V.ref) us→us=cs.map Value.ref
  | [],_,.nil=>rfl
  | c::cs,_,.cons h t=>by rw [refs_eq t]; exact congrArg (·::_) (show _=Value.ref c from h)
theorem call_isXs {C:Addr} {cs:List Addr} {b:Bool} (hc:ExcCl X.K C) (e:kitAny X.K (.ref C) (cs.map Value.ref)=some b):CallR X (.builtin "isinstance") (rIsXs X.K C cs b):=by
  intro pins s σ H xs us Q I r h
  obtain ⟨ea,p,rfl,ha,hp,q⟩:=h
  obtain ⟨u1,u2,rfl,r1,r2⟩:=vals2 r
  cases (show u1=Value.ref ea from r1)
  cases (show u2=Value.ref p from r2)
  obtain ⟨_,its,rv,ob,h1,h2,n,h3⟩:=(show ObjOk X.prog X.w H s.heap p (.tup (cs.map V.ref)) from I.hok p _ hp)
  rw [refs_eq rv] at h3
  obtain ⟨o1,o2,o3,o4⟩:=ob
  have h2':o1=.type "tuple" := h2
  have h3':o3=.seq (cs.map Value.ref).toArray n:=h3
  subst h2' h3'
  exact kia_tup (kitx_exc hc) I.kIn (exc_at I ha) h1 e (fun z=>nomatch z) fun tk=>⟨.bl b,H,I.tok tk,rfl,q⟩
noncomputable abbrev Cx.suite (X:Cx) (e:Value):Cx:={ X with A:=X.A.mark (some e),calm:=false,xe:=fun _ _=>False }
theorem Inv.suite {pins:List (Addr×Obj)} {σ:St} {H:Hp} {s:Shared} (I:Inv X pins σ H s) (e:Value):Inv (X.suite e) pins σ H s :=
  ⟨⟨I.ok.mod,I.ok.kind,I.ok.glob,I.ok.blt,I.ok.above,I.ok.inj,I.ok.has,I.ok.cab,(fun z=>nomatch z),I.ok.frames,I.ok.stk,I.ok.exf,I.ok.bs,I.ok.bsz,I.ok.noex,I.ok.exfs,I.ok.funs,I.ok.frf⟩,I.os,I.bare,I.base,I.loc,I.cell,I.free,I.freeC,I.pin,I.hok,I.len⟩
theorem Inv.unsuite {pins:List (Addr×Obj)} {σ:St} {H:Hp} {s:Shared} {e:Value} (ok:X.Ok) (I:Inv (X.suite e) pins σ H s):Inv X pins σ H s :=
  ⟨ok,I.os,I.bare,I.base,I.loc,I.cell,I.free,I.freeC,I.pin,I.hok,I.len⟩
theorem ps_try {k:Nat} {f C D:Addr} {fd:FuncData} {ps:List Str} {cr:List L2.D→Prop} {x cx n y:Str} {iN iY:Nat} {p cpos epos cp yp np asp hpos tpos:Pos} {e:Expr} {es:List Expr} {t:TA} (F:FnOk X.prog X.w X.K X.mg X.base (CXr X.prog X.w) k f fd ps (spR X.K cr C)) (hr:Room k X.A) (hg:Gl X x) (hm:X.mg x=some (.ref f)) (hk:PySem.W.keepIn X.K (.ref f)=true) (hb:Binds X.K fd ps [])
    (ha:PA X.nox (e::es) t) (hstk:X.stack=X.env::X.outer∧X.env.frame=some X.env.locals) (hgD:Gl X cx) (hmD:X.mg cx=some (.ref D)) (hx:exmOne X.K (.ref C) (.ref D)=some true)
    (hN:X.N.Nodup) (hiN:X.N[iN]?=some n) (hlN:X.env.scope.names.lookup n=some .local) (hiY:X.N[iY]?=some y) (hlY:X.env.scope.names.lookup y=some .local) (hNY:iN≠iY)
    (hdb:(x == ("__debug__" : Str))=false) (hdD:(cx == ("__debug__" : Str))=false) (hdn:(n == ("__debug__" : Str))=false) (hcn:(n == ("__classdict__" : Str))=false) (he:starEach (e::es) X.env=(false,eval e X.env)::starEach es X.env) (hpl:(backTo cpos (starEach es X.env)).any (·.1)=false)
    (hsw:swapsWith (.Call (.Name x p) (e::es) [] cpos) none epos.line X.env=pure false) (hsw2:swapsWith (.Name n np) (some (.Name y yp)) asp.line X.env=pure false) :
    PS X (.Try [.Expr (.Call (.Name x p) (e::es) [] cpos) epos] [.ExceptHandler (some (.Name cx cp)) (some n) [.Assign [.Name y yp] (.Name n np) asp] hpos] [] [] tpos)
      (fun Dn σ H=>t σ H fun vs H1=>spR X.K cr C vs H1 (fun _ _=>False) (fun c _ _=>c=.ref C)∧Same H H1∧∀ ea H2,Same H1 H2→H2 ea=some (ExcOf ea C)→Dn.nx ((σ.set iY (some (.ref ea))).set iN none) H2):=by
  intro pins s σ H Dn I h
  refine wpAny_Try_except (wpAny_execs_cons (wpAny_Expr_any ?_ I.quiet hsw))
  refine call_raise F hr hg hm hk hb ha I _ h (fun H1 s1 e s' I1 sm z c=>?_) hdb he hpl
  obtain ⟨ea,C',a0,B,H',rfl,fl,hok,same,bk,fre,slt,os,bare,n1,n2,hE⟩:=c
  have eC:C'=C:=Value.ref.inj hE
  subst eC
  have hfr:X.A.frames=some (X.env::X.outer):=by rw [← hstk.1]; exact I1.ok.frames
  have hst:=I1.stack
  have hsf:=I1.stkFree
  rw [hstk.1] at fl
  refine wpAny_looks_onW hfr hstk.2 fl fun h4 held up4=>?_
  refine wpAny_landsW held fun h5 fl5 up5=>?_
  have upT:∀ {a b c:Heap},a.UpToSlots b→b.UpToSlots c→a.UpToSlots c:=fun x y=>x.trans y
  have inv:∀ {h6:Heap},Heap.FlyingW B (X.env::X.outer) ea (.ref C') a0 h6→s'.heap.UpToSlots h6→Inv X pins σ (upd H' ea (ExcOf ea C')) { s' with heap:=h6 }:=fun {h6} fl6 up6=>by
    rw [← hstk.1] at fl6
    obtain ⟨un6,hok6⟩:=CXr.caught (E:=fun _ _ _=>True) (e:=.ref ea) hst fl6 hok same bk fre slt n1 n2 up6 hsf
    have nea:∀ b u,H' b=some u→b≠ea:=fun b u q z=>by rw [z,n1] at q; cases q
    refine I1.call' (s':={ s' with heap:=h6 }) (ch:=[]) os ⟨un6.keep,un6.slot,fun b o q n hx=>?_,un6.there,fun b xs q=>?_,fun b o u q=>?_,fun b ps q=>?_⟩ (fun b u q=>?_) bare (fun _ z=>nomatch z)
    · rw [upd_ne fun y=>by rw [y,n2] at q; cases q]; exact un6.free b o q n hx
    · have q':=un6.tups b xs q
      rw [upd_ne (nea _ _ q')]; exact q'
    · have q':=un6.frzs b o u q
      rw [upd_ne (nea _ _ q')]; exact q'
    · obtain ⟨mo,q'⟩:=un6.tbls b ps q
      exact ⟨mo,by rw [upd_ne (nea _ _ q')]; exact q'⟩
    · by_cases hb:b=ea
      · subst hb
        rw [upd_same] at q
        cases q
        obtain ⟨oe,vs,T,oT,ts,q1,q2,q3,_⟩:=fl6.2.2.2
        exact ⟨⟨oe,q1,q2.1,vs,q3⟩,⟨oe,q1⟩,fun h1 h2 ⟨o1,w1,w2⟩ k=>⟨o1,k o1 w1,w2⟩⟩
      · rw [upd_ne hb] at q
        exact (hok6 b u q).stay (fun _ _ _ z=>z) (fun c z=>by rw [upd_ne (nea _ _ z)]; exact z) fun c xs z=>by rw [upd_ne (nea _ _ z)]; exact z
  have I5:=inv fl5 (upT up4 up5)
  obtain ⟨ob,hob,hobc⟩:=fl5.there
  have LT:Looks (model X.prog X.w) h5 (typeOf (.ref ea)) (.ref C'):=hobc ▸ (Looks.ld hob).andThen .now
  have LM:=exm_one (M:=model X.prog X.w) (h:=h5) I5.kIn LT hx
  refine wpAny_handleBy_cons (codeAny_handlers_test (ld_glob (I5.suite (.ref ea)) hgD hmD (LM.at ?_) hdD)) (by intro q; cases q)
  refine codeAny_handlers_suite_as (lands_againW fl5 fun h6 fl6 up6=>?_)
  have I6:=inv fl6 (upT (upT up4 up5) up6)
  refine store_ok I6 hN hiN (Or.inl hlN) (v:=.ref ea) rfl (fun s7 I7=>?_) (.inr hlN)
  have hiσ:iN < σ.length:=by rw [I6.len]; exact (List.getElem?_eq_some_iff.mp hiN).1
  refine wpAny_mono (pss_one (X:=X.suite (.ref ea)) (ps_set hN hiY (Or.inl hlY) (pe_var hiN (Or.inl hlN) hdn hcn) hsw2 (.inr hlY)) pins s7 _ _ { nx:=fun σ' H'=>σ'=(σ.set iN (some (.ref ea))).set iY (some (.ref ea))∧H'=upd _ ea (ExcOf ea C'),rt:=fun _ _=>False } (I7.suite (.ref ea)) ⟨.ref ea,by simp [hiσ],rfl,rfl⟩) (fun fw s8 q=>?_) fun _ _ w=>w.elim
  cases fw with
  | next =>
    obtain ⟨σ',H2,I8,rfl,rfl⟩:=q
    have I9:=I8.unsuite I6.ok
    obtain ⟨m,hn,hl⟩:=id I9.loc
    refine wpAny_nameGoes_keeps (show X.env.kindOf n=some .local from hlN) hn (by rw [I9.ok.kind]; rfl) fun h9 v hn9 sb9=>?_
    refine ⟨_,_,I9.unbind hn hiN hlN hN hl hn9 sb9,?_⟩
    have w:=z ea _ (same.trans (same_new n1)) upd_same
    rw [List.set_comm _ _ (Ne.symm hNY)] at w
    rw [List.set_comm _ _ (Ne.symm hNY),List.set_set]
    exact w
  | brk=>obtain ⟨_,_,_,w⟩:=q; exact w.elim
  | cont=>obtain ⟨_,_,_,w⟩:=q; exact w.elim
  | ret u=>obtain ⟨_,_,_,_,_,w⟩:=q; exact w.elim
end
theorem excCl_of {K:Frag} {C:Addr} (ex:isExcIn K C) (ga:findIn K (.ref C) "__getattribute__" = some (some (.builtin "BaseException.__getattribute__"))) (gn:findIn K (.ref C) "__getattr__" = some none) (cl:findIn K (.ref C) "__class__" = some (some (.builtin "object.__class__")))
    (sp:specialIn K (.builtin "object.__class__") "__get__" = some (some (.builtin "getset_descriptor.__get__"))) (tk:takesIn K (.builtin "object.__class__")=some true) (mo:mroIn K C (.type "object")=some true) (mb:mroIn K C (.type "BaseException")=some true):ExcCl K C:=by
  refine ⟨ex,?_,ga,gn,cl,sp,tk,mo,mb⟩
  obtain ⟨_,_,_,lk,_⟩:=exc_m6 ex
  unfold clsIn
  rw [lk]
  rfl
theorem exm_of {K:Frag} {C D:Addr} (h1:subIn K (.ref D) (.type "BaseException")=some true) (h2:kitOne K (.ref C) (.ref D)=some true) (h3:(Value.ref C == Value.ref D)=false):exmOne K (.ref C) (.ref D)=some true:=by
  unfold exmOne
  rw [h1,if_pos (by decide)]
  unfold kitOne at h2
  rw [h3,if_neg Bool.false_ne_true] at h2
  exact h2
theorem ps_callX {P:Program} {w:World} {K:Frag} {mg:Str→Option Value} {base:Heap} {N:List Str} {qual:Str} {scope:Scope} {f0 f C:Addr} {cd:Value} {A:Around} {outer:List Env} {s0:Shared} {H0:Hp} {E:XK} {k:Nat} {fd:FuncData} {ps:List Str} {cr:List L2.D→Prop} {x y:Str} {p cpos yp spos:Pos} {e:Expr} {es:List Expr} {t:TA}
    (F:FnOk P w K mg base (CXr P w) k f fd ps (spR K cr C)) (hr:Room k (A.deeper (envOfC qual scope s0.heap.objs.size f0 cd))) (hg:Gl (cxOf (CXr P w) P w K mg base N qual scope f0 cd A outer s0 H0 E) x) (hm:mg x=some (.ref f)) (hk:PySem.W.keepIn K (.ref f)=true) (hb:Binds K fd ps [])
    (ha:PA (cxOf (CXr P w) P w K mg base N qual scope f0 cd A outer s0 H0 E).nox (e::es) t) (hdb:(x == ("__debug__" : Str))=false) (he:starEach (e::es) (envOfC qual scope s0.heap.objs.size f0 cd)=(false,eval e (envOfC qual scope s0.heap.objs.size f0 cd))::starEach es (envOfC qual scope s0.heap.objs.size f0 cd)) (hpl:(backTo cpos (starEach es (envOfC qual scope s0.heap.objs.size f0 cd))).any (·.1)=false)
    (hs:swapsWith (.Call (.Name x p) (e::es) [] cpos) (some (.Name y yp)) spos.line (envOfC qual scope s0.heap.objs.size f0 cd)=pure false) :
    PS (cxOf (CXr P w) P w K mg base N qual scope f0 cd A outer s0 H0 E) (.Assign [.Name y yp] (.Call (.Name x p) (e::es) [] cpos) spos) (fun _ σ H=>t σ H fun vs H1=>spR K cr C vs H1 (fun _ _=>False) E∧Same H H1∧Same H0 H1):=by
  intro pins s σ H D I h
  exact wpAny_Assign_Name (call_raise (X:=cxOf (CXr P w) P w K mg base N qual scope f0 cd A outer s0 H0 E) F hr hg hm hk hb ha I (Same H0) h (fun H1 s1 e s' I1 sm z c=>pass_leaves I1 z c) hdb he hpl) hs
theorem Fun.okXn {P:Program} {w:World} {K:Frag} {mg:Str→Option Value} {base:Heap} {x qual:Str} {st:Stmt} {f:Addr} {fd:FuncData} {N ps:List Str} {k:Nat} {cr:List L2.D→Prop} {C:Addr} {fs:FS} (n:Nat) (F:Fun K x qual st f fd) (S:FnScope N ps (defScope st)) (hn:N.length=n)
    (hlen:∀ ds,cr ds→ds.length=ps.length) (hpl:ps.length≤n)
    (hbody:∀ (cdv:Value) (A:Around) (outer:List Env) (s:Shared) (H:Hp) (E:XK),Room k (A.deeper (envOfC qual (defScope st) s.heap.objs.size f cdv)) →
      (∀ pins σ H1 s1 h' ea args,Inv (cxOf (CXr P w) P w K mg base N qual (defScope st) f cdv A outer s H E) pins σ H1 s1→Same H H1→Heap.MadeExcOf s1.heap h' ea (.ref C) args→(cxOf (CXr P w) P w K mg base N qual (defScope st) f cdv A outer s H E).xe (.ref ea) { s1 with heap:=h' }) →
      ∃ t,BSs (cxOf (CXr P w) P w K mg base N qual (defScope st) f cdv A outer s H E) (defBody st) t∧SFX K n [] (Same H) t fs)
    (hc:∀ ds,cr ds→fs { nx:=fun _=>False,rt:=fun _ _=>False } (startF n (ds.map .fz))):FnOk P w K mg base (CXr P w) (k+1) f fd ps (spR K cr C):=by
  subst hn
  exact Fun.okX F S hlen hpl hbody hc
end L2
set_option maxHeartbeats 4000000
namespace HT
open PySem PySem.Spec PyProof.Rows
section
variable {prog:Program} {w:World} {A:Around} {E:Value→Shared→Prop} {s:Shared}
end
end HT
namespace L2
open PySem PySem.Spec PyProof.Rows
section
variable {X:Cx}
end
end L2
set_option maxHeartbeats 4000000
namespace L2
open PySem PySem.Spec PyProof.Rows
section
variable {K:PySem.W.Frag} {μ:List Nat}
end
end L2
set_option maxHeartbeats 4000000
namespace L2
open PySem PySem.Spec PyProof.Rows
mutual
noncomputable def depD:D→Nat
  | .lst xs=>depDs xs+1
  | .tup xs=>depDs xs+1
  | _=>0
noncomputable def depDs:List D→Nat
  | []=>0
  | d::ds=>max (depD d) (depDs ds)
end
mutual
noncomputable def okS:D→Bool
  | .lst xs=>okSs xs
  | .tup xs=>okSs xs
  | .dct _ _=>false
  | .ty _=>false
  | _=>true
noncomputable def okSs:List D→Bool
  | []=>true
  | d::ds=>okS d && okSs ds
end
section
variable {X:Cx} {pins:List (Addr×Obj)} {σ:St} {H:Hp} {s:Shared}
end
section
variable {X:Cx}
end
section
variable {K:PySem.W.Frag}
end
end L2
set_option maxHeartbeats 4000000
local macro_rules | `(tactic| walk_at "go") => `(tactic| (conv => whnf))
namespace KR
open PySem L2
noncomputable def top (i:Nat):Stmt:=PySem.Challenge.pw_keptreading_k06_begins.main.body.getD i (.Pass ⟨0,0,0,0⟩)
structure Txt (K:PySem.W.Frag) (mg:Str→Option Value):Prop where
  n_len:mg "len" = none
  n_max:mg "max" = none
  n_min:mg "min" = none
  n_isinstance:mg "isinstance" = none
  n_all:mg "all" = none
  n_any:mg "any" = none
  n_sorted:mg "sorted" = none
  n_range:mg "range" = none
  n_list:mg "list" = none
  n_tuple:mg "tuple" = none
  n_set:mg "set" = none
  n_ValueError:mg "ValueError" = none
  g_WORDS_EVER_EMPTY:GloT K mg "WORDS_EVER_EMPTY" [.str "none", .str "again", .str "ahead", .str "not"]
noncomputable abbrev bagO (b0 b1 b2:Int):OV:=.fl [.int b0,.int b1,.int b2]
noncomputable def BagB (b1 b2 n:Int):Prop:=0≤b1∧b1 < 2 ^ 200∧0≤b2∧b2≤n
theorem BagB.mono {b1 b2 m n:Int} (h:BagB b1 b2 m) (e:m≤n):BagB b1 b2 n:=⟨h.1,h.2.1,h.2.2.1,Int.le_trans h.2.2.2 e⟩
theorem lez (n:Nat) (h:autoParam (n≤16777216) L2.aD._auto_1):n≤sizeLine:=by rw [sizeLine_eq]; exact h
theorem lo1m {o:OV}:([o]:List OV).length=1∧∀ j o',([o]:List OV)[j]?=some o'→j ∉ ([0]:List Nat)→isFz o'=true:=⟨rfl,fun j o' e hj=>by
  cases j with
  | zero=>exact absurd (List.mem_cons_self ..) hj
  | succ j=>cases e⟩
theorem lo2m {o:OV} {d:D}:([o,.fz d]:List OV).length=2∧∀ j o',([o,.fz d]:List OV)[j]?=some o'→j ∉ ([0]:List Nat)→isFz o'=true:=⟨rfl,fun j o' e hj=>by
  cases j with
  | zero=>exact absurd (List.mem_cons_self ..) hj
  | succ j =>
    cases j with
    | zero=>cases e; rfl
    | succ j=>cases e⟩
theorem lo2 {d e:D}:([.fz d,.fz e]:List OV).length=2∧∀ j o',([.fz d,.fz e]:List OV)[j]?=some o'→j ∉ ([]:List Nat)→isFz o'=true:=⟨rfl,fun j o' e hj=>by
  cases j with
  | zero=>cases e; rfl
  | succ j =>
    cases j with
    | zero=>cases e; rfl
    | succ j=>cases e⟩
@[irreducible] noncomputable def c_law_cell_at:Ct:=fun os P=>∃ (ns:List Int) (k:Nat),os=[.fz (.lst (ns.map .int)),.fz (.int k)]∧∀ z:Int,P (.fz (.int z)) os
@[irreducible] noncomputable def c_law_bag:Ct:=fun os P=>∃ (z:Int) (k:Nat),os=[.fz (.int z),.fz (.int k)]∧k≤100∧∀ b0 b1 b2,BagB b1 b2 0→P (bagO b0 b1 b2) os
@[irreducible] noncomputable def c_law_draw:Ct:=fun os P=>∃ (b0 b1 b2 m n:Int),os=[bagO b0 b1 b2,.fz (.int m)]∧BagB b1 b2 n∧n < 2 ^ 40∧0 < m∧m < 1000000∧∀ r b0' b1' b2',0≤r→r < m→BagB b1' b2' (n+1)→P (.fz (.int r)) [bagO b0' b1' b2',.fz (.int m)]
section
variable {P:Program} {w:World} {K:PySem.W.Frag} {mg:Str→Option Value} {base:Heap}
noncomputable abbrev s_cell:Stmt:=top 24
theorem sc_cell:FnScope ["script", "k"] ["script", "k"] (defScope s_cell):=⟨rfl,rfl,rfl,by decide +kernel,rfl,by decide +kernel,by decide +kernel⟩
noncomputable def f_cell:FS :=
    (fSeq (fIf (fTest (fOp (aCmp (fun i j=>decide (i < j)) strLt) (fVar 1) (fCB cLen (fCons (fVar 0) fNil))))
      (fRet (fOp aIx (fVar 0) (fVar 1)))
      fNext)
    (fRet (fC (.int 0))))
theorem ok_cell {f:Addr} {fd:FuncData} (F:Fun K "_law_cell_at" "_law_cell_at" s_cell f fd) (T:Txt K mg)
    (hlen:∀ os P,c_law_cell_at os P→os.length=2∧∀ j o,os[j]?=some o→j ∉ ([]:List Nat)→isFz o=true)
    (hc:∀ os P,c_law_cell_at os P→f_cell { nx:=fin [] os P (.fz .non),rt:=fin [] os P } (startF 2 os)) :
    FnOk P w K mg base CX0 1 f fd ["script", "k"] (spM K c_law_cell_at) :=
  Fun.okG 2 [] F sc_cell rfl (by decide) hlen (by decide) (fun cdv A outer s H E hr=>⟨_,(wss_cons (ws_if (wt_cmp wop_ltA (we_var 1 rfl (Or.inl rfl)) (we_callB (wc_len K rfl) T.n_len kb_len (wa_c (we_var 0 rfl (Or.inl rfl)) wa_nil rfl) rfl rfl) (nomarkB (by decide) (by decide)))
      (wss_one (ws_ret (we_ixA K hr.units (we_var 0 rfl (Or.inl rfl)) (we_var 1 rfl (Or.inl rfl)) (fun _ _=>rfl) rfl)))
      wss_nil)
    (wss_one (ws_ret we_int))),
    (sf_seq (sf_if (tf_test (ef_op opf_cmp (ef_v (by decide)) (ef_cb cf_len (af_cons (ef_v (by decide)) af_nil))))
      (sf_ret (ef_op opf_ix (ef_v (by decide)) (ef_v (by decide))))
      sf_next)
    (sf_ret ef_int))⟩) hc
noncomputable abbrev s_bag:Stmt:=top 25
theorem sc_bag:FnScope ["cell", "place"] ["cell", "place"] (defScope s_bag):=⟨rfl,rfl,rfl,by decide +kernel,rfl,by decide +kernel,by decide +kernel⟩
noncomputable def f_bag:FS :=
    (fRet (fLst (fCons (fCB cMax (fCons (fC (.int 0)) (fCons (fOp (aI0 fun i j=>.int (i - j)) (fVar 0) (fOp (aIC CPow fun i j=>.int (i ^ j.toNat)) (fC (.int 10)) (fC (.int 18)))) fNil))) (fCons (fOp aAdd (fOp (aIC (fun _ j=>0 < j) fun i j=>.int (i % j)) (fVar 0) (fC (.int 170141183460469231731687303715884105727))) (fOp (aIC CMul fun i j=>.int (i * j)) (fC (.int 982451653)) (fVar 1))) (fCons (fC (.int 0)) fNil)))))
theorem ok_bag {f:Addr} {fd:FuncData} (F:Fun K "_law_bag" "_law_bag" s_bag f fd) (T:Txt K mg)
    (hlen:∀ os P,c_law_bag os P→os.length=2∧∀ j o,os[j]?=some o→j ∉ ([]:List Nat)→isFz o=true)
    (hc:∀ os P,c_law_bag os P→f_bag { nx:=fin [] os P (.fz .non),rt:=fin [] os P } (startF 2 os)) :
    FnOk P w K mg base CX0 1 f fd ["cell", "place"] (spM K c_law_bag) :=
  Fun.okG 2 [] F sc_bag rfl (by decide) hlen (by decide) (fun cdv A outer s H E hr=>⟨_,(wss_one (ws_ret (we_lst (wa_c (we_callB (wc_max rfl) T.n_max kb_max (wa_c we_int (wa_c (we_op wop_sub (we_var 0 rfl (Or.inl rfl)) (we_op wop_pow we_int we_int)) wa_nil rfl) rfl) rfl rfl) (wa_c (we_op (wop_addB K rfl) (we_op wop_mod (we_var 0 rfl (Or.inl rfl)) we_int) (we_op wop_mul we_int (we_var 1 rfl (Or.inl rfl)))) (wa_c we_int wa_nil rfl) rfl) rfl)))),
    (sf_ret (ef_lst (af_cons (ef_cb cf_max (af_cons ef_int (af_cons (ef_op opf_sub (ef_v (by decide)) (ef_op opf_pow ef_int ef_int)) af_nil))) (af_cons (ef_op opf_add (ef_op opf_mod (ef_v (by decide)) ef_int) (ef_op opf_mul ef_int (ef_v (by decide)))) (af_cons ef_int af_nil)))))⟩) hc
noncomputable abbrev s_draw:Stmt:=top 26
theorem sc_draw:FnScope ["bag", "many", "found", "mixed"] ["bag", "many"] (defScope s_draw):=⟨rfl,rfl,rfl,by decide +kernel,rfl,by decide +kernel,by decide +kernel⟩
noncomputable def f_draw:FS :=
    (fSeq (fIf (fTest (fOp (aCmp (fun i j=>decide (j < i)) fun i j=>strLt j i) (fOp aIx (fVar 0) (fC (.int 0))) (fC (.int 1))))
      (fSeq (fAsg (fOp (aIC (fun _ j=>0 < j) fun i j=>.int (i % j)) (fOp aIx (fVar 0) (fC (.int 0))) (fVar 1)) (fgName 2))
    (fSeq (fStore 0 (fOp (aIC CDiv fun i j=>.int (i / j)) (fOp aIx (fVar 0) (fC (.int 0))) (fVar 1)) (fC (.int 0)))
    (fRet (fVar 2))))
      fNext)
    (fSeq (fStore 0 (fOp aAdd (fOp aIx (fVar 0) (fC (.int 2))) (fC (.int 1))) (fC (.int 2)))
    (fSeq (fAsg (fOp (aIC (fun _ j=>0 < j) fun i j=>.int (i % j)) (fOp (aIC CPowB fun i j=>.int (i ^ j.toNat)) (fOp aAdd (fOp aIx (fVar 0) (fC (.int 1))) (fOp (aIC CMul fun i j=>.int (i * j)) (fC (.int 7368787)) (fOp aIx (fVar 0) (fC (.int 2))))) (fC (.int 3))) (fC (.int 170141183460469231731687303715884105727))) (fgName 3))
    (fSeq (fAsg (fOp (aIC (fun _ j=>0 < j) fun i j=>.int (i % j)) (fOp (aIC CPowB fun i j=>.int (i ^ j.toNat)) (fOp aAdd (fVar 3) (fOp (aIC CMul fun i j=>.int (i * j)) (fC (.int 15485863)) (fOp aIx (fVar 0) (fC (.int 2))))) (fC (.int 3))) (fC (.int 162259276829213363391578010288127))) (fgName 3))
    (fRet (fOp (aIC (fun _ j=>0 < j) fun i j=>.int (i % j)) (fOp (aIC CDiv fun i j=>.int (i / j)) (fVar 3) (fC (.int 1024))) (fVar 1)))))))
theorem nu0:List.Nodup [("bag" : Str),("many" : Str),("found" : Str),("mixed" : Str)]:=by decide +kernel
theorem ok_draw {f:Addr} {fd:FuncData} (F:Fun K "_law_draw" "_law_draw" s_draw f fd) (T:Txt K mg)
    (hlen:∀ os P,c_law_draw os P→os.length=2∧∀ j o,os[j]?=some o→j ∉ ([0]:List Nat)→isFz o=true)
    (hc:∀ os P,c_law_draw os P→f_draw { nx:=fin [0] os P (.fz .non),rt:=fin [0] os P } (startF 4 os)) :
    FnOk P w K mg base CX0 1 f fd ["bag", "many"] (spM K c_law_draw) :=
  Fun.okG 4 [0] F sc_draw rfl (by decide) hlen (by decide) (fun cdv A outer s H E hr=>⟨_,(wss_cons (ws_if (wt_cmp wop_gtA (we_ixA K hr.units (we_var 0 rfl (Or.inl rfl)) we_int (fun _ _=>rfl) rfl) we_int (nomarkB (by decide) (by decide)))
      (wss_cons (ws_set (i:=2) nu0 rfl (Or.inl rfl) (we_op wop_mod (we_ixA K hr.units (we_var 0 rfl (Or.inl rfl)) we_int (fun _ _=>rfl) rfl) (we_var 1 rfl (Or.inl rfl))) rfl (Or.inl rfl))
    (wss_cons (ws_asg (we_op wop_fdiv (we_ixA K hr.units (we_var 0 rfl (Or.inl rfl)) we_int (fun _ _=>rfl) rfl) (we_var 1 rfl (Or.inl rfl))) (wg_sub (we_var 0 rfl (Or.inl rfl)) we_int (fun _=>rfl)) rfl rfl rfl)
    (wss_one (ws_ret (we_var 2 rfl (Or.inl rfl))))))
      wss_nil)
    (wss_cons (ws_asg (we_op (wop_addB K rfl) (we_ixA K hr.units (we_var 0 rfl (Or.inl rfl)) we_int (fun _ _=>rfl) rfl) we_int) (wg_sub (we_var 0 rfl (Or.inl rfl)) we_int (fun _=>rfl)) rfl rfl rfl)
    (wss_cons (ws_set (i:=3) nu0 rfl (Or.inl rfl) (we_op wop_mod (we_op wop_powB (we_op (wop_addB K rfl) (we_ixA K hr.units (we_var 0 rfl (Or.inl rfl)) we_int (fun _ _=>rfl) rfl) (we_op wop_mul we_int (we_ixA K hr.units (we_var 0 rfl (Or.inl rfl)) we_int (fun _ _=>rfl) rfl))) we_int) we_int) rfl (Or.inl rfl))
    (wss_cons (ws_set (i:=3) nu0 rfl (Or.inl rfl) (we_op wop_mod (we_op wop_powB (we_op (wop_addB K rfl) (we_var 3 rfl (Or.inl rfl)) (we_op wop_mul we_int (we_ixA K hr.units (we_var 0 rfl (Or.inl rfl)) we_int (fun _ _=>rfl) rfl))) we_int) we_int) rfl (Or.inl rfl))
    (wss_one (ws_ret (we_op wop_mod (we_op wop_fdiv (we_var 3 rfl (Or.inl rfl)) we_int) (we_var 1 rfl (Or.inl rfl))))))))),
    (sf_seq (sf_if (tf_test (ef_op opf_cmp (ef_op opf_ix (ef_v (by decide)) ef_int) ef_int))
      (sf_seq (sf_asg (ef_op opf_mod (ef_op opf_ix (ef_v (by decide)) ef_int) (ef_v (by decide))) (gf_n (by decide)) (notIn_of (by decide)))
    (sf_seq (sf_store (by decide) (ef_op opf_fdiv (ef_op opf_ix (ef_v (by decide)) ef_int) (ef_v (by decide))) ef_int)
    (sf_ret (ef_v (by decide)))))
      sf_next)
    (sf_seq (sf_store (by decide) (ef_op opf_add (ef_op opf_ix (ef_v (by decide)) ef_int) ef_int) ef_int)
    (sf_seq (sf_asg (ef_op opf_mod (ef_op opf_powB (ef_op opf_add (ef_op opf_ix (ef_v (by decide)) ef_int) (ef_op opf_mul ef_int (ef_op opf_ix (ef_v (by decide)) ef_int))) ef_int) ef_int) (gf_n (by decide)) (notIn_of (by decide)))
    (sf_seq (sf_asg (ef_op opf_mod (ef_op opf_powB (ef_op opf_add (ef_v (by decide)) (ef_op opf_mul ef_int (ef_op opf_ix (ef_v (by decide)) ef_int))) ef_int) ef_int) (gf_n (by decide)) (notIn_of (by decide)))
    (sf_ret (ef_op opf_mod (ef_op opf_fdiv (ef_v (by decide)) ef_int) (ef_v (by decide))))))))⟩) hc
theorem l_cell (os:List OV) (P:OV→List OV→Prop) (h:c_law_cell_at os P):os.length=2∧∀ j o,os[j]?=some o→j ∉ ([]:List Nat)→isFz o=true:=by
  unfold c_law_cell_at at h
  obtain ⟨ns,k,rfl,_⟩:=h
  exact lo2
theorem h_cell (os:List OV) (P:OV→List OV→Prop) (h:c_law_cell_at os P):f_cell { nx:=fin [] os P (.fz .non),rt:=fin [] os P } (startF 2 os):=by
  unfold c_law_cell_at at h
  obtain ⟨ns,k,rfl,q⟩:=h
  walk_at "go"
  refine if_go ?_
  walk_at "go"
  refine br_by ((k:Int) < (ns.map D.int).length) (by simp) (fun hk=>?_) (fun _=>?_)
  · walk_at "go"
    have hk':k < ns.length:=by rw [List.length_map] at hk; (first|lia|omega)
    have e:atI (ns.map D.int) (k:Int)=some (.int ns[k]):=atI_nat (by simp [hk'])
    show match atI (ns.map D.int) (k:Int) with
      | some d=>_
      | none=>False
    rw [e]
    exact q _
  · walk_at "go"
    exact q _
theorem l_bag (os:List OV) (P:OV→List OV→Prop) (h:c_law_bag os P):os.length=2∧∀ j o,os[j]?=some o→j ∉ ([]:List Nat)→isFz o=true:=by
  unfold c_law_bag at h
  obtain ⟨ns,k,rfl,_⟩:=h
  exact lo2
theorem h_bag (os:List OV) (P:OV→List OV→Prop) (h:c_law_bag os P):f_bag { nx:=fin [] os P (.fz .non),rt:=fin [] os P } (startF 2 os):=by
  unfold c_law_bag at h
  obtain ⟨z,k,rfl,hk,q⟩:=h
  walk_at "go"
  refine ⟨⟨by decide,by decide,by decide⟩,?_⟩
  walk_at "go"
  refine ⟨(by decide:(0:Int) < 170141183460469231731687303715884105727),?_⟩
  walk_at "go"
  refine ⟨.inl ⟨by decide,by decide⟩,?_⟩
  walk_at "go"
  refine ⟨by show 3≤sizeLine; decide,?_⟩
  walk_at "go"
  refine q _ _ _ ⟨?_,?_,by (first|lia|omega),by (first|lia|omega)⟩
  · have:=Int.emod_nonneg z (show (170141183460469231731687303715884105727:Int)≠0 by decide)
    show 0≤z % 170141183460469231731687303715884105727+982451653 * (k:Int)
    (first|lia|omega)
  · have:=Int.emod_lt_of_pos z (show (0:Int) < 170141183460469231731687303715884105727 by decide)
    show z % 170141183460469231731687303715884105727+982451653 * (k:Int) < 2 ^ 200
    (first|lia|omega)
theorem pow_fits {x:Int} (h0:0≤x) (h:x < 2 ^ 300):x.natAbs < 2 ^ 1000:=by
  have:(2:Nat) ^ 300 < 2 ^ 1000:=by decide +kernel
  (first|lia|omega)
theorem l_draw (os:List OV) (P:OV→List OV→Prop) (h:c_law_draw os P):os.length=2∧∀ j o,os[j]?=some o→j ∉ ([0]:List Nat)→isFz o=true:=by
  unfold c_law_draw at h
  obtain ⟨b0,b1,b2,m,n,rfl,_⟩:=h
  exact lo2m
theorem h_draw (os:List OV) (P:OV→List OV→Prop) (h:c_law_draw os P):f_draw { nx:=fin [0] os P (.fz .non),rt:=fin [0] os P } (startF 4 os):=by
  unfold c_law_draw at h
  obtain ⟨b0,b1,b2,m,n,rfl,⟨h1,h1',h2,h2'⟩,hn,hm,hm',q⟩:=h
  walk_at "go"
  refine if_go ?_
  walk_at "go"
  refine br_by (b0 > 1) (by simp) (fun hk=>?_) (fun hk=>?_)
  · walk_at "go"
    refine ⟨hm,?_⟩
    walk_at "go"
    refine ⟨⟨hm,by (first|lia|omega)⟩,?_⟩
    walk_at "go"
    refine ⟨rfl,?_⟩
    walk_at "go"
    exact q _ _ _ _ (Int.emod_nonneg _ (by (first|lia|omega))) (Int.emod_lt_of_pos _ hm) ⟨h1,h1',h2,by (first|lia|omega)⟩
  · walk_at "go"
    refine ⟨rfl,?_⟩
    walk_at "go"
    refine ⟨.inl ⟨by decide,by decide⟩,?_⟩
    walk_at "go"
    refine ⟨⟨by decide,by decide,pow_fits (x:=b1+7368787 * (b2+1)) (by (first|lia|omega)) (by (first|lia|omega))⟩,?_⟩
    walk_at "go"
    refine ⟨(by decide:(0:Int) < 170141183460469231731687303715884105727),?_⟩
    have hx0:0≤(b1+7368787 * (b2+1)) ^ (3:Int).toNat % 170141183460469231731687303715884105727:=Int.emod_nonneg _ (by decide)
    have hx1:(b1+7368787 * (b2+1)) ^ (3:Int).toNat % 170141183460469231731687303715884105727 < 170141183460469231731687303715884105727:=Int.emod_lt_of_pos _ (by decide)
    walk_at "go"
    refine ⟨.inl ⟨by decide,by decide⟩,?_⟩
    walk_at "go"
    refine ⟨⟨by decide,by decide,pow_fits (x:=(b1+7368787 * (b2+1)) ^ (3:Int).toNat % 170141183460469231731687303715884105727+15485863 * (b2+1)) (by (first|lia|omega)) (by (first|lia|omega))⟩,?_⟩
    walk_at "go"
    refine ⟨(by decide:(0:Int) < 162259276829213363391578010288127),?_⟩
    walk_at "go"
    refine ⟨⟨by decide,by decide⟩,?_⟩
    walk_at "go"
    refine ⟨hm,?_⟩
    walk_at "go"
    exact q _ _ _ _ (Int.emod_nonneg _ (by (first|lia|omega))) (Int.emod_lt_of_pos _ hm) ⟨h1,h1',by (first|lia|omega),by (first|lia|omega)⟩
theorem draw_by {b0 b1 b2 m:Int} (n:Int) {P:OV→List OV→Prop} (hb:BagB b1 b2 n) (hn:n < 2 ^ 40) (hm:0 < m) (hm':m < 1000000) (h:∀ r b0' b1' b2',0≤r→r < m→BagB b1' b2' (n+1)→P (.fz (.int r)) [bagO b0' b1' b2',.fz (.int m)]) :
    c_law_draw [bagO b0 b1 b2,.fz (.int m)] P:=by
  unfold c_law_draw
  exact ⟨b0,b1,b2,m,n,rfl,hb,hn,hm,hm',h⟩
end
end KR
set_option maxHeartbeats 4000000
namespace KR
open PySem L2
noncomputable def lowL (l:List Nat):Prop:=∀ c ∈ l,97≤c∧c≤122
noncomputable def NameL (z:Str):Prop:=1≤z.cps.toList.length∧z.cps.toList.length≤8∧lowL z.cps.toList
theorem lowL_app {a b:List Nat} (ha:lowL a) (hb:lowL b):lowL (a++b):=fun c h=>(List.mem_append.mp h).elim (ha c) (hb c)
noncomputable abbrev abc:Str := "abcdefghijklmnopqrstuvwxyz"
theorem abc_low:lowL abc.cps.toList:=by
  have h:(abc.cps.toList.all fun c=>decide (97≤c∧c≤122))=true:=by decide +kernel
  intro c hc
  exact of_decide_eq_true (List.all_eq_true.mp h c hc)
theorem abc_len:abc.cps.toList.length=26:=by decide +kernel
theorem cut_cps (z:Str) (lo hi:Option Int):(cutS z lo hi).cps.toList=cutL z.cps.toList lo hi:=by simp [cutS]
theorem sz_is:sizeLine=16777216:=sizeLine_eq
@[irreducible] noncomputable def c_law_name:Ct:=fun os P=>∃ (b0 b1 b2 n:Int) (last:Str),os=[bagO b0 b1 b2,.fz (.str last)]∧BagB b1 b2 n∧n < 2 ^ 39∧lowL last.cps.toList∧last.cps.toList.length≤8∧∀ z b0' b1' b2',NameL z→BagB b1' b2' (n+12)→P (.fz (.str z)) [bagO b0' b1' b2',.fz (.str last)]
section
variable {P:Program} {w:World} {K:PySem.W.Frag} {mg:Str→Option Value} {base:Heap}
noncomputable abbrev s_name:Stmt:=top 27
theorem sc_name:FnScope ["bag", "last", "letters", "way", "letter", "at"] ["bag", "last"] (defScope s_name):=⟨rfl,rfl,rfl,by decide +kernel,rfl,by decide +kernel,by decide +kernel⟩
noncomputable def f_name:FS :=
    (fSeq (fAsg (fC (.str "abcdefghijklmnopqrstuvwxyz")) (fgName 2))
    (fSeq (fAsg (fCall c_law_draw (fCons (fVar 0) (fCons (fC (.int 6)) fNil))) (fgName 3))
    (fSeq (fAsg (fOp aIx (fVar 2) (fCall c_law_draw (fCons (fVar 0) (fCons (fC (.int 26)) fNil)))) (fgName 4))
    (fSeq (fIf (fAnd (fTest (fOp aEq (fVar 3) (fC (.int 0)))) (fTest (fChain (aCmp (fun i j=>decide (i < j)) strLt) (aCmp (fun i j=>decide (i < j)) strLt) (fC (.int 0)) (fCB cLen (fCons (fVar 1) fNil)) (fC (.int 8)))))
      (fRet (fOp aAdd (fVar 1) (fVar 4)))
      fNext)
    (fSeq (fIf (fAnd (fTest (fOp aEq (fVar 3) (fC (.int 1)))) (fTest (fOp (aCmp (fun i j=>decide (j < i)) fun i j=>strLt j i) (fCB cLen (fCons (fVar 1) fNil)) (fC (.int 1)))))
      (fRet (fSl aSl (fVar 1) (fPart (fC (.int 1))) fNoPart))
      fNext)
    (fSeq (fIf (fAnd (fTest (fOp aEq (fVar 3) (fC (.int 2)))) (fTest (fOp aNe (fVar 1) (fC (.str "")))))
      (fSeq (fAsg (fCall c_law_draw (fCons (fVar 0) (fCons (fFz (fCB cLen (fCons (fVar 1) fNil))) fNil))) (fgName 5))
    (fRet (fOp aAdd (fOp aAdd (fSl aSl (fVar 1) fNoPart (fPart (fVar 5))) (fVar 4)) (fSl aSl (fVar 1) (fPart (fOp aAdd (fVar 5) (fC (.int 1)))) fNoPart))))
      fNext)
    (fRet (fOp aAdd (fVar 4) (fJoin (fC (.str "")) (fComp 1 (fiRng1 (fCons (fCall c_law_draw (fCons (fVar 0) (fCons (fC (.int 8)) fNil))) fNil)) (fgName 0) fYes (fOp aIx (fVar 3) (fCall c_law_draw (fCons (fVar 1) (fCons (fC (.int 26)) fNil))))))))))))))
theorem nu1:List.Nodup [("bag" : Str),("last" : Str),("letters" : Str),("way" : Str),("letter" : Str),("at" : Str)]:=by decide +kernel
theorem ok_name {f:Addr} {fd:FuncData} (F:Fun K "_law_name" "_law_name" s_name f fd) (T:Txt K mg) (O_law_draw:Own P w K mg base "_law_draw" 1 ["bag", "many"] (spM K c_law_draw))
    (hlen:∀ os P,c_law_name os P→os.length=2∧∀ j o,os[j]?=some o→j ∉ ([0]:List Nat)→isFz o=true)
    (hc:∀ os P,c_law_name os P→f_name { nx:=fin [0] os P (.fz .non),rt:=fin [0] os P } (startF 6 os)) :
    FnOk P w K mg base CX0 2 f fd ["bag", "last"] (spM K c_law_name) :=
  Fun.okG 6 [0] F sc_name rfl (by decide) hlen (by decide) (fun cdv A outer s H E hr=>⟨_,(wss_cons (ws_set (i:=2) nu1 rfl (Or.inr rfl) we_str rfl (Or.inl rfl))
    (wss_cons (ws_set (i:=3) nu1 rfl (Or.inl rfl) (we_own O_law_draw (hr.mono (by decide)) (wa_c (we_var 0 rfl (Or.inr (Or.inl rfl))) (wa_c we_int wa_nil rfl) rfl) rfl rfl) rfl (Or.inl rfl))
    (wss_cons (ws_set (i:=4) nu1 rfl (Or.inl rfl) (we_ixA K hr.units (we_var 2 rfl (Or.inr (Or.inl rfl))) (we_own O_law_draw (hr.mono (by decide)) (wa_c (we_var 0 rfl (Or.inr (Or.inl rfl))) (wa_c we_int wa_nil rfl) rfl) rfl rfl) (fun _ _=>rfl) rfl) rfl (Or.inl rfl))
    (wss_cons (ws_if (wt_w (ww_and (wt_cmp (wop_eq K hr.units rfl) (we_var 3 rfl (Or.inl rfl)) we_int (nomarkB (by decide) (by decide))) (ww_and1 (wt_chain wop_ltA wop_ltA we_int (we_callB (wc_len K rfl) T.n_len kb_len (wa_c (we_var 1 rfl (Or.inl rfl)) wa_nil rfl) rfl rfl) we_int (by with_unfolding_all rfl)))))
      (wss_one (ws_ret (we_op (wop_addB K rfl) (we_var 1 rfl (Or.inl rfl)) (we_var 4 rfl (Or.inl rfl)))))
      wss_nil)
    (wss_cons (ws_if (wt_w (ww_and (wt_cmp (wop_eq K hr.units rfl) (we_var 3 rfl (Or.inl rfl)) we_int (nomarkB (by decide) (by decide))) (ww_and1 (wt_cmp wop_gtA (we_callB (wc_len K rfl) T.n_len kb_len (wa_c (we_var 1 rfl (Or.inl rfl)) wa_nil rfl) rfl rfl) we_int (nomarkB (by decide) (by decide))))))
      (wss_one (ws_ret (we_slice K (we_var 1 rfl (Or.inl rfl)) (wo_some we_int) wo_none rfl)))
      wss_nil)
    (wss_cons (ws_if (wt_w (ww_and (wt_cmp (wop_eq K hr.units rfl) (we_var 3 rfl (Or.inl rfl)) we_int (nomarkB (by decide) (by decide))) (ww_and1 (wt_cmp (wop_ne K hr.units rfl) (we_var 1 rfl (Or.inl rfl)) we_str (nomarkB (by decide) (by decide))))))
      (wss_cons (ws_set (i:=5) nu1 rfl (Or.inl rfl) (we_own O_law_draw (hr.mono (by decide)) (wa_c (we_var 0 rfl (Or.inr (Or.inl rfl))) (wa_c (we_callB (wc_len K rfl) T.n_len kb_len (wa_c (we_var 1 rfl (Or.inl rfl)) wa_nil rfl) rfl rfl) wa_nil rfl) rfl) rfl rfl) rfl (Or.inl rfl))
    (wss_one (ws_ret (we_op (wop_addB K rfl) (we_op (wop_addB K rfl) (we_slice K (we_var 1 rfl (Or.inl rfl)) wo_none (wo_some (we_var 5 rfl (Or.inl rfl))) rfl) (we_var 4 rfl (Or.inl rfl))) (we_slice K (we_var 1 rfl (Or.inl rfl)) (wo_some (we_op (wop_addB K rfl) (we_var 5 rfl (Or.inl rfl)) we_int)) wo_none rfl)))))
      wss_nil)
    (wss_one (ws_ret (we_op (wop_addB K rfl) (we_var 4 rfl (Or.inl rfl)) (we_meth K PySem.F.plainAttrs_str PySem.F.slot_str_join PySem.F.type_str_join (wm_join K rfl) we_str (wa_c (we_comp (T:=["k"]) (F:=["letters", "bag"]) (ixs:=[2,0]) rfl (CompScope.of rfl rfl rfl) (wi_range1 rfl T.n_range (wa_c (we_own O_law_draw (hr.mono (by decide)) (wa_c (we_var 0 rfl (Or.inr (Or.inl rfl))) (wa_c we_int wa_nil rfl) rfl) rfl rfl) wa_nil rfl) rfl) (fun _ _ _ _=>(wg_name (i:=0) (show List.Nodup [("k" : Str),("letters" : Str),("bag" : Str)] from by decide +kernel) rfl (Or.inl rfl) (Or.inr rfl))) (fun _ _ _ _=>wif_nil) (fun _ _ _ _=>(we_ixA K hr.units (we_var 1 rfl (Or.inr (Or.inl rfl))) (we_own O_law_draw (hr.mono (by decide)) (wa_c (we_var 2 rfl (Or.inr (Or.inl rfl))) (wa_c we_int wa_nil rfl) rfl) rfl rfl) (fun _ _=>rfl) rfl)) (fun _=>rfl)) wa_nil rfl) rfl rfl rfl (by decide) rfl)))))))))),
    (sf_seq (sf_asg ef_str (gf_n (by decide)) (notIn_of (by decide)))
    (sf_seq (sf_asg (ef_call (c:=c_law_draw) (af_cons (ef_v (by decide)) (af_cons ef_int af_nil))) (gf_n (by decide)) (notIn_of (by decide)))
    (sf_seq (sf_asg (ef_op opf_ix (ef_v (by decide)) (ef_call (c:=c_law_draw) (af_cons (ef_v (by decide)) (af_cons ef_int af_nil)))) (gf_n (by decide)) (notIn_of (by decide)))
    (sf_seq (sf_if (tf_and (tf_test (ef_op opf_eq (ef_v (by decide)) ef_int)) (tf_test (ef_chain opf_cmp opf_cmp ef_int (ef_cb cf_len (af_cons (ef_v (by decide)) af_nil)) ef_int)))
      (sf_ret (ef_op opf_add (ef_v (by decide)) (ef_v (by decide))))
      sf_next)
    (sf_seq (sf_if (tf_and (tf_test (ef_op opf_eq (ef_v (by decide)) ef_int)) (tf_test (ef_op opf_cmp (ef_cb cf_len (af_cons (ef_v (by decide)) af_nil)) ef_int)))
      (sf_ret (ef_sl slf_any (ef_v (by decide)) (of_some ef_int) of_none))
      sf_next)
    (sf_seq (sf_if (tf_and (tf_test (ef_op opf_eq (ef_v (by decide)) ef_int)) (tf_test (ef_op opf_ne (ef_v (by decide)) ef_str)))
      (sf_seq (sf_asg (ef_call (c:=c_law_draw) (af_cons (ef_v (by decide)) (af_cons (ef_fz (ef_cb cf_len (af_cons (ef_v (by decide)) af_nil))) af_nil))) (gf_n (by decide)) (notIn_of (by decide)))
    (sf_ret (ef_op opf_add (ef_op opf_add (ef_sl slf_any (ef_v (by decide)) of_none (of_some (ef_v (by decide)))) (ef_v (by decide))) (ef_sl slf_any (ef_v (by decide)) (of_some (ef_op opf_add (ef_v (by decide)) ef_int)) of_none))))
      sf_next)
    (sf_ret (ef_op opf_add (ef_v (by decide)) (ef_join ef_str (ef_comp (no:=1) (ixs:=[2,0]) (itf_rng1 (af_cons (ef_call (c:=c_law_draw) (af_cons (ef_v (by decide)) (af_cons ef_int af_nil))) af_nil)) (ix_range (by decide)) (gf_name (i:=0) (by decide) (by decide)) (lt_of (by decide)) tf_yes (ef_op opf_ix (ef_var (i:=3) (by decide)) (ef_call (c:=c_law_draw) (af_cons (ef_var (i:=1) (by decide)) (af_cons ef_int af_nil))))))))))))))⟩) hc
theorem l_name (os:List OV) (P:OV→List OV→Prop) (h:c_law_name os P):os.length=2∧∀ j o,os[j]?=some o→j ∉ ([0]:List Nat)→isFz o=true:=by
  unfold c_law_name at h
  obtain ⟨b0,b1,b2,n,last,rfl,_⟩:=h
  exact lo2m
theorem h_name (os:List OV) (P:OV→List OV→Prop) (h:c_law_name os P):f_name { nx:=fin [0] os P (.fz .non),rt:=fin [0] os P } (startF 6 os):=by
  unfold c_law_name at h
  obtain ⟨b0,b1,b2,n,last,rfl,hb,hn,hlow,hlen,q⟩:=h
  have sz:=sz_is
  have hll:last.length=last.cps.toList.length:=len_cps last
  have hn0:0≤n:=Int.le_trans hb.2.2.1 hb.2.2.2
  walk_at "go"
  refine draw_by n hb (by (first|lia|omega)) (by decide) (by decide) fun way b0 b1 b2 w0 w1 hb1=>?_
  walk_at "go"
  refine draw_by (n+1) hb1 (by (first|lia|omega)) (by decide) (by decide) fun r b0 b1 b2 r0 r1 hb2=>?_
  walk_at "go"
  refine ⟨by decide +kernel,?_⟩
  refine sign_by r0 (by rw [show (Str.ofString "abcdefghijklmnopqrstuvwxyz").cps.toList.length=26 from abc_len]; exact r1) fun c hcm=>?_
  have hcl:=abc_low c hcm
  have cl1:lowL [c]:=fun d hd=>by
    have:d=c:=by first|exact hd|exact List.mem_singleton.mp hd|simpa using hd
    rw [this]; exact hcl
  have cs:(⟨#[c]⟩:Str).cps.toList=[c]:=rfl
  have cl:(⟨#[c]⟩:Str).length=1:=rfl
  walk_at "go"
  refine if_guard True (fun _=>?_) (fun rest=>?_)
  rotate_left
  · -- way == 0 and 0 < len(last) < 8
    walk_at "go"
    refine ⟨eqOk_int,?_⟩
    walk_at "go"
    refine br_by (way=0) dEq_int (fun hw=>?_) (fun _=>?_)
    · walk_at "go"
      refine ⟨by (first|lia|omega),?_⟩
      walk_at "go"
      refine br_by ((0:Int) < last.length) (by simp) (fun h1=>?_) (fun _=>?_)
      · walk_at "go"
        refine br_by ((last.length:Int) < 8) (by simp) (fun h2=>?_) (fun _=>?_)
        · walk_at "go"
          refine ⟨by (first|lia|omega),?_⟩
          walk_at "go"
          refine q _ _ _ _ ⟨?_,?_,?_⟩ (hb2.mono (by (first|lia|omega)))
          · rw [cps_app,List.length_append,cs,List.length_singleton]; (first|lia|omega)
          · rw [cps_app,List.length_append,cs,List.length_singleton]; (first|lia|omega)
          · rw [cps_app,cs]; exact lowL_app hlow cl1
        · exact rest trivial
      · walk_at "go"
        exact br_F (rest trivial)
    · walk_at "go"
      exact br_F (rest trivial)
  walk_at "go"
  refine if_guard True (fun _=>?_) (fun rest=>?_)
  rotate_left
  · -- way == 1 and len(last) > 1
    walk_at "go"
    refine ⟨eqOk_int,?_⟩
    walk_at "go"
    refine br_by (way=1) dEq_int (fun hw=>?_) (fun _=>?_)
    · walk_at "go"
      refine ⟨by (first|lia|omega),?_⟩
      walk_at "go"
      refine br_by ((1:Int) < last.length) (by simp) (fun h1=>?_) (fun _=>?_)
      · walk_at "go"
        refine ⟨by (first|lia|omega),?_⟩
        walk_at "go"
        refine q _ _ _ _ ⟨?_,?_,?_⟩ (hb2.mono (by (first|lia|omega)))
        · rw [cut_cps,show (1:Int)=((1:Nat):Int) from rfl,cutL_from,List.length_drop]; (first|lia|omega)
        · rw [cut_cps]; exact Nat.le_trans (cutL_le _ _ _) hlen
        · rw [cut_cps]; exact fun d hd=>hlow d (cutL_mem hd)
      · exact rest trivial
    · walk_at "go"
      exact br_F (rest trivial)
  walk_at "go"
  refine if_guard True (fun _=>?_) (fun rest=>?_)
  rotate_left
  · -- way == 2 and last != ''
    walk_at "go"
    refine ⟨eqOk_int,?_⟩
    walk_at "go"
    refine br_by (way=2) dEq_int (fun hw=>?_) (fun _=>?_)
    · walk_at "go"
      refine ⟨eqOk_str,?_⟩
      walk_at "go"
      refine br_by (last ≠ "") ndEq_str (fun h1=>?_) (fun _=>?_)
      · have h1':0 < last.cps.toList.length:=by
          refine Nat.pos_of_ne_zero fun z=>h1 (str_ext ?_)
          rw [List.eq_nil_of_length_eq_zero z]
          rfl
        walk_at "go"
        refine ⟨by (first|lia|omega),?_⟩
        walk_at "go"
        refine draw_by (n+1+1) hb2 (by (first|lia|omega)) (by (first|lia|omega)) (by (first|lia|omega)) fun at' b0 b1 b2 a0 a1 hb3=>?_
        obtain ⟨k,rfl⟩:=Int.eq_ofNat_of_zero_le a0
        walk_at "go"
        refine ⟨by (first|lia|omega),?_⟩
        have hy1:=(cut_cps last none (some (k:Int))).trans (cutL_to last.cps.toList k)
        have l1:(cutS last none (some (k:Int))).length=k:=by rw [str_len hy1,List.length_take]; (first|lia|omega)
        walk_at "go"
        refine ⟨by rw [l1,cl]; (first|lia|omega),?_⟩
        walk_at "go"
        refine ⟨by (first|lia|omega),?_⟩
        have hy2:=(cut_cps last (some ((k:Int)+1)) none).trans (cutL_from last.cps.toList (k+1))
        have l2:(cutS last (some ((k:Int)+1)) none).length=last.cps.toList.length - (k+1):=by rw [str_len hy2,List.length_drop]
        have l12:(cutS last none (some (k:Int))++(⟨#[c]⟩:Str)).length=k+1:=by rw [len_cps,cps_app,List.length_append,← len_cps,l1]; rfl
        walk_at "go"
        refine ⟨by rw [l12,l2]; (first|lia|omega),?_⟩
        walk_at "go"
        refine q _ _ _ _ ⟨?_,?_,?_⟩ (hb3.mono (by (first|lia|omega)))
        · rw [cps_app,List.length_append,← len_cps,← len_cps,l12,l2]; (first|lia|omega)
        · rw [cps_app,List.length_append,← len_cps,← len_cps,l12,l2]; (first|lia|omega)
        · rw [cps_app,cps_app,hy1,hy2]
          exact lowL_app (lowL_app (fun d hd=>hlow d (List.mem_of_mem_take hd)) cl1) fun d hd=>hlow d (List.mem_of_mem_drop hd)
      · exact rest trivial
    · walk_at "go"
      exact br_F (rest trivial)
  -- the last row
  walk_at "go"
  refine draw_by (n+1+1) hb2 (by (first|lia|omega)) (by decide) (by decide) fun many b0 b1 b2 m0 m1 hb3=>?_
  walk_at "go"
  refine ⟨⟨by (first|lia|omega),by (first|lia|omega)⟩,?_⟩
  walk_at "go"
  refine fcomp_by (fun i as ρ=>∃ (zs:List Str) (x:Option OV) (b0 b1 b2:Int),as=zs.map .str∧zs.length=i∧(∀ z ∈ zs,z.cps.toList.length=1∧lowL z.cps.toList)∧BagB b1 b2 (n+3+i) ∧
      ρ=[x,some (bagO b0 b1 b2),some (.fz (.str last)),some (.fz (.str abc)),some (.fz (.int way)),some (.fz (.str ⟨#[c]⟩)),none])
    ⟨[],none,b0,b1,b2,rfl,rfl,(fun _ h=>by cases h),hb3.mono (by (first|lia|omega)),rfl⟩ ?_ ?_
  · rintro i d as ρ R hd ⟨zs,x,b0,b1,b2,rfl,hl,hz,hb4,rfl⟩ k
    obtain ⟨hi,rfl⟩:=rangeD_at hd
    walk_at "go"
    refine br_T ?_
    walk_at "go"
    refine draw_by _ hb4 (by (first|lia|omega)) (by decide) (by decide) fun r5 b0 b1 b2 r50 r51 hb5=>?_
    walk_at "go"
    refine ⟨by decide +kernel,?_⟩
    refine sign_by r50 (by rw [show (Str.ofString "abcdefghijklmnopqrstuvwxyz").cps.toList.length=26 from abc_len]; exact r51) fun d hdm=>?_
    walk_at "go"
    refine ⟨by rw [List.length_map]; (first|lia|omega),k _ _ ⟨zs++[⟨#[d]⟩],some (.fz (.int (0+i))),b0,b1,b2,by rw [List.map_append]; rfl,by simp [hl],fun z hz'=>?_,hb5.mono (by (first|lia|omega)),rfl⟩⟩
    rcases List.mem_append.mp hz' with h | h
    · exact hz z h
    · have:z=⟨#[d]⟩:=by first|exact h|exact List.mem_singleton.mp h|simpa using h
      rw [this]
      exact ⟨rfl,fun y hy=>by
        have:y=d:=by first|exact hy|exact List.mem_singleton.mp hy|simpa using hy
        rw [this]; exact abc_low d hdm⟩
  · rintro as ρ ⟨zs,x,b0,b1,b2,rfl,hl,hz,hb4,rfl⟩
    rw [rangeD_len] at hl hb4
    have hlz:(zs.map fun z=>z.cps.toList).flatten.length=zs.length:=by
      rw [List.length_flatten,List.map_map]
      have:zs.map ((fun l:List Nat=>l.length) ∘ fun z:Str=>z.cps.toList)=zs.map fun _=>1:=List.map_congr_left fun z hz'=>(hz z hz').1
      rw [show (List.map (List.length ∘ fun z:Str=>z.cps.toList) zs)=zs.map fun _=>1 from this]
      exact sum_ones zs
    have hls:(zs.map (·.length)).sum=zs.length:=by
      have:zs.map (·.length)=zs.map fun _=>1:=List.map_congr_left fun z hz'=>by rw [len_cps]; exact (hz z hz').1
      rw [this]
      exact sum_ones zs
    have hg:(Builtin.Str.glued (Str.ofString "") zs).cps.toList=(zs.map fun z=>z.cps.toList).flatten:=glued_nil zs
    have hgl:(Builtin.Str.glued (Str.ofString "") zs).length=zs.length:=by rw [str_len hg,hlz]
    walk_at "go"
    refine strs_by ⟨by rw [hls]; show zs.length+zs.length * 0≤_; (first|lia|omega),?_⟩
    walk_at "go"
    refine ⟨by rw [cl,hgl]; (first|lia|omega),?_⟩
    walk_at "go"
    refine q _ _ _ _ ⟨?_,?_,?_⟩ (hb4.mono (by (first|lia|omega)))
    · rw [cps_app,List.length_append,cs,List.length_singleton]; (first|lia|omega)
    · rw [cps_app,List.length_append,cs,List.length_singleton,← len_cps,hgl]; (first|lia|omega)
    · rw [cps_app,cs,hg]
      refine lowL_app cl1 fun y hy=>?_
      obtain ⟨l,hl',hy'⟩:=List.mem_flatten.mp hy
      obtain ⟨z,hz',rfl⟩:=List.mem_map.mp hl'
      exact (hz z hz').2 y hy'
theorem name_by {b0 b1 b2 n:Int} {last:Str} {P:OV→List OV→Prop} (hb:BagB b1 b2 n) (hn:n < 2 ^ 39) (hl:lowL last.cps.toList) (h8:last.cps.toList.length≤8) (h:∀ z b0' b1' b2',NameL z→BagB b1' b2' (n+12)→P (.fz (.str z)) [bagO b0' b1' b2',.fz (.str last)]) :
    c_law_name [bagO b0 b1 b2,.fz (.str last)] P:=by
  unfold c_law_name
  exact ⟨b0,b1,b2,n,last,rfl,hb,hn,hl,h8,h⟩
@[irreducible] noncomputable def c_law_names:Ct:=fun os P=>∃ (b0 b1 b2 n:Int) (k:Nat),os=[bagO b0 b1 b2,.fz (.int k)]∧BagB b1 b2 n∧n < 2 ^ 38∧k≤100∧∀ (zs:List Str) (b0' b1' b2':Int),zs.Nodup→(1≤k→1≤zs.length)→zs.length≤k→(∀ z ∈ zs,NameL z)→BagB b1' b2' (n+12 * k)→P (.fl (zs.map .str)) [bagO b0' b1' b2',.fz (.int k)]
noncomputable abbrev s_names:Stmt:=top 28
theorem sc_names:FnScope ["bag", "many", "found", "name", "k"] ["bag", "many"] (defScope s_names):=⟨rfl,rfl,rfl,by decide +kernel,rfl,by decide +kernel,by decide +kernel⟩
noncomputable def f_names:FS :=
    (fSeq (fSetO 2 fDNew)
    (fSeq (fAsg (fC (.str "")) (fgName 3))
    (fSeq (fFor (fiRng1 (fCons (fVar 1) fNil)) (fgName 4)
      (fSeq (fAsg (fCall c_law_name (fCons (fVar 0) (fCons (fFz (fVar 3)) fNil))) (fgName 3))
    (fDPut 2 (fC (.bl true)) (fVar 3))))
    (fRet (fCB cList (fCons (fVar 2) fNil))))))
theorem nu2:List.Nodup [("bag" : Str),("many" : Str),("found" : Str),("name" : Str),("k" : Str)]:=by decide +kernel
theorem ok_names {f:Addr} {fd:FuncData} (F:Fun K "_law_names" "_law_names" s_names f fd) (T:Txt K mg) (O_law_name:Own P w K mg base "_law_name" 2 ["bag", "last"] (spM K c_law_name))
    (hlen:∀ os P,c_law_names os P→os.length=2∧∀ j o,os[j]?=some o→j ∉ ([0]:List Nat)→isFz o=true)
    (hc:∀ os P,c_law_names os P→f_names { nx:=fin [0] os P (.fz .non),rt:=fin [0] os P } (startF 5 os)) :
    FnOk P w K mg base CX0 3 f fd ["bag", "many"] (spM K c_law_names) :=
  Fun.okG 5 [0] F sc_names rfl (by decide) hlen (by decide) (fun cdv A outer s H E hr=>⟨_,(wss_cons (ws_set (i:=2) nu2 rfl (Or.inl rfl) we_dnew rfl (Or.inl rfl))
    (wss_cons (ws_set (i:=3) nu2 rfl (Or.inl rfl) we_str rfl (Or.inl rfl))
    (wss_cons (ws_for PassesOwn.never rfl (wi_range1 rfl T.n_range (wa_c (we_var 1 rfl (Or.inl rfl)) wa_nil rfl) rfl) (wg_name (i:=4) nu2 rfl (Or.inl rfl) (Or.inl rfl))
      (wss_cons (ws_set (i:=3) nu2 rfl (Or.inl rfl) (we_own O_law_name (hr.mono (by decide)) (wa_c (we_var 0 rfl (Or.inl rfl)) (wa_c (we_var 3 rfl (Or.inl rfl)) wa_nil rfl) rfl) rfl rfl) rfl (Or.inl rfl))
    (wss_one (ws_dput (hu_of hr) (we_var 2 rfl (Or.inl rfl)) (we_var 3 rfl (Or.inl rfl)) we_bl rfl))) (fun _=>rfl))
    (wss_one (ws_ret (we_callT (wc_list K rfl rfl) T.n_list kb_list (wa_c (we_var 2 rfl (Or.inl rfl)) wa_nil rfl) rfl rfl)))))),
    (sf_seq (sf_setO ef_dnew (by decide))
    (sf_seq (sf_asg ef_str (gf_n (by decide)) (notIn_of (by decide)))
    (sf_seq (sf_for (itf_rng1 (af_cons (ef_v (by decide)) af_nil)) (gf_n (by decide)) (notIn_of (by decide))
      (sf_seq (sf_asg (ef_call (c:=c_law_name) (af_cons (ef_v (by decide)) (af_cons (ef_fz (ef_v (by decide))) af_nil))) (gf_n (by decide)) (notIn_of (by decide)))
    (sf_dput ef_bl (ef_v (by decide)))))
    (sf_ret (ef_cb cf_list (af_cons (ef_v (by decide)) af_nil))))))⟩) hc
theorem l_names (os:List OV) (P:OV→List OV→Prop) (h:c_law_names os P):os.length=2∧∀ j o,os[j]?=some o→j ∉ ([0]:List Nat)→isFz o=true:=by
  unfold c_law_names at h
  obtain ⟨b0,b1,b2,n,k,rfl,_⟩:=h
  exact lo2m
theorem h_names (os:List OV) (P:OV→List OV→Prop) (h:c_law_names os P):f_names { nx:=fin [0] os P (.fz .non),rt:=fin [0] os P } (startF 5 os):=by
  unfold c_law_names at h
  obtain ⟨b0,b1,b2,n,k,rfl,hb,hn,hk,q⟩:=h
  have sz:=sz_is
  have hn0:0≤n:=Int.le_trans hb.2.2.1 hb.2.2.2
  walk_at "go"
  refine ⟨⟨by (first|lia|omega),by (first|lia|omega)⟩,?_⟩
  refine floop_by (fun i ρ=>∃ (zs:List Str) (ds:List D) (name:Str) (x:Option OV) (b0 b1 b2:Int),zs.Nodup∧(∀ z ∈ zs,NameL z)∧zs.length≤i∧(1≤i→1≤zs.length)∧lowL name.cps.toList∧name.cps.toList.length≤8∧BagB b1 b2 (n+12 * i) ∧
      ρ=[some (bagO b0 b1 b2),some (.fz (.int k)),some (.fd (zs.map Sum.inr) ds),some (.fz (.str name)),x])
    ⟨[],[], "", none,b0,b1,b2,List.nodup_nil,by simp,by simp,by (first|lia|omega),(by intro c hc; cases hc),Nat.zero_le _,hb.mono (by (first|lia|omega)),rfl⟩ ?_ ?_
  · rintro i d ρ R hd ⟨zs,ds,name,x,b0,b1,b2,hnd,hnm,hzl,hz1,hlow,hl8,hb1,rfl⟩ kk
    obtain ⟨hi,rfl⟩:=rangeD_at hd
    walk_at "go"
    refine name_by hb1 (by (first|lia|omega)) hlow hl8 fun z b0 b1 b2 hz hb2=>?_
    walk_at "go"
    refine ⟨rfl,?_⟩
    walk_at "go"
    refine ⟨by rw [List.length_map]; (first|lia|omega),?_⟩
    obtain ⟨l1,l2,l3⟩:=dedup1_len zs z
    refine kk _ ⟨KS.dedup1 zs z,(putD (zs.map Sum.inr) ds (.inr z) (.bl true)).2,z,some (.fz (.int (0+i))),b0,b1,b2,dedup1_nodup hnd,fun y hy=>?_,by (first|lia|omega),fun _=>l3,hz.2.2,hz.2.1,hb2.mono (by (first|lia|omega)),?_⟩
    · rcases dedup1_mem.mp hy with h | h
      · exact hnm y h
      · rw [h]; exact hz
    · rw [← putD_strs (ds:=ds) (d:=.bl true)]; rfl
  · rintro ρ ⟨zs,ds,name,x,b0,b1,b2,hnd,hnm,hzl,hz1,hlow,hl8,hb1,rfl⟩
    rw [rangeD_len] at hzl hz1 hb1
    walk_at "go"
    have e:(zs.map Sum.inr).map dKey=zs.map D.str:=keys_dKey zs
    have hq:=q zs b0 b1 b2 hnd (fun h=>hz1 (by (first|lia|omega))) (by (first|lia|omega)) hnm (hb1.mono (by (first|lia|omega)))
    rw [← e] at hq
    exact hq
theorem names_by {b0 b1 b2 n:Int} {k:Nat} {P:OV→List OV→Prop} (hb:BagB b1 b2 n) (hn:n < 2 ^ 38) (hk:k≤100) (h:∀ (zs:List Str) (b0' b1' b2':Int),zs.Nodup→(1≤k→1≤zs.length)→zs.length≤k→(∀ z ∈ zs,NameL z)→BagB b1' b2' (n+12 * k)→P (.fl (zs.map .str)) [bagO b0' b1' b2',.fz (.int k)]) :
    c_law_names [bagO b0 b1 b2,.fz (.int k)] P:=by
  unfold c_law_names
  exact ⟨b0,b1,b2,n,k,rfl,hb,hn,hk,h⟩
end
end KR
set_option maxHeartbeats 4000000
namespace KR
open PySem L2
noncomputable def SignsL (z:Str):Prop:=1≤z.cps.toList.length∧z.cps.toList.length≤40∧z.cps.toList.Pairwise (· < ·)∧∀ c ∈ z.cps.toList,32≤c∧c≤126∧c≠37
noncomputable abbrev someS:Str := " !\"#$&'()*+,-./0123456789:;<=>?\x40ABCDEFGHIJKLMNOPQRSTUVWXYZ[\\]^_`abcdefghijklmnopqrstuvwxyz{|}~"
theorem someS_len:someS.cps.toList.length=94:=by decide +kernel
theorem someS_ok:∀ c ∈ someS.cps.toList,32≤c∧c≤126∧c≠37:=by
  have h:(someS.cps.toList.all fun c=>decide (32≤c∧c≤126∧c≠37))=true:=by decide +kernel
  intro c hc
  exact of_decide_eq_true (List.all_eq_true.mp h c hc)
theorem one_sign {z:Str} (h:z.cps.toList.length=1):∃ c,z=⟨#[c]⟩:=by
  obtain ⟨c,hc⟩:=List.length_eq_one_iff.mp h
  exact ⟨c,str_ext (by rw [hc])⟩
theorem signs_of:∀ {ss:List Str},(∀ z ∈ ss,z.cps.toList.length=1)→∃ cs:List Nat,ss=cs.map fun c=>(⟨#[c]⟩:Str)
  | [],_=>⟨[],rfl⟩
  | s::ss,h=>by
    obtain ⟨c,rfl⟩:=one_sign (h s (List.mem_cons_self ..))
    obtain ⟨cs,rfl⟩:=signs_of (ss:=ss) fun z hz=>h z (List.mem_cons_of_mem _ hz)
    exact ⟨c::cs,rfl⟩
theorem flat_signs:∀ cs:List Nat,((cs.map fun c=>(⟨#[c]⟩:Str)).map fun z=>z.cps.toList).flatten=cs
  | []=>rfl
  | c::cs=>by simp only [List.map_cons,List.flatten_cons,flat_signs cs]; rfl
theorem rise_signs {cs:List Nat} (h:(cs.map fun c=>(⟨#[c]⟩:Str)).Pairwise fun a b=>strLe a b=true) (hn:(cs.map fun c=>(⟨#[c]⟩:Str)).Nodup):cs.Pairwise (· < ·):=by
  rw [List.Nodup] at hn
  have h2:=h.and hn
  rw [List.pairwise_map] at h2
  refine h2.imp fun {a b} hab=>?_
  have h3:¬ ([b] < [a]):=strLe_iff.mp hab.1
  have h4:¬ (b < a):=fun z=>h3 (List.Lex.rel z)
  have h5:a≠b:=fun z=>hab.2 (by rw [z])
  (first|lia|omega)
@[irreducible] noncomputable def c_law_signs:Ct:=fun os P=>∃ (b0 b1 b2 n:Int),os=[bagO b0 b1 b2]∧BagB b1 b2 n∧n < 2 ^ 38∧∀ (z:Str) (b0' b1' b2':Int),SignsL z→BagB b1' b2' (n+42)→P (.fz (.str z)) [bagO b0' b1' b2']
section
variable {P:Program} {w:World} {K:PySem.W.Frag} {mg:Str→Option Value} {base:Heap}
noncomputable abbrev s_signs:Stmt:=top 29
theorem sc_signs:FnScope ["bag", "some", "many"] ["bag"] (defScope s_signs):=⟨rfl,rfl,rfl,by decide +kernel,rfl,by decide +kernel,by decide +kernel⟩
noncomputable def f_signs:FS :=
    (fSeq (fAsg (fC (.str " !\"#$&'()*+,-./0123456789:;<=>?\x40ABCDEFGHIJKLMNOPQRSTUVWXYZ[\\]^_`abcdefghijklmnopqrstuvwxyz{|}~")) (fgName 1))
    (fSeq (fAsg (fOp aAdd (fC (.int 1)) (fCall c_law_draw (fCons (fVar 0) (fCons (fFz (fOp aIx (fLst (fCons (fC (.int 6)) (fCons (fC (.int 40)) fNil))) (fOp (aIC CDiv fun i j=>.int (i / j)) (fCall c_law_draw (fCons (fVar 0) (fCons (fC (.int 8)) fNil))) (fC (.int 7))))) fNil)))) (fgName 2))
    (fRet (fJoin (fC (.str "")) (fSortSet (fComp 1 (fiRng1 (fCons (fVar 2) fNil)) (fgName 0) fYes (fOp aIx (fVar 2) (fCall c_law_draw (fCons (fVar 1) (fCons (fC (.int 94)) fNil))))))))))
theorem nu3:List.Nodup [("bag" : Str),("some" : Str),("many" : Str)]:=by decide +kernel
theorem ok_signs {f:Addr} {fd:FuncData} (F:Fun K "_law_signs" "_law_signs" s_signs f fd) (T:Txt K mg) (O_law_draw:Own P w K mg base "_law_draw" 1 ["bag", "many"] (spM K c_law_draw))
    (hlen:∀ os P,c_law_signs os P→os.length=1∧∀ j o,os[j]?=some o→j ∉ ([0]:List Nat)→isFz o=true)
    (hc:∀ os P,c_law_signs os P→f_signs { nx:=fin [0] os P (.fz .non),rt:=fin [0] os P } (startF 3 os)) :
    FnOk P w K mg base CX0 2 f fd ["bag"] (spM K c_law_signs) :=
  Fun.okG 3 [0] F sc_signs rfl (by decide) hlen (by decide) (fun cdv A outer s H E hr=>⟨_,(wss_cons (ws_set (i:=1) nu3 rfl (Or.inr rfl) we_str rfl (Or.inl rfl))
    (wss_cons (ws_set (i:=2) nu3 rfl (Or.inl rfl) (we_op (wop_addB K rfl) we_int (we_own O_law_draw (hr.mono (by decide)) (wa_c (we_var 0 rfl (Or.inr (Or.inl rfl))) (wa_c (we_ixA K hr.units (we_lst (wa_c we_int (wa_c we_int wa_nil rfl) rfl)) (we_op wop_fdiv (we_own O_law_draw (hr.mono (by decide)) (wa_c (we_var 0 rfl (Or.inr (Or.inl rfl))) (wa_c we_int wa_nil rfl) rfl) rfl rfl) we_int) (fun _ _=>rfl) rfl) wa_nil rfl) rfl) rfl rfl)) rfl (Or.inl rfl))
    (wss_one (ws_ret (we_meth K PySem.F.plainAttrs_str PySem.F.slot_str_join PySem.F.type_str_join (wm_join K rfl) we_str (wa_c (we_callB (wc_sortB P w K rfl rfl rfl rfl) T.n_sorted kb_sorted (wa_c (we_callT (wc_set P w K rfl rfl rfl rfl) T.n_set kb_set (wa_c (we_comp (T:=["k"]) (F:=["some", "bag"]) (ixs:=[1,0]) rfl (CompScope.of rfl rfl rfl) (wi_range1 rfl T.n_range (wa_c (we_var 2 rfl (Or.inl rfl)) wa_nil rfl) rfl) (fun _ _ _ _=>(wg_name (i:=0) (show List.Nodup [("k" : Str),("some" : Str),("bag" : Str)] from by decide +kernel) rfl (Or.inl rfl) (Or.inr rfl))) (fun _ _ _ _=>wif_nil) (fun _ _ _ _=>(we_ixA K hr.units (we_var 1 rfl (Or.inr (Or.inl rfl))) (we_own O_law_draw (hr.mono (by decide)) (wa_c (we_var 2 rfl (Or.inr (Or.inl rfl))) (wa_c we_int wa_nil rfl) rfl) rfl rfl) (fun _ _=>rfl) rfl)) (fun _=>rfl)) wa_nil rfl) rfl rfl) wa_nil rfl) rfl rfl) wa_nil rfl) rfl rfl rfl (by decide) rfl))))),
    (sf_seq (sf_asg ef_str (gf_n (by decide)) (notIn_of (by decide)))
    (sf_seq (sf_asg (ef_op opf_add ef_int (ef_call (c:=c_law_draw) (af_cons (ef_v (by decide)) (af_cons (ef_fz (ef_op opf_ix (ef_lst (af_cons ef_int (af_cons ef_int af_nil))) (ef_op opf_fdiv (ef_call (c:=c_law_draw) (af_cons (ef_v (by decide)) (af_cons ef_int af_nil))) ef_int))) af_nil)))) (gf_n (by decide)) (notIn_of (by decide)))
    (sf_ret (ef_join ef_str (ef_sortSetB (ef_comp (no:=1) (ixs:=[1,0]) (itf_rng1 (af_cons (ef_v (by decide)) af_nil)) (ix_range (by decide)) (gf_name (i:=0) (by decide) (by decide)) (lt_of (by decide)) tf_yes (ef_op opf_ix (ef_var (i:=2) (by decide)) (ef_call (c:=c_law_draw) (af_cons (ef_var (i:=1) (by decide)) (af_cons ef_int af_nil))))))))))⟩) hc
theorem l_signs (os:List OV) (P:OV→List OV→Prop) (h:c_law_signs os P):os.length=1∧∀ j o,os[j]?=some o→j ∉ ([0]:List Nat)→isFz o=true:=by
  unfold c_law_signs at h
  obtain ⟨b0,b1,b2,n,rfl,_⟩:=h
  exact lo1m
theorem pick2 {a b:Int} {i:Int} {Q:D→Prop} (h0:0≤i) (h:i < 2) (q:∀ m,(m=a∨m=b)→Q (.int m)):match atI [D.int a,D.int b] i with
    | some d=>Q d
    | none=>False:=item_by h0 h fun d hd=>by
  simp only [List.mem_cons,List.not_mem_nil,or_false] at hd
  rcases hd with rfl | rfl
  · exact q a (.inl rfl)
  · exact q b (.inr rfl)
theorem h_signs (os:List OV) (P:OV→List OV→Prop) (h:c_law_signs os P):f_signs { nx:=fin [0] os P (.fz .non),rt:=fin [0] os P } (startF 3 os):=by
  unfold c_law_signs at h
  obtain ⟨b0,b1,b2,n,rfl,hb,hn,q⟩:=h
  have sz:=sz_is
  have hn0:0≤n:=Int.le_trans hb.2.2.1 hb.2.2.2
  walk_at "go"
  refine ⟨lez 2,?_⟩
  walk_at "go"
  refine draw_by n hb (by (first|lia|omega)) (by decide) (by decide) fun r b0 b1 b2 r0 r1 hb1=>?_
  walk_at "go"
  refine ⟨⟨by decide,by decide⟩,?_⟩
  walk_at "go"
  refine pick2 (by (first|lia|omega)) (by (first|lia|omega)) fun m hm=>?_
  walk_at "go"
  refine draw_by (n+1) hb1 (by (first|lia|omega)) (by (first|lia|omega)) (by (first|lia|omega)) fun r3 b0 b1 b2 r30 r31 hb3=>?_
  walk_at "go"
  refine ⟨⟨by (first|lia|omega),by (first|lia|omega)⟩,?_⟩
  walk_at "go"
  refine fcomp_by (fun i as ρ=>∃ (zs:List Str) (x:Option OV) (b0 b1 b2:Int),as=zs.map .str∧zs.length=i∧(∀ z ∈ zs,z.cps.toList.length=1∧∀ c ∈ z.cps.toList,32≤c∧c≤126∧c≠37)∧BagB b1 b2 (n+2+i) ∧
      ρ=[x,some (bagO b0 b1 b2),some (.fz (.str someS)),some (.fz (.int (1+r3)))])
    ⟨[],none,b0,b1,b2,rfl,rfl,(fun _ h=>by cases h),hb3.mono (by (first|lia|omega)),rfl⟩ ?_ ?_
  · rintro i d as ρ R hd ⟨zs,x,b0,b1,b2,rfl,hl,hz,hb4,rfl⟩ k
    obtain ⟨hi,rfl⟩:=rangeD_at hd
    walk_at "go"
    refine br_T ?_
    walk_at "go"
    refine draw_by _ hb4 (by (first|lia|omega)) (by decide) (by decide) fun r5 b0 b1 b2 r50 r51 hb5=>?_
    walk_at "go"
    refine ⟨by decide +kernel,?_⟩
    refine sign_by r50 (by rw [show someS.cps.toList.length=94 from someS_len]; exact r51) fun d hdm=>?_
    walk_at "go"
    refine ⟨by rw [List.length_map]; (first|lia|omega),k _ _ ⟨zs++[⟨#[d]⟩],some (.fz (.int (0+i))),b0,b1,b2,by rw [List.map_append]; rfl,by simp [hl],fun z hz'=>?_,hb5.mono (by (first|lia|omega)),rfl⟩⟩
    rcases List.mem_append.mp hz' with h | h
    · exact hz z h
    · have:z=⟨#[d]⟩:=by first|exact h|exact List.mem_singleton.mp h|simpa using h
      rw [this]
      exact ⟨rfl,fun y hy=>by
        have:y=d:=by first|exact hy|exact List.mem_singleton.mp hy|simpa using hy
        rw [this]; exact someS_ok d hdm⟩
  · rintro as ρ ⟨zs,x,b0,b1,b2,rfl,hl,hz,hb4,rfl⟩
    rw [rangeD_len] at hl hb4
    have hsub:(setS zs).length≤zs.length:=setS_len zs
    walk_at "go"
    refine strs_by ⟨⟨by show _ < 4096; (first|lia|omega),by (first|lia|omega)⟩,?_⟩
    have hmz:∀ z ∈ setS zs,z.cps.toList.length=1∧∀ c ∈ z.cps.toList,32≤c∧c≤126∧c≠37:=fun z hz'=>hz z (setS_mem.mp hz')
    have hpos:1≤(setS zs).length:=by
      have h0:1≤zs.length:=by (first|lia|omega)
      cases zs with
      | nil=>simp at h0
      | cons z zs=>exact List.length_pos_of_mem (setS_mem.mpr (List.mem_cons_self ..))
    have hs1:=setS_sorted zs
    have hs2:=setS_nodup zs
    generalize setS zs=ss at hsub hmz hpos hs1 hs2 ⊢
    obtain ⟨cs,rfl⟩:=signs_of fun z hz'=>(hmz z hz').1
    have hpw:=rise_signs hs1 hs2
    rw [List.length_map] at hsub hpos
    walk_at "go"
    have hls:((cs.map fun c=>(⟨#[c]⟩:Str)).map (·.length)).sum=cs.length:=by
      rw [List.map_map]
      exact sum_ones cs
    refine strs_by ⟨by rw [hls,List.length_map]; show cs.length+cs.length * 0≤_; (first|lia|omega),?_⟩
    have hg:(Builtin.Str.glued (Str.ofString "") (cs.map fun c=>(⟨#[c]⟩:Str))).cps.toList=cs:=(glued_nil _).trans (flat_signs cs)
    walk_at "go"
    refine q _ _ _ _ ⟨by rw [hg]; (first|lia|omega),by rw [hg]; (first|lia|omega),by rw [hg]; exact hpw,fun c hc=>?_⟩ (hb4.mono (by (first|lia|omega)))
    rw [hg] at hc
    exact (hmz ⟨#[c]⟩ (List.mem_map.mpr ⟨c,hc,rfl⟩)).2 c (by simp)
theorem signs_by {b0 b1 b2 n:Int} {P:OV→List OV→Prop} (hb:BagB b1 b2 n) (hn:n < 2 ^ 38) (h:∀ (z:Str) (b0' b1' b2':Int),SignsL z→BagB b1' b2' (n+42)→P (.fz (.str z)) [bagO b0' b1' b2']) :
    c_law_signs [bagO b0 b1 b2] P:=by
  unfold c_law_signs
  exact ⟨b0,b1,b2,n,rfl,hb,hn,h⟩
noncomputable def FormL (zs:List Str) (word:Str) (rest:List Str):Prop :=
  ((word = "none" ∨ word = "any")∧rest=[])∨(word = "signs" ∧ ∃ z,rest=[z]∧SignsL z) ∨
  ((word = "again" ∨ word = "ahead" ∨ word = "not")∧rest.length=1∧∀ z ∈ rest,z ∈ zs)∨((word = "row" ∨ word = "first")∧1≤rest.length∧rest.length≤8∧∀ z ∈ rest,z ∈ zs)
noncomputable abbrev formD (word:Str) (rest:List Str):D:=.tup (.str word::rest.map .str)
@[irreducible] noncomputable def c_law_form:Ct:=fun os P=>∃ (b0 b1 b2 n:Int) (zs:List Str),os=[bagO b0 b1 b2,.fz (.lst (zs.map .str))]∧BagB b1 b2 n∧n < 2 ^ 37∧1≤zs.length∧zs.length≤1000 ∧
  ∀ (word:Str) (rest:List Str) (b0' b1' b2':Int),FormL zs word rest→BagB b1' b2' (n+50)→P (.fz (formD word rest)) [bagO b0' b1' b2',.fz (.lst (zs.map .str))]
noncomputable abbrev s_form:Stmt:=top 30
theorem sc_form:FnScope ["bag", "names", "words", "word", "many"] ["bag", "names"] (defScope s_form):=⟨rfl,rfl,rfl,by decide +kernel,rfl,by decide +kernel,by decide +kernel⟩
noncomputable def f_form:FS :=
    (fSeq (fAsg (fLst (fCons (fC (.str "none")) (fCons (fC (.str "any")) (fCons (fC (.str "signs")) (fCons (fC (.str "row")) (fCons (fC (.str "row")) (fCons (fC (.str "first")) (fCons (fC (.str "first")) (fCons (fC (.str "again")) (fCons (fC (.str "ahead")) (fCons (fC (.str "not")) fNil))))))))))) (fgName 2))
    (fSeq (fAsg (fOp aIx (fVar 2) (fCall c_law_draw (fCons (fVar 0) (fCons (fC (.int 10)) fNil)))) (fgName 3))
    (fSeq (fIf (fOr (fTest (fOp aEq (fVar 3) (fC (.str "none")))) (fTest (fOp aEq (fVar 3) (fC (.str "any")))))
      (fRet (fTup (fCons (fVar 3) fNil)))
      fNext)
    (fSeq (fIf (fTest (fOp aEq (fVar 3) (fC (.str "signs"))))
      (fRet (fTup (fCons (fVar 3) (fCons (fCall c_law_signs (fCons (fVar 0) fNil)) fNil))))
      fNext)
    (fSeq (fAsg (fC (.int 1)) (fgName 4))
    (fSeq (fIf (fOr (fTest (fOp aEq (fVar 3) (fC (.str "row")))) (fTest (fOp aEq (fVar 3) (fC (.str "first")))))
      (fAsg (fOp aAdd (fC (.int 1)) (fCall c_law_draw (fCons (fVar 0) (fCons (fFz (fOp aIx (fLst (fCons (fC (.int 3)) (fCons (fC (.int 8)) fNil))) (fCall c_law_draw (fCons (fVar 0) (fCons (fC (.int 2)) fNil))))) fNil)))) (fgName 4))
      fNext)
    (fRet (fCB cTuple (fCons (fOp aAdd (fLst (fCons (fVar 3) fNil)) (fComp 1 (fiRng1 (fCons (fVar 4) fNil)) (fgName 0) fYes (fOp aIx (fVar 2) (fCall c_law_draw (fCons (fVar 1) (fCons (fFz (fCB cLen (fCons (fVar 2) fNil))) fNil)))))) fNil)))))))))
theorem nu4:List.Nodup [("bag" : Str),("names" : Str),("words" : Str),("word" : Str),("many" : Str)]:=by decide +kernel
theorem ok_form {f:Addr} {fd:FuncData} (F:Fun K "_law_form" "_law_form" s_form f fd) (T:Txt K mg) (O_law_draw:Own P w K mg base "_law_draw" 1 ["bag", "many"] (spM K c_law_draw)) (O_law_signs:Own P w K mg base "_law_signs" 2 ["bag"] (spM K c_law_signs))
    (hlen:∀ os P,c_law_form os P→os.length=2∧∀ j o,os[j]?=some o→j ∉ ([0]:List Nat)→isFz o=true)
    (hc:∀ os P,c_law_form os P→f_form { nx:=fin [0] os P (.fz .non),rt:=fin [0] os P } (startF 5 os)) :
    FnOk P w K mg base CX0 3 f fd ["bag", "names"] (spM K c_law_form) :=
  Fun.okG 5 [0] F sc_form rfl (by decide) hlen (by decide) (fun cdv A outer s H E hr=>⟨_,(wss_cons (ws_set (i:=2) nu4 rfl (Or.inl rfl) (we_lst (wa_c we_str (wa_c we_str (wa_c we_str (wa_c we_str (wa_c we_str (wa_c we_str (wa_c we_str (wa_c we_str (wa_c we_str (wa_c we_str wa_nil rfl) rfl) rfl) rfl) rfl) rfl) rfl) rfl) rfl) rfl)) rfl (Or.inl rfl))
    (wss_cons (ws_set (i:=3) nu4 rfl (Or.inl rfl) (we_ixA K hr.units (we_var 2 rfl (Or.inl rfl)) (we_own O_law_draw (hr.mono (by decide)) (wa_c (we_var 0 rfl (Or.inr (Or.inl rfl))) (wa_c we_int wa_nil rfl) rfl) rfl rfl) (fun _ _=>rfl) rfl) rfl (Or.inl rfl))
    (wss_cons (ws_if (wt_w (ww_or (wt_cmp (wop_eq K hr.units rfl) (we_var 3 rfl (Or.inl rfl)) we_str (nomarkB (by decide) (by decide))) (ww_or1 (wt_cmp (wop_eq K hr.units rfl) (we_var 3 rfl (Or.inl rfl)) we_str (nomarkB (by decide) (by decide))))))
      (wss_one (ws_ret (we_tup (wa_c (we_var 3 rfl (Or.inl rfl)) wa_nil rfl))))
      wss_nil)
    (wss_cons (ws_if (wt_cmp (wop_eq K hr.units rfl) (we_var 3 rfl (Or.inl rfl)) we_str (nomarkB (by decide) (by decide)))
      (wss_one (ws_ret (we_tup (wa_c (we_var 3 rfl (Or.inl rfl)) (wa_c (we_own O_law_signs (hr.mono (by decide)) (wa_c (we_var 0 rfl (Or.inr (Or.inl rfl))) wa_nil rfl) rfl rfl) wa_nil rfl) rfl))))
      wss_nil)
    (wss_cons (ws_set (i:=4) nu4 rfl (Or.inl rfl) we_int rfl (Or.inl rfl))
    (wss_cons (ws_if (wt_w (ww_or (wt_cmp (wop_eq K hr.units rfl) (we_var 3 rfl (Or.inl rfl)) we_str (nomarkB (by decide) (by decide))) (ww_or1 (wt_cmp (wop_eq K hr.units rfl) (we_var 3 rfl (Or.inl rfl)) we_str (nomarkB (by decide) (by decide))))))
      (wss_one (ws_set (i:=4) nu4 rfl (Or.inl rfl) (we_op (wop_addB K rfl) we_int (we_own O_law_draw (hr.mono (by decide)) (wa_c (we_var 0 rfl (Or.inr (Or.inl rfl))) (wa_c (we_ixA K hr.units (we_lst (wa_c we_int (wa_c we_int wa_nil rfl) rfl)) (we_own O_law_draw (hr.mono (by decide)) (wa_c (we_var 0 rfl (Or.inr (Or.inl rfl))) (wa_c we_int wa_nil rfl) rfl) rfl rfl) (fun _ _=>rfl) rfl) wa_nil rfl) rfl) rfl rfl)) rfl (Or.inl rfl)))
      wss_nil)
    (wss_one (ws_ret (we_callT (wc_tuple K rfl) T.n_tuple kb_tuple (wa_c (we_op (wop_addB K rfl) (we_lst (wa_c (we_var 3 rfl (Or.inl rfl)) wa_nil rfl)) (we_comp (T:=["k"]) (F:=["names", "bag"]) (ixs:=[1,0]) rfl (CompScope.of rfl rfl rfl) (wi_range1 rfl T.n_range (wa_c (we_var 4 rfl (Or.inl rfl)) wa_nil rfl) rfl) (fun _ _ _ _=>(wg_name (i:=0) (show List.Nodup [("k" : Str),("names" : Str),("bag" : Str)] from by decide +kernel) rfl (Or.inl rfl) (Or.inr rfl))) (fun _ _ _ _=>wif_nil) (fun _ _ _ _=>(we_ixA K hr.units (we_var 1 rfl (Or.inr (Or.inl rfl))) (we_own O_law_draw (hr.mono (by decide)) (wa_c (we_var 2 rfl (Or.inr (Or.inl rfl))) (wa_c (we_callB (wc_len K rfl) T.n_len kb_len (wa_c (we_var 1 rfl (Or.inr (Or.inl rfl))) wa_nil rfl) rfl rfl) wa_nil rfl) rfl) rfl rfl) (fun _ _=>rfl) rfl)) (fun _=>rfl))) wa_nil rfl) rfl rfl))))))))),
    (sf_seq (sf_asg (ef_lst (af_cons ef_str (af_cons ef_str (af_cons ef_str (af_cons ef_str (af_cons ef_str (af_cons ef_str (af_cons ef_str (af_cons ef_str (af_cons ef_str (af_cons ef_str af_nil))))))))))) (gf_n (by decide)) (notIn_of (by decide)))
    (sf_seq (sf_asg (ef_op opf_ix (ef_v (by decide)) (ef_call (c:=c_law_draw) (af_cons (ef_v (by decide)) (af_cons ef_int af_nil)))) (gf_n (by decide)) (notIn_of (by decide)))
    (sf_seq (sf_if (tf_or (tf_test (ef_op opf_eq (ef_v (by decide)) ef_str)) (tf_test (ef_op opf_eq (ef_v (by decide)) ef_str)))
      (sf_ret (ef_tup (af_cons (ef_v (by decide)) af_nil)))
      sf_next)
    (sf_seq (sf_if (tf_test (ef_op opf_eq (ef_v (by decide)) ef_str))
      (sf_ret (ef_tup (af_cons (ef_v (by decide)) (af_cons (ef_call (c:=c_law_signs) (af_cons (ef_v (by decide)) af_nil)) af_nil))))
      sf_next)
    (sf_seq (sf_asg ef_int (gf_n (by decide)) (notIn_of (by decide)))
    (sf_seq (sf_if (tf_or (tf_test (ef_op opf_eq (ef_v (by decide)) ef_str)) (tf_test (ef_op opf_eq (ef_v (by decide)) ef_str)))
      (sf_asg (ef_op opf_add ef_int (ef_call (c:=c_law_draw) (af_cons (ef_v (by decide)) (af_cons (ef_fz (ef_op opf_ix (ef_lst (af_cons ef_int (af_cons ef_int af_nil))) (ef_call (c:=c_law_draw) (af_cons (ef_v (by decide)) (af_cons ef_int af_nil))))) af_nil)))) (gf_n (by decide)) (notIn_of (by decide)))
      sf_next)
    (sf_ret (ef_cb cf_tuple (af_cons (ef_op opf_add (ef_lst (af_cons (ef_v (by decide)) af_nil)) (ef_comp (no:=1) (ixs:=[1,0]) (itf_rng1 (af_cons (ef_v (by decide)) af_nil)) (ix_range (by decide)) (gf_name (i:=0) (by decide) (by decide)) (lt_of (by decide)) tf_yes (ef_op opf_ix (ef_var (i:=2) (by decide)) (ef_call (c:=c_law_draw) (af_cons (ef_var (i:=1) (by decide)) (af_cons (ef_fz (ef_cb cf_len (af_cons (ef_var (i:=2) (by decide)) af_nil))) af_nil)))))) af_nil)))))))))⟩) hc
theorem l_form (os:List OV) (P:OV→List OV→Prop) (h:c_law_form os P):os.length=2∧∀ j o,os[j]?=some o→j ∉ ([0]:List Nat)→isFz o=true:=by
  unfold c_law_form at h
  obtain ⟨b0,b1,b2,n,zs,rfl,_⟩:=h
  exact lo2m
noncomputable abbrev wordsL:List Str:=["none", "any", "signs", "row", "row", "first", "first", "again", "ahead", "not"]
theorem h_form (os:List OV) (P:OV→List OV→Prop) (h:c_law_form os P):f_form { nx:=fin [0] os P (.fz .non),rt:=fin [0] os P } (startF 5 os):=by
  unfold c_law_form at h
  obtain ⟨B0,B1,B2,n,zs,rfl,hb,hn,hz1,hz,ret⟩:=h
  have sz:=sz_is
  have hn0:0≤n:=Int.le_trans hb.2.2.1 hb.2.2.2
  walk_at "go"
  refine ⟨lez 10,?_⟩
  walk_at "go"
  refine draw_by n hb (by (first|lia|omega)) (by decide) (by decide) fun r b0 b1 b2 r0 r1 hb1=>?_
  walk_at "go"
  refine item_by (xs:=wordsL.map D.str) r0 (by show r < 10; exact r1) fun c hcm=>?_
  obtain ⟨word,hw,rfl⟩:=List.mem_map.mp hcm
  walk_at "go"
  refine if_guard (word ≠ "none" ∧ word ≠ "any") (fun hw1=>?_) (fun rest=>?_)
  rotate_left
  · walk_at "go"
    refine ⟨eqOk_str,?_⟩
    walk_at "go"
    refine br_by (word = "none") dEq_str (fun hw'=>?_) (fun ha=>?_)
    · walk_at "go"
      refine br_T ?_
      walk_at "go"
      refine ⟨lez 1,?_⟩
      walk_at "go"
      exact ret word [] _ _ _ (.inl ⟨.inl hw',rfl⟩) (hb1.mono (by (first|lia|omega)))
    · walk_at "go"
      refine ⟨eqOk_str,?_⟩
      walk_at "go"
      refine br_by (word = "any") dEq_str (fun hw'=>?_) (fun hb'=>?_)
      · walk_at "go"
        refine ⟨lez 1,?_⟩
        walk_at "go"
        exact ret word [] _ _ _ (.inl ⟨.inr hw',rfl⟩) (hb1.mono (by (first|lia|omega)))
      · exact rest ⟨ha,hb'⟩
  walk_at "go"
  refine if_guard (word ≠ "signs") (fun hw2=>?_) (fun rest=>?_)
  rotate_left
  · walk_at "go"
    refine ⟨eqOk_str,?_⟩
    walk_at "go"
    refine br_by (word = "signs") dEq_str (fun hw'=>?_) (fun ha=>?_)
    · walk_at "go"
      refine signs_by hb1 (by (first|lia|omega)) fun z b0 b1 b2 hz3 hb3=>?_
      walk_at "go"
      refine ⟨lez 2,?_⟩
      walk_at "go"
      exact ret word [z] _ _ _ (.inr (.inl ⟨hw',z,rfl,hz3⟩)) (hb3.mono (by (first|lia|omega)))
    · exact rest ha
  -- the last row,by how many
  have last:∀ (m:Nat) (b0 b1 b2:Int),1≤m→m≤8→(m=1∨word = "row" ∨ word = "first")→BagB b1 b2 (n+3) →
      (fRet (fCB cTuple (fCons (fOp aAdd (fLst (fCons (fVar 3) fNil)) (fComp 1 (fiRng1 (fCons (fVar 4) fNil)) (fgName 0) fYes (fOp aIx (fVar 2) (fCall c_law_draw (fCons (fVar 1) (fCons (fFz (fCB cLen (fCons (fVar 2) fNil))) fNil)))))) fNil)))
        { nx:=fin [0] [bagO B0 B1 B2,.fz (.lst (zs.map .str))] P (.fz .non),rt:=fin [0] [bagO B0 B1 B2,.fz (.lst (zs.map .str))] P }
        [some (bagO b0 b1 b2),some (.fz (.lst (zs.map .str))),some (.fz (.lst (wordsL.map .str))),some (.fz (.str word)),some (.fz (.int m))]:=by
    intro m b0 b1 b2 hm1 hm8 hmw hb3
    walk_at "go"
    refine ⟨lez 1,?_⟩
    walk_at "go"
    refine ⟨⟨by (first|lia|omega),by (first|lia|omega)⟩,?_⟩
    walk_at "go"
    refine fcomp_by (fun i as ρ=>∃ (ys:List Str) (x:Option OV) (b0 b1 b2:Int),as=ys.map .str∧ys.length=i∧(∀ y ∈ ys,y ∈ zs)∧BagB b1 b2 (n+3+i) ∧
        ρ=[x,some (bagO b0 b1 b2),some (.fz (.lst (zs.map .str))),some (.fz (.lst (wordsL.map .str))),some (.fz (.str word)),some (.fz (.int m))])
      ⟨[],none,b0,b1,b2,rfl,rfl,(fun _ h=>by cases h),hb3.mono (by (first|lia|omega)),rfl⟩ ?_ ?_
    · rintro i d as ρ R hd ⟨ys,x,b0,b1,b2,rfl,hl,hy,hb5,rfl⟩ k
      obtain ⟨hi,rfl⟩:=rangeD_at hd
      walk_at "go"
      refine br_T ?_
      walk_at "go"
      have el:((zs.map D.str).length:Int)=zs.length:=by rw [List.length_map]
      refine draw_by (m:=((zs.map D.str).length:Int)) _ hb5 (by (first|lia|omega)) (by (first|lia|omega)) (by (first|lia|omega)) fun r6 b0 b1 b2 r60 r61 hb6=>?_
      walk_at "go"
      refine item_by r60 r61 fun c hcm=>?_
      obtain ⟨y,hyz,rfl⟩:=List.mem_map.mp hcm
      walk_at "go"
      refine ⟨by rw [List.length_map]; (first|lia|omega),k _ _ ⟨ys++[y],some (.fz (.int (0+i))),b0,b1,b2,by rw [List.map_append]; rfl,by simp [hl],fun y' hy'=>?_,hb6.mono (by (first|lia|omega)),rfl⟩⟩
      rcases List.mem_append.mp hy' with h | h
      · exact hy y' h
      · have:y'=y:=by first|exact h|exact List.mem_singleton.mp h|simpa using h
        rw [this]; exact hyz
    · rintro as ρ ⟨ys,x,b0,b1,b2,rfl,hl,hy,hb5,rfl⟩
      rw [rangeD_len] at hl hb5
      have hl':ys.length=m:=by (first|lia|omega)
      walk_at "go"
      refine ⟨by rw [sz,List.length_map]; show 1+_≤_; (first|lia|omega),?_⟩
      walk_at "go"
      refine ret word ys _ _ _ ?_ (hb5.mono (by (first|lia|omega)))
      have hw9:word = "none" ∨ word = "any" ∨ word = "signs" ∨ word = "row" ∨ word = "first" ∨ word = "again" ∨ word = "ahead" ∨ word = "not" := by
        simp only [wordsL,List.mem_cons,List.not_mem_nil,or_false] at hw
        rcases hw with h | h | h | h | h | h | h | h | h | h <;> simp [h]
      rcases hw9 with h | h | h | h | h | h | h | h
      · exact absurd h hw1.1
      · exact absurd h hw1.2
      · exact absurd h hw2
      · exact .inr (.inr (.inr ⟨.inl h,by (first|lia|omega),by (first|lia|omega),hy⟩))
      · exact .inr (.inr (.inr ⟨.inr h,by (first|lia|omega),by (first|lia|omega),hy⟩))
      all_goals
        have hm':m=1:=by
          rcases hmw with z | z | z
          · exact z
          · rw [h] at z; exact absurd z (by decide)
          · rw [h] at z; exact absurd z (by decide)
        refine .inr (.inr (.inl ⟨?_,by (first|lia|omega),hy⟩))
        simp [h]
  walk_at "go"
  refine if_guard True (fun _=>(force_is _ _).mpr (last 1 _ _ _ (by (first|lia|omega)) (by (first|lia|omega)) (.inl rfl) (hb1.mono (by (first|lia|omega))))) (fun rest=>?_)
  have more:(word = "row" ∨ word = "first")→(fAsg (fOp aAdd (fC (.int 1)) (fCall c_law_draw (fCons (fVar 0) (fCons (fFz (fOp aIx (fLst (fCons (fC (.int 3)) (fCons (fC (.int 8)) fNil))) (fCall c_law_draw (fCons (fVar 0) (fCons (fC (.int 2)) fNil))))) fNil)))) (fgName 4))
        { nx:=fun ρ'=>force ρ' ((fRet (fCB cTuple (fCons (fOp aAdd (fLst (fCons (fVar 3) fNil)) (fComp 1 (fiRng1 (fCons (fVar 4) fNil)) (fgName 0) fYes (fOp aIx (fVar 2) (fCall c_law_draw (fCons (fVar 1) (fCons (fFz (fCB cLen (fCons (fVar 2) fNil))) fNil)))))) fNil)))
            { nx:=fin [0] [bagO B0 B1 B2,.fz (.lst (zs.map .str))] P (.fz .non),rt:=fin [0] [bagO B0 B1 B2,.fz (.lst (zs.map .str))] P }),rt:=fin [0] [bagO B0 B1 B2,.fz (.lst (zs.map .str))] P }
        [some (bagO b0 b1 b2),some (.fz (.lst (zs.map .str))),some (.fz (.lst (wordsL.map .str))),some (.fz (.str word)),some (.fz (.int 1))]:=by
    intro hw'
    walk_at "go"
    refine ⟨lez 2,?_⟩
    walk_at "go"
    refine draw_by _ hb1 (by (first|lia|omega)) (by decide) (by decide) fun r4 b0 b1 b2 r40 r41 hb4=>?_
    walk_at "go"
    refine pick2 r40 r41 fun m hm=>?_
    walk_at "go"
    refine draw_by _ hb4 (by (first|lia|omega)) (by (first|lia|omega)) (by (first|lia|omega)) fun r5 b0 b1 b2 r50 r51 hb5=>?_
    obtain ⟨k,rfl⟩:=Int.eq_ofNat_of_zero_le r50
    have:=last (k+1) b0 b1 b2 (by (first|lia|omega)) (by (first|lia|omega)) (.inr hw') (hb5.mono (by (first|lia|omega)))
    rw [show ((k+1:Nat):Int)=1+(k:Int) by (first|lia|omega)] at this
    exact (force_is _ _).mpr this
  walk_at "go"
  refine ⟨eqOk_str,?_⟩
  walk_at "go"
  refine br_by (word = "row") dEq_str (fun hw'=>?_) (fun ha=>?_)
  · walk_at "go"
    exact br_T (more (.inl hw'))
  · walk_at "go"
    refine ⟨eqOk_str,?_⟩
    walk_at "go"
    refine br_by (word = "first") dEq_str (fun hw'=>?_) (fun hb'=>?_)
    · exact more (.inr hw')
    · exact rest trivial
theorem form_by {b0 b1 b2 n:Int} {zs:List Str} {P:OV→List OV→Prop} (hb:BagB b1 b2 n) (hn:n < 2 ^ 37) (h1:1≤zs.length) (h2:zs.length≤1000) (h:∀ (word:Str) (rest:List Str) (b0' b1' b2':Int),FormL zs word rest→BagB b1' b2' (n+50)→P (.fz (formD word rest)) [bagO b0' b1' b2',.fz (.lst (zs.map .str))]) :
    c_law_form [bagO b0 b1 b2,.fz (.lst (zs.map .str))] P:=by
  unfold c_law_form
  exact ⟨b0,b1,b2,n,zs,rfl,hb,hn,h1,h2,h⟩
end
end KR
set_option maxHeartbeats 4000000
namespace KR
open PySem L2
noncomputable abbrev Rw:=Str×Str×List Str
noncomputable abbrev rowD (r:Rw):D:=.tup [.str r.1,formD r.2.1 r.2.2]
noncomputable def FormP (zs:List Str) (word:Str) (rest:List Str):Prop:=(∀ z ∈ zs,NameL z)∧FormL zs word rest
noncomputable def FormN (word:Str) (rest:List Str):Prop:=∃ zs:List Str,FormP zs word rest
theorem formL_mono {ws zs:List Str} {word:Str} {rest:List Str} (h:FormL ws word rest) (s:∀ z ∈ ws,z ∈ zs):FormL zs word rest:=by
  rcases h with h | h | ⟨h1,h2,h3⟩ | ⟨h1,h2,h3,h4⟩
  · exact .inl h
  · exact .inr (.inl h)
  · exact .inr (.inr (.inl ⟨h1,h2,fun z hz=>s z (h3 z hz)⟩))
  · exact .inr (.inr (.inr ⟨h1,h2,h3,fun z hz=>s z (h4 z hz)⟩))
structure BookL (rows:List Rw):Prop where
  nd:(rows.map (·.1)).Nodup
  ok:∀ r ∈ rows,NameL r.1∧FormN r.2.1 r.2.2
  few:rows.length≤30
  pool:∃ zs:List Str,zs.length≤45∧∀ r ∈ rows,FormP zs r.2.1 r.2.2
theorem BookL.perm {rows rows':List Rw} (h:BookL rows) (p:rows'.Perm rows):BookL rows':=⟨((p.map (·.1)).nodup_iff).mpr h.nd,fun r hr=>h.ok r (p.mem_iff.mp hr),by rw [p.length_eq]; exact h.few,by
  obtain ⟨zs,hl,hp⟩:=h.pool
  exact ⟨zs,hl,fun r hr=>hp r (p.mem_iff.mp hr)⟩⟩
@[irreducible] noncomputable def c_law_book:Ct:=fun os P=>∃ (b0 b1 b2 n:Int),os=[bagO b0 b1 b2]∧BagB b1 b2 n∧n < 2 ^ 36∧∀ (rows:List Rw) (b0' b1' b2':Int),BookL rows→BagB b1' b2' (n+5000)→P (.fl (rows.map rowD)) [bagO b0' b1' b2']
section
variable {P:Program} {w:World} {K:PySem.W.Frag} {mg:Str→Option Value} {base:Heap}
theorem cut_map {α β:Type} (f:α→β) (xs:List α) (lo hi:Option Int):cutL (xs.map f) lo hi=(cutL xs lo hi).map f:=by
  unfold cutL
  rw [List.length_map,List.map_take,List.map_drop]
noncomputable abbrev s_book:Stmt:=top 31
theorem sc_book:FnScope ["bag", "later", "most", "many", "names", "found", "k"] ["bag"] (defScope s_book):=⟨rfl,rfl,rfl,by decide +kernel,rfl,by decide +kernel,by decide +kernel⟩
noncomputable def f_book:FS :=
    (fSeq (fAsg (fCall c_law_draw (fCons (fVar 0) (fCons (fC (.int 2)) fNil))) (fgName 1))
    (fSeq (fAsg (fOp aIx (fLst (fCons (fC (.int 9)) (fCons (fC (.int 31)) fNil))) (fOp (aIC CDiv fun i j=>.int (i / j)) (fCall c_law_draw (fCons (fVar 0) (fCons (fC (.int 8)) fNil))) (fC (.int 7)))) (fgName 2))
    (fSeq (fAsg (fCall c_law_draw (fCons (fVar 0) (fCons (fFz (fVar 2)) fNil))) (fgName 3))
    (fSeq (fAsg (fCall c_law_names (fCons (fVar 0) (fCons (fFz (fOp aAdd (fVar 3) (fOp aIx (fLst (fCons (fC (.int 2)) (fCons (fC (.int 10)) fNil))) (fOp (aIC CDiv fun i j=>.int (i / j)) (fCall c_law_draw (fCons (fVar 0) (fCons (fC (.int 4)) fNil))) (fC (.int 3)))))) fNil))) (fgName 4))
    (fSeq (fAsg (fCB cMin (fCons (fVar 3) (fCons (fCB cLen (fCons (fVar 4) fNil)) fNil))) (fgName 3))
    (fSeq (fSetO 5 (fLst fNil))
    (fSeq (fFor (fiRng1 (fCons (fVar 3) fNil)) (fgName 6)
      (fDrop (fApp 5 (fTup (fCons (fOp aIx (fVar 4) (fVar 6)) (fCons (fCall c_law_form (fCons (fVar 0) (fCons (fFz (fOrT (fSl aSl (fVar 4) (fPart (fOp (aIC CMul fun i j=>.int (i * j)) (fOp aAdd (fVar 6) (fC (.int 1))) (fVar 1))) fNoPart) (fVar 4))) fNil))) fNil))))))
    (fRet (fCB cSortB (fCons (fVar 5) fNil))))))))))
theorem nu5:List.Nodup [("bag" : Str),("later" : Str),("most" : Str),("many" : Str),("names" : Str),("found" : Str),("k" : Str)]:=by decide +kernel
theorem ok_book {f:Addr} {fd:FuncData} (F:Fun K "_law_book" "_law_book" s_book f fd) (T:Txt K mg) (O_law_draw:Own P w K mg base "_law_draw" 1 ["bag", "many"] (spM K c_law_draw)) (O_law_names:Own P w K mg base "_law_names" 3 ["bag", "many"] (spM K c_law_names)) (O_law_form:Own P w K mg base "_law_form" 3 ["bag", "names"] (spM K c_law_form))
    (hlen:∀ os P,c_law_book os P→os.length=1∧∀ j o,os[j]?=some o→j ∉ ([0]:List Nat)→isFz o=true)
    (hc:∀ os P,c_law_book os P→f_book { nx:=fin [0] os P (.fz .non),rt:=fin [0] os P } (startF 7 os)) :
    FnOk P w K mg base CX0 4 f fd ["bag"] (spM K c_law_book) :=
  Fun.okG 7 [0] F sc_book rfl (by decide) hlen (by decide) (fun cdv A outer s H E hr=>⟨_,(wss_cons (ws_set (i:=1) nu5 rfl (Or.inl rfl) (we_own O_law_draw (hr.mono (by decide)) (wa_c (we_var 0 rfl (Or.inl rfl)) (wa_c we_int wa_nil rfl) rfl) rfl rfl) rfl (Or.inl rfl))
    (wss_cons (ws_set (i:=2) nu5 rfl (Or.inl rfl) (we_ixA K hr.units (we_lst (wa_c we_int (wa_c we_int wa_nil rfl) rfl)) (we_op wop_fdiv (we_own O_law_draw (hr.mono (by decide)) (wa_c (we_var 0 rfl (Or.inl rfl)) (wa_c we_int wa_nil rfl) rfl) rfl rfl) we_int) (fun _ _=>rfl) rfl) rfl (Or.inl rfl))
    (wss_cons (ws_set (i:=3) nu5 rfl (Or.inl rfl) (we_own O_law_draw (hr.mono (by decide)) (wa_c (we_var 0 rfl (Or.inl rfl)) (wa_c (we_var 2 rfl (Or.inl rfl)) wa_nil rfl) rfl) rfl rfl) rfl (Or.inl rfl))
    (wss_cons (ws_set (i:=4) nu5 rfl (Or.inl rfl) (we_own O_law_names (hr.mono (by decide)) (wa_c (we_var 0 rfl (Or.inl rfl)) (wa_c (we_op (wop_addB K rfl) (we_var 3 rfl (Or.inl rfl)) (we_ixA K hr.units (we_lst (wa_c we_int (wa_c we_int wa_nil rfl) rfl)) (we_op wop_fdiv (we_own O_law_draw (hr.mono (by decide)) (wa_c (we_var 0 rfl (Or.inl rfl)) (wa_c we_int wa_nil rfl) rfl) rfl rfl) we_int) (fun _ _=>rfl) rfl)) wa_nil rfl) rfl) rfl rfl) rfl (Or.inl rfl))
    (wss_cons (ws_set (i:=3) nu5 rfl (Or.inl rfl) (we_callB (wc_min rfl) T.n_min kb_min (wa_c (we_var 3 rfl (Or.inl rfl)) (wa_c (we_callB (wc_len K rfl) T.n_len kb_len (wa_c (we_var 4 rfl (Or.inl rfl)) wa_nil rfl) rfl rfl) wa_nil rfl) rfl) rfl rfl) rfl (Or.inl rfl))
    (wss_cons (ws_set (i:=5) nu5 rfl (Or.inl rfl) (we_lst wa_nil) rfl (Or.inl rfl))
    (wss_cons (ws_for PassesOwn.never rfl (wi_range1 rfl T.n_range (wa_c (we_var 3 rfl (Or.inl rfl)) wa_nil rfl) rfl) (wg_name (i:=6) nu5 rfl (Or.inl rfl) (Or.inl rfl))
      (wss_one (ws_expr (we_meth K PySem.F.plainAttrs_list PySem.F.slot_list_append PySem.F.type_list_append (wm_append K rfl) (we_var 5 rfl (Or.inl rfl)) (wa_c (we_tup (wa_c (we_ixA K hr.units (we_var 4 rfl (Or.inl rfl)) (we_var 6 rfl (Or.inl rfl)) (fun _ _=>rfl) rfl) (wa_c (we_own O_law_form (hr.mono (by decide)) (wa_c (we_var 0 rfl (Or.inl rfl)) (wa_c (we_orT K (we_slice K (we_var 4 rfl (Or.inl rfl)) (wo_some (we_op wop_mul (we_op (wop_addB K rfl) (we_var 6 rfl (Or.inl rfl)) we_int) (we_var 1 rfl (Or.inl rfl)))) wo_none rfl) (we_one (we_var 4 rfl (Or.inl rfl))) rfl) wa_nil rfl) rfl) rfl rfl) wa_nil rfl) rfl)) wa_nil rfl) rfl rfl rfl (by decide) rfl) rfl)) (fun _=>rfl))
    (wss_one (ws_ret (we_callB (wc_sortB P w K rfl rfl rfl rfl) T.n_sorted kb_sorted (wa_c (we_var 5 rfl (Or.inl rfl)) wa_nil rfl) rfl rfl)))))))))),
    (sf_seq (sf_asg (ef_call (c:=c_law_draw) (af_cons (ef_v (by decide)) (af_cons ef_int af_nil))) (gf_n (by decide)) (notIn_of (by decide)))
    (sf_seq (sf_asg (ef_op opf_ix (ef_lst (af_cons ef_int (af_cons ef_int af_nil))) (ef_op opf_fdiv (ef_call (c:=c_law_draw) (af_cons (ef_v (by decide)) (af_cons ef_int af_nil))) ef_int)) (gf_n (by decide)) (notIn_of (by decide)))
    (sf_seq (sf_asg (ef_call (c:=c_law_draw) (af_cons (ef_v (by decide)) (af_cons (ef_fz (ef_v (by decide))) af_nil))) (gf_n (by decide)) (notIn_of (by decide)))
    (sf_seq (sf_asg (ef_call (c:=c_law_names) (af_cons (ef_v (by decide)) (af_cons (ef_fz (ef_op opf_add (ef_v (by decide)) (ef_op opf_ix (ef_lst (af_cons ef_int (af_cons ef_int af_nil))) (ef_op opf_fdiv (ef_call (c:=c_law_draw) (af_cons (ef_v (by decide)) (af_cons ef_int af_nil))) ef_int)))) af_nil))) (gf_n (by decide)) (notIn_of (by decide)))
    (sf_seq (sf_asg (ef_cb cf_min (af_cons (ef_v (by decide)) (af_cons (ef_cb cf_len (af_cons (ef_v (by decide)) af_nil)) af_nil))) (gf_n (by decide)) (notIn_of (by decide)))
    (sf_seq (sf_setO (ef_lst af_nil) (by decide))
    (sf_seq (sf_for (itf_rng1 (af_cons (ef_v (by decide)) af_nil)) (gf_n (by decide)) (notIn_of (by decide))
      (sf_drop (ef_appV (by decide) (ef_tup (af_cons (ef_op opf_ix (ef_v (by decide)) (ef_v (by decide))) (af_cons (ef_call (c:=c_law_form) (af_cons (ef_v (by decide)) (af_cons (ef_fz (ef_orT (ef_sl slf_any (ef_v (by decide)) (of_some (ef_op opf_mul (ef_op opf_add (ef_v (by decide)) ef_int) (ef_v (by decide)))) of_none) (ef_v (by decide)))) af_nil))) af_nil))))))
    (sf_ret (ef_cb cf_sortB (af_cons (ef_v (by decide)) af_nil))))))))))⟩) hc
theorem l_book (os:List OV) (P:OV→List OV→Prop) (h:c_law_book os P):os.length=1∧∀ j o,os[j]?=some o→j ∉ ([0]:List Nat)→isFz o=true:=by
  unfold c_law_book at h
  obtain ⟨b0,b1,b2,n,rfl,_⟩:=h
  exact lo1m
theorem h_book (os:List OV) (P:OV→List OV→Prop) (h:c_law_book os P):f_book { nx:=fin [0] os P (.fz .non),rt:=fin [0] os P } (startF 7 os):=by
  unfold c_law_book at h
  obtain ⟨B0,B1,B2,n,rfl,hb,hn,q⟩:=h
  have sz:=sz_is
  have hn0:0≤n:=Int.le_trans hb.2.2.1 hb.2.2.2
  walk_at "go"
  refine draw_by n hb (by (first|lia|omega)) (by decide) (by decide) fun later b0 b1 b2 la0 la1 hb1=>?_
  walk_at "go"
  refine ⟨lez 2,?_⟩
  walk_at "go"
  refine draw_by _ hb1 (by (first|lia|omega)) (by decide) (by decide) fun r b0 b1 b2 r0 r1 hb2=>?_
  walk_at "go"
  refine ⟨⟨by decide,by decide⟩,?_⟩
  walk_at "go"
  refine pick2 (by (first|lia|omega)) (by (first|lia|omega)) fun most hmost=>?_
  walk_at "go"
  refine draw_by _ hb2 (by (first|lia|omega)) (by (first|lia|omega)) (by (first|lia|omega)) fun many b0 b1 b2 m0 m1 hb3=>?_
  walk_at "go"
  refine ⟨lez 2,?_⟩
  walk_at "go"
  refine draw_by _ hb3 (by (first|lia|omega)) (by decide) (by decide) fun r b0 b1 b2 r0 r1 hb4=>?_
  walk_at "go"
  refine ⟨⟨by decide,by decide⟩,?_⟩
  walk_at "go"
  refine pick2 (by (first|lia|omega)) (by (first|lia|omega)) fun ext hext=>?_
  obtain ⟨nn,hnn⟩:=Int.eq_ofNat_of_zero_le (show 0≤many+ext by (first|lia|omega))
  have e0:many+ext=(nn:Int):=hnn
  walk_at "go"
  show c_law_names [bagO b0 b1 b2,.fz (.int (many+ext))] _
  rw [e0]
  refine names_by (k:=nn) hb4 (by (first|lia|omega)) (by (first|lia|omega)) fun zs b0 b1 b2 hnd hz1 hzl hnm hb5=>?_
  have hz1':=hz1 (by (first|lia|omega))
  walk_at "go"
  refine ⟨Nat.zero_le _,?_⟩
  have em:∃ mm:Nat,(if ((zs.map D.str).length:Int) < many then ((zs.map D.str).length:Int) else many)=(mm:Int)∧mm≤zs.length∧mm≤30:=by
    rw [List.length_map]
    split
    · exact ⟨zs.length,rfl,by (first|lia|omega),by (first|lia|omega)⟩
    · exact ⟨many.toNat,by (first|lia|omega),by (first|lia|omega),by (first|lia|omega)⟩
  obtain ⟨mm,hmm,hmz,hm30⟩:=em
  walk_at "go"
  rw [hmm]
  refine ⟨⟨by (first|lia|omega),by (first|lia|omega)⟩,?_⟩
  walk_at "go"
  refine floop_by (fun i ρ=>∃ (rows:List Rw) (x:Option OV) (b0 b1 b2:Int),rows.map (·.1)=zs.take i∧(∀ r ∈ rows,NameL r.1∧FormP zs r.2.1 r.2.2)∧BagB b1 b2 (n+5+12 * 40+50 * i) ∧
      ρ=[some (bagO b0 b1 b2),some (.fz (.int later)),some (.fz (.int most)),some (.fz (.int (mm:Int))),some (.fz (.lst (zs.map .str))),some (.fl (rows.map rowD)),x])
    ⟨[],none,b0,b1,b2,by simp,(fun _ h=>by cases h),hb5.mono (by (first|lia|omega)),rfl⟩ ?_ ?_
  · rintro i d ρ R hd ⟨rows,x,b0,b1,b2,hrz,hrok,hb6,rfl⟩ kk
    obtain ⟨hi,rfl⟩:=rangeD_at hd
    have hrl:rows.length=i:=by have:=congrArg List.length hrz; rw [List.length_map,List.length_take] at this; (first|lia|omega)
    have hiz:i < zs.length:=by (first|lia|omega)
    have ei:atI (zs.map D.str) (0+(i:Int))=some (.str zs[i]):=by rw [Int.zero_add]; exact atI_nat (by simp [hiz])
    have item:∀ {Q:D→Prop},Q (.str zs[i])→match atI (zs.map D.str) (0+(i:Int)) with
        | some d=>Q d
        | none=>False:=fun {Q} q=>by rw [ei]; exact q
    have more:∀ (word:Str) (rest:List Str) (b0 b1 b2:Int),FormP zs word rest→BagB b1 b2 (n+5+12 * 40+50 * i+50)→((rows.map rowD).length < sizeLine∧R [some (bagO b0 b1 b2),some (.fz (.int later)),some (.fz (.int most)),some (.fz (.int (mm:Int))),some (.fz (.lst (zs.map .str))),some (.fl (rows.map rowD++[.tup [.str zs[i],formD word rest]])),some (.fz (.int (0+(i:Int))))]):=by
      intro word rest b0 b1 b2 hf hb7
      refine ⟨by rw [List.length_map]; (first|lia|omega),kk _ ⟨rows++[(zs[i],word,rest)],some (.fz (.int (0+(i:Int)))),b0,b1,b2,?_,fun r hr=>?_,hb7.mono (by (first|lia|omega)),by rw [List.map_append]; rfl⟩⟩
      · rw [List.map_append,hrz,List.take_succ,List.getElem?_eq_getElem hiz]; rfl
      · rcases List.mem_append.mp hr with h | h
        · exact hrok r h
        · have:r=(zs[i],word,rest):=by first|exact h|exact List.mem_singleton.mp h|simpa using h
          rw [this]; exact ⟨hnm _ (List.getElem_mem hiz),hf⟩
    walk_at "go"
    refine ⟨rfl,?_⟩
    walk_at "go"
    refine item ?_
    walk_at "go"
    refine ⟨.inl ⟨by (first|lia|omega),by (first|lia|omega)⟩,?_⟩
    walk_at "go"
    show br (!(cutL (zs.map D.str) (some ((0+(i:Int)+1) * later)) none).isEmpty) _ _
    rw [cut_map]
    have hsub:∀ z ∈ cutL zs (some ((0+(i:Int)+1) * later)) none,z ∈ zs:=fun z hz=>cutL_mem hz
    have hle:=cutL_le zs (some ((0+(i:Int)+1) * later)) none
    generalize cutL zs (some ((0+(i:Int)+1) * later)) none=ws at hsub hle
    refine br_by (1≤ws.length) (by cases ws <;> simp) (fun h1=>?_) (fun _=>?_)
    · walk_at "go"
      refine form_by hb6 (by (first|lia|omega)) h1 (by (first|lia|omega)) fun word rest b0 b1 b2 hf hb7=>?_
      walk_at "go"
      refine ⟨lez 2,?_⟩
      walk_at "go"
      exact more word rest b0 b1 b2 ⟨hnm,formL_mono hf hsub⟩ hb7
    · walk_at "go"
      refine form_by hb6 (by (first|lia|omega)) hz1' (by (first|lia|omega)) fun word rest b0 b1 b2 hf hb7=>?_
      walk_at "go"
      refine ⟨lez 2,?_⟩
      walk_at "go"
      exact more word rest b0 b1 b2 ⟨hnm,hf⟩ hb7
  · rintro ρ ⟨rows,x,b0,b1,b2,hrz,hrok,hb6,rfl⟩
    rw [rangeD_len] at hrz hb6
    have hrl:rows.length=mm:=by have:=congrArg List.length hrz; rw [List.length_map,List.length_take] at this; (first|lia|omega)
    walk_at "go"
    have hB:BookL rows:=⟨by rw [hrz]; exact hnd.sublist (List.take_sublist ..),fun r hr=>⟨(hrok r hr).1,zs,(hrok r hr).2⟩,by (first|lia|omega),zs,by (first|lia|omega),fun r hr=>(hrok r hr).2⟩
    refine sort_rows (name:=fun r:Rw=>r.1) (rest:=fun r:Rw=>[formD r.2.1 r.2.2]) hB.nd (by (first|lia|omega)) fun rows' hp=>?_
    walk_at "go"
    exact q rows' _ _ _ (hB.perm hp) (hb6.mono (by (first|lia|omega)))
theorem book_by {b0 b1 b2 n:Int} {P:OV→List OV→Prop} (hb:BagB b1 b2 n) (hn:n < 2 ^ 36) (h:∀ (rows:List Rw) (b0' b1' b2':Int),BookL rows→BagB b1' b2' (n+5000)→P (.fl (rows.map rowD)) [bagO b0' b1' b2']) :
    c_law_book [bagO b0 b1 b2] P:=by
  unfold c_law_book
  exact ⟨b0,b1,b2,n,rfl,hb,hn,h⟩
end
end KR
set_option maxHeartbeats 4000000
namespace KR
open PySem L2
@[irreducible] noncomputable def c_law_chain:Ct:=fun os P=>∃ (b0 b1 b2 n:Int),os=[bagO b0 b1 b2]∧BagB b1 b2 n∧n < 2 ^ 36∧∀ (rows:List Rw) (b0' b1' b2':Int),BookL rows→BagB b1' b2' (n+5000)→P (.fl (rows.map rowD)) [bagO b0' b1' b2']
section
variable {P:Program} {w:World} {K:PySem.W.Frag} {mg:Str→Option Value} {base:Heap}
noncomputable abbrev s_chain:Stmt:=top 32
theorem sc_chain:FnScope ["bag", "names", "last", "back", "found", "k", "word", "further"] ["bag"] (defScope s_chain):=⟨rfl,rfl,rfl,by decide +kernel,rfl,by decide +kernel,by decide +kernel⟩
noncomputable def f_chain:FS :=
    (fSeq (fAsg (fCall c_law_names (fCons (fVar 0) (fCons (fFz (fOp aAdd (fC (.int 2)) (fCall c_law_draw (fCons (fVar 0) (fCons (fC (.int 29)) fNil))))) fNil))) (fgName 1))
    (fSeq (fAsg (fOp aIx (fLst (fCons (fTup (fCons (fC (.str "none")) fNil)) (fCons (fTup (fCons (fC (.str "any")) fNil)) (fCons (fTup (fCons (fC (.str "signs")) (fCons (fC (.str "ab")) fNil))) (fCons (fTup (fCons (fC (.str "first")) (fCons (fOp aIx (fVar 1) (fC (.int 0))) fNil))) (fCons (fTup (fCons (fC (.str "not")) (fCons (fOp aIx (fVar 1) (fC (.int 0))) fNil))) fNil)))))) (fCall c_law_draw (fCons (fVar 0) (fCons (fC (.int 5)) fNil)))) (fgName 2))
    (fSeq (fAsg (fOp aIx (fVar 1) (fCall c_law_draw (fCons (fVar 0) (fCons (fFz (fCB cLen (fCons (fVar 1) fNil))) fNil)))) (fgName 3))
    (fSeq (fIf (fTest (fOp aEq (fCall c_law_draw (fCons (fVar 0) (fCons (fC (.int 3)) fNil))) (fC (.int 2))))
      (fAsg (fTup (fCons (fC (.str "row")) (fCons (fVar 3) fNil))) (fgName 2))
      fNext)
    (fSeq (fSetO 4 (fLst (fCons (fTup (fCons (fOp aIx (fVar 1) (fNeg (fC (.int 1)))) (fCons (fVar 2) fNil))) fNil)))
    (fSeq (fFor (fiRng1 (fCons (fOp (aI0 fun i j=>.int (i - j)) (fCB cLen (fCons (fVar 1) fNil)) (fC (.int 1))) fNil)) (fgName 5)
      (fSeq (fAsg (fOp aIx (fLst (fCons (fC (.str "row")) (fCons (fC (.str "row")) (fCons (fC (.str "first")) (fCons (fC (.str "again")) (fCons (fC (.str "ahead")) (fCons (fC (.str "not")) fNil))))))) (fCall c_law_draw (fCons (fVar 0) (fCons (fC (.int 6)) fNil)))) (fgName 6))
    (fSeq (fAsg (fSl aSl (fVar 1) (fPart (fOp aAdd (fVar 5) (fC (.int 1)))) (fPart (fOp aAdd (fVar 5) (fC (.int 2))))) (fgName 7))
    (fSeq (fIf (fOr (fTest (fOp aEq (fVar 6) (fC (.str "row")))) (fTest (fOp aEq (fVar 6) (fC (.str "first")))))
      (fAsg (fOp aAdd (fVar 7) (fComp 1 (fiRng1 (fCons (fCall c_law_draw (fCons (fVar 0) (fCons (fC (.int 3)) fNil))) fNil)) (fgName 0) fYes (fOp aIx (fVar 2) (fCall c_law_draw (fCons (fVar 1) (fCons (fFz (fCB cLen (fCons (fVar 2) fNil))) fNil)))))) (fgName 7))
      fNext)
    (fDrop (fApp 4 (fTup (fCons (fOp aIx (fVar 1) (fVar 5)) (fCons (fCB cTuple (fCons (fOp aAdd (fLst (fCons (fVar 6) fNil)) (fVar 7)) fNil)) fNil)))))))))
    (fRet (fCB cSortB (fCons (fVar 4) fNil)))))))))
theorem nu6:List.Nodup [("bag" : Str),("names" : Str),("last" : Str),("back" : Str),("found" : Str),("k" : Str),("word" : Str),("further" : Str)]:=by decide +kernel
theorem ok_chain {f:Addr} {fd:FuncData} (F:Fun K "_law_chain" "_law_chain" s_chain f fd) (T:Txt K mg) (O_law_draw:Own P w K mg base "_law_draw" 1 ["bag", "many"] (spM K c_law_draw)) (O_law_names:Own P w K mg base "_law_names" 3 ["bag", "many"] (spM K c_law_names))
    (hlen:∀ os P,c_law_chain os P→os.length=1∧∀ j o,os[j]?=some o→j ∉ ([0]:List Nat)→isFz o=true)
    (hc:∀ os P,c_law_chain os P→f_chain { nx:=fin [0] os P (.fz .non),rt:=fin [0] os P } (startF 8 os)) :
    FnOk P w K mg base CX0 4 f fd ["bag"] (spM K c_law_chain) :=
  Fun.okG 8 [0] F sc_chain rfl (by decide) hlen (by decide) (fun cdv A outer s H E hr=>⟨_,(wss_cons (ws_set (i:=1) nu6 rfl (Or.inr rfl) (we_own O_law_names (hr.mono (by decide)) (wa_c (we_var 0 rfl (Or.inr (Or.inl rfl))) (wa_c (we_op (wop_addB K rfl) we_int (we_own O_law_draw (hr.mono (by decide)) (wa_c (we_var 0 rfl (Or.inr (Or.inl rfl))) (wa_c we_int wa_nil rfl) rfl) rfl rfl)) wa_nil rfl) rfl) rfl rfl) rfl (Or.inl rfl))
    (wss_cons (ws_set (i:=2) nu6 rfl (Or.inl rfl) (we_ixA K hr.units (we_lst (wa_c (we_tup (wa_c we_str wa_nil rfl)) (wa_c (we_tup (wa_c we_str wa_nil rfl)) (wa_c (we_tup (wa_c we_str (wa_c we_str wa_nil rfl) rfl)) (wa_c (we_tup (wa_c we_str (wa_c (we_ixA K hr.units (we_var 1 rfl (Or.inr (Or.inl rfl))) we_int (fun _ _=>rfl) rfl) wa_nil rfl) rfl)) (wa_c (we_tup (wa_c we_str (wa_c (we_ixA K hr.units (we_var 1 rfl (Or.inr (Or.inl rfl))) we_int (fun _ _=>rfl) rfl) wa_nil rfl) rfl)) wa_nil rfl) rfl) rfl) rfl) rfl)) (we_own O_law_draw (hr.mono (by decide)) (wa_c (we_var 0 rfl (Or.inr (Or.inl rfl))) (wa_c we_int wa_nil rfl) rfl) rfl rfl) (fun _ _=>rfl) rfl) rfl (Or.inl rfl))
    (wss_cons (ws_set (i:=3) nu6 rfl (Or.inl rfl) (we_ixA K hr.units (we_var 1 rfl (Or.inr (Or.inl rfl))) (we_own O_law_draw (hr.mono (by decide)) (wa_c (we_var 0 rfl (Or.inr (Or.inl rfl))) (wa_c (we_callB (wc_len K rfl) T.n_len kb_len (wa_c (we_var 1 rfl (Or.inr (Or.inl rfl))) wa_nil rfl) rfl rfl) wa_nil rfl) rfl) rfl rfl) (fun _ _=>rfl) rfl) rfl (Or.inl rfl))
    (wss_cons (ws_if (wt_cmp (wop_eq K hr.units rfl) (we_own O_law_draw (hr.mono (by decide)) (wa_c (we_var 0 rfl (Or.inr (Or.inl rfl))) (wa_c we_int wa_nil rfl) rfl) rfl rfl) we_int (nomarkB (by decide) (by decide)))
      (wss_one (ws_set (i:=2) nu6 rfl (Or.inl rfl) (we_tup (wa_c we_str (wa_c (we_var 3 rfl (Or.inl rfl)) wa_nil rfl) rfl)) rfl (Or.inl rfl)))
      wss_nil)
    (wss_cons (ws_set (i:=4) nu6 rfl (Or.inl rfl) (we_lst (wa_c (we_tup (wa_c (we_ixA K hr.units (we_var 1 rfl (Or.inr (Or.inl rfl))) (we_neg we_int) (fun _ _=>rfl) rfl) (wa_c (we_var 2 rfl (Or.inl rfl)) wa_nil rfl) rfl)) wa_nil rfl)) rfl (Or.inl rfl))
    (wss_cons (ws_for PassesOwn.never rfl (wi_range1 rfl T.n_range (wa_c (we_op wop_sub (we_callB (wc_len K rfl) T.n_len kb_len (wa_c (we_var 1 rfl (Or.inr (Or.inl rfl))) wa_nil rfl) rfl rfl) we_int) wa_nil rfl) rfl) (wg_name (i:=5) nu6 rfl (Or.inl rfl) (Or.inl rfl))
      (wss_cons (ws_set (i:=6) nu6 rfl (Or.inl rfl) (we_ixA K hr.units (we_lst (wa_c we_str (wa_c we_str (wa_c we_str (wa_c we_str (wa_c we_str (wa_c we_str wa_nil rfl) rfl) rfl) rfl) rfl) rfl)) (we_own O_law_draw (hr.mono (by decide)) (wa_c (we_var 0 rfl (Or.inr (Or.inl rfl))) (wa_c we_int wa_nil rfl) rfl) rfl rfl) (fun _ _=>rfl) rfl) rfl (Or.inl rfl))
    (wss_cons (ws_set (i:=7) nu6 rfl (Or.inl rfl) (we_slice K (we_var 1 rfl (Or.inr (Or.inl rfl))) (wo_some (we_op (wop_addB K rfl) (we_var 5 rfl (Or.inl rfl)) we_int)) (wo_some (we_op (wop_addB K rfl) (we_var 5 rfl (Or.inl rfl)) we_int)) rfl) rfl (Or.inl rfl))
    (wss_cons (ws_if (wt_w (ww_or (wt_cmp (wop_eq K hr.units rfl) (we_var 6 rfl (Or.inl rfl)) we_str (nomarkB (by decide) (by decide))) (ww_or1 (wt_cmp (wop_eq K hr.units rfl) (we_var 6 rfl (Or.inl rfl)) we_str (nomarkB (by decide) (by decide))))))
      (wss_one (ws_set (i:=7) nu6 rfl (Or.inl rfl) (we_op (wop_addB K rfl) (we_var 7 rfl (Or.inl rfl)) (we_comp (T:=["j"]) (F:=["names", "bag"]) (ixs:=[1,0]) rfl (CompScope.of rfl rfl rfl) (wi_range1 rfl T.n_range (wa_c (we_own O_law_draw (hr.mono (by decide)) (wa_c (we_var 0 rfl (Or.inr (Or.inl rfl))) (wa_c we_int wa_nil rfl) rfl) rfl rfl) wa_nil rfl) rfl) (fun _ _ _ _=>(wg_name (i:=0) (show List.Nodup [("j" : Str),("names" : Str),("bag" : Str)] from by decide +kernel) rfl (Or.inl rfl) (Or.inr rfl))) (fun _ _ _ _=>wif_nil) (fun _ _ _ _=>(we_ixA K hr.units (we_var 1 rfl (Or.inr (Or.inl rfl))) (we_own O_law_draw (hr.mono (by decide)) (wa_c (we_var 2 rfl (Or.inr (Or.inl rfl))) (wa_c (we_callB (wc_len K rfl) T.n_len kb_len (wa_c (we_var 1 rfl (Or.inr (Or.inl rfl))) wa_nil rfl) rfl rfl) wa_nil rfl) rfl) rfl rfl) (fun _ _=>rfl) rfl)) (fun _=>rfl))) rfl (Or.inl rfl)))
      wss_nil)
    (wss_one (ws_expr (we_meth K PySem.F.plainAttrs_list PySem.F.slot_list_append PySem.F.type_list_append (wm_append K rfl) (we_var 4 rfl (Or.inl rfl)) (wa_c (we_tup (wa_c (we_ixA K hr.units (we_var 1 rfl (Or.inr (Or.inl rfl))) (we_var 5 rfl (Or.inl rfl)) (fun _ _=>rfl) rfl) (wa_c (we_callT (wc_tuple K rfl) T.n_tuple kb_tuple (wa_c (we_op (wop_addB K rfl) (we_lst (wa_c (we_var 6 rfl (Or.inl rfl)) wa_nil rfl)) (we_var 7 rfl (Or.inl rfl))) wa_nil rfl) rfl rfl) wa_nil rfl) rfl)) wa_nil rfl) rfl rfl rfl (by decide) rfl) rfl))))) (fun _=>rfl))
    (wss_one (ws_ret (we_callB (wc_sortB P w K rfl rfl rfl rfl) T.n_sorted kb_sorted (wa_c (we_var 4 rfl (Or.inl rfl)) wa_nil rfl) rfl rfl))))))))),
    (sf_seq (sf_asg (ef_call (c:=c_law_names) (af_cons (ef_v (by decide)) (af_cons (ef_fz (ef_op opf_add ef_int (ef_call (c:=c_law_draw) (af_cons (ef_v (by decide)) (af_cons ef_int af_nil))))) af_nil))) (gf_n (by decide)) (notIn_of (by decide)))
    (sf_seq (sf_asg (ef_op opf_ix (ef_lst (af_cons (ef_tup (af_cons ef_str af_nil)) (af_cons (ef_tup (af_cons ef_str af_nil)) (af_cons (ef_tup (af_cons ef_str (af_cons ef_str af_nil))) (af_cons (ef_tup (af_cons ef_str (af_cons (ef_op opf_ix (ef_v (by decide)) ef_int) af_nil))) (af_cons (ef_tup (af_cons ef_str (af_cons (ef_op opf_ix (ef_v (by decide)) ef_int) af_nil))) af_nil)))))) (ef_call (c:=c_law_draw) (af_cons (ef_v (by decide)) (af_cons ef_int af_nil)))) (gf_n (by decide)) (notIn_of (by decide)))
    (sf_seq (sf_asg (ef_op opf_ix (ef_v (by decide)) (ef_call (c:=c_law_draw) (af_cons (ef_v (by decide)) (af_cons (ef_fz (ef_cb cf_len (af_cons (ef_v (by decide)) af_nil))) af_nil)))) (gf_n (by decide)) (notIn_of (by decide)))
    (sf_seq (sf_if (tf_test (ef_op opf_eq (ef_call (c:=c_law_draw) (af_cons (ef_v (by decide)) (af_cons ef_int af_nil))) ef_int))
      (sf_asg (ef_tup (af_cons ef_str (af_cons (ef_v (by decide)) af_nil))) (gf_n (by decide)) (notIn_of (by decide)))
      sf_next)
    (sf_seq (sf_setO (ef_lst (af_cons (ef_tup (af_cons (ef_op opf_ix (ef_v (by decide)) (ef_neg ef_int)) (af_cons (ef_v (by decide)) af_nil))) af_nil)) (by decide))
    (sf_seq (sf_for (itf_rng1 (af_cons (ef_op opf_sub (ef_cb cf_len (af_cons (ef_v (by decide)) af_nil)) ef_int) af_nil)) (gf_n (by decide)) (notIn_of (by decide))
      (sf_seq (sf_asg (ef_op opf_ix (ef_lst (af_cons ef_str (af_cons ef_str (af_cons ef_str (af_cons ef_str (af_cons ef_str (af_cons ef_str af_nil))))))) (ef_call (c:=c_law_draw) (af_cons (ef_v (by decide)) (af_cons ef_int af_nil)))) (gf_n (by decide)) (notIn_of (by decide)))
    (sf_seq (sf_asg (ef_sl slf_any (ef_v (by decide)) (of_some (ef_op opf_add (ef_v (by decide)) ef_int)) (of_some (ef_op opf_add (ef_v (by decide)) ef_int))) (gf_n (by decide)) (notIn_of (by decide)))
    (sf_seq (sf_if (tf_or (tf_test (ef_op opf_eq (ef_v (by decide)) ef_str)) (tf_test (ef_op opf_eq (ef_v (by decide)) ef_str)))
      (sf_asg (ef_op opf_add (ef_v (by decide)) (ef_comp (no:=1) (ixs:=[1,0]) (itf_rng1 (af_cons (ef_call (c:=c_law_draw) (af_cons (ef_v (by decide)) (af_cons ef_int af_nil))) af_nil)) (ix_range (by decide)) (gf_name (i:=0) (by decide) (by decide)) (lt_of (by decide)) tf_yes (ef_op opf_ix (ef_var (i:=2) (by decide)) (ef_call (c:=c_law_draw) (af_cons (ef_var (i:=1) (by decide)) (af_cons (ef_fz (ef_cb cf_len (af_cons (ef_var (i:=2) (by decide)) af_nil))) af_nil)))))) (gf_n (by decide)) (notIn_of (by decide)))
      sf_next)
    (sf_drop (ef_appV (by decide) (ef_tup (af_cons (ef_op opf_ix (ef_v (by decide)) (ef_v (by decide))) (af_cons (ef_cb cf_tuple (af_cons (ef_op opf_add (ef_lst (af_cons (ef_v (by decide)) af_nil)) (ef_v (by decide))) af_nil)) af_nil)))))))))
    (sf_ret (ef_cb cf_sortB (af_cons (ef_v (by decide)) af_nil)))))))))⟩) hc
theorem l_chain (os:List OV) (P:OV→List OV→Prop) (h:c_law_chain os P):os.length=1∧∀ j o,os[j]?=some o→j ∉ ([0]:List Nat)→isFz o=true:=by
  unfold c_law_chain at h
  obtain ⟨b0,b1,b2,n,rfl,_⟩:=h
  exact lo1m
theorem atI_last {α:Type} {xs:List α} (h:0 < xs.length):atI xs (-1)=some (xs[xs.length - 1]'(by (first|lia|omega))):=by
  unfold atI ixN
  rw [if_neg (by decide),if_pos (by (first|lia|omega))]
  have e:((-1:Int)+(xs.length:Int)).toNat=xs.length - 1:=by (first|lia|omega)
  rw [e]
  exact List.getElem?_eq_getElem (by (first|lia|omega))
theorem ab_ok:SignsL "ab" := by
  have e:("ab" : Str).cps.toList=[97,98]:=by decide +kernel
  unfold SignsL
  rw [e]
  decide
theorem h_chain (os:List OV) (P:OV→List OV→Prop) (h:c_law_chain os P):f_chain { nx:=fin [0] os P (.fz .non),rt:=fin [0] os P } (startF 8 os):=by
  unfold c_law_chain at h
  obtain ⟨B0,B1,B2,n,rfl,hb,hn,q⟩:=h
  have sz:=sz_is
  have hn0:0≤n:=Int.le_trans hb.2.2.1 hb.2.2.2
  walk_at "go"
  refine draw_by n hb (by (first|lia|omega)) (by decide) (by decide) fun r b0 b1 b2 r0 r1 hb1=>?_
  obtain ⟨nn,hnn⟩:=Int.eq_ofNat_of_zero_le (show 0≤2+r by (first|lia|omega))
  have e0:2+r=(nn:Int):=hnn
  walk_at "go"
  show c_law_names [bagO b0 b1 b2,.fz (.int (2+r))] _
  rw [e0]
  refine names_by (k:=nn) hb1 (by (first|lia|omega)) (by (first|lia|omega)) fun zs b0 b1 b2 hnd hz1 hzl hnm hb2=>?_
  have hz1':=hz1 (by (first|lia|omega))
  have hlen:((zs.map D.str).length:Int)=zs.length:=by rw [List.length_map]
  have item0:∀ {Q:D→Prop},Q (.str zs[0])→match atI (zs.map D.str) 0 with
      | some d=>Q d
      | none=>False:=fun {Q} q=>by
    rw [show atI (zs.map D.str) 0=some (.str zs[0]) from atI_nat (j:=0) (by rw [List.getElem?_map,List.getElem?_eq_getElem hz1']; rfl)]
    exact q
  walk_at "go"
  refine ⟨lez 1,?_⟩
  walk_at "go"
  refine ⟨lez 1,?_⟩
  walk_at "go"
  refine ⟨lez 2,?_⟩
  walk_at "go"
  refine item0 ?_
  walk_at "go"
  refine ⟨lez 2,?_⟩
  walk_at "go"
  refine item0 ?_
  walk_at "go"
  refine ⟨lez 2,?_⟩
  walk_at "go"
  refine ⟨lez 5,?_⟩
  walk_at "go"
  refine draw_by _ hb2 (by (first|lia|omega)) (by decide) (by decide) fun r3 b0 b1 b2 r30 r31 hb3=>?_
  walk_at "go"
  refine item_by r30 (by show r3 < 5; exact r31) fun d hd=>?_
  obtain ⟨word,rest,rfl,hFN⟩:∃ word rest,d=formD word rest∧FormP zs word rest:=by
    simp only [List.mem_cons,List.not_mem_nil,or_false] at hd
    rcases hd with rfl | rfl | rfl | rfl | rfl
    · exact ⟨"none", [],rfl,hnm,.inl ⟨.inl rfl,rfl⟩⟩
    · exact ⟨"any", [],rfl,hnm,.inl ⟨.inr rfl,rfl⟩⟩
    · exact ⟨"signs", ["ab"],rfl,hnm,.inr (.inl ⟨rfl, "ab", rfl,ab_ok⟩)⟩
    · exact ⟨"first", [zs[0]],rfl,hnm,.inr (.inr (.inr ⟨.inr rfl,by simp,by simp,by simp⟩))⟩
    · exact ⟨"not", [zs[0]],rfl,hnm,.inr (.inr (.inl ⟨.inr (.inr rfl),by simp,by simp⟩))⟩
  walk_at "go"
  refine draw_by (m:=((zs.map D.str).length:Int)) _ hb3 (by (first|lia|omega)) (by (first|lia|omega)) (by (first|lia|omega)) fun r4 b0 b1 b2 r40 r41 hb4=>?_
  walk_at "go"
  refine item_by r40 r41 fun c hcm=>?_
  obtain ⟨back,hback,rfl⟩:=List.mem_map.mp hcm
  walk_at "go"
  refine if_join (fun ρ=>∃ (word:Str) (rest:List Str) (b0 b1 b2:Int),FormP zs word rest∧BagB b1 b2 (n+10+12 * 30)∧ρ=[some (bagO b0 b1 b2),some (.fz (.lst (zs.map .str))),some (.fz (formD word rest)),some (.fz (.str back)),none,none,none,none]) ?_ ?_
  · have hz30:zs.length≤30:=by (first|lia|omega)
    clear hd hFN item0 r30 r31 r40 r41 hb2 hb3 hb4 hzl hz1 hnn e0 r0 r1 hb1 hb
    rintro ρ ⟨word,rest,b0,b1,b2,hFN,hb5,rfl⟩
    have itemL:∀ {Q:D→Prop},Q (.str (zs[zs.length - 1]'(by (first|lia|omega))))→match atI (zs.map D.str) (-1) with
        | some d=>Q d
        | none=>False:=fun {Q} q=>by
      have:=atI_last (xs:=zs.map D.str) (by rw [List.length_map]; (first|lia|omega))
      simp only [List.length_map,List.getElem_map] at this
      rw [this]
      exact q
    walk_at "go"
    refine itemL ?_
    walk_at "go"
    refine ⟨lez 2,?_⟩
    walk_at "go"
    refine ⟨lez 1,?_⟩
    walk_at "go"
    refine ⟨⟨by (first|lia|omega),by (first|lia|omega)⟩,?_⟩
    have hLs:zs.length - 1 < zs.length:=by (first|lia|omega)
    walk_at "go"
    refine floop_by (fun i ρ=>∃ (rows:List Rw) (x1 x2 x3 x4 x5:Option OV) (b0 b1 b2:Int),rows.map (·.1)=zs[zs.length - 1]::zs.take i∧(∀ r ∈ rows,NameL r.1∧FormP zs r.2.1 r.2.2)∧BagB b1 b2 (n+10+12 * 30+10 * i) ∧
        ρ=[some (bagO b0 b1 b2),some (.fz (.lst (zs.map .str))),x1,x2,some (.fl (rows.map rowD)),x3,x4,x5])
      ⟨[(zs[zs.length - 1],word,rest)],_,_,none,none,none,b0,b1,b2,rfl,fun r hr=>by
        have:r=(zs[zs.length - 1],word,rest):=by first|exact hr|exact List.mem_singleton.mp hr|simpa using hr
        rw [this]; exact ⟨hnm _ (List.getElem_mem hLs),hFN⟩,hb5.mono (by (first|lia|omega)),rfl⟩ ?_ ?_
    · rintro i d ρ R hd ⟨rows,x1,x2,x3,x4,x5,b0,b1,b2,hrz,hrok,hb6,rfl⟩ kk
      obtain ⟨hi,rfl⟩:=rangeD_at hd
      have hiz:i+1 < zs.length:=by (first|lia|omega)
      have hrl:rows.length=i+1:=by have:=congrArg List.length hrz; rw [List.length_map,List.length_cons,List.length_take] at this; (first|lia|omega)
      have ei:atI (zs.map D.str) (0+(i:Int))=some (.str zs[i]):=by rw [Int.zero_add]; exact atI_nat (by rw [List.getElem?_map,List.getElem?_eq_getElem (by (first|lia|omega))]; rfl)
      have item:∀ {Q:D→Prop},Q (.str zs[i])→match atI (zs.map D.str) (0+(i:Int)) with
          | some d=>Q d
          | none=>False:=fun {Q} q=>by rw [ei]; exact q
      walk_at "go"
      refine ⟨lez 6,?_⟩
      walk_at "go"
      refine draw_by _ hb6 (by (first|lia|omega)) (by decide) (by decide) fun r7 b0 b1 b2 r70 r71 hb7=>?_
      walk_at "go"
      refine item_by (xs:=(["row", "row", "first", "again", "ahead", "not"]:List Str).map D.str) r70 (by show r7 < 6; exact r71) fun c hcm=>?_
      obtain ⟨wd,hwd,rfl⟩:=List.mem_map.mp hcm
      have hcut:cutL (zs.map D.str) (some (0+(i:Int)+1)) (some (0+(i:Int)+2))=[D.str zs[i+1]]:=by
        rw [cut_map,Int.zero_add,cutL_one hiz]; rfl
      walk_at "go"
      rw [hcut]
      have more:∀ (ys:List Str) (b0 b1 b2:Int) (x:Option OV),1≤ys.length→ys.length≤8→(ys.length=1∨wd = "row" ∨ wd = "first")→(∀ y ∈ ys,y ∈ zs)→BagB b1 b2 (n+10+12 * 30+10 * (i+1)) →
          R [some (bagO b0 b1 b2),some (.fz (.lst (zs.map .str))),x1,x2,some (.fl (rows.map rowD++[.tup [.str zs[i],formD wd ys]])),some (.fz (.int (0+(i:Int)))),some (.fz (.str wd)),x]:=by
        intro ys b0 b1 b2 x h1 h8 hwy hy hb8
        refine kk _ ⟨rows++[(zs[i],wd,ys)],x1,x2,some (.fz (.int (0+(i:Int)))),some (.fz (.str wd)),x,b0,b1,b2,?_,fun r hr=>?_,hb8.mono (by (first|lia|omega)),by rw [List.map_append]; rfl⟩
        · rw [List.map_append,hrz,List.take_succ,List.getElem?_eq_getElem (by (first|lia|omega))]; rfl
        · rcases List.mem_append.mp hr with h | h
          · exact hrok r h
          · have:r=(zs[i],wd,ys):=by first|exact h|exact List.mem_singleton.mp h|simpa using h
            rw [this]
            refine ⟨hnm _ (List.getElem_mem _),hnm,?_⟩
            simp only [List.mem_cons,List.not_mem_nil,or_false] at hwd
            rcases hwd with e | e | e | e | e | e
            · exact .inr (.inr (.inr ⟨.inl e,h1,h8,hy⟩))
            · exact .inr (.inr (.inr ⟨.inl e,h1,h8,hy⟩))
            · exact .inr (.inr (.inr ⟨.inr e,h1,h8,hy⟩))
            all_goals
              have h1':ys.length=1:=by
                rcases hwy with z | z | z
                · exact z
                · rw [e] at z; exact absurd z (by decide)
                · rw [e] at z; exact absurd z (by decide)
              refine .inr (.inr (.inl ⟨?_,h1',hy⟩))
              simp [e]
      have fin1:∀ (E:FEnds) (b0 b1 b2:Int) (ys:List Str),E.nx=R→1≤ys.length→ys.length≤8→(ys.length=1∨wd = "row" ∨ wd = "first")→(∀ y ∈ ys,y ∈ zs)→BagB b1 b2 (n+10+12 * 30+10 * (i+1)) →
          (fDrop (fApp 4 (fTup (fCons (fOp aIx (fVar 1) (fVar 5)) (fCons (fCB cTuple (fCons (fOp aAdd (fLst (fCons (fVar 6) fNil)) (fVar 7)) fNil)) fNil)))))
            E [some (bagO b0 b1 b2),some (.fz (.lst (zs.map .str))),x1,x2,some (.fl (rows.map rowD)),some (.fz (.int (0+(i:Int)))),some (.fz (.str wd)),some (.fz (.lst (ys.map .str)))]:=by
        intro E b0 b1 b2 ys hE h1 h8 hwy hy hb8
        walk_at "go"
        refine ⟨rfl,?_⟩
        walk_at "go"
        refine item ?_
        walk_at "go"
        refine ⟨lez 1,?_⟩
        walk_at "go"
        refine ⟨by rw [sz,List.length_map]; show 1+_≤_; (first|lia|omega),?_⟩
        walk_at "go"
        refine ⟨lez 2,?_⟩
        walk_at "go"
        refine ⟨by rw [List.length_map]; (first|lia|omega),?_⟩
        show E.nx _
        rw [hE]
        exact more ys b0 b1 b2 _ h1 h8 hwy hy hb8
      refine if_guard True (fun _=>(force_is _ _).mpr (fin1 _ b0 b1 b2 [zs[i+1]] rfl (by simp) (by simp) (.inl rfl) (by simp) (hb7.mono (by (first|lia|omega))))) (fun rest0=>?_)
      have ext:∀ (E:FEnds),(wd = "row" ∨ wd = "first")→(∀ ρ,(fDrop (fApp 4 (fTup (fCons (fOp aIx (fVar 1) (fVar 5)) (fCons (fCB cTuple (fCons (fOp aAdd (fLst (fCons (fVar 6) fNil)) (fVar 7)) fNil)) fNil))))) { E with nx:=R } ρ→E.nx ρ) →
          (fAsg (fOp aAdd (fVar 7) (fComp 1 (fiRng1 (fCons (fCall c_law_draw (fCons (fVar 0) (fCons (fC (.int 3)) fNil))) fNil)) (fgName 0) fYes (fOp aIx (fVar 2) (fCall c_law_draw (fCons (fVar 1) (fCons (fFz (fCB cLen (fCons (fVar 2) fNil))) fNil)))))) (fgName 7))
            E [some (bagO b0 b1 b2),some (.fz (.lst (zs.map .str))),x1,x2,some (.fl (rows.map rowD)),some (.fz (.int (0+(i:Int)))),some (.fz (.str wd)),some (.fz (.lst [.str zs[i+1]]))]:=by
        intro E hw' hE
        walk_at "go"
        refine draw_by _ hb7 (by (first|lia|omega)) (by decide) (by decide) fun r8 b0 b1 b2 r80 r81 hb8=>?_
        walk_at "go"
        refine ⟨⟨by (first|lia|omega),by (first|lia|omega)⟩,?_⟩
        walk_at "go"
        refine fcomp_by (fun j as ρ=>∃ (ys:List Str) (x:Option OV) (b0 b1 b2:Int),as=ys.map .str∧ys.length=j∧(∀ y ∈ ys,y ∈ zs)∧BagB b1 b2 (n+10+12 * 30+10 * i+2+j) ∧
            ρ=[x,some (bagO b0 b1 b2),some (.fz (.lst (zs.map .str))),x1,x2,some (.fl (rows.map rowD)),some (.fz (.int (0+(i:Int)))),some (.fz (.str wd)),some (.fz (.lst [.str zs[i+1]]))])
          ⟨[],none,b0,b1,b2,rfl,rfl,(fun _ h=>by cases h),hb8.mono (by (first|lia|omega)),rfl⟩ ?_ ?_
        · rintro j d as ρ R' hd ⟨ys,x,b0,b1,b2,rfl,hl,hy,hb5,rfl⟩ k
          obtain ⟨hj,rfl⟩:=rangeD_at hd
          walk_at "go"
          refine br_T ?_
          walk_at "go"
          refine draw_by (m:=((zs.map D.str).length:Int)) _ hb5 (by (first|lia|omega)) (by (first|lia|omega)) (by (first|lia|omega)) fun r6 b0 b1 b2 r60 r61 hb6=>?_
          walk_at "go"
          refine item_by r60 r61 fun c hcm=>?_
          obtain ⟨y,hyz,rfl⟩:=List.mem_map.mp hcm
          walk_at "go"
          refine ⟨by rw [List.length_map]; (first|lia|omega),k _ _ ⟨ys++[y],some (.fz (.int (0+j))),b0,b1,b2,by rw [List.map_append]; rfl,by simp [hl],fun y' hy'=>?_,hb6.mono (by (first|lia|omega)),rfl⟩⟩
          rcases List.mem_append.mp hy' with h | h
          · exact hy y' h
          · have:y'=y:=by first|exact h|exact List.mem_singleton.mp h|simpa using h
            rw [this]; exact hyz
        · rintro as ρ ⟨ys,x,b0,b1,b2,rfl,hl,hy,hb5,rfl⟩
          rw [rangeD_len] at hl hb5
          walk_at "go"
          refine ⟨by rw [sz,List.length_map]; show 1+_≤_; (first|lia|omega),?_⟩
          refine hE _ ?_
          refine fin1 _ b0 b1 b2 (zs[i+1]::ys) rfl (by simp) (by simp; (first|lia|omega)) (.inr hw') (fun y hy'=>?_) (hb5.mono (by (first|lia|omega)))
          rcases List.mem_cons.mp hy' with rfl | h
          · exact List.getElem_mem _
          · exact hy y h
      walk_at "go"
      refine ⟨eqOk_str,?_⟩
      walk_at "go"
      refine br_by (wd = "row") dEq_str (fun hw'=>?_) (fun ha=>?_)
      · walk_at "go"
        exact br_T (ext _ (.inl hw') fun ρ h=>(force_is _ _).mpr h)
      · walk_at "go"
        refine ⟨eqOk_str,?_⟩
        walk_at "go"
        refine br_by (wd = "first") dEq_str (fun hw'=>?_) (fun hb'=>?_)
        · exact ext _ (.inr hw') fun ρ h=>(force_is _ _).mpr h
        · exact rest0 trivial
    · rintro ρ ⟨rows,x1,x2,x3,x4,x5,b0,b1,b2,hrz,hrok,hb6,rfl⟩
      rw [rangeD_len] at hrz hb6
      have hrl:rows.length=zs.length:=by have:=congrArg List.length hrz; rw [List.length_map,List.length_cons,List.length_take] at this; (first|lia|omega)
      walk_at "go"
      have hB:BookL rows:=by
        refine ⟨?_,fun r hr=>⟨(hrok r hr).1,zs,(hrok r hr).2⟩,by (first|lia|omega),zs,by (first|lia|omega),fun r hr=>(hrok r hr).2⟩
        rw [hrz]
        have e1:(((zs.map D.str).length:Int) - 1).toNat=zs.length - 1:=by (first|lia|omega)
        rw [e1]
        refine List.nodup_cons.mpr ⟨fun hm=>?_,hnd.sublist (List.take_sublist ..)⟩
        obtain ⟨k,hk,ek⟩:=List.mem_iff_getElem.mp hm
        rw [List.length_take] at hk
        rw [List.getElem_take] at ek
        have:=(List.getElem_inj hnd).mp ek
        (first|lia|omega)
      refine sort_rows (name:=fun r:Rw=>r.1) (rest:=fun r:Rw=>[formD r.2.1 r.2.2]) hB.nd (by (first|lia|omega)) fun rows' hp=>?_
      walk_at "go"
      exact q rows' _ _ _ (hB.perm hp) (hb6.mono (by (first|lia|omega)))
  · intro rest0
    walk_at "go"
    refine draw_by _ hb4 (by (first|lia|omega)) (by decide) (by decide) fun r5 b0 b1 b2 r50 r51 hb5=>?_
    walk_at "go"
    refine ⟨eqOk_int,?_⟩
    walk_at "go"
    refine br_by (r5=2) dEq_int (fun h5=>?_) (fun h5=>?_)
    · walk_at "go"
      refine ⟨lez 2,?_⟩
      exact rest0 _ ⟨"row", [back],b0,b1,b2,⟨hnm,.inr (.inr (.inr ⟨.inl rfl,by simp,by simp,by first|exact hback|exact List.mem_singleton.mp hback|simpa using hback⟩))⟩,hb5.mono (by (first|lia|omega)),rfl⟩
    · exact rest0 _ ⟨word,rest,b0,b1,b2,hFN,hb5.mono (by (first|lia|omega)),rfl⟩
theorem chain_by {b0 b1 b2 n:Int} {P:OV→List OV→Prop} (hb:BagB b1 b2 n) (hn:n < 2 ^ 36) (h:∀ (rows:List Rw) (b0' b1' b2':Int),BookL rows→BagB b1' b2' (n+5000)→P (.fl (rows.map rowD)) [bagO b0' b1' b2']) :
    c_law_chain [bagO b0 b1 b2] P:=by
  unfold c_law_chain
  exact ⟨b0,b1,b2,n,rfl,hb,hn,h⟩
end
end KR
set_option maxHeartbeats 4000000
namespace KR
open PySem L2
noncomputable def ever (word:Str):Prop:=word = "none" ∨ word = "again" ∨ word = "ahead" ∨ word = "not"
noncomputable def mayE (zs:List Str) (word:Str) (rest:List Str):Prop:=(word = "row" ∧ ∀ z ∈ rest,z ∈ zs)∨(word = "first" ∧ ∃ z ∈ rest,z ∈ zs)∨ever word
inductive Emp (rows:List Rw):Str→Prop where
  | base {r:Rw}:r ∈ rows→ever r.2.1→Emp rows r.1
  | row {r:Rw}:r ∈ rows→r.2.1 = "row" → (∀ z ∈ r.2.2,Emp rows z)→Emp rows r.1
  | first {r:Rw} {z:Str}:r ∈ rows→r.2.1 = "first" → z ∈ r.2.2→Emp rows z→Emp rows r.1
noncomputable def Closed (rows:List Rw) (zs:List Str):Prop:=∀ r ∈ rows,mayE zs r.2.1 r.2.2→r.1 ∈ zs
theorem Emp.mem {rows:List Rw} {zs:List Str} (c:Closed rows zs) {z:Str} (h:Emp rows z):z ∈ zs:=by
  induction h with
  | base h e=>exact c _ h (.inr (.inr e))
  | row h e _ ih=>exact c _ h (.inl ⟨e,ih⟩)
  | first h e m _ ih=>exact c _ h (.inr (.inl ⟨e,_,m,ih⟩))
theorem Emp.of {rows:List Rw} {zs:List Str} (h:∀ z ∈ zs,Emp rows z) {r:Rw} (hr:r ∈ rows) (m:mayE zs r.2.1 r.2.2):Emp rows r.1:=by
  rcases m with ⟨e,a⟩ | ⟨e,z,hz,a⟩ | e
  · exact .row hr e fun z hz=>h z (a z hz)
  · exact .first hr e hz (h z a)
  · exact .base hr e
structure Walk1 (rows:List Rw) (zs0 zs:List Str) (i:Nat):Prop where
  nd:zs.Nodup
  emp:∀ z ∈ zs,Emp rows z
  sub:∀ z ∈ zs,z ∈ rows.map (·.1)
  grow:(zs=zs0∧∀ r ∈ rows.take i,mayE zs0 r.2.1 r.2.2→r.1 ∈ zs0)∨zs0.length < zs.length
theorem Walk1.start {rows:List Rw} {zs:List Str} (nd:zs.Nodup) (emp:∀ z ∈ zs,Emp rows z) (sub:∀ z ∈ zs,z ∈ rows.map (·.1)):Walk1 rows zs zs 0:=⟨nd,emp,sub,.inl ⟨rfl,fun r h=>by simp at h⟩⟩
theorem take_mem {α:Type} {l:List α} {i:Nat} {r a:α} (h:l[i]?=some a) (hr:r ∈ l.take (i+1)):r ∈ l.take i∨r=a:=by
  rw [List.take_succ,h] at hr
  simpa using hr
theorem Walk1.add {rows:List Rw} {zs0 zs:List Str} {i:Nat} {r:Rw} (W:Walk1 rows zs0 zs i) (hr:rows[i]?=some r) (hn:r.1 ∉ zs) (m:mayE zs r.2.1 r.2.2):Walk1 rows zs0 (zs++[r.1]) (i+1):=by
  have hrm:=List.mem_of_getElem? hr
  refine ⟨KS.nodup_snoc W.nd hn,fun z hz=>?_,fun z hz=>?_,.inr ?_⟩
  · rcases List.mem_append.mp hz with h | h
    · exact W.emp z h
    · have:z=r.1:=by first|exact h|exact List.mem_singleton.mp h|simpa using h
      rw [this]; exact Emp.of W.emp hrm m
  · rcases List.mem_append.mp hz with h | h
    · exact W.sub z h
    · have:z=r.1:=by first|exact h|exact List.mem_singleton.mp h|simpa using h
      rw [this]; exact List.mem_map.mpr ⟨r,hrm,rfl⟩
  · rw [List.length_append,List.length_singleton]
    rcases W.grow with ⟨e,_⟩ | h
    · rw [e]; (first|lia|omega)
    · (first|lia|omega)
theorem Walk1.skip {rows:List Rw} {zs0 zs:List Str} {i:Nat} {r:Rw} (W:Walk1 rows zs0 zs i) (hr:rows[i]?=some r) (h:mayE zs r.2.1 r.2.2→r.1 ∈ zs):Walk1 rows zs0 zs (i+1):=by
  refine ⟨W.nd,W.emp,W.sub,?_⟩
  rcases W.grow with ⟨e,g⟩ | g
  · refine .inl ⟨e,fun r' hr' m=>?_⟩
    rcases take_mem hr hr' with z | z
    · exact g r' z m
    · subst z; subst e; exact h m
  · exact .inr g
theorem closed_of {rows:List Rw} {zs:List Str} (nd:zs.Nodup) (sub:∀ z ∈ zs,z ∈ rows.map (·.1)) (hl:rows.length≤zs.length):Closed rows zs:=by
  have h1:zs.length≤(rows.map (·.1)).length:=List.Nodup.length_le_of_subset nd sub
  rw [List.length_map] at h1
  have hp:=KS.perm_pigeon zs (rows.map (·.1)) nd sub (by rw [List.length_map]; (first|lia|omega))
  exact fun r hr _=>hp.mem_iff.mp (List.mem_map.mpr ⟨r,hr,rfl⟩)
theorem Walk1.len {rows:List Rw} {zs0 zs:List Str} {i:Nat} (W:Walk1 rows zs0 zs i):zs.length≤rows.length:=by
  have:=List.Nodup.length_le_of_subset W.nd W.sub
  rwa [List.length_map] at this
noncomputable def partsL (word:Str) (rest:List Str):List Str:=if word = "signs" then [] else rest
@[irreducible] noncomputable def c_parts_of:Ct:=fun os P=>∃ (word:Str) (rest:List Str),os=[.fz (formD word rest)]∧P (.fl ((partsL word rest).map .str)) os
@[irreducible] noncomputable def c_may_be_empty:Ct:=fun os P=>∃ (word:Str) (rest zs:List Str) (ds:List D),os=[.fz (formD word rest),.fd (zs.map Sum.inr) ds]∧FormN word rest∧∀ b:Bool,(b=true↔mayE zs word rest)→P (.fz (.bl b)) os
@[irreducible] noncomputable def c_empty_names:Ct:=fun os P=>∃ rows:List Rw,os=[.fz (.lst (rows.map rowD))]∧BookL rows∧∀ (zs:List Str) (ds:List D),zs.Nodup→(∀ z,z ∈ zs↔Emp rows z)→zs.length≤30→P (.fd (zs.map Sum.inr) ds) os
@[irreducible] noncomputable def c_law_empty:Ct:=fun os P=>∃ rows:List Rw,os=[.fz (.lst (rows.map rowD))]∧BookL rows∧∀ (zs:List Str),zs.Nodup→(∀ z,z ∈ zs↔Emp rows z)→P (.fl ((sortS zs).map .str)) os
section
variable {P:Program} {w:World} {K:PySem.W.Frag} {mg:Str→Option Value} {base:Heap}
theorem fzs1 {d:D} {m:List Nat}:[OV.fz d].length=1∧∀ (j:Nat) (o:OV),[OV.fz d][j]?=some o→j ∉ m→isFz o=true:=⟨rfl,fun j o e _=>by
  match j,e with
  | 0,e=>cases e; rfl⟩
noncomputable abbrev s_parts:Stmt:=top 14
theorem sc_parts:FnScope ["form"] ["form"] (defScope s_parts):=⟨rfl,rfl,rfl,by decide +kernel,rfl,by decide +kernel,by decide +kernel⟩
noncomputable def f_parts:FS :=
    (fSeq (fIf (fTest (fOp aEq (fOp aIx (fVar 0) (fC (.int 0))) (fC (.str "signs"))))
      (fRet (fLst fNil))
      fNext)
    (fRet (fCB cList (fCons (fSl aSl (fVar 0) (fPart (fC (.int 1))) fNoPart) fNil))))
theorem ok_parts {f:Addr} {fd:FuncData} (F:Fun K "parts_of" "parts_of" s_parts f fd) (T:Txt K mg)
    (hlen:∀ os P,c_parts_of os P→os.length=1∧∀ j o,os[j]?=some o→j ∉ ([]:List Nat)→isFz o=true)
    (hc:∀ os P,c_parts_of os P→f_parts { nx:=fin [] os P (.fz .non),rt:=fin [] os P } (startF 1 os)) :
    FnOk P w K mg base CX0 1 f fd ["form"] (spM K c_parts_of) :=
  Fun.okG 1 [] F sc_parts rfl (by decide) hlen (by decide) (fun cdv A outer s H E hr=>⟨_,(wss_cons (ws_if (wt_cmp (wop_eq K hr.units rfl) (we_ixA K hr.units (we_var 0 rfl (Or.inl rfl)) we_int (fun _ _=>rfl) rfl) we_str (nomarkB (by decide) (by decide)))
      (wss_one (ws_ret (we_lst wa_nil)))
      wss_nil)
    (wss_one (ws_ret (we_callT (wc_list K rfl rfl) T.n_list kb_list (wa_c (we_slice K (we_var 0 rfl (Or.inl rfl)) (wo_some we_int) wo_none rfl) wa_nil rfl) rfl rfl)))),
    (sf_seq (sf_if (tf_test (ef_op opf_eq (ef_op opf_ix (ef_v (by decide)) ef_int) ef_str))
      (sf_ret (ef_lst af_nil))
      sf_next)
    (sf_ret (ef_cb cf_list (af_cons (ef_sl slf_any (ef_v (by decide)) (of_some ef_int) of_none) af_nil))))⟩) hc
theorem l_parts (os:List OV) (P:OV→List OV→Prop) (h:c_parts_of os P):os.length=1∧∀ j o,os[j]?=some o→j ∉ ([]:List Nat)→isFz o=true:=by
  unfold c_parts_of at h
  obtain ⟨word,rest,rfl,_⟩:=h
  exact fzs1
theorem h_parts (os:List OV) (P:OV→List OV→Prop) (h:c_parts_of os P):f_parts { nx:=fin [] os P (.fz .non),rt:=fin [] os P } (startF 1 os):=by
  unfold c_parts_of at h
  obtain ⟨word,rest,rfl,q⟩:=h
  unfold partsL at q
  have nw:notWhole (D.str word::rest.map D.str).length (some 1) none:=fun z=>by
    have e1:HT.sIx (D.str word::rest.map D.str).length 0 (some (1:Int))=1:=by
      rw [show (1:Int)=((1:Nat):Int) from rfl,HT.sIx_nat,List.length_cons]; (first|lia|omega)
    rw [e1] at z; (first|lia|omega)
  have hcut:cutL (D.str word::rest.map D.str) (some 1) none=rest.map D.str:=cutL_from _ 1
  walk_at "go"
  refine if_go ?_
  walk_at "go"
  refine head_by ?_
  walk_at "go"
  refine ⟨eqOk_str,?_⟩
  walk_at "go"
  refine br_by (word = "signs") dEq_str (fun hw=>?_) (fun hw=>?_)
  · walk_at "go"
    refine ⟨Nat.zero_le _,?_⟩
    walk_at "go"
    rw [if_pos hw] at q
    exact q
  · walk_at "go"
    refine ⟨nw,?_⟩
    rw [if_neg hw] at q
    rw [hcut]
    walk_at "go"
    exact q
theorem parts_by {word:Str} {rest:List Str} {P:OV→List OV→Prop} (h:P (.fl ((partsL word rest).map .str)) [.fz (formD word rest)]):c_parts_of [.fz (formD word rest)] P:=by
  unfold c_parts_of
  exact ⟨word,rest,rfl,h⟩
noncomputable abbrev s_may:Stmt:=top 17
theorem sc_may:FnScope ["form", "empty"] ["form", "empty"] (defScope s_may):=⟨rfl,rfl,rfl,by decide +kernel,rfl,by decide +kernel,by decide +kernel⟩
noncomputable def f_may:FS :=
    (fSeq (fIf (fTest (fOp aEq (fOp aIx (fVar 0) (fC (.int 0))) (fC (.str "row"))))
      (fRet (fCB cAll (fCons (fComp 1 (fiList (fCall c_parts_of (fCons (fFz (fVar 0)) fNil))) (fgName 0) fYes (fOp aIn (fVar 0) (fVar 2))) fNil)))
      fNext)
    (fSeq (fIf (fTest (fOp aEq (fOp aIx (fVar 0) (fC (.int 0))) (fC (.str "first"))))
      (fRet (fCB cAny (fCons (fComp 1 (fiList (fCall c_parts_of (fCons (fFz (fVar 0)) fNil))) (fgName 0) fYes (fOp aIn (fVar 0) (fVar 2))) fNil)))
      fNext)
    (fRet (fOp aIn (fOp aIx (fVar 0) (fC (.int 0))) (fC (.tup [.str "none", .str "again", .str "ahead", .str "not"]))))))
theorem nu7:List.Nodup [("part" : Str),("empty" : Str)]:=by decide +kernel
theorem ok_may {f:Addr} {fd:FuncData} (F:Fun K "may_be_empty" "may_be_empty" s_may f fd) (T:Txt K mg) (O_parts_of:Own P w K mg base "parts_of" 1 ["form"] (spM K c_parts_of))
    (hlen:∀ os P,c_may_be_empty os P→os.length=2∧∀ j o,os[j]?=some o→j ∉ ([1]:List Nat)→isFz o=true)
    (hc:∀ os P,c_may_be_empty os P→f_may { nx:=fin [1] os P (.fz .non),rt:=fin [1] os P } (startF 2 os)) :
    FnOk P w K mg base CX0 2 f fd ["form", "empty"] (spM K c_may_be_empty) :=
  Fun.okG 2 [1] F sc_may rfl (by decide) hlen (by decide) (fun cdv A outer s H E hr=>⟨_,(wss_cons (ws_if (wt_cmp (wop_eq K hr.units rfl) (we_ixA K hr.units (we_var 0 rfl (Or.inl rfl)) we_int (fun _ _=>rfl) rfl) we_str (nomarkB (by decide) (by decide)))
      (wss_one (ws_ret (we_callB (wc_all K rfl rfl) T.n_all kb_all (wa_c (we_comp (T:=["part"]) (F:=["empty"]) (ixs:=[1]) rfl (CompScope.of rfl rfl rfl) (wi_list K (we_own O_parts_of (hr.mono (by decide)) (wa_c (we_var 0 rfl (Or.inl rfl)) wa_nil rfl) rfl rfl) rfl) (fun _ _ _ _=>(wg_name (i:=0) nu7 rfl (Or.inl rfl) (Or.inr rfl))) (fun _ _ _ _=>wif_nil) (fun _ _ _ _=>(we_cmp (wop_inB K hr.units rfl) (we_var 0 rfl (Or.inl rfl)) (we_var 1 rfl (Or.inr (Or.inl rfl))) rfl)) (fun _=>rfl)) wa_nil rfl) rfl rfl)))
      wss_nil)
    (wss_cons (ws_if (wt_cmp (wop_eq K hr.units rfl) (we_ixA K hr.units (we_var 0 rfl (Or.inl rfl)) we_int (fun _ _=>rfl) rfl) we_str (nomarkB (by decide) (by decide)))
      (wss_one (ws_ret (we_callB (wc_any K rfl rfl) T.n_any kb_any (wa_c (we_comp (T:=["part"]) (F:=["empty"]) (ixs:=[1]) rfl (CompScope.of rfl rfl rfl) (wi_list K (we_own O_parts_of (hr.mono (by decide)) (wa_c (we_var 0 rfl (Or.inl rfl)) wa_nil rfl) rfl rfl) rfl) (fun _ _ _ _=>(wg_name (i:=0) nu7 rfl (Or.inl rfl) (Or.inr rfl))) (fun _ _ _ _=>wif_nil) (fun _ _ _ _=>(we_cmp (wop_inB K hr.units rfl) (we_var 0 rfl (Or.inl rfl)) (we_var 1 rfl (Or.inr (Or.inl rfl))) rfl)) (fun _=>rfl)) wa_nil rfl) rfl rfl)))
      wss_nil)
    (wss_one (ws_ret (we_cmp (wop_inB K hr.units rfl) (we_ixA K hr.units (we_var 0 rfl (Or.inl rfl)) we_int (fun _ _=>rfl) rfl) (we_gloU T.g_WORDS_EVER_EMPTY rfl) rfl))))),
    (sf_seq (sf_if (tf_test (ef_op opf_eq (ef_op opf_ix (ef_v (by decide)) ef_int) ef_str))
      (sf_ret (ef_cb cf_all (af_cons (ef_comp (no:=1) (ixs:=[1]) (itf_list (ef_call (c:=c_parts_of) (af_cons (ef_fz (ef_v (by decide))) af_nil))) (ix_range (by decide)) (gf_name (i:=0) (by decide) (by decide)) (lt_of (by decide)) tf_yes (ef_op opf_in (ef_var (i:=0) (by decide)) (ef_var (i:=2) (by decide)))) af_nil)))
      sf_next)
    (sf_seq (sf_if (tf_test (ef_op opf_eq (ef_op opf_ix (ef_v (by decide)) ef_int) ef_str))
      (sf_ret (ef_cb cf_any (af_cons (ef_comp (no:=1) (ixs:=[1]) (itf_list (ef_call (c:=c_parts_of) (af_cons (ef_fz (ef_v (by decide))) af_nil))) (ix_range (by decide)) (gf_name (i:=0) (by decide) (by decide)) (lt_of (by decide)) tf_yes (ef_op opf_in (ef_var (i:=0) (by decide)) (ef_var (i:=2) (by decide)))) af_nil)))
      sf_next)
    (sf_ret (ef_op opf_in (ef_op opf_ix (ef_v (by decide)) ef_int) (ef_gu fun _=>Dens.strs ["none", "again", "ahead", "not"])))))⟩) hc
theorem l_may (os:List OV) (P:OV→List OV→Prop) (h:c_may_be_empty os P):os.length=2∧∀ j o,os[j]?=some o→j ∉ ([1]:List Nat)→isFz o=true:=by
  unfold c_may_be_empty at h
  obtain ⟨word,rest,zs,ds,rfl,_⟩:=h
  refine ⟨rfl,fun j o e hj=>?_⟩
  match j,e with
  | 0,e=>cases e; rfl
  | 1,e=>exact absurd (by simp) hj
theorem formN_len {word:Str} {rest:List Str} (h:FormN word rest):rest.length≤8:=by
  obtain ⟨zs,_,h⟩:=h
  rcases h with ⟨_,rfl⟩ | ⟨_,z,rfl,_⟩ | ⟨_,h,_⟩ | ⟨_,_,h,_⟩
  · simp
  · simp
  · (first|lia|omega)
  · exact h
theorem h_may (os:List OV) (P:OV→List OV→Prop) (h:c_may_be_empty os P):f_may { nx:=fin [1] os P (.fz .non),rt:=fin [1] os P } (startF 2 os):=by
  unfold c_may_be_empty at h
  obtain ⟨word,rest,zs,ds,rfl,hf,q⟩:=h
  have sz:=sz_is
  have h8:=formN_len hf
  have hp8:(partsL word rest).length≤8:=by
    unfold partsL
    split
    · simp
    · exact h8
  walk_at "go"
  refine if_go ?_
  walk_at "go"
  refine head_by ?_
  walk_at "go"
  refine ⟨eqOk_str,?_⟩
  walk_at "go"
  refine br_by (word = "row") dEq_str (fun hw=>?_) (fun hw=>?_)
  · have hpl:partsL word rest=rest:=by unfold partsL; rw [if_neg (by rw [hw]; decide)]
    walk_at "go"
    refine parts_by ?_
    rw [hpl]
    walk_at "go"
    refine fcomp_by (fun i as ρ=>∃ x:Option OV,as=(rest.take i).map (fun z=>D.bl (hasK (zs.map Sum.inr) (.inr z)))∧ρ=[x,some (.fz (formD word rest)),some (.fd (zs.map Sum.inr) ds)]) ⟨none,by simp,rfl⟩ ?_ ?_
    · rintro i d as ρ R hd ⟨x,rfl,rfl⟩ k
      obtain ⟨z,hz,rfl⟩:∃ z,rest[i]?=some z∧d=.str z:=by
        rw [List.getElem?_map,Option.map_eq_some_iff] at hd
        obtain ⟨z,h1,h2⟩:=hd
        exact ⟨z,h1,h2.symm⟩
      walk_at "go"
      refine br_T ?_
      walk_at "go"
      refine ⟨by rw [List.length_map,List.length_take]; (first|lia|omega),k _ _ ⟨some (.fz (.str z)),by rw [List.take_succ,hz,List.map_append]; rfl,rfl⟩⟩
    · rintro as ρ ⟨x,rfl,rfl⟩
      rw [List.length_map,List.take_of_length_le (Nat.le_refl _)]
      have e:rest.map (fun z=>D.bl (hasK (zs.map Sum.inr) (.inr z)))=(rest.map fun z=>hasK (zs.map Sum.inr) (.inr z)).map D.bl:=by rw [List.map_map]; rfl
      rw [e]
      walk_at "go"
      refine bls_by ?_
      walk_at "go"
      refine q _ ?_
      rw [List.all_map,List.all_eq_true]
      constructor
      · intro h
        exact .inl ⟨hw,fun z hz=>hasK_strs.mp (h z hz)⟩
      · rintro (⟨_,h⟩ | ⟨e,_⟩ | e) z hz
        · exact hasK_strs.mpr (h z hz)
        · rw [hw] at e; exact absurd e (by decide)
        · rw [hw] at e; exact absurd e (by unfold ever; decide)
  · walk_at "go"
    refine if_go ?_
    walk_at "go"
    refine head_by ?_
    walk_at "go"
    refine ⟨eqOk_str,?_⟩
    walk_at "go"
    refine br_by (word = "first") dEq_str (fun hw'=>?_) (fun hw'=>?_)
    · have hpl:partsL word rest=rest:=by unfold partsL; rw [if_neg (by rw [hw']; decide)]
      walk_at "go"
      refine parts_by ?_
      rw [hpl]
      walk_at "go"
      refine fcomp_by (fun i as ρ=>∃ x:Option OV,as=(rest.take i).map (fun z=>D.bl (hasK (zs.map Sum.inr) (.inr z)))∧ρ=[x,some (.fz (formD word rest)),some (.fd (zs.map Sum.inr) ds)]) ⟨none,by simp,rfl⟩ ?_ ?_
      · rintro i d as ρ R hd ⟨x,rfl,rfl⟩ k
        obtain ⟨z,hz,rfl⟩:∃ z,rest[i]?=some z∧d=.str z:=by
          rw [List.getElem?_map,Option.map_eq_some_iff] at hd
          obtain ⟨z,h1,h2⟩:=hd
          exact ⟨z,h1,h2.symm⟩
        walk_at "go"
        refine br_T ?_
        walk_at "go"
        refine ⟨by rw [List.length_map,List.length_take]; (first|lia|omega),k _ _ ⟨some (.fz (.str z)),by rw [List.take_succ,hz,List.map_append]; rfl,rfl⟩⟩
      · rintro as ρ ⟨x,rfl,rfl⟩
        rw [List.length_map,List.take_of_length_le (Nat.le_refl _)]
        have e:rest.map (fun z=>D.bl (hasK (zs.map Sum.inr) (.inr z)))=(rest.map fun z=>hasK (zs.map Sum.inr) (.inr z)).map D.bl:=by rw [List.map_map]; rfl
        rw [e]
        walk_at "go"
        refine bls_by ?_
        walk_at "go"
        refine q _ ?_
        rw [List.any_map,List.any_eq_true]
        constructor
        · rintro ⟨z,hz,h⟩
          exact .inr (.inl ⟨hw',z,hz,hasK_strs.mp h⟩)
        · rintro (⟨e,_⟩ | ⟨_,z,hz,h⟩ | e)
          · exact absurd e hw
          · exact ⟨z,hz,hasK_strs.mpr h⟩
          · rw [hw'] at e; exact absurd e (by unfold ever; decide)
    · walk_at "go"
      refine head_by ?_
      walk_at "go"
      refine ⟨⟨rfl,rfl⟩,?_⟩
      walk_at "go"
      refine q _ ?_
      rw [show [D.str (Str.ofString "none"),D.str (Str.ofString "again"),D.str (Str.ofString "ahead"),D.str (Str.ofString "not")]=([("none" : Str), "again", "ahead", "not"]).map D.str from rfl,inD_strs]
      simp only [List.mem_cons,List.not_mem_nil,or_false]
      constructor
      · intro h; exact .inr (.inr h)
      · rintro (⟨e,_⟩ | ⟨e,_⟩ | e)
        · exact absurd e hw
        · exact absurd e hw'
        · exact e
theorem may_by {word:Str} {rest zs:List Str} {ds:List D} {P:OV→List OV→Prop} (hf:FormN word rest) (h:∀ b:Bool,(b=true↔mayE zs word rest)→P (.fz (.bl b)) [.fz (formD word rest),.fd (zs.map Sum.inr) ds]):c_may_be_empty [.fz (formD word rest),.fd (zs.map Sum.inr) ds] P:=by
  unfold c_may_be_empty
  exact ⟨word,rest,zs,ds,rfl,hf,h⟩
end
end KR
set_option maxHeartbeats 4000000
namespace KR
open PySem L2
section
variable {P:Program} {w:World} {K:PySem.W.Frag} {mg:Str→Option Value} {base:Heap}
theorem row_at {rows:List Rw} {i:Nat} {d:D} (h:(rows.map rowD)[i]?=some d):∃ r,rows[i]?=some r∧d=rowD r:=by
  rw [List.getElem?_map,Option.map_eq_some_iff] at h
  obtain ⟨r,h1,h2⟩:=h
  exact ⟨r,h1,h2.symm⟩
noncomputable abbrev s_enames:Stmt:=top 18
theorem sc_enames:FnScope ["book", "empty", "grows", "name", "form"] ["book"] (defScope s_enames):=⟨rfl,rfl,rfl,by decide +kernel,rfl,by decide +kernel,by decide +kernel⟩
noncomputable def f_enames:FS :=
    (fSeq (fSetO 1 fDNew)
    (fSeq (fAsg (fC (.bl true)) (fgName 2))
    (fSeq (fWhile (fTru (fVar 2))
      (fSeq (fAsg (fC (.bl false)) (fgName 2))
    (fFor (fiList (fVar 0)) (fgTup 2 (fgCons (fgName 3) (fgCons (fgName 4) fgNil)))
      (fIf (fAnd (fTest (fOp aNotIn (fVar 3) (fVar 1))) (fTest (fCall c_may_be_empty (fCons (fFz (fVar 4)) (fCons (fVar 1) fNil)))))
      (fSeq (fDPut 1 (fC (.bl true)) (fVar 3))
    (fAsg (fC (.bl true)) (fgName 2)))
      fNext))))
    (fRet (fVar 1)))))
theorem nu8:List.Nodup [("book" : Str),("empty" : Str),("grows" : Str),("name" : Str),("form" : Str)]:=by decide +kernel
theorem ok_enames {f:Addr} {fd:FuncData} (F:Fun K "empty_names" "empty_names" s_enames f fd) (T:Txt K mg) (O_may_be_empty:Own P w K mg base "may_be_empty" 2 ["form", "empty"] (spM K c_may_be_empty))
    (hlen:∀ os P,c_empty_names os P→os.length=1∧∀ j o,os[j]?=some o→j ∉ ([]:List Nat)→isFz o=true)
    (hc:∀ os P,c_empty_names os P→f_enames { nx:=fin [] os P (.fz .non),rt:=fin [] os P } (startF 5 os)) :
    FnOk P w K mg base CX0 3 f fd ["book"] (spM K c_empty_names) :=
  Fun.okG 5 [] F sc_enames rfl (by decide) hlen (by decide) (fun cdv A outer s H E hr=>⟨_,(wss_cons (ws_set (i:=1) nu8 rfl (Or.inl rfl) we_dnew rfl (Or.inl rfl))
    (wss_cons (ws_set (i:=2) nu8 rfl (Or.inl rfl) we_bl rfl (Or.inl rfl))
    (wss_cons (ws_while PassesOwn.never (wt_name K (we_var 2 rfl (Or.inl rfl)) rfl)
      (wss_cons (ws_set (i:=2) nu8 rfl (Or.inl rfl) we_bl rfl (Or.inl rfl))
    (wss_one (ws_for PassesOwn.never rfl (wi_list K (we_var 0 rfl (Or.inl rfl)) rfl) (wg_tup K rfl (wgs_cons (wg_name (i:=3) nu8 rfl (Or.inl rfl) (Or.inl rfl)) (wgs_cons (wg_name (i:=4) nu8 rfl (Or.inl rfl) (Or.inl rfl)) wgs_nil rfl) rfl) rfl rfl rfl)
      (wss_one (ws_if (wt_w (ww_and (wt_cmp (wop_notInB K hr.units rfl) (we_var 3 rfl (Or.inl rfl)) (we_var 1 rfl (Or.inl rfl)) rfl) (ww_and1 (wt_call (we_own O_may_be_empty (hr.mono (by decide)) (wa_c (we_var 4 rfl (Or.inl rfl)) (wa_c (we_var 1 rfl (Or.inl rfl)) wa_nil rfl) rfl) rfl rfl)))))
      (wss_cons (ws_dput (hu_of hr) (we_var 1 rfl (Or.inl rfl)) (we_var 3 rfl (Or.inl rfl)) we_bl rfl)
    (wss_one (ws_set (i:=2) nu8 rfl (Or.inl rfl) we_bl rfl (Or.inl rfl))))
      wss_nil)) (fun _=>rfl)))))
    (wss_one (ws_ret (we_var 1 rfl (Or.inl rfl))))))),
    (sf_seq (sf_setO ef_dnew (by decide))
    (sf_seq (sf_asg ef_bl (gf_n (by decide)) (notIn_of (by decide)))
    (sf_seq (sf_while (tf_tru (ef_v (by decide)))
      (sf_seq (sf_asg ef_bl (gf_n (by decide)) (notIn_of (by decide)))
    (sf_for (itf_list (ef_v (by decide))) (gf_tup (gsf_cons (gf_n (by decide)) (gsf_cons (gf_n (by decide)) gsf_nil))) (notIn_of (by decide))
      (sf_if (tf_and (tf_test (ef_op opf_notIn (ef_v (by decide)) (ef_v (by decide)))) (tf_b (ef_call (c:=c_may_be_empty) (af_cons (ef_fz (ef_v (by decide))) (af_cons (ef_v (by decide)) af_nil)))))
      (sf_seq (sf_dput ef_bl (ef_v (by decide)))
    (sf_asg ef_bl (gf_n (by decide)) (notIn_of (by decide))))
      sf_next))))
    (sf_ret (ef_v (by decide))))))⟩) hc
theorem l_enames (os:List OV) (P:OV→List OV→Prop) (h:c_empty_names os P):os.length=1∧∀ j o,os[j]?=some o→j ∉ ([]:List Nat)→isFz o=true:=by
  unfold c_empty_names at h
  obtain ⟨rows,rfl,_⟩:=h
  exact fzs1
theorem h_enames (os:List OV) (P:OV→List OV→Prop) (h:c_empty_names os P):f_enames { nx:=fin [] os P (.fz .non),rt:=fin [] os P } (startF 5 os):=by
  unfold c_empty_names at h
  obtain ⟨rows,rfl,hB,q⟩:=h
  have sz:=sz_is
  have few:=hB.few
  walk_at "go"
  refine fwhile_by (fun m ρ=>∃ (zs:List Str) (ds:List D) (g:Bool) (x3 x4:Option OV),ρ=[some (.fz (.lst (rows.map rowD))),some (.fd (zs.map Sum.inr) ds),some (.fz (.bl g)),x3,x4]∧Walk1 rows zs zs 0∧(g=true∨Closed rows zs)∧m=2 * (rows.length - zs.length)+(if g=true then 1 else 0))
    _ ⟨[],[],true,none,none,rfl,Walk1.start List.nodup_nil (fun _ h=>by cases h) (fun _ h=>by cases h),.inl rfl,rfl⟩ ?_
  rintro m ρ R ⟨zs,ds,g,x3,x4,rfl,W,hg,rfl⟩ kk
  walk_at "go"
  cases g with
  | false =>
    have hcl:Closed rows zs:=by
      rcases hg with z | z
      · cases z
      · exact z
    refine br_F ?_
    walk_at "go"
    exact q zs ds W.nd (fun z=>⟨W.emp z,fun h=>h.mem hcl⟩) (Nat.le_trans W.len few)
  | true =>
    refine br_T ?_
    walk_at "go"
    refine floop_by (fun i ρ=>∃ (zs':List Str) (ds':List D) (g:Bool) (x3 x4:Option OV),ρ=[some (.fz (.lst (rows.map rowD))),some (.fd (zs'.map Sum.inr) ds'),some (.fz (.bl g)),x3,x4]∧Walk1 rows zs zs' i∧(g=false→zs'=zs)∧(g=true→zs.length < zs'.length))
      ⟨zs,ds,false,x3,x4,rfl,W,fun _=>rfl,fun z=>nomatch z⟩ ?_ ?_
    · rintro i d ρ R' hd ⟨zs',ds',g,x3,x4,rfl,W',hg0,hg1⟩ kk'
      obtain ⟨r,hr,rfl⟩:=row_at hd
      have hrm:=List.mem_of_getElem? hr
      walk_at "go"
      refine ⟨rfl,?_⟩
      walk_at "go"
      refine if_go ?_
      walk_at "go"
      refine br_by (r.1 ∉ zs') (by rw [Bool.not_eq_true',Bool.eq_false_iff,Ne,hasK_strs]) (fun hn=>?_) (fun hn=>?_)
      · walk_at "go"
        refine may_by (hB.ok r hrm).2 fun b hb=>?_
        walk_at "go"
        refine br_by (mayE zs' r.2.1 r.2.2) hb (fun hm=>?_) (fun hm=>?_)
        · walk_at "go"
          refine ⟨rfl,?_⟩
          walk_at "go"
          have W2:=W'.add hr hn hm
          refine ⟨by rw [List.length_map]; have:=W'.len; (first|lia|omega),?_⟩
          walk_at "go"
          refine kk' _ ⟨zs'++[r.1],(putD (zs'.map Sum.inr) ds' (.inr r.1) (.bl true)).2,true,some (.fz (.str r.1)),some (.fz (formD r.2.1 r.2.2)),?_,W2,(fun z=>nomatch z),fun _=>?_⟩
          · have e:=putD_strs (zs:=zs') (ds:=ds') (z:=r.1) (d:=.bl true)
            unfold KS.dedup1 at e
            rw [if_neg hn] at e
            rw [← e]; rfl
          · rcases W2.grow with ⟨z,_⟩ | z
            · have:=congrArg List.length z
              rw [List.length_append,List.length_singleton] at this
              rcases W'.grow with ⟨y,_⟩ | y
              · rw [y] at this; (first|lia|omega)
              · (first|lia|omega)
            · exact z
        · exact kk' _ ⟨zs',ds',g,some (.fz (.str r.1)),some (.fz (formD r.2.1 r.2.2)),rfl,W'.skip hr fun z=>absurd z hm,hg0,hg1⟩
      · walk_at "go"
        refine br_F ?_
        exact kk' _ ⟨zs',ds',g,some (.fz (.str r.1)),some (.fz (formD r.2.1 r.2.2)),rfl,W'.skip hr fun _=>Classical.not_not.mp hn,hg0,hg1⟩
    · rintro ρ ⟨zs',ds',g,x3,x4,rfl,W',hg0,hg1⟩
      rw [List.length_map] at W'
      have hl:=W'.len
      refine kk _ _ ?_ ⟨zs',ds',g,x3,x4,rfl,Walk1.start W'.nd W'.emp W'.sub,?_,rfl⟩
      · cases g with
        | false=>rw [hg0 rfl,if_neg (by decide),if_pos rfl]; (first|lia|omega)
        | true=>have:=hg1 rfl; rw [if_pos rfl]; (first|lia|omega)
      · cases g with
        | true=>exact .inl rfl
        | false =>
          refine .inr ?_
          have e:=hg0 rfl
          rcases W'.grow with ⟨_,z⟩ | z
          · rw [List.take_of_length_le (Nat.le_refl _)] at z
            rw [e]
            exact fun r hr m=>z r hr m
          · rw [e] at z; exact absurd z (Nat.lt_irrefl _)
theorem enames_by {rows:List Rw} {P:OV→List OV→Prop} (hB:BookL rows) (h:∀ (zs:List Str) (ds:List D),zs.Nodup→(∀ z,z ∈ zs↔Emp rows z)→zs.length≤30→P (.fd (zs.map Sum.inr) ds) [.fz (.lst (rows.map rowD))]):c_empty_names [.fz (.lst (rows.map rowD))] P:=by
  unfold c_empty_names
  exact ⟨rows,rfl,hB,h⟩
noncomputable abbrev s_lempty:Stmt:=top 33
theorem sc_lempty:FnScope ["book", "found", "round_of", "name", "form", "good"] ["book"] (defScope s_lempty):=⟨rfl,rfl,rfl,by decide +kernel,rfl,by decide +kernel,by decide +kernel⟩
noncomputable def f_lempty:FS :=
    (fSeq (fSetO 1 (fLst fNil))
    (fSeq (fFor (fiRng1 (fCons (fCB cLen (fCons (fVar 0) fNil)) fNil)) (fgName 2)
      (fFor (fiList (fVar 0)) (fgTup 2 (fgCons (fgName 3) (fgCons (fgName 4) fgNil)))
      (fSeq (fAsg (fOp aIn (fOp aIx (fVar 4) (fC (.int 0))) (fLst (fCons (fC (.str "none")) (fCons (fC (.str "again")) (fCons (fC (.str "ahead")) (fCons (fC (.str "not")) fNil)))))) (fgName 5))
    (fSeq (fIf (fTest (fOp aEq (fOp aIx (fVar 4) (fC (.int 0))) (fC (.str "row"))))
      (fAsg (fOp aEq (fComp 1 (fiTup (fSl aSl (fVar 4) (fPart (fC (.int 1))) fNoPart)) (fgName 0) (fTest (fOp aNotIn (fVar 0) (fVar 2))) (fVar 0)) (fLst fNil)) (fgName 5))
      fNext)
    (fSeq (fIf (fTest (fOp aEq (fOp aIx (fVar 4) (fC (.int 0))) (fC (.str "first"))))
      (fAsg (fOp aNe (fComp 1 (fiTup (fSl aSl (fVar 4) (fPart (fC (.int 1))) fNoPart)) (fgName 0) (fTest (fOp aIn (fVar 0) (fVar 2))) (fVar 0)) (fLst fNil)) (fgName 5))
      fNext)
    (fIf (fAnd (fTru (fVar 5)) (fTest (fOp aNotIn (fVar 3) (fVar 1))))
      (fDrop (fApp 1 (fVar 3)))
      fNext))))))
    (fRet (fCB cSortB (fCons (fVar 1) fNil)))))
theorem nu9:List.Nodup [("book" : Str),("found" : Str),("round_of" : Str),("name" : Str),("form" : Str),("good" : Str)]:=by decide +kernel
theorem nu10:List.Nodup [("part" : Str),("found" : Str)]:=by decide +kernel
theorem ok_lempty {f:Addr} {fd:FuncData} (F:Fun K "_law_empty" "_law_empty" s_lempty f fd) (T:Txt K mg)
    (hlen:∀ os P,c_law_empty os P→os.length=1∧∀ j o,os[j]?=some o→j ∉ ([]:List Nat)→isFz o=true)
    (hc:∀ os P,c_law_empty os P→f_lempty { nx:=fin [] os P (.fz .non),rt:=fin [] os P } (startF 6 os)) :
    FnOk P w K mg base CX0 1 f fd ["book"] (spM K c_law_empty) :=
  Fun.okG 6 [] F sc_lempty rfl (by decide) hlen (by decide) (fun cdv A outer s H E hr=>⟨_,(wss_cons (ws_set (i:=1) nu9 rfl (Or.inr rfl) (we_lst wa_nil) rfl (Or.inl rfl))
    (wss_cons (ws_for PassesOwn.never rfl (wi_range1 rfl T.n_range (wa_c (we_callB (wc_len K rfl) T.n_len kb_len (wa_c (we_var 0 rfl (Or.inl rfl)) wa_nil rfl) rfl rfl) wa_nil rfl) rfl) (wg_name (i:=2) nu9 rfl (Or.inl rfl) (Or.inl rfl))
      (wss_one (ws_for PassesOwn.never rfl (wi_list K (we_var 0 rfl (Or.inl rfl)) rfl) (wg_tup K rfl (wgs_cons (wg_name (i:=3) nu9 rfl (Or.inl rfl) (Or.inl rfl)) (wgs_cons (wg_name (i:=4) nu9 rfl (Or.inl rfl) (Or.inl rfl)) wgs_nil rfl) rfl) rfl rfl rfl)
      (wss_cons (ws_set (i:=5) nu9 rfl (Or.inl rfl) (we_cmp (wop_inB K hr.units rfl) (we_ixA K hr.units (we_var 4 rfl (Or.inl rfl)) we_int (fun _ _=>rfl) rfl) (we_lst (wa_c we_str (wa_c we_str (wa_c we_str (wa_c we_str wa_nil rfl) rfl) rfl) rfl)) rfl) rfl (Or.inl rfl))
    (wss_cons (ws_if (wt_cmp (wop_eq K hr.units rfl) (we_ixA K hr.units (we_var 4 rfl (Or.inl rfl)) we_int (fun _ _=>rfl) rfl) we_str (nomarkB (by decide) (by decide)))
      (wss_one (ws_set (i:=5) nu9 rfl (Or.inl rfl) (we_cmp (wop_eq K hr.units rfl) (we_comp (T:=["part"]) (F:=["found"]) (ixs:=[1]) rfl (CompScope.of rfl rfl rfl) (wi_tup K (we_slice K (we_var 4 rfl (Or.inl rfl)) (wo_some we_int) wo_none rfl) rfl) (fun _ _ _ _=>(wg_name (i:=0) nu10 rfl (Or.inl rfl) (Or.inr rfl))) (fun _ _ _ _=>(wif_one (wt_cmp (wop_notInB K hr.units rfl) (we_var 0 rfl (Or.inl rfl)) (we_var 1 rfl (Or.inr (Or.inl rfl))) rfl))) (fun _ _ _ _=>(we_var 0 rfl (Or.inl rfl))) (fun _=>rfl)) (we_lst wa_nil) (nomarkB (by decide) (by decide))) rfl (Or.inl rfl)))
      wss_nil)
    (wss_cons (ws_if (wt_cmp (wop_eq K hr.units rfl) (we_ixA K hr.units (we_var 4 rfl (Or.inl rfl)) we_int (fun _ _=>rfl) rfl) we_str (nomarkB (by decide) (by decide)))
      (wss_one (ws_set (i:=5) nu9 rfl (Or.inl rfl) (we_cmp (wop_ne K hr.units rfl) (we_comp (T:=["part"]) (F:=["found"]) (ixs:=[1]) rfl (CompScope.of rfl rfl rfl) (wi_tup K (we_slice K (we_var 4 rfl (Or.inl rfl)) (wo_some we_int) wo_none rfl) rfl) (fun _ _ _ _=>(wg_name (i:=0) nu10 rfl (Or.inl rfl) (Or.inr rfl))) (fun _ _ _ _=>(wif_one (wt_cmp (wop_inB K hr.units rfl) (we_var 0 rfl (Or.inl rfl)) (we_var 1 rfl (Or.inr (Or.inl rfl))) rfl))) (fun _ _ _ _=>(we_var 0 rfl (Or.inl rfl))) (fun _=>rfl)) (we_lst wa_nil) (nomarkB (by decide) (by decide))) rfl (Or.inl rfl)))
      wss_nil)
    (wss_one (ws_if (wt_w (ww_and (wt_name K (we_var 5 rfl (Or.inl rfl)) rfl) (ww_and1 (wt_cmp (wop_notInB K hr.units rfl) (we_var 3 rfl (Or.inl rfl)) (we_var 1 rfl (Or.inr (Or.inl rfl))) rfl))))
      (wss_one (ws_expr (we_meth K PySem.F.plainAttrs_list PySem.F.slot_list_append PySem.F.type_list_append (wm_append K rfl) (we_var 1 rfl (Or.inr (Or.inl rfl))) (wa_c (we_var 3 rfl (Or.inl rfl)) wa_nil rfl) rfl rfl rfl (by decide) rfl) rfl))
      wss_nil))))) (fun _=>rfl))) (fun _=>rfl))
    (wss_one (ws_ret (we_callB (wc_sortB P w K rfl rfl rfl rfl) T.n_sorted kb_sorted (wa_c (we_var 1 rfl (Or.inr (Or.inl rfl))) wa_nil rfl) rfl rfl))))),
    (sf_seq (sf_setO (ef_lst af_nil) (by decide))
    (sf_seq (sf_for (itf_rng1 (af_cons (ef_cb cf_len (af_cons (ef_v (by decide)) af_nil)) af_nil)) (gf_n (by decide)) (notIn_of (by decide))
      (sf_for (itf_list (ef_v (by decide))) (gf_tup (gsf_cons (gf_n (by decide)) (gsf_cons (gf_n (by decide)) gsf_nil))) (notIn_of (by decide))
      (sf_seq (sf_asg (ef_op opf_in (ef_op opf_ix (ef_v (by decide)) ef_int) (ef_lst (af_cons ef_str (af_cons ef_str (af_cons ef_str (af_cons ef_str af_nil)))))) (gf_n (by decide)) (notIn_of (by decide)))
    (sf_seq (sf_if (tf_test (ef_op opf_eq (ef_op opf_ix (ef_v (by decide)) ef_int) ef_str))
      (sf_asg (ef_op opf_eq (ef_comp (no:=1) (ixs:=[1]) (itf_tup (ef_sl slf_any (ef_v (by decide)) (of_some ef_int) of_none)) (ix_range (by decide)) (gf_name (i:=0) (by decide) (by decide)) (lt_of (by decide)) (tf_test (ef_op opf_notIn (ef_var (i:=0) (by decide)) (ef_var (i:=2) (by decide)))) (ef_var (i:=0) (by decide))) (ef_lst af_nil)) (gf_n (by decide)) (notIn_of (by decide)))
      sf_next)
    (sf_seq (sf_if (tf_test (ef_op opf_eq (ef_op opf_ix (ef_v (by decide)) ef_int) ef_str))
      (sf_asg (ef_op opf_ne (ef_comp (no:=1) (ixs:=[1]) (itf_tup (ef_sl slf_any (ef_v (by decide)) (of_some ef_int) of_none)) (ix_range (by decide)) (gf_name (i:=0) (by decide) (by decide)) (lt_of (by decide)) (tf_test (ef_op opf_in (ef_var (i:=0) (by decide)) (ef_var (i:=2) (by decide)))) (ef_var (i:=0) (by decide))) (ef_lst af_nil)) (gf_n (by decide)) (notIn_of (by decide)))
      sf_next)
    (sf_if (tf_and (tf_tru (ef_v (by decide))) (tf_test (ef_op opf_notIn (ef_v (by decide)) (ef_v (by decide)))))
      (sf_drop (ef_appV (by decide) (ef_v (by decide))))
      sf_next))))))
    (sf_ret (ef_cb cf_sortB (af_cons (ef_v (by decide)) af_nil)))))⟩) hc
theorem l_lempty (os:List OV) (P:OV→List OV→Prop) (h:c_law_empty os P):os.length=1∧∀ j o,os[j]?=some o→j ∉ ([]:List Nat)→isFz o=true:=by
  unfold c_law_empty at h
  obtain ⟨rows,rfl,_⟩:=h
  exact fzs1
theorem cut_tail {x:D} {r:List D}:cutL (x::r) (some 1) none=r:=cutL_from _ 1
theorem not_whole {x:D} {r:List D}:notWhole (x::r).length (some 1) none:=fun z=>by
  have e1:HT.sIx (x::r).length 0 (some (1:Int))=1:=by
    rw [show (1:Int)=((1:Nat):Int) from rfl,HT.sIx_nat,List.length_cons]; (first|lia|omega)
  rw [e1] at z; (first|lia|omega)
theorem str_at {zs:List Str} {i:Nat} {d:D} (h:(zs.map D.str)[i]?=some d):∃ z,zs[i]?=some z∧d=.str z:=by
  rw [List.getElem?_map,Option.map_eq_some_iff] at h
  obtain ⟨r,h1,h2⟩:=h
  exact ⟨r,h1,h2.symm⟩
theorem okDs_strs (zs:List Str):okDs (zs.map D.str)=true:=by
  induction zs with
  | nil=>rfl
  | cons z zs ih=>exact ih
theorem deps_toStrs (zs:List Str):deps (toDVs (zs.map D.str))=0:=by
  induction zs with
  | nil=>rfl
  | cons z zs ih=>exact (Nat.zero_max _).trans ih
theorem dep_strs (zs:List Str):dep (toDV (.lst (zs.map D.str)))≤40:=Nat.le_trans (Nat.succ_le_succ (Nat.le_of_eq (deps_toStrs zs))) (by decide)
theorem eqOk_nil {zs:List Str}:eqOk (.lst (zs.map D.str)) (.lst []):=⟨okDs_strs zs,rfl,dep_strs zs⟩
theorem dEq_nil {zs:List Str}:dEq (.lst (zs.map D.str)) (.lst [])=true↔zs=[]:=by
  cases zs with
  | nil=>exact ⟨fun _=>rfl,fun _=>rfl⟩
  | cons z zs=>exact ⟨fun h=>Bool.noConfusion (show false=true from h),fun h=>nomatch h⟩
theorem h_lempty (os:List OV) (P:OV→List OV→Prop) (h:c_law_empty os P):f_lempty { nx:=fin [] os P (.fz .non),rt:=fin [] os P } (startF 6 os):=by
  unfold c_law_empty at h
  obtain ⟨rows,rfl,hB,q⟩:=h
  have sz:=sz_is
  have few:=hB.few
  walk_at "go"
  refine ⟨Nat.zero_le _,?_⟩
  walk_at "go"
  refine ⟨⟨by rw [List.length_map]; (first|lia|omega),by rw [List.length_map]; (first|lia|omega)⟩,?_⟩
  walk_at "go"
  refine floop_by (fun i ρ=>∃ (zs:List Str) (x2 x3 x4 x5:Option OV),ρ=[some (.fz (.lst (rows.map rowD))),some (.fl (zs.map .str)),x2,x3,x4,x5]∧Walk1 rows zs zs 0∧(Closed rows zs∨i≤zs.length))
    ⟨[],none,none,none,none,rfl,Walk1.start List.nodup_nil (fun _ h=>by cases h) (fun _ h=>by cases h),.inr (Nat.zero_le _)⟩ ?_ ?_
  · rintro i d ρ R hd ⟨zs,x2,x3,x4,x5,rfl,W,hcl⟩ kk
    obtain ⟨hi,rfl⟩:=rangeD_at hd
    walk_at "go"
    refine floop_by (fun j ρ=>∃ (zs':List Str) (x3 x4 x5:Option OV),ρ=[some (.fz (.lst (rows.map rowD))),some (.fl (zs'.map .str)),some (.fz (.int (0+(i:Int)))),x3,x4,x5]∧Walk1 rows zs zs' j)
      ⟨zs,x3,x4,x5,rfl,W⟩ ?_ ?_
    · rintro j d ρ R' hd ⟨zs',x3,x4,x5,rfl,W'⟩ kk'
      obtain ⟨r,hr,rfl⟩:=row_at hd
      have hrm:=List.mem_of_getElem? hr
      have h8:=formN_len (hB.ok r hrm).2
      have last:∀ (E:FEnds) (b:Bool),(b=true↔mayE zs' r.2.1 r.2.2)→E.nx=R' →
          fIf (fAnd (fTru (fVar 5)) (fTest (fOp aNotIn (fVar 3) (fVar 1)))) (fDrop (fApp 1 (fVar 3))) fNext E [some (.fz (.lst (rows.map rowD))),some (.fl (zs'.map .str)),some (.fz (.int (0+(i:Int)))),some (.fz (.str r.1)),some (.fz (formD r.2.1 r.2.2)),some (.fz (.bl b))]:=by
        intro E b hb hE
        have stay:(mayE zs' r.2.1 r.2.2→r.1 ∈ zs')→E.nx [some (.fz (.lst (rows.map rowD))),some (.fl (zs'.map .str)),some (.fz (.int (0+(i:Int)))),some (.fz (.str r.1)),some (.fz (formD r.2.1 r.2.2)),some (.fz (.bl b))]:=by
          intro h
          rw [hE]
          exact kk' _ ⟨zs',_,_,_,rfl,W'.skip hr h⟩
        refine if_go ?_
        walk_at "go"
        refine br_by (mayE zs' r.2.1 r.2.2) hb (fun hm=>?_) (fun hm=>?_)
        · walk_at "go"
          refine ⟨⟨rfl,flD_strs zs'⟩,?_⟩
          walk_at "go"
          refine br_by (r.1 ∉ zs') (by rw [Bool.not_eq_true',Bool.eq_false_iff,Ne,inD_strs]) (fun hn=>?_) (fun hn=>?_)
          · walk_at "go"
            refine ⟨rfl,?_⟩
            walk_at "go"
            refine ⟨by rw [List.length_map]; have:=W'.len; (first|lia|omega),?_⟩
            show E.nx _
            rw [hE]
            exact kk' _ ⟨zs'++[r.1],_,_,_,by rw [List.map_append]; rfl,W'.add hr hn hm⟩
          · exact stay fun _=>Classical.not_not.mp hn
        · walk_at "go"
          refine br_F ?_
          exact stay fun z=>absurd z hm
      walk_at "go"
      refine ⟨rfl,?_⟩
      walk_at "go"
      refine head_by ?_
      walk_at "go"
      refine ⟨lez 4,?_⟩
      walk_at "go"
      refine ⟨⟨rfl,rfl⟩,?_⟩
      have hev:inD (.str r.2.1) [D.str (Str.ofString "none"),D.str (Str.ofString "again"),D.str (Str.ofString "ahead"),D.str (Str.ofString "not")]=true↔ever r.2.1:=by
        rw [show [D.str (Str.ofString "none"),D.str (Str.ofString "again"),D.str (Str.ofString "ahead"),D.str (Str.ofString "not")]=([("none" : Str), "again", "ahead", "not"]).map D.str from rfl,inD_strs]
        simp only [List.mem_cons,List.not_mem_nil,or_false]
        exact Iff.rfl
      walk_at "go"
      refine if_go ?_
      walk_at "go"
      refine head_by ?_
      walk_at "go"
      refine ⟨eqOk_str,?_⟩
      walk_at "go"
      refine br_by (r.2.1 = "row") dEq_str (fun hw=>?_) (fun hw=>?_)
      · walk_at "go"
        refine ⟨not_whole,?_⟩
        rw [cut_tail]
        walk_at "go"
        refine fcomp_by (fun k as ρ=>∃ x:Option OV,as=((r.2.2.take k).filter fun z=>!inD (.str z) (zs'.map D.str)).map .str∧ρ=[x,some (.fz (.lst (rows.map rowD))),some (.fl (zs'.map .str)),some (.fz (.int (0+(i:Int)))),some (.fz (.str r.1)),some (.fz (formD r.2.1 r.2.2)),some (.fz (.bl (inD (.str r.2.1) [D.str (Str.ofString "none"),D.str (Str.ofString "again"),D.str (Str.ofString "ahead"),D.str (Str.ofString "not")])))])
          ⟨none,by simp,rfl⟩ ?_ ?_
        · rintro k d as ρ R2 hd ⟨x,rfl,rfl⟩ k2
          obtain ⟨z,hz,rfl⟩:=str_at hd
          walk_at "go"
          refine ⟨⟨rfl,flD_strs zs'⟩,?_⟩
          walk_at "go"
          refine br_by ((!inD (.str z) (zs'.map D.str))=true) Iff.rfl (fun hp=>?_) (fun hp=>?_)
          · walk_at "go"
            refine ⟨?_,k2 _ _ ⟨some (.fz (.str z)),?_,rfl⟩⟩
            · rw [List.length_map]
              have:=List.length_filter_le (fun z=>!inD (.str z) (zs'.map D.str)) (r.2.2.take k)
              rw [List.length_take] at this
              (first|lia|omega)
            · rw [List.take_succ,hz,List.filter_append,List.map_append]
              simp [hp]
          · refine k2 _ _ ⟨some (.fz (.str z)),?_,rfl⟩
            rw [List.take_succ,hz,List.filter_append,List.map_append]
            simp [hp]
        · rintro as ρ ⟨x,rfl,rfl⟩
          rw [List.length_map,List.take_of_length_le (Nat.le_refl _)]
          walk_at "go"
          refine ⟨Nat.zero_le _,?_⟩
          walk_at "go"
          refine ⟨eqOk_nil,?_⟩
          walk_at "go"
          refine if_go ?_
          walk_at "go"
          refine head_by ?_
          walk_at "go"
          refine ⟨eqOk_str,?_⟩
          walk_at "go"
          refine br_by (r.2.1 = "first") dEq_str (fun h=>absurd (hw.symm.trans h) (by decide)) (fun _=>?_)
          refine (force_is _ _).mpr (last _ _ ?_ rfl)
          rw [dEq_nil,List.filter_eq_nil_iff]
          constructor
          · intro h
            exact .inl ⟨hw,fun z hz=>by have:=h z hz; rw [Bool.not_eq_true',Bool.not_eq_false,inD_strs] at this; exact this⟩
          · rintro (⟨_,h⟩ | ⟨e,_⟩ | e) z hz
            · rw [Bool.not_eq_true',Bool.not_eq_false,inD_strs]; exact h z hz
            · exact absurd (hw.symm.trans e) (by decide)
            · rw [hw] at e; exact absurd e (by unfold ever; decide)
      · walk_at "go"
        refine if_go ?_
        walk_at "go"
        refine head_by ?_
        walk_at "go"
        refine ⟨eqOk_str,?_⟩
        walk_at "go"
        refine br_by (r.2.1 = "first") dEq_str (fun hw'=>?_) (fun hw'=>?_)
        · walk_at "go"
          refine ⟨not_whole,?_⟩
          rw [cut_tail]
          walk_at "go"
          refine fcomp_by (fun k as ρ=>∃ x:Option OV,as=((r.2.2.take k).filter fun z=>inD (.str z) (zs'.map D.str)).map .str∧ρ=[x,some (.fz (.lst (rows.map rowD))),some (.fl (zs'.map .str)),some (.fz (.int (0+(i:Int)))),some (.fz (.str r.1)),some (.fz (formD r.2.1 r.2.2)),some (.fz (.bl (inD (.str r.2.1) [D.str (Str.ofString "none"),D.str (Str.ofString "again"),D.str (Str.ofString "ahead"),D.str (Str.ofString "not")])))])
            ⟨none,by simp,rfl⟩ ?_ ?_
          · rintro k d as ρ R2 hd ⟨x,rfl,rfl⟩ k2
            obtain ⟨z,hz,rfl⟩:=str_at hd
            walk_at "go"
            refine ⟨⟨rfl,flD_strs zs'⟩,?_⟩
            walk_at "go"
            refine br_by (inD (.str z) (zs'.map D.str)=true) Iff.rfl (fun hp=>?_) (fun hp=>?_)
            · walk_at "go"
              refine ⟨?_,k2 _ _ ⟨some (.fz (.str z)),?_,rfl⟩⟩
              · rw [List.length_map]
                have:=List.length_filter_le (fun z=>inD (.str z) (zs'.map D.str)) (r.2.2.take k)
                rw [List.length_take] at this
                (first|lia|omega)
              · rw [List.take_succ,hz,List.filter_append,List.map_append]
                simp [hp]
            · refine k2 _ _ ⟨some (.fz (.str z)),?_,rfl⟩
              rw [List.take_succ,hz,List.filter_append,List.map_append]
              simp [hp]
          · rintro as ρ ⟨x,rfl,rfl⟩
            rw [List.length_map,List.take_of_length_le (Nat.le_refl _)]
            walk_at "go"
            refine ⟨Nat.zero_le _,?_⟩
            walk_at "go"
            refine ⟨eqOk_nil,?_⟩
            refine (force_is _ _).mpr (last _ _ ?_ rfl)
            rw [Bool.not_eq_true',Bool.eq_false_iff,Ne,dEq_nil,List.filter_eq_nil_iff]
            constructor
            · intro h
              refine .inr (.inl ⟨hw',?_⟩)
              refine Classical.byContradiction fun hc=>h fun z hz hin=>hc ⟨z,hz,inD_strs.mp hin⟩
            · rintro (⟨e,_⟩ | ⟨_,z,hz,h⟩ | e) hall
              · exact absurd e hw
              · exact hall z hz (inD_strs.mpr h)
              · rw [hw'] at e; exact absurd e (by unfold ever; decide)
        · refine (force_is _ _).mpr (last _ _ ?_ rfl)
          rw [hev]
          constructor
          · intro h; exact .inr (.inr h)
          · rintro (⟨e,_⟩ | ⟨e,_⟩ | e)
            · exact absurd e hw
            · exact absurd e hw'
            · exact e
    · rintro ρ ⟨zs',x3,x4,x5,rfl,W'⟩
      rw [List.length_map] at W'
      refine kk _ ⟨zs',_,_,_,_,rfl,Walk1.start W'.nd W'.emp W'.sub,?_⟩
      rcases W'.grow with ⟨e,z⟩ | z
      · rw [List.take_of_length_le (Nat.le_refl _)] at z
        rw [e]
        exact .inl fun r hr m=>z r hr m
      · rcases hcl with c | c
        · -- a closed list does not grow
          have hs:∀ y ∈ zs',y ∈ zs:=fun y hy=>(W'.emp y hy).mem c
          have:=List.Nodup.length_le_of_subset W'.nd hs
          (first|lia|omega)
        · exact .inr (by (first|lia|omega))
  · rintro ρ ⟨zs,x2,x3,x4,x5,rfl,W,hcl⟩
    rw [rangeD_len] at hcl
    have hc:Closed rows zs:=by
      rcases hcl with c | c
      · exact c
      · refine closed_of W.nd W.sub ?_
        rw [List.length_map] at c; (first|lia|omega)
    walk_at "go"
    refine sort_strs (by have:=W.len; (first|lia|omega)) ?_
    walk_at "go"
    exact q zs W.nd fun z=>⟨W.emp z,fun h=>h.mem hc⟩
theorem lempty_by {rows:List Rw} {P:OV→List OV→Prop} (hB:BookL rows) (h:∀ (zs:List Str),zs.Nodup→(∀ z,z ∈ zs↔Emp rows z)→P (.fl ((sortS zs).map .str)) [.fz (.lst (rows.map rowD))]):c_law_empty [.fz (.lst (rows.map rowD))] P:=by
  unfold c_law_empty
  exact ⟨rows,rfl,hB,h⟩
end
end KR
set_option maxHeartbeats 4000000
namespace KR
open PySem L2
noncomputable def upto (zs:List Str):List Str→List Str
  | []=>[]
  | p::r=>if p ∈ zs then p::upto zs r else [p]
theorem upto_congr {zs zs':List Str} (h:∀ z,z ∈ zs↔z ∈ zs'):∀ ps,upto zs ps=upto zs' ps
  | []=>rfl
  | p::r=>by
    unfold upto
    rw [upto_congr h r]
    by_cases hp:p ∈ zs
    · rw [if_pos hp,if_pos ((h p).mp hp)]
    · rw [if_neg hp,if_neg fun z=>hp ((h p).mpr z)]
theorem upto_len {zs:List Str}:∀ ps,(upto zs ps).length≤ps.length
  | []=>Nat.le_refl _
  | p::r=>by
    unfold upto
    have:=upto_len (zs:=zs) r
    split <;> simp <;> (first|lia|omega)
theorem upto_step {zs:List Str} {ps:List Str} {i:Nat} {p:Str} (hp:ps[i]?=some p) (h:∀ z ∈ ps.take i,z ∈ zs):upto zs ps=ps.take i++upto zs (ps.drop i):=by
  induction ps generalizing i with
  | nil=>simp at hp
  | cons a r ih =>
    cases i with
    | zero=>rfl
    | succ i =>
      rw [List.take_succ_cons] at h
      have ha:=h a (List.mem_cons_self ..)
      rw [List.getElem?_cons_succ] at hp
      have:=ih hp fun z hz=>h z (List.mem_cons_of_mem _ hz)
      rw [List.take_succ_cons,List.drop_succ_cons,List.cons_append,← this]
      rw [upto,if_pos ha]
theorem drop_at {ps:List Str} {i:Nat} {p:Str} (hp:ps[i]?=some p):ps.drop i=p::ps.drop (i+1):=by
  obtain ⟨h,e⟩:=List.getElem?_eq_some_iff.mp hp
  rw [List.drop_eq_getElem_cons h,e]
theorem upto_end {zs:List Str} {ps:List Str} {i:Nat} {p:Str} (hp:ps[i]?=some p) (h:∀ z ∈ ps.take i,z ∈ zs) (hn:p ∉ zs):upto zs ps=ps.take (i+1):=by
  rw [upto_step hp h,drop_at hp,upto,if_neg hn,List.take_succ,hp]
  rfl
theorem upto_all {zs:List Str}:∀ {ps:List Str},(∀ z ∈ ps,z ∈ zs)→upto zs ps=ps
  | [],_=>rfl
  | p::r,h=>by
    rw [upto,if_pos (h p (List.mem_cons_self ..)),upto_all fun z hz=>h z (List.mem_cons_of_mem _ hz)]
noncomputable def beginsL (zs:List Str) (word:Str) (rest:List Str):List Str:=if word = "row" then upto zs rest else partsL word rest
@[irreducible] noncomputable def c_begins_of_row:Ct:=fun os P=>∃ (ps zs:List Str) (ds:List D),os=[.fz (.lst (ps.map .str)),.fd (zs.map Sum.inr) ds]∧ps.length≤8∧P (.fl ((upto zs ps).map .str)) os
@[irreducible] noncomputable def c_begins_of_form:Ct:=fun os P=>∃ (word:Str) (rest zs:List Str) (ds:List D),os=[.fz (formD word rest),.fd (zs.map Sum.inr) ds]∧FormN word rest∧P (.fl ((beginsL zs word rest).map .str)) os
section
variable {P:Program} {w:World} {K:PySem.W.Frag} {mg:Str→Option Value} {base:Heap}
theorem fzd {d:D} {ks:List Key} {ds:List D}:[OV.fz d,OV.fd ks ds].length=2∧∀ (j:Nat) (o:OV),[OV.fz d,OV.fd ks ds][j]?=some o→j ∉ ([1]:List Nat)→isFz o=true:=⟨rfl,fun j o e hj=>by
  match j,e with
  | 0,e=>cases e; rfl
  | 1,e=>exact absurd (by simp) hj⟩
noncomputable abbrev s_brow:Stmt:=top 19
theorem sc_brow:FnScope ["parts", "empty", "begun", "part"] ["parts", "empty"] (defScope s_brow):=⟨rfl,rfl,rfl,by decide +kernel,rfl,by decide +kernel,by decide +kernel⟩
noncomputable def f_brow:FS :=
    (fSeq (fSetO 2 (fLst fNil))
    (fSeq (fFor (fiList (fVar 0)) (fgName 3)
      (fSeq (fDrop (fApp 2 (fVar 3)))
    (fIf (fTest (fOp aNotIn (fVar 3) (fVar 1)))
      fBreak
      fNext)))
    (fRet (fVar 2))))
theorem nu11:List.Nodup [("parts" : Str),("empty" : Str),("begun" : Str),("part" : Str)]:=by decide +kernel
theorem ok_brow {f:Addr} {fd:FuncData} (F:Fun K "begins_of_row" "begins_of_row" s_brow f fd) (T:Txt K mg)
    (hlen:∀ os P,c_begins_of_row os P→os.length=2∧∀ j o,os[j]?=some o→j ∉ ([1]:List Nat)→isFz o=true)
    (hc:∀ os P,c_begins_of_row os P→f_brow { nx:=fin [1] os P (.fz .non),rt:=fin [1] os P } (startF 4 os)) :
    FnOk P w K mg base CX0 1 f fd ["parts", "empty"] (spM K c_begins_of_row) :=
  Fun.okG 4 [1] F sc_brow rfl (by decide) hlen (by decide) (fun cdv A outer s H E hr=>⟨_,(wss_cons (ws_set (i:=2) nu11 rfl (Or.inl rfl) (we_lst wa_nil) rfl (Or.inl rfl))
    (wss_cons (ws_for PassesOwn.never rfl (wi_list K (we_var 0 rfl (Or.inl rfl)) rfl) (wg_name (i:=3) nu11 rfl (Or.inl rfl) (Or.inl rfl))
      (wss_cons (ws_expr (we_meth K PySem.F.plainAttrs_list PySem.F.slot_list_append PySem.F.type_list_append (wm_append K rfl) (we_var 2 rfl (Or.inl rfl)) (wa_c (we_var 3 rfl (Or.inl rfl)) wa_nil rfl) rfl rfl rfl (by decide) rfl) rfl)
    (wss_one (ws_if (wt_cmp (wop_notInB K hr.units rfl) (we_var 3 rfl (Or.inl rfl)) (we_var 1 rfl (Or.inl rfl)) rfl)
      (wss_one ws_break)
      wss_nil))) (fun _=>rfl))
    (wss_one (ws_ret (we_var 2 rfl (Or.inl rfl)))))),
    (sf_seq (sf_setO (ef_lst af_nil) (by decide))
    (sf_seq (sf_for (itf_list (ef_v (by decide))) (gf_n (by decide)) (notIn_of (by decide))
      (sf_seq (sf_drop (ef_appV (by decide) (ef_v (by decide))))
    (sf_if (tf_test (ef_op opf_notIn (ef_v (by decide)) (ef_v (by decide))))
      sf_break
      sf_next)))
    (sf_ret (ef_v (by decide)))))⟩) hc
theorem l_brow (os:List OV) (P:OV→List OV→Prop) (h:c_begins_of_row os P):os.length=2∧∀ j o,os[j]?=some o→j ∉ ([1]:List Nat)→isFz o=true:=by
  unfold c_begins_of_row at h
  obtain ⟨ps,zs,ds,rfl,_⟩:=h
  exact fzd
theorem h_brow (os:List OV) (P:OV→List OV→Prop) (h:c_begins_of_row os P):f_brow { nx:=fin [1] os P (.fz .non),rt:=fin [1] os P } (startF 4 os):=by
  unfold c_begins_of_row at h
  obtain ⟨ps,zs,ds,rfl,h8,q⟩:=h
  have sz:=sz_is
  walk_at "go"
  refine ⟨Nat.zero_le _,?_⟩
  walk_at "go"
  refine floop_by (fun i ρ=>∃ x:Option OV,ρ=[some (.fz (.lst (ps.map .str))),some (.fd (zs.map Sum.inr) ds),some (.fl ((ps.take i).map .str)),x]∧∀ z ∈ ps.take i,z ∈ zs) ⟨none,by simp,fun z hz=>by simp at hz⟩ ?_ ?_
  · rintro i d ρ R hd ⟨x,rfl,hall⟩ kk
    obtain ⟨p,hp,rfl⟩:=str_at hd
    walk_at "go"
    refine ⟨rfl,?_⟩
    walk_at "go"
    refine ⟨by rw [List.length_map,List.length_take]; (first|lia|omega),?_⟩
    walk_at "go"
    refine if_go ?_
    walk_at "go"
    refine br_by (p ∉ zs) (by rw [Bool.not_eq_true',Bool.eq_false_iff,Ne,hasK_strs]) (fun hn=>?_) (fun hn=>?_)
    · walk_at "go"
      have e:=upto_end hp hall hn
      rw [e,List.take_succ,hp,List.map_append] at q
      exact q
    · refine kk _ ⟨some (.fz (.str p)),?_,?_⟩
      · rw [List.take_succ,hp,List.map_append]; rfl
      · intro z hz
        rcases take_mem hp hz with h | h
        · exact hall z h
        · rw [h]; exact Classical.not_not.mp hn
  · rintro ρ ⟨x,rfl,hall⟩
    rw [List.length_map,List.take_of_length_le (Nat.le_refl _)] at *
    walk_at "go"
    rw [upto_all hall] at q
    exact q
theorem brow_by {ps zs:List Str} {ds:List D} {P:OV→List OV→Prop} (h8:ps.length≤8) (h:P (.fl ((upto zs ps).map .str)) [.fz (.lst (ps.map .str)),.fd (zs.map Sum.inr) ds]):c_begins_of_row [.fz (.lst (ps.map .str)),.fd (zs.map Sum.inr) ds] P:=by
  unfold c_begins_of_row
  exact ⟨ps,zs,ds,rfl,h8,h⟩
noncomputable abbrev s_bform:Stmt:=top 20
theorem sc_bform:FnScope ["form", "empty"] ["form", "empty"] (defScope s_bform):=⟨rfl,rfl,rfl,by decide +kernel,rfl,by decide +kernel,by decide +kernel⟩
noncomputable def f_bform:FS :=
    (fSeq (fIf (fTest (fOp aEq (fOp aIx (fVar 0) (fC (.int 0))) (fC (.str "row"))))
      (fRet (fCall c_begins_of_row (fCons (fFz (fCall c_parts_of (fCons (fFz (fVar 0)) fNil))) (fCons (fVar 1) fNil))))
      fNext)
    (fRet (fCall c_parts_of (fCons (fFz (fVar 0)) fNil))))
theorem ok_bform {f:Addr} {fd:FuncData} (F:Fun K "begins_of_form" "begins_of_form" s_bform f fd) (T:Txt K mg) (O_parts_of:Own P w K mg base "parts_of" 1 ["form"] (spM K c_parts_of)) (O_begins_of_row:Own P w K mg base "begins_of_row" 1 ["parts", "empty"] (spM K c_begins_of_row))
    (hlen:∀ os P,c_begins_of_form os P→os.length=2∧∀ j o,os[j]?=some o→j ∉ ([1]:List Nat)→isFz o=true)
    (hc:∀ os P,c_begins_of_form os P→f_bform { nx:=fin [1] os P (.fz .non),rt:=fin [1] os P } (startF 2 os)) :
    FnOk P w K mg base CX0 2 f fd ["form", "empty"] (spM K c_begins_of_form) :=
  Fun.okG 2 [1] F sc_bform rfl (by decide) hlen (by decide) (fun cdv A outer s H E hr=>⟨_,(wss_cons (ws_if (wt_cmp (wop_eq K hr.units rfl) (we_ixA K hr.units (we_var 0 rfl (Or.inl rfl)) we_int (fun _ _=>rfl) rfl) we_str (nomarkB (by decide) (by decide)))
      (wss_one (ws_ret (we_own O_begins_of_row (hr.mono (by decide)) (wa_c (we_own O_parts_of (hr.mono (by decide)) (wa_c (we_var 0 rfl (Or.inl rfl)) wa_nil rfl) rfl rfl) (wa_c (we_var 1 rfl (Or.inl rfl)) wa_nil rfl) rfl) rfl rfl)))
      wss_nil)
    (wss_one (ws_ret (we_own O_parts_of (hr.mono (by decide)) (wa_c (we_var 0 rfl (Or.inl rfl)) wa_nil rfl) rfl rfl)))),
    (sf_seq (sf_if (tf_test (ef_op opf_eq (ef_op opf_ix (ef_v (by decide)) ef_int) ef_str))
      (sf_ret (ef_call (c:=c_begins_of_row) (af_cons (ef_fz (ef_call (c:=c_parts_of) (af_cons (ef_fz (ef_v (by decide))) af_nil))) (af_cons (ef_v (by decide)) af_nil))))
      sf_next)
    (sf_ret (ef_call (c:=c_parts_of) (af_cons (ef_fz (ef_v (by decide))) af_nil))))⟩) hc
theorem l_bform (os:List OV) (P:OV→List OV→Prop) (h:c_begins_of_form os P):os.length=2∧∀ j o,os[j]?=some o→j ∉ ([1]:List Nat)→isFz o=true:=by
  unfold c_begins_of_form at h
  obtain ⟨word,rest,zs,ds,rfl,_⟩:=h
  exact fzd
theorem h_bform (os:List OV) (P:OV→List OV→Prop) (h:c_begins_of_form os P):f_bform { nx:=fin [1] os P (.fz .non),rt:=fin [1] os P } (startF 2 os):=by
  unfold c_begins_of_form at h
  obtain ⟨word,rest,zs,ds,rfl,hf,q⟩:=h
  have h8:=formN_len hf
  unfold beginsL at q
  walk_at "go"
  refine if_go ?_
  walk_at "go"
  refine head_by ?_
  walk_at "go"
  refine ⟨eqOk_str,?_⟩
  walk_at "go"
  refine br_by (word = "row") dEq_str (fun hw=>?_) (fun hw=>?_)
  · have hpl:partsL word rest=rest:=by unfold partsL; rw [if_neg (by rw [hw]; decide)]
    rw [if_pos hw] at q
    walk_at "go"
    refine parts_by ?_
    rw [hpl]
    walk_at "go"
    refine brow_by h8 ?_
    walk_at "go"
    exact q
  · rw [if_neg hw] at q
    walk_at "go"
    refine parts_by ?_
    walk_at "go"
    exact q
theorem bform_by {word:Str} {rest zs:List Str} {ds:List D} {P:OV→List OV→Prop} (hf:FormN word rest) (h:P (.fl ((beginsL zs word rest).map .str)) [.fz (formD word rest),.fd (zs.map Sum.inr) ds]):c_begins_of_form [.fz (formD word rest),.fd (zs.map Sum.inr) ds] P:=by
  unfold c_begins_of_form
  exact ⟨word,rest,zs,ds,rfl,hf,h⟩
end
end KR
set_option maxHeartbeats 4000000
namespace KR
open PySem L2
@[irreducible] noncomputable def c_law_begins:Ct:=fun os P=>∃ (word:Str) (rest zs:List Str),os=[.fz (formD word rest),.fz (.lst (zs.map .str))]∧FormN word rest∧P (.fl ((setS (beginsL zs word rest)).map .str)) os
section
variable {P:Program} {w:World} {K:PySem.W.Frag} {mg:Str→Option Value} {base:Heap}
theorem fzz {d e:D}:[OV.fz d,OV.fz e].length=2∧∀ (j:Nat) (o:OV),[OV.fz d,OV.fz e][j]?=some o→j ∉ ([]:List Nat)→isFz o=true:=⟨rfl,fun j o e hj=>by
  match j,e with
  | 0,e=>cases e; rfl
  | 1,e=>cases e; rfl⟩
theorem parts_none {zs:List Str} {word:Str} {rest:List Str} (hf:FormN word rest) (h:word = "none" ∨ word = "any" ∨ word = "signs"):beginsL zs word rest=[]:=by
  unfold beginsL partsL
  obtain ⟨ys,_,hf⟩:=hf
  unfold FormL at hf
  rcases h with h | h | h
  · have hr:rest=[]:=by
      rcases hf with ⟨_,z⟩ | ⟨z,_⟩ | ⟨z,_⟩ | ⟨z,_⟩
      · exact z
      · rw [h] at z; exact absurd z (by decide)
      · rw [h] at z; exact absurd z (by decide)
      · rw [h] at z; exact absurd z (by decide)
    subst hr
    split
    · rfl
    · split <;> rfl
  · have hr:rest=[]:=by
      rcases hf with ⟨_,z⟩ | ⟨z,_⟩ | ⟨z,_⟩ | ⟨z,_⟩
      · exact z
      · rw [h] at z; exact absurd z (by decide)
      · rw [h] at z; exact absurd z (by decide)
      · rw [h] at z; exact absurd z (by decide)
    subst hr
    split
    · rfl
    · split <;> rfl
  · rw [if_neg (by rw [h]; decide),if_pos h]
theorem setS_nil:setS []=[]:=List.eq_nil_of_length_eq_zero (Nat.le_zero.mp (setS_len []))
theorem cut_to {x:D} {r:List Str} {j:Nat} {m:Int} (h:m=(j:Int)+1):cutL (x::r.map D.str) (some 1) (some m)=(r.take j).map D.str:=by
  subst h
  have:=cutL_nat (x::r.map D.str) 1 (j+1)
  rw [show ((1:Nat):Int)=1 from rfl,show ((j+1:Nat):Int)=(j:Int)+1 from rfl] at this
  rw [this]
  have e1:min 1 (x::r.map D.str).length=1:=by rw [List.length_cons]; (first|lia|omega)
  rw [e1,List.drop_succ_cons,List.drop_zero]
  have e2:min (j+1) (x::r.map D.str).length - 1=min j r.length:=by rw [List.length_cons,List.length_map]; (first|lia|omega)
  rw [e2,List.map_take]
  by_cases hj:j≤r.length
  · rw [Nat.min_eq_left hj]
  · rw [Nat.min_eq_right (by (first|lia|omega)),List.take_of_length_le (by rw [List.length_map]; (first|lia|omega)),List.take_of_length_le (by rw [List.length_map]; (first|lia|omega))]
theorem not_whole2 {x:D} {r:List D} {m:Option Int}:notWhole (x::r).length (some 1) m:=fun z=>by
  have e1:HT.sIx (x::r).length 0 (some (1:Int))=1:=by
    rw [show (1:Int)=((1:Nat):Int) from rfl,HT.sIx_nat,List.length_cons]; (first|lia|omega)
  rw [e1] at z; (first|lia|omega)
theorem at_by {xs:List D} {i:Int} {d:D} {Q:D→Prop} (h:atI xs i=some d) (q:Q d):match atI xs i with
    | some d=>Q d
    | none=>False:=by rw [h]; exact q
theorem atI_next {x:D} {r:List Str} {j:Nat} (hj:j < r.length):atI (x::r.map D.str) ((j:Int)+2 - 1)=some (.str r[j]):=by
  have e:(j:Int)+2 - 1=((j+1:Nat):Int):=by (first|lia|omega)
  rw [e]
  exact atI_nat (by rw [List.getElem?_cons_succ,List.getElem?_map,List.getElem?_eq_getElem hj]; rfl)
noncomputable abbrev s_lbeg:Stmt:=top 34
theorem sc_lbeg:FnScope ["form", "empty", "many"] ["form", "empty"] (defScope s_lbeg):=⟨rfl,rfl,rfl,by decide +kernel,rfl,by decide +kernel,by decide +kernel⟩
noncomputable def f_lbeg:FS :=
    (fSeq (fIf (fTest (fOp aIn (fOp aIx (fVar 0) (fC (.int 0))) (fLst (fCons (fC (.str "none")) (fCons (fC (.str "any")) (fCons (fC (.str "signs")) fNil))))))
      (fRet (fLst fNil))
      fNext)
    (fSeq (fAsg (fCB cLen (fCons (fVar 0) fNil)) (fgName 2))
    (fSeq (fIf (fTest (fOp aEq (fOp aIx (fVar 0) (fC (.int 0))) (fC (.str "row"))))
      (fSeq (fAsg (fC (.int 2)) (fgName 2))
    (fWhile (fAnd (fTest (fOp (aCmp (fun i j=>decide (i < j)) strLt) (fVar 2) (fCB cLen (fCons (fVar 0) fNil)))) (fTest (fOp aIn (fOp aIx (fVar 0) (fOp (aI0 fun i j=>.int (i - j)) (fVar 2) (fC (.int 1)))) (fVar 1))))
      (fAsg (fOp aAdd (fVar 2) (fC (.int 1))) (fgName 2))))
      fNext)
    (fRet (fSortSetT (fSl aSl (fVar 0) (fPart (fC (.int 1))) (fPart (fVar 2))))))))
theorem nu12:List.Nodup [("form" : Str),("empty" : Str),("many" : Str)]:=by decide +kernel
theorem ok_lbeg {f:Addr} {fd:FuncData} (F:Fun K "_law_begins" "_law_begins" s_lbeg f fd) (T:Txt K mg)
    (hlen:∀ os P,c_law_begins os P→os.length=2∧∀ j o,os[j]?=some o→j ∉ ([]:List Nat)→isFz o=true)
    (hc:∀ os P,c_law_begins os P→f_lbeg { nx:=fin [] os P (.fz .non),rt:=fin [] os P } (startF 3 os)) :
    FnOk P w K mg base CX0 1 f fd ["form", "empty"] (spM K c_law_begins) :=
  Fun.okG 3 [] F sc_lbeg rfl (by decide) hlen (by decide) (fun cdv A outer s H E hr=>⟨_,(wss_cons (ws_if (wt_cmp (wop_inB K hr.units rfl) (we_ixA K hr.units (we_var 0 rfl (Or.inl rfl)) we_int (fun _ _=>rfl) rfl) (we_lst (wa_c we_str (wa_c we_str (wa_c we_str wa_nil rfl) rfl) rfl)) rfl)
      (wss_one (ws_ret (we_lst wa_nil)))
      wss_nil)
    (wss_cons (ws_set (i:=2) nu12 rfl (Or.inl rfl) (we_callB (wc_len K rfl) T.n_len kb_len (wa_c (we_var 0 rfl (Or.inl rfl)) wa_nil rfl) rfl rfl) rfl (Or.inl rfl))
    (wss_cons (ws_if (wt_cmp (wop_eq K hr.units rfl) (we_ixA K hr.units (we_var 0 rfl (Or.inl rfl)) we_int (fun _ _=>rfl) rfl) we_str (nomarkB (by decide) (by decide)))
      (wss_cons (ws_set (i:=2) nu12 rfl (Or.inl rfl) we_int rfl (Or.inl rfl))
    (wss_one (ws_while PassesOwn.never (wt_w (ww_and (wt_cmp wop_ltA (we_var 2 rfl (Or.inl rfl)) (we_callB (wc_len K rfl) T.n_len kb_len (wa_c (we_var 0 rfl (Or.inl rfl)) wa_nil rfl) rfl rfl) (nomarkB (by decide) (by decide))) (ww_and1 (wt_cmp (wop_inB K hr.units rfl) (we_ixA K hr.units (we_var 0 rfl (Or.inl rfl)) (we_op wop_sub (we_var 2 rfl (Or.inl rfl)) we_int) (fun _ _=>rfl) rfl) (we_var 1 rfl (Or.inl rfl)) rfl))))
      (wss_one (ws_set (i:=2) nu12 rfl (Or.inl rfl) (we_op (wop_addB K rfl) (we_var 2 rfl (Or.inl rfl)) we_int) rfl (Or.inl rfl))))))
      wss_nil)
    (wss_one (ws_ret (we_callB (wc_sortB P w K rfl rfl rfl rfl) T.n_sorted kb_sorted (wa_c (we_callT (wc_setT P w K rfl rfl rfl rfl) T.n_set kb_set (wa_c (we_slice K (we_var 0 rfl (Or.inl rfl)) (wo_some we_int) (wo_some (we_var 2 rfl (Or.inl rfl))) rfl) wa_nil rfl) rfl rfl) wa_nil rfl) rfl rfl)))))),
    (sf_seq (sf_if (tf_test (ef_op opf_in (ef_op opf_ix (ef_v (by decide)) ef_int) (ef_lst (af_cons ef_str (af_cons ef_str (af_cons ef_str af_nil))))))
      (sf_ret (ef_lst af_nil))
      sf_next)
    (sf_seq (sf_asg (ef_cb cf_len (af_cons (ef_v (by decide)) af_nil)) (gf_n (by decide)) (notIn_of (by decide)))
    (sf_seq (sf_if (tf_test (ef_op opf_eq (ef_op opf_ix (ef_v (by decide)) ef_int) ef_str))
      (sf_seq (sf_asg ef_int (gf_n (by decide)) (notIn_of (by decide)))
    (sf_while (tf_and (tf_test (ef_op opf_cmp (ef_v (by decide)) (ef_cb cf_len (af_cons (ef_v (by decide)) af_nil)))) (tf_test (ef_op opf_in (ef_op opf_ix (ef_v (by decide)) (ef_op opf_sub (ef_v (by decide)) ef_int)) (ef_v (by decide)))))
      (sf_asg (ef_op opf_add (ef_v (by decide)) ef_int) (gf_n (by decide)) (notIn_of (by decide)))))
      sf_next)
    (sf_ret (ef_sortSetT (ef_sl slf_any (ef_v (by decide)) (of_some ef_int) (of_some (ef_v (by decide)))))))))⟩) hc
theorem l_lbeg (os:List OV) (P:OV→List OV→Prop) (h:c_law_begins os P):os.length=2∧∀ j o,os[j]?=some o→j ∉ ([]:List Nat)→isFz o=true:=by
  unfold c_law_begins at h
  obtain ⟨word,rest,zs,rfl,_⟩:=h
  exact fzz
theorem h_lbeg (os:List OV) (P:OV→List OV→Prop) (h:c_law_begins os P):f_lbeg { nx:=fin [] os P (.fz .non),rt:=fin [] os P } (startF 3 os):=by
  unfold c_law_begins at h
  obtain ⟨word,rest,zs,rfl,hf,q⟩:=h
  have sz:=sz_is
  have h8:=formN_len hf
  walk_at "go"
  refine if_go ?_
  walk_at "go"
  refine head_by ?_
  walk_at "go"
  refine ⟨lez 3,?_⟩
  walk_at "go"
  refine ⟨⟨rfl,rfl⟩,?_⟩
  have hev:inD (.str word) [D.str (Str.ofString "none"),D.str (Str.ofString "any"),D.str (Str.ofString "signs")]=true↔(word = "none" ∨ word = "any" ∨ word = "signs"):=by
    rw [show [D.str (Str.ofString "none"),D.str (Str.ofString "any"),D.str (Str.ofString "signs")]=([("none" : Str), "any", "signs"]).map D.str from rfl,inD_strs]
    simp only [List.mem_cons,List.not_mem_nil,or_false]
  walk_at "go"
  refine br_by _ hev (fun hw=>?_) (fun hw=>?_)
  · walk_at "go"
    refine ⟨Nat.zero_le _,?_⟩
    rw [parts_none hf hw,setS_nil] at q
    walk_at "go"
    exact q
  · have sb:(100:Nat) < scanBound:=by decide
    have last:∀ (j:Nat) (m:Int),m=(j:Int)+1→beginsL zs word rest=rest.take j→fRet (fSortSetT (fSl aSl (fVar 0) (fPart (fC (D.int 1))) (fPart (fVar 2))))
            { nx:=fin [] [OV.fz (formD word rest),OV.fz (D.lst (List.map D.str zs))] P (OV.fz D.non),
              rt:=fin [] [OV.fz (formD word rest),OV.fz (D.lst (List.map D.str zs))] P } [some (OV.fz (formD word rest)),some (OV.fz (D.lst (List.map D.str zs))),some (.fz (.int m))]:=by
      intro j m hm hb
      have hl:(rest.take j).length≤8:=by rw [List.length_take]; (first|lia|omega)
      have hl2:=setS_len (rest.take j)
      walk_at "go"
      refine ⟨not_whole2,?_⟩
      rw [cut_to hm]
      walk_at "go"
      refine strs_by ?_
      refine ⟨⟨by (first|lia|omega),by (first|lia|omega)⟩,?_⟩
      walk_at "go"
      rw [hb] at q
      exact q
    walk_at "go"
    refine if_go ?_
    walk_at "go"
    refine head_by ?_
    walk_at "go"
    refine ⟨eqOk_str,?_⟩
    walk_at "go"
    refine br_by (word = "row") dEq_str (fun hw'=>?_) (fun hw'=>?_)
    · walk_at "go"
      refine fwhile_by (fun n ρ=>∃ (j:Nat),ρ=[some (.fz (formD word rest)),some (.fz (.lst (zs.map .str))),some (.fz (.int ((j:Int)+2)))]∧(∀ z ∈ rest.take j,z ∈ zs)∧j+1≤rest.length∧n=rest.length - j)
        _ ⟨0,rfl,(fun z hz=>by simp at hz),?_,rfl⟩ ?_
      · obtain ⟨ys,_,hf⟩:=hf
        rcases hf with ⟨z,_⟩ | ⟨z,_⟩ | ⟨z,_⟩ | ⟨z,h1,_⟩
        · rw [hw'] at z; exact absurd z (by decide)
        · rw [hw'] at z; exact absurd z (by decide)
        · rw [hw'] at z; exact absurd z (by decide)
        · (first|lia|omega)
      · rintro n ρ R ⟨j,rfl,hall,hj,rfl⟩ kk
        have hb:beginsL zs word rest=upto zs rest:=by unfold beginsL; rw [if_pos hw']
        have hat:rest[j]?=some rest[j]:=List.getElem?_eq_getElem hj
        walk_at "go"
        refine br_by (j+2≤rest.length) ?_ (fun hlt=>?_) (fun hlt=>?_)
        · rw [decide_eq_true_iff,List.length_cons,List.length_map]; (first|lia|omega)
        · walk_at "go"
          refine at_by (atI_next hj) ?_
          walk_at "go"
          refine ⟨⟨rfl,flD_strs zs⟩,?_⟩
          walk_at "go"
          refine br_by (rest[j] ∈ zs) inD_strs (fun hin=>?_) (fun hin=>?_)
          · walk_at "go"
            refine kk _ _ ?_ ⟨j+1,?_,?_,by (first|lia|omega),rfl⟩
            · (first|lia|omega)
            · show [_,_,some (OV.fz (.int ((j:Int)+2+1)))]=_
              rw [show ((j+1:Nat):Int)+2=(j:Int)+2+1 by (first|lia|omega)]
            · intro z hz
              rcases take_mem hat hz with h | h
              · exact hall z h
              · rw [h]; exact hin
          · refine (force_is _ _).mpr (last (j+1) _ (by (first|lia|omega)) ?_)
            rw [hb]; exact upto_end hat hall hin
        · walk_at "go"
          refine br_F ?_
          refine (force_is _ _).mpr (last (j+1) _ (by (first|lia|omega)) ?_)
          rw [hb]
          by_cases hin:rest[j] ∈ zs
          · have hall2:∀ z ∈ rest,z ∈ zs:=fun z hz=>by
              rw [← List.take_of_length_le (i:=j+1) (l:=rest) (by (first|lia|omega))] at hz
              rcases take_mem hat hz with h | h
              · exact hall z h
              · rw [h]; exact hin
            rw [upto_all hall2,List.take_of_length_le (by (first|lia|omega))]
          · exact upto_end hat hall hin
    · refine (force_is _ _).mpr (last rest.length _ (by rw [List.length_cons,List.length_map]; (first|lia|omega)) ?_)
      rw [List.take_of_length_le (Nat.le_refl _)]
      unfold beginsL partsL
      rw [if_neg hw',if_neg fun z=>hw (.inr (.inr z))]
theorem lbeg_by {word:Str} {rest zs:List Str} {P:OV→List OV→Prop} (hf:FormN word rest) (h:P (.fl ((setS (beginsL zs word rest)).map .str)) [.fz (formD word rest),.fz (.lst (zs.map .str))]):c_law_begins [.fz (formD word rest),.fz (.lst (zs.map .str))] P:=by
  unfold c_law_begins
  exact ⟨word,rest,zs,rfl,hf,h⟩
end
end KR
set_option maxHeartbeats 4000000
namespace KR
open PySem L2
section
variable {P:Program} {w:World} {K:PySem.W.Frag} {mg:Str→Option Value} {base:Heap}
theorem begins_len {zs:List Str} {word:Str} {rest:List Str} (hf:FormN word rest):(beginsL zs word rest).length≤8:=by
  have h8:=formN_len hf
  unfold beginsL partsL
  split
  · exact Nat.le_trans (upto_len rest) h8
  · split
    · simp
    · exact h8
end
end KR
set_option maxHeartbeats 4000000
namespace KR
open PySem L2
noncomputable def Good (zs:List Str) (rows:List Rw) (ls:List Str) (n:Str):Prop:=∀ r ∈ rows,r.1=n→∀ p ∈ beginsL zs r.2.1 r.2.2,p ∉ ls
section
variable {P:Program} {w:World} {K:PySem.W.Frag} {mg:Str→Option Value} {base:Heap}
end
end KR
set_option maxHeartbeats 4000000
namespace KR
open PySem L2
section
variable {P:Program} {w:World} {K:PySem.W.Frag} {mg:Str→Option Value} {base:Heap}
end
end KR
set_option maxHeartbeats 4000000
namespace KR
open PySem L2
section
variable {P:Program} {w:World} {K:PySem.W.Frag} {mg:Str→Option Value} {base:Heap}
end
end KR
set_option maxHeartbeats 4000000
namespace KR
open PySem L2
theorem row_eq {rows:List Rw} (nd:(rows.map (·.1)).Nodup) {r r':Rw} (hr:r ∈ rows) (hr':r' ∈ rows) (e:r'.1=r.1):r'=r:=by
  obtain ⟨i1,h1,e1⟩:=List.getElem_of_mem hr
  obtain ⟨i2,h2,e2⟩:=List.getElem_of_mem hr'
  have:=(List.getElem_inj (i:=i2) (j:=i1) (h₀:=by rw [List.length_map]; (first|lia|omega)) (h₁:=by rw [List.length_map]; (first|lia|omega)) nd).mp (by rw [List.getElem_map,List.getElem_map,e1,e2,e])
  subst this
  rw [← e1,← e2]
section
variable {P:Program} {w:World} {K:PySem.W.Frag} {mg:Str→Option Value} {base:Heap}
end
end KR
set_option maxHeartbeats 4000000
namespace KR
open PySem L2
@[irreducible] noncomputable def c_form_of:Ct:=fun os P=>∃ (rows:List Rw) (r:Rw),os=[.fz (.lst (rows.map rowD)),.fz (.str r.1)]∧BookL rows∧r ∈ rows∧P (.fz (formD r.2.1 r.2.2)) os
@[irreducible] noncomputable def c_begins:Ct:=fun os P=>∃ (rows:List Rw) (r:Rw),os=[.fz (.lst (rows.map rowD)),.fz (.str r.1)]∧BookL rows∧r ∈ rows∧∀ zs:List Str,(∀ z,z ∈ zs↔Emp rows z)→P (.fl ((setS (beginsL zs r.2.1 r.2.2)).map .str)) os
section
variable {P:Program} {w:World} {K:PySem.W.Frag} {mg:Str→Option Value} {base:Heap}
noncomputable abbrev s_formof:Stmt:=top 21
theorem sc_formof:FnScope ["book", "name", "own", "form"] ["book", "name"] (defScope s_formof):=⟨rfl,rfl,rfl,by decide +kernel,rfl,by decide +kernel,by decide +kernel⟩
noncomputable def f_formof:FS :=
    (fSeq (fFor (fiList (fVar 0)) (fgTup 2 (fgCons (fgName 2) (fgCons (fgName 3) fgNil)))
      (fIf (fTest (fOp aEq (fVar 2) (fVar 1)))
      (fRet (fVar 3))
      fNext))
    fNever)
theorem nu13:List.Nodup [("book" : Str),("name" : Str),("own" : Str),("form" : Str)]:=by decide +kernel
theorem ok_formof {f:Addr} {fd:FuncData} (F:Fun K "form_of" "form_of" s_formof f fd) (T:Txt K mg)
    (hlen:∀ os P,c_form_of os P→os.length=2∧∀ j o,os[j]?=some o→j ∉ ([]:List Nat)→isFz o=true)
    (hc:∀ os P,c_form_of os P→f_formof { nx:=fin [] os P (.fz .non),rt:=fin [] os P } (startF 4 os)) :
    FnOk P w K mg base CX0 1 f fd ["book", "name"] (spM K c_form_of) :=
  Fun.okG 4 [] F sc_formof rfl (by decide) hlen (by decide) (fun cdv A outer s H E hr=>⟨_,(wss_cons (ws_for PassesOwn.never rfl (wi_list K (we_var 0 rfl (Or.inl rfl)) rfl) (wg_tup K rfl (wgs_cons (wg_name (i:=2) nu13 rfl (Or.inl rfl) (Or.inl rfl)) (wgs_cons (wg_name (i:=3) nu13 rfl (Or.inl rfl) (Or.inl rfl)) wgs_nil rfl) rfl) rfl rfl rfl)
      (wss_one (ws_if (wt_cmp (wop_eq K hr.units rfl) (we_var 2 rfl (Or.inl rfl)) (we_var 1 rfl (Or.inl rfl)) (nomarkB (by decide) (by decide)))
      (wss_one (ws_ret (we_var 3 rfl (Or.inl rfl))))
      wss_nil)) (fun _=>rfl))
    (wss_one ws_never)),
    (sf_seq (sf_for (itf_list (ef_v (by decide))) (gf_tup (gsf_cons (gf_n (by decide)) (gsf_cons (gf_n (by decide)) gsf_nil))) (notIn_of (by decide))
      (sf_if (tf_test (ef_op opf_eq (ef_v (by decide)) (ef_v (by decide))))
      (sf_ret (ef_v (by decide)))
      sf_next))
    sf_never)⟩) hc
theorem l_formof (os:List OV) (P:OV→List OV→Prop) (h:c_form_of os P):os.length=2∧∀ j o,os[j]?=some o→j ∉ ([]:List Nat)→isFz o=true:=by
  unfold c_form_of at h
  obtain ⟨rows,r,rfl,_⟩:=h
  exact fzz
theorem h_formof (os:List OV) (P:OV→List OV→Prop) (h:c_form_of os P):f_formof { nx:=fin [] os P (.fz .non),rt:=fin [] os P } (startF 4 os):=by
  unfold c_form_of at h
  obtain ⟨rows,r,rfl,hB,hr,q⟩:=h
  walk_at "go"
  refine floop_by (fun i ρ=>(∃ x2 x3:Option OV,ρ=[some (.fz (.lst (rows.map rowD))),some (.fz (.str r.1)),x2,x3])∧∀ r' ∈ rows.take i,r'.1≠r.1) ⟨⟨none,none,rfl⟩,fun r' h=>by simp at h⟩ ?_ ?_
  · rintro i d ρ R hd ⟨⟨x2,x3,rfl⟩,hne⟩ kk
    obtain ⟨r',hr',rfl⟩:=row_at hd
    walk_at "go"
    refine ⟨rfl,?_⟩
    walk_at "go"
    refine if_go ?_
    walk_at "go"
    refine ⟨eqOk_str,?_⟩
    walk_at "go"
    refine br_by (r'.1=r.1) dEq_str (fun e=>?_) (fun e=>?_)
    · walk_at "go"
      rw [row_eq hB.nd hr (List.mem_of_getElem? hr') e]
      exact q
    · refine kk _ ⟨⟨_,_,rfl⟩,fun r2 h2=>?_⟩
      rcases take_mem hr' h2 with z | z
      · exact hne r2 z
      · rw [z]; exact e
  · rintro ρ ⟨⟨x2,x3,rfl⟩,hne⟩
    rw [List.length_map,List.take_of_length_le (Nat.le_refl _)] at hne
    exact absurd rfl (hne r hr)
theorem formof_by {rows:List Rw} {r:Rw} {P:OV→List OV→Prop} (hB:BookL rows) (hr:r ∈ rows) (h:P (.fz (formD r.2.1 r.2.2)) [.fz (.lst (rows.map rowD)),.fz (.str r.1)]):c_form_of [.fz (.lst (rows.map rowD)),.fz (.str r.1)] P:=by
  unfold c_form_of
  exact ⟨rows,r,rfl,hB,hr,h⟩
noncomputable abbrev s_begins:Stmt:=top 22
theorem sc_begins:FnScope ["book", "name", "form"] ["book", "name"] (defScope s_begins):=⟨rfl,rfl,rfl,by decide +kernel,rfl,by decide +kernel,by decide +kernel⟩
noncomputable def f_begins:FS :=
    (fSeq (fAsg (fCall c_form_of (fCons (fFz (fVar 0)) (fCons (fFz (fVar 1)) fNil))) (fgName 2))
    (fRet (fSortSet (fCall c_begins_of_form (fCons (fFz (fVar 2)) (fCons (fCall c_empty_names (fCons (fFz (fVar 0)) fNil)) fNil))))))
theorem ok_begins {f:Addr} {fd:FuncData} (F:Fun K "begins" "begins" s_begins f fd) (T:Txt K mg) (O_form_of:Own P w K mg base "form_of" 1 ["book", "name"] (spM K c_form_of)) (O_begins_of_form:Own P w K mg base "begins_of_form" 2 ["form", "empty"] (spM K c_begins_of_form)) (O_empty_names:Own P w K mg base "empty_names" 3 ["book"] (spM K c_empty_names))
    (hlen:∀ os P,c_begins os P→os.length=2∧∀ j o,os[j]?=some o→j ∉ ([]:List Nat)→isFz o=true)
    (hc:∀ os P,c_begins os P→f_begins { nx:=fin [] os P (.fz .non),rt:=fin [] os P } (startF 3 os)) :
    FnOk P w K mg base CX0 4 f fd ["book", "name"] (spM K c_begins) :=
  Fun.okG 3 [] F sc_begins rfl (by decide) hlen (by decide) (fun cdv A outer s H E hr=>⟨_,(wss_cons (ws_set (i:=2) (show List.Nodup [("book" : Str),("name" : Str),("form" : Str)] from by decide +kernel) rfl (Or.inl rfl) (we_own O_form_of (hr.mono (by decide)) (wa_c (we_var 0 rfl (Or.inl rfl)) (wa_c (we_var 1 rfl (Or.inl rfl)) wa_nil rfl) rfl) rfl rfl) rfl (Or.inl rfl))
    (wss_one (ws_ret (we_callB (wc_sortB P w K rfl rfl rfl rfl) T.n_sorted kb_sorted (wa_c (we_callT (wc_set P w K rfl rfl rfl rfl) T.n_set kb_set (wa_c (we_own O_begins_of_form (hr.mono (by decide)) (wa_c (we_var 2 rfl (Or.inl rfl)) (wa_c (we_own O_empty_names (hr.mono (by decide)) (wa_c (we_var 0 rfl (Or.inl rfl)) wa_nil rfl) rfl rfl) wa_nil rfl) rfl) rfl rfl) wa_nil rfl) rfl rfl) wa_nil rfl) rfl rfl)))),
    (sf_seq (sf_asg (ef_call (c:=c_form_of) (af_cons (ef_fz (ef_v (by decide))) (af_cons (ef_fz (ef_v (by decide))) af_nil))) (gf_n (by decide)) (notIn_of (by decide)))
    (sf_ret (ef_sortSetB (ef_call (c:=c_begins_of_form) (af_cons (ef_fz (ef_v (by decide))) (af_cons (ef_call (c:=c_empty_names) (af_cons (ef_fz (ef_v (by decide))) af_nil)) af_nil))))))⟩) hc
theorem l_begins (os:List OV) (P:OV→List OV→Prop) (h:c_begins os P):os.length=2∧∀ j o,os[j]?=some o→j ∉ ([]:List Nat)→isFz o=true:=by
  unfold c_begins at h
  obtain ⟨rows,r,rfl,_⟩:=h
  exact fzz
theorem h_begins (os:List OV) (P:OV→List OV→Prop) (h:c_begins os P):f_begins { nx:=fin [] os P (.fz .non),rt:=fin [] os P } (startF 3 os):=by
  unfold c_begins at h
  obtain ⟨rows,r,rfl,hB,hr,q⟩:=h
  have sz:=sz_is
  have sb:(100:Nat) < scanBound:=by decide
  walk_at "go"
  refine formof_by hB hr ?_
  walk_at "go"
  refine enames_by hB fun zs ds hn he hl=>?_
  have h8:=begins_len (zs:=zs) (hB.ok r hr).2
  walk_at "go"
  refine bform_by (hB.ok r hr).2 ?_
  walk_at "go"
  refine strs_by ?_
  have hs8:=setS_len (beginsL zs r.2.1 r.2.2)
  refine ⟨⟨by (first|lia|omega),by (first|lia|omega)⟩,?_⟩
  walk_at "go"
  exact q zs he
theorem begins_by {rows:List Rw} {r:Rw} {P:OV→List OV→Prop} (hB:BookL rows) (hr:r ∈ rows) (h:∀ zs:List Str,(∀ z,z ∈ zs↔Emp rows z)→P (.fl ((setS (beginsL zs r.2.1 r.2.2)).map .str)) [.fz (.lst (rows.map rowD)),.fz (.str r.1)]):c_begins [.fz (.lst (rows.map rowD)),.fz (.str r.1)] P:=by
  unfold c_begins
  exact ⟨rows,r,rfl,hB,hr,h⟩
end
end KR
set_option maxHeartbeats 4000000
namespace KR
open PySem L2
noncomputable def c_lack (ds:List D):Prop:=∃ (rows:List Rw) (nm:Str),ds=[.lst (rows.map rowD),.str nm]∧BookL rows∧nm ∉ rows.map (·.1)
theorem two_of {α:Type} {l:List α} (h:l.length=2):∃ a b,l=[a,b]:=by
  match l,h with
  | [a,b],_=>exact ⟨a,b,rfl⟩
@[irreducible] noncomputable def c_law_refused:Ct:=fun os P=>∃ (rows:List Rw) (nm:Str),os=[.fz (.lst (rows.map rowD)),.fz (.str nm)]∧BookL rows∧nm ∉ rows.map (·.1)∧P (.fz (.bl true)) os
section
variable {P:Program} {w:World} {K:PySem.W.Frag} {mg:Str→Option Value} {base:Heap}
noncomputable def f_formofX:FS:=fSeq (fFor (fiList (fVar 0)) (fgTup 2 (fgCons (fgName 2) (fgCons (fgName 3) fgNil)))
      (fIf (fTest (fOp aEq (fVar 2) (fVar 1)))
      (fRet (fVar 3))
      fNext)) fRaise
theorem hx_formof (ds:List D) (h:c_lack ds):f_formofX { nx:=fun _=>False,rt:=fun _ _=>False } (startF 4 (ds.map .fz)):=by
  obtain ⟨rows,nm,rfl,hB,hn⟩:=h
  walk_at "go"
  refine floop_by (fun i ρ=>∃ x2 x3:Option OV,ρ=[some (.fz (.lst (rows.map rowD))),some (.fz (.str nm)),x2,x3]) ⟨none,none,rfl⟩ ?_ ?_
  · rintro i d ρ R hd ⟨x2,x3,rfl⟩ kk
    obtain ⟨r,hr,rfl⟩:=row_at hd
    walk_at "go"
    refine ⟨rfl,?_⟩
    walk_at "go"
    refine if_go ?_
    walk_at "go"
    refine ⟨eqOk_str,?_⟩
    walk_at "go"
    refine br_by (r.1=nm) dEq_str (fun e=>?_) (fun e=>?_)
    · exact absurd (List.mem_map.mpr ⟨r,List.mem_of_getElem? hr,e⟩) hn
    · exact kk _ ⟨_,_,rfl⟩
  · rintro ρ ⟨x2,x3,rfl⟩
    exact trivial
theorem okx_formof {f C:Addr} {fd:FuncData} (F:Fun K "form_of" "form_of" s_formof f fd) (T:Txt K mg) (hm:mg "NoRule" = some (.ref C)) (hx:isExcIn K C):FnOk P w K mg base (CXr P w) 1 f fd ["book", "name"] (spR K c_lack C) :=
  Fun.okXn 4 F sc_formof rfl (fun ds h=>by obtain ⟨_,_,rfl,_⟩:=h; rfl) (by decide) (fun cdv A outer s H E hr hE=>⟨_,wss_cons (ws_nox (ws_for PassesOwn.never rfl (wi_list K (we_var 0 rfl (Or.inl rfl)) rfl) (wg_tup K rfl (wgs_cons (wg_name (i:=2) nu13 rfl (Or.inl rfl) (Or.inl rfl)) (wgs_cons (wg_name (i:=3) nu13 rfl (Or.inl rfl) (Or.inl rfl)) wgs_nil rfl) rfl) rfl rfl rfl)
      (wss_one (ws_if (wt_cmp (wop_eq K hr.units rfl) (we_var 2 rfl (Or.inl rfl)) (we_var 1 rfl (Or.inl rfl)) (nomarkB (by decide) (by decide)))
      (wss_one (ws_ret (we_var 3 rfl (Or.inl rfl))))
      wss_nil)) (fun _=>rfl))) (wss_one (ws_raise (Same H) rfl hm hx we_str hE rfl rfl rfl)),sfx_seq (SF.x (sf_for (itf_list (ef_v (by decide))) (gf_tup (gsf_cons (gf_n (by decide)) (gsf_cons (gf_n (by decide)) gsf_nil))) (notIn_of (by decide))
      (sf_if (tf_test (ef_op opf_eq (ef_v (by decide)) (ef_v (by decide))))
      (sf_ret (ef_v (by decide)))
      sf_next))) sfx_raise⟩) hx_formof
theorem okx_begins {f f0 C:Addr} {fd fd0:FuncData} (F:Fun K "begins" "begins" s_begins f fd) (F0:FnOk P w K mg base (CXr P w) 1 f0 fd0 ["book", "name"] (spR K c_lack C)) (hm:mg "form_of" = some (.ref f0)) (hk:PySem.W.keepIn K (.ref f0)=true) (hb:Binds K fd0 ["book", "name"] []) :
    FnOk P w K mg base (CXr P w) 2 f fd ["book", "name"] (spR K c_lack C):=by
  obtain ⟨oc,od,kV,doc,pm,an,cdv,ct,osl,rfl,lk,hcd⟩:=F.ex
  refine fn_of lk hcd sc_begins (fun vs H Q E h=>?_) fun A outer s H vs Q E hr hsp=>?_
  · obtain ⟨F1,ds,_,hd,⟨_,_,rfl,_⟩,_⟩:=h
    exact hd.length
  · obtain ⟨F1,ds,sf,hd,hcc,hE⟩:=hsp
    have hl:vs.length=2:=by
      obtain ⟨_,_,rfl,_⟩:=hcc
      exact hd.length
    obtain ⟨v1,v2,rfl⟩:=two_of hl
    exact ⟨_,pss_cons (ps_callX F0 (hr.mono (by decide)) rfl hm hk hb (pa_cons (pv 0) (pa_cons (pv 1) pa_nil)) rfl rfl rfl rfl) pss_never,v1,rfl,v2,rfl,⟨F1,ds,sf,hd,hcc,hE⟩,Same.refl _,Same.refl _⟩
theorem kb_ValueError:bootBuiltins "ValueError" = some (.type "ValueError"):=by decide +kernel
noncomputable abbrev s_lrefused:Stmt:=top 35
theorem sc_lrefused:FnScope ["book", "name", "caught", "e"] ["book", "name"] (defScope s_lrefused):=⟨rfl,rfl,rfl,by decide +kernel,rfl,by decide +kernel,by decide +kernel⟩
theorem nu14:List.Nodup [("book" : Str), "name", "caught", "e"]:=by decide +kernel
theorem ok_lrefused {f fB C cR c0 c1 c2 c3 c4 c5 c6 c7 c8 c9:Addr} {fd fdB:FuncData} (F:Fun K "_law_refused" "_law_refused" s_lrefused f fd) (T:Txt K mg) (FB:FnOk P w K mg base (CXr P w) 2 fB fdB ["book", "name"] (spR K c_lack C)) (hmB:mg "begins" = some (.ref fB)) (hkB:PySem.W.keepIn K (.ref fB)=true) (hbB:Binds K fdB ["book", "name"] [])
    (hC:ExcCl K C) (hmR:mg "ReadError" = some (.ref cR)) (hx:PySem.W.exmOne K (.ref C) (.ref cR)=some true) (hmN:mg "NoRule" = some (.ref C)) (k0:mg "Loops" = some (.ref c0)) (k1:mg "NoBook" = some (.ref c1)) (k2:mg "NoDeed" = some (.ref c2)) (k3:mg "NoForm" = some (.ref c3)) (k4:mg "NoName" = some (.ref c4)) (k5:mg "NoPlace" = some (.ref c5)) (k6:mg "NoRow" = some (.ref c6)) (k7:mg "NoRows" = some (.ref c7)) (k8:mg "NoText" = some (.ref c8)) (k9:mg "TooMany" = some (.ref c9))
    (hany:PySem.W.kitAny K (.ref C) ([c0,c1,c2,c3,c4,c5,c6,c7,c8,c9].map Value.ref)=some false) (hval:PySem.W.kitOne K (.ref C) (.type "ValueError")=some true):FnOk P w K mg base CX0 3 f fd ["book", "name"] (spM K c_law_refused):=by
  have hone:PySem.W.kitOne K (.ref C) (.ref C)=some true:=by
    unfold PySem.W.kitOne
    rw [if_pos (by simp)]
  refine Fun.okB F sc_lrefused (fun vs H Q E h=>?_) (fun cdv A outer s H vs Q E hr h=>?_)
  · obtain ⟨F1,Z,os,Cc,Pq,_,_,_,ho,_,_,hcc,_⟩:=h
    unfold c_law_refused at hcc
    obtain ⟨_,_,rfl,_⟩:=hcc
    exact ho.length
  · obtain ⟨F1,Z,os,Cc,Pq,sf,sz,dj,ho,nd,fr,hcc,q⟩:=h
    unfold c_law_refused at hcc
    obtain ⟨rows,nm,rfl,hB,hn,hP⟩:=hcc
    have hl:=ho.length
    obtain ⟨v1,v2,rfl⟩:=two_of hl
    have hd:Dens K F1 [v1,v2] [.lst (rows.map rowD),.str nm]:=by
      cases ho with
      | cons h1 t1 =>
        cases t1 with
        | cons h2 t2 =>
          cases t2
          cases h1 with
          | fz d1=>cases h2 with | fz d2=>exact .cons d1 (.cons d2 .nil)
    refine ⟨_,wss_cons (ws_set (i:=2) nu14 rfl (Or.inl rfl) we_non rfl (Or.inl rfl))
      (wss_cons ⟨ps_try (iN:=3) (iY:=2) FB (hr.mono (by decide)) rfl hmB hkB hbB (pa_cons (pv 0) (pa_cons (pv 1) pa_nil)) ⟨rfl,rfl⟩ rfl hmR hx nu14 rfl rfl rfl rfl (by decide) rfl rfl rfl rfl rfl rfl rfl rfl⟩
      (wss_cons (ws_if (wt_call (we_callB ⟨call_isXs hC hany⟩ T.n_isinstance kb_isinstance (wa_c (we_var 2 rfl (Or.inl rfl)) (wa_c (we_tup (wa_c (we_glo (v:=.ref c0) ⟨_,k0,rfl⟩ rfl) (wa_c (we_glo (v:=.ref c1) ⟨_,k1,rfl⟩ rfl) (wa_c (we_glo (v:=.ref c2) ⟨_,k2,rfl⟩ rfl) (wa_c (we_glo (v:=.ref c3) ⟨_,k3,rfl⟩ rfl) (wa_c (we_glo (v:=.ref c4) ⟨_,k4,rfl⟩ rfl) (wa_c (we_glo (v:=.ref c5) ⟨_,k5,rfl⟩ rfl) (wa_c (we_glo (v:=.ref c6) ⟨_,k6,rfl⟩ rfl) (wa_c (we_glo (v:=.ref c7) ⟨_,k7,rfl⟩ rfl) (wa_c (we_glo (v:=.ref c8) ⟨_,k8,rfl⟩ rfl) (wa_c (we_glo (v:=.ref c9) ⟨_,k9,rfl⟩ rfl) wa_nil rfl) rfl) rfl) rfl) rfl) rfl) rfl) rfl) rfl) rfl)) wa_nil rfl) rfl) rfl rfl)) (wss_one (ws_ret we_bl)) wss_nil)
      (wss_one (ws_ret (we_and (we_callB ⟨call_isX (c:=.ref C) hC (fun u h=>h) hone⟩ T.n_isinstance kb_isinstance (wa_c (we_var 2 rfl (Or.inl rfl)) (wa_c (we_glo (v:=.ref C) ⟨_,hmN,rfl⟩ rfl) wa_nil rfl) rfl) rfl rfl)
        (we_one (we_callB ⟨call_isX (c:=.ty "ValueError") hC (fun u h=>h) hval⟩ T.n_isinstance kb_isinstance (wa_c (we_var 2 rfl (Or.inl rfl)) (wa_c (we_ty T.n_ValueError kb_ValueError rfl) wa_nil rfl) rfl) rfl rfl))))))),?_⟩
    refine ⟨v1,rfl,v2,rfl,⟨F1,_,sf,hd,⟨rows,nm,rfl,hB,hn⟩,fun _ _=>rfl⟩,Same.refl _,fun ea H2 sm hea=>?_⟩
    refine ⟨.ref ea,rfl,(by show 10≤sizeLine; decide),fun p hp=>?_⟩
    have s3:Same H2 (upd H2 p (.tup ([c0,c1,c2,c3,c4,c5,c6,c7,c8,c9].map V.ref))):=same_new hp
    have hea3:=s3 _ _ hea
    refine ⟨ea,p,rfl,hea3,upd_same,false,rfl,iteF ?_⟩
    refine ⟨.ref ea,rfl,ea,rfl,hea3,true,rfl,iteT ?_⟩
    refine ⟨.ref ea,rfl,ea,rfl,hea3,?_⟩
    have sH:=sm.trans s3
    exact q (.fz (.bl true)) _ (.bl true) F1 _ [] [] hP (Same.refl _) (sf.trans sH) (sz.trans sH) dj (ows_fz hd) (.fz (.bl true)) List.nodup_nil (fun _ z=>nomatch z)
theorem lrefused_by {rows:List Rw} {nm:Str} {P:OV→List OV→Prop} (hB:BookL rows) (hn:nm ∉ rows.map (·.1)) (h:P (.fz (.bl true)) [.fz (.lst (rows.map rowD)),.fz (.str nm)]):c_law_refused [.fz (.lst (rows.map rowD)),.fz (.str nm)] P:=by
  unfold c_law_refused
  exact ⟨rows,nm,rfl,hB,hn,h⟩
end
end KR
set_option maxHeartbeats 4000000
namespace KR
open PySem L2
@[irreducible] noncomputable def c_law_has:Ct:=fun os P=>∃ (rows:List Rw) (z:Str),os=[.fz (.lst (rows.map rowD)),.fz (.str z)]∧rows.length≤30∧∀ b:Bool,(b=true↔z ∈ rows.map (·.1))→P (.fz (.bl b)) os
@[irreducible] noncomputable def c_law_lacking:Ct:=fun os P=>∃ rows:List Rw,os=[.fz (.lst (rows.map rowD))]∧BookL rows∧∀ ls:List Str,ls.length≤45→P (.fl (ls.map .str)) os
theorem pool_mem {zs:List Str} {word:Str} {rest:List Str} (h:FormP zs word rest) (hw:word ≠ "signs"):∀ z ∈ rest,z ∈ zs:=by
  intro z hz
  rcases h.2 with ⟨_,e⟩ | ⟨e,_⟩ | ⟨_,_,h3⟩ | ⟨_,_,_,h3⟩
  · rw [e] at hz; cases hz
  · exact absurd e hw
  · exact h3 z hz
  · exact h3 z hz
theorem begins_congr {zs zs':List Str} (h:∀ z,z ∈ zs↔z ∈ zs'):beginsL zs=beginsL zs':=by
  funext word rest
  unfold beginsL
  rw [upto_congr h]
section
variable {P:Program} {w:World} {K:PySem.W.Frag} {mg:Str→Option Value} {base:Heap}
theorem dEq_refl (d:D):dEq d d=true:=deq_refl _
theorem eqOk_strs {zs ws:List Str}:eqOk (.lst (zs.map D.str)) (.lst (ws.map D.str)):=⟨okDs_strs zs,okDs_strs ws,dep_strs zs⟩
theorem okDs_rows (rows:List Rw):okDs (rows.map rowD)=true:=by
  induction rows with
  | nil=>rfl
  | cons r rows ih=>exact Bool.and_eq_true_iff.mpr ⟨Bool.and_eq_true_iff.mpr ⟨okDs_strs r.2.2,rfl⟩,ih⟩
theorem deps_row (r:Rw):dep (toDV (rowD r))≤2:=by
  have h:=deps_toStrs r.2.2
  show max 0 (max (max 0 (deps (toDVs (r.2.2.map D.str)))+1) 0)+1≤2
  rw [h]
  decide
theorem deps_rows (rows:List Rw):deps (toDVs (rows.map rowD))≤2:=by
  induction rows with
  | nil=>exact Nat.zero_le _
  | cons r rows ih=>exact Nat.max_le.mpr ⟨deps_row r,ih⟩
theorem eqOk_rows {rows rows':List Rw}:eqOk (.lst (rows.map rowD)) (.lst (rows'.map rowD)):=⟨okDs_rows rows,okDs_rows rows',Nat.le_trans (Nat.succ_le_succ (deps_rows rows)) (by decide)⟩
theorem cell_by {ns:List Int} {k:Nat} {P:OV→List OV→Prop} (h:∀ z:Int,P (.fz (.int z)) [.fz (.lst (ns.map .int)),.fz (.int k)]):c_law_cell_at [.fz (.lst (ns.map .int)),.fz (.int k)] P:=by
  unfold c_law_cell_at
  exact ⟨ns,k,rfl,h⟩
theorem bag_by {z:Int} {k:Nat} {P:OV→List OV→Prop} (hk:k≤100) (h:∀ b0 b1 b2,BagB b1 b2 0→P (bagO b0 b1 b2) [.fz (.int z),.fz (.int k)]):c_law_bag [.fz (.int z),.fz (.int k)] P:=by
  unfold c_law_bag
  exact ⟨z,k,rfl,hk,h⟩
noncomputable abbrev s_lhas:Stmt:=top 36
theorem sc_lhas:FnScope ["book", "name"] ["book", "name"] (defScope s_lhas):=⟨rfl,rfl,rfl,by decide +kernel,rfl,by decide +kernel,by decide +kernel⟩
noncomputable def f_lhas:FS :=
    (fRet (fOp aIn (fVar 1) (fComp 2 (fiList (fVar 0)) (fgTup 2 (fgCons (fgName 0) (fgCons (fgName 1) fgNil))) fYes (fVar 0))))
theorem nu15:List.Nodup [("one" : Str),("form" : Str)]:=by decide +kernel
theorem ok_lhas {f:Addr} {fd:FuncData} (F:Fun K "_law_has" "_law_has" s_lhas f fd) (T:Txt K mg)
    (hlen:∀ os P,c_law_has os P→os.length=2∧∀ j o,os[j]?=some o→j ∉ ([]:List Nat)→isFz o=true)
    (hc:∀ os P,c_law_has os P→f_lhas { nx:=fin [] os P (.fz .non),rt:=fin [] os P } (startF 2 os)) :
    FnOk P w K mg base CX0 1 f fd ["book", "name"] (spM K c_law_has) :=
  Fun.okG 2 [] F sc_lhas rfl (by decide) hlen (by decide) (fun cdv A outer s H E hr=>⟨_,(wss_one (ws_ret (we_cmp (wop_inB K hr.units rfl) (we_var 1 rfl (Or.inl rfl)) (we_comp (T:=["one", "form"]) (F:=[]) (ixs:=[]) rfl (CompScope.of rfl rfl rfl) (wi_list K (we_var 0 rfl (Or.inl rfl)) rfl) (fun _ _ _ _=>(wg_tup K rfl (wgs_cons (wg_name (i:=0) nu15 rfl (Or.inl rfl) (Or.inr rfl)) (wgs_cons (wg_name (i:=1) nu15 rfl (Or.inl rfl) (Or.inr rfl)) wgs_nil rfl) rfl) rfl rfl rfl)) (fun _ _ _ _=>wif_nil) (fun _ _ _ _=>(we_var 0 rfl (Or.inl rfl))) (fun _=>rfl)) rfl))),
    (sf_ret (ef_op opf_in (ef_v (by decide)) (ef_comp (no:=2) (ixs:=[]) (itf_list (ef_v (by decide))) (ix_range (by decide)) (gf_tup (gsf_cons (gf_name (i:=0) (by decide) (by decide)) (gsf_cons (gf_name (i:=1) (by decide) (by decide)) gsf_nil))) (lt_of (by decide)) tf_yes (ef_var (i:=0) (by decide)))))⟩) hc
theorem l_lhas (os:List OV) (P:OV→List OV→Prop) (h:c_law_has os P):os.length=2∧∀ j o,os[j]?=some o→j ∉ ([]:List Nat)→isFz o=true:=by
  unfold c_law_has at h
  obtain ⟨rows,z,rfl,_⟩:=h
  exact fzz
theorem h_lhas (os:List OV) (P:OV→List OV→Prop) (h:c_law_has os P):f_lhas { nx:=fin [] os P (.fz .non),rt:=fin [] os P } (startF 2 os):=by
  unfold c_law_has at h
  obtain ⟨rows,z,rfl,few,q⟩:=h
  have sz:=sz_is
  walk_at "go"
  refine fcomp_by (fun i as ρ=>∃ x y:Option OV,as=((rows.take i).map (·.1)).map .str∧ρ=[x,y,some (.fz (.lst (rows.map rowD))),some (.fz (.str z))]) ⟨none,none,by simp,rfl⟩ ?_ ?_
  · rintro i d as ρ R hd ⟨x,y,rfl,rfl⟩ k
    obtain ⟨r,hr,rfl⟩:=row_at hd
    walk_at "go"
    refine ⟨rfl,?_⟩
    walk_at "go"
    refine br_T ?_
    walk_at "go"
    refine ⟨by rw [List.length_map,List.length_map,List.length_take]; (first|lia|omega),k _ _ ⟨_,_,?_,rfl⟩⟩
    rw [List.take_succ,hr,List.map_append,List.map_append]
    rfl
  · rintro as ρ ⟨x,y,rfl,rfl⟩
    rw [List.length_map,List.take_of_length_le (Nat.le_refl _)]
    walk_at "go"
    refine ⟨⟨rfl,flD_strs _⟩,?_⟩
    walk_at "go"
    exact q _ inD_strs
theorem lhas_by {rows:List Rw} {z:Str} {P:OV→List OV→Prop} (few:rows.length≤30) (h:∀ b:Bool,(b=true↔z ∈ rows.map (·.1))→P (.fz (.bl b)) [.fz (.lst (rows.map rowD)),.fz (.str z)]):c_law_has [.fz (.lst (rows.map rowD)),.fz (.str z)] P:=by
  unfold c_law_has
  exact ⟨rows,z,rfl,few,h⟩
noncomputable abbrev s_llack:Stmt:=top 37
theorem sc_llack:FnScope ["book", "found", "name", "form"] ["book"] (defScope s_llack):=⟨rfl,rfl,rfl,by decide +kernel,rfl,by decide +kernel,by decide +kernel⟩
noncomputable def f_llack:FS :=
    (fSeq (fSetO 1 (fLst fNil))
    (fSeq (fFor (fiList (fVar 0)) (fgTup 2 (fgCons (fgName 2) (fgCons (fgName 3) fgNil)))
      (fDrop (fExt 1 (fComp 1 (fiTup (fSl aSl (fVar 3) (fPart (fC (.int 1))) fNoPart)) (fgName 0) (fAnd (fTest (fOp aNe (fOp aIx (fVar 4) (fC (.int 0))) (fC (.str "signs")))) (fNot (fTest (fCall c_law_has (fCons (fFz (fVar 1)) (fCons (fFz (fVar 0)) fNil)))))) (fVar 0)))))
    (fRet (fSortSet (fVar 1)))))
theorem nu16:List.Nodup [("book" : Str),("found" : Str),("name" : Str),("form" : Str)]:=by decide +kernel
theorem ok_llack {f:Addr} {fd:FuncData} (F:Fun K "_law_lacking" "_law_lacking" s_llack f fd) (T:Txt K mg) (O_law_has:Own P w K mg base "_law_has" 1 ["book", "name"] (spM K c_law_has))
    (hlen:∀ os P,c_law_lacking os P→os.length=1∧∀ j o,os[j]?=some o→j ∉ ([]:List Nat)→isFz o=true)
    (hc:∀ os P,c_law_lacking os P→f_llack { nx:=fin [] os P (.fz .non),rt:=fin [] os P } (startF 4 os)) :
    FnOk P w K mg base CX0 2 f fd ["book"] (spM K c_law_lacking) :=
  Fun.okG 4 [] F sc_llack rfl (by decide) hlen (by decide) (fun cdv A outer s H E hr=>⟨_,(wss_cons (ws_set (i:=1) nu16 rfl (Or.inl rfl) (we_lst wa_nil) rfl (Or.inl rfl))
    (wss_cons (ws_for PassesOwn.never rfl (wi_list K (we_var 0 rfl (Or.inr (Or.inl rfl))) rfl) (wg_tup K rfl (wgs_cons (wg_name (i:=2) nu16 rfl (Or.inl rfl) (Or.inl rfl)) (wgs_cons (wg_name (i:=3) nu16 rfl (Or.inr rfl) (Or.inl rfl)) wgs_nil rfl) rfl) rfl rfl rfl)
      (wss_one (ws_expr (we_meth K PySem.F.plainAttrs_list PySem.F.slot_list_extend PySem.F.type_list_extend (wm_extend K rfl) (we_var 1 rfl (Or.inl rfl)) (wa_c (we_comp (T:=["part"]) (F:=["form", "book"]) (ixs:=[3,0]) rfl (CompScope.of rfl rfl rfl) (wi_tup K (we_slice K (we_var 3 rfl (Or.inr (Or.inl rfl))) (wo_some we_int) wo_none rfl) rfl) (fun _ _ _ _=>(wg_name (i:=0) (show List.Nodup [("part" : Str),("form" : Str),("book" : Str)] from by decide +kernel) rfl (Or.inl rfl) (Or.inr rfl))) (fun _ _ _ _=>(wif_one (wt_w (ww_and (wt_cmp (wop_ne K hr.units rfl) (we_ixA K hr.units (we_var 1 rfl (Or.inr (Or.inl rfl))) we_int (fun _ _=>rfl) rfl) we_str (nomarkB (by decide) (by decide))) (ww_and1 (wt_not (wt_call (we_own O_law_has (hr.mono (by decide)) (wa_c (we_var 2 rfl (Or.inr (Or.inl rfl))) (wa_c (we_var 0 rfl (Or.inl rfl)) wa_nil rfl) rfl) rfl rfl)))))))) (fun _ _ _ _=>(we_var 0 rfl (Or.inl rfl))) (fun _=>rfl)) wa_nil rfl) rfl rfl rfl (by decide) rfl) rfl)) (fun _=>rfl))
    (wss_one (ws_ret (we_callB (wc_sortB P w K rfl rfl rfl rfl) T.n_sorted kb_sorted (wa_c (we_callT (wc_set P w K rfl rfl rfl rfl) T.n_set kb_set (wa_c (we_var 1 rfl (Or.inl rfl)) wa_nil rfl) rfl rfl) wa_nil rfl) rfl rfl))))),
    (sf_seq (sf_setO (ef_lst af_nil) (by decide))
    (sf_seq (sf_for (itf_list (ef_v (by decide))) (gf_tup (gsf_cons (gf_n (by decide)) (gsf_cons (gf_n (by decide)) gsf_nil))) (notIn_of (by decide))
      (sf_drop (ef_extV (by decide) (ef_comp (no:=1) (ixs:=[3,0]) (itf_tup (ef_sl slf_any (ef_v (by decide)) (of_some ef_int) of_none)) (ix_range (by decide)) (gf_name (i:=0) (by decide) (by decide)) (lt_of (by decide)) (tf_and (tf_test (ef_op opf_ne (ef_op opf_ix (ef_var (i:=4) (by decide)) ef_int) ef_str)) (tf_not (tf_b (ef_call (c:=c_law_has) (af_cons (ef_fz (ef_var (i:=1) (by decide))) (af_cons (ef_fz (ef_var (i:=0) (by decide))) af_nil)))))) (ef_var (i:=0) (by decide))))))
    (sf_ret (ef_sortSetB (ef_v (by decide))))))⟩) hc
theorem l_llack (os:List OV) (P:OV→List OV→Prop) (h:c_law_lacking os P):os.length=1∧∀ j o,os[j]?=some o→j ∉ ([]:List Nat)→isFz o=true:=by
  unfold c_law_lacking at h
  obtain ⟨rows,rfl,_⟩:=h
  exact fzs1
theorem h_llack (os:List OV) (P:OV→List OV→Prop) (h:c_law_lacking os P):f_llack { nx:=fin [] os P (.fz .non),rt:=fin [] os P } (startF 4 os):=by
  unfold c_law_lacking at h
  obtain ⟨rows,rfl,hB,q⟩:=h
  have sz:=sz_is
  have few:=hB.few
  have sb:(300:Nat) < scanBound:=by decide
  obtain ⟨zs,hzl,hzs⟩:=hB.pool
  walk_at "go"
  refine ⟨Nat.zero_le _,?_⟩
  walk_at "go"
  refine floop_by (fun i ρ=>∃ (fs:List Str) (x y:Option OV),fs.length≤8 * i∧(∀ z ∈ fs,z ∈ zs)∧ρ=[some (.fz (.lst (rows.map rowD))),some (.fl (fs.map .str)),x,y]) ⟨[],none,none,Nat.zero_le _,(fun _ h=>nomatch h),rfl⟩ ?_ ?_
  · rintro i d ρ R hd ⟨fs,x,y,hfl,hfs,rfl⟩ kk
    obtain ⟨r,hr,rfl⟩:=row_at hd
    have hrm:=List.mem_of_getElem? hr
    have hi:i < rows.length:=(List.getElem?_eq_some_iff.mp hr).1
    have h8:=formN_len (hB.ok r hrm).2
    walk_at "go"
    refine ⟨rfl,?_⟩
    walk_at "go"
    refine ⟨rfl,?_⟩
    walk_at "go"
    refine ⟨not_whole,?_⟩
    rw [cut_tail]
    walk_at "go"
    refine fcomp_by (fun j as ρ=>∃ (ys:List Str) (x:Option OV),as=ys.map .str∧ys.length≤j∧(∀ z ∈ ys,z ∈ zs)∧ρ=[x,some (.fz (.lst (rows.map rowD))),some (.fl (fs.map .str)),some (.fz (.str r.1)),some (.fz (formD r.2.1 r.2.2))]) ⟨[],none,rfl,Nat.zero_le _,(fun _ h=>nomatch h),rfl⟩ ?_ ?_
    · rintro j d as ρ R' hd ⟨ys,x,rfl,hyl,hys,rfl⟩ k2
      obtain ⟨z,hz,rfl⟩:=str_at hd
      have hj:j < r.2.2.length:=(List.getElem?_eq_some_iff.mp hz).1
      walk_at "go"
      refine head_by ?_
      walk_at "go"
      refine ⟨eqOk_str,?_⟩
      walk_at "go"
      refine br_by (r.2.1 ≠ "signs") (by rw [Bool.not_eq_true',Bool.eq_false_iff,Ne,dEq_str]) (fun hw=>?_) (fun hw=>?_)
      · walk_at "go"
        refine lhas_by few fun b hb=>?_
        walk_at "go"
        refine br_by (b=false) (by cases b <;> simp) (fun _=>?_) (fun _=>?_)
        · walk_at "go"
          refine ⟨by rw [List.length_map]; (first|lia|omega),k2 _ _ ⟨ys++[z],_,by rw [List.map_append]; rfl,by rw [List.length_append,List.length_singleton]; (first|lia|omega),fun z' hz'=>?_,rfl⟩⟩
          rcases List.mem_append.mp hz' with h | h
          · exact hys z' h
          · have e:z'=z:=by first|exact h|exact List.mem_singleton.mp h|simpa using h
            rw [e]
            exact pool_mem (hzs r hrm) hw z (List.mem_of_getElem? hz)
        · exact k2 _ _ ⟨ys,_,rfl,by (first|lia|omega),hys,rfl⟩
      · walk_at "go"
        refine br_F ?_
        exact k2 _ _ ⟨ys,_,rfl,by (first|lia|omega),hys,rfl⟩
    · rintro as ρ ⟨ys,x,rfl,hyl,hys,rfl⟩
      rw [List.length_map] at hyl
      walk_at "go"
      refine ⟨by rw [List.length_map,List.length_map]; (first|lia|omega),?_⟩
      refine kk _ ⟨fs++ys,_,_,by rw [List.length_append]; (first|lia|omega),fun z hz=>?_,by rw [List.map_append]; rfl⟩
      rcases List.mem_append.mp hz with h | h
      · exact hfs z h
      · exact hys z h
  · rintro ρ ⟨fs,x,y,hfl,hfs,rfl⟩
    rw [List.length_map] at hfl
    have hsl:(setS fs).length≤45:=Nat.le_trans (List.Nodup.length_le_of_subset (setS_nodup fs) fun z hz=>hfs z (setS_mem.mp hz)) hzl
    walk_at "go"
    refine strs_by ?_
    refine ⟨⟨by (first|lia|omega),by (first|lia|omega)⟩,?_⟩
    walk_at "go"
    exact q _ hsl
theorem llack_by {rows:List Rw} {P:OV→List OV→Prop} (hB:BookL rows) (h:∀ ls:List Str,ls.length≤45→P (.fl (ls.map .str)) [.fz (.lst (rows.map rowD))]):c_law_lacking [.fz (.lst (rows.map rowD))] P:=by
  unfold c_law_lacking
  exact ⟨rows,rfl,hB,h⟩
@[irreducible] noncomputable def c_law:Ct:=fun os P=>∃ ns:List Int,os=[.fz (.lst (ns.map .int))]∧ns.length≤63∧P (.fz (.bl true)) os
noncomputable abbrev s_law:Stmt:=top 38
theorem sc_law:FnScope ["script", "k", "bag", "none", "book", "handed", "empty", "name", "form", "found", "asked"] ["script"] (defScope s_law):=⟨rfl,rfl,rfl,by decide +kernel,rfl,by decide +kernel,by decide +kernel⟩
noncomputable def f_law:FS :=
    (fSeq (fFor (fiRng1 (fCons (fCB cMax (fCons (fC (.int 1)) (fCons (fCB cMin (fCons (fC (.int 10)) (fCons (fCB cLen (fCons (fVar 0) fNil)) fNil))) fNil))) fNil)) (fgName 1)
      (fSeq (fSetO 2 (fCall c_law_bag (fCons (fFz (fCall c_law_cell_at (fCons (fFz (fVar 0)) (fCons (fFz (fVar 1)) fNil)))) (fCons (fFz (fVar 1)) fNil))))
    (fSeq (fAsg (fCall c_law_name (fCons (fVar 2) (fCons (fC (.str "")) fNil))) (fgName 3))
    (fSeq (fIf (fTest (fOp aEq (fCall c_law_draw (fCons (fVar 2) (fCons (fC (.int 4)) fNil))) (fC (.int 3))))
      (fAsg (fCall c_law_chain (fCons (fVar 2) fNil)) (fgName 4))
      (fAsg (fCall c_law_book (fCons (fVar 2) fNil)) (fgName 4)))
    (fSeq (fAsg (fCB cList (fCons (fVar 4) fNil)) (fgName 5))
    (fSeq (fAsg (fCall c_law_empty (fCons (fFz (fVar 4)) fNil)) (fgName 6))
    (fSeq (fFor (fiList (fVar 4)) (fgTup 2 (fgCons (fgName 7) (fgCons (fgName 8) fgNil)))
      (fSeq (fSetO 9 (fCall c_begins (fCons (fFz (fVar 5)) (fCons (fFz (fVar 7)) fNil))))
    (fSeq (fIf (fOr (fNot (fTest (fCB cIs (fCons (fVar 9) (fCons (fC (.ty "list")) fNil))))) (fTest (fOp aNe (fVar 9) (fCall c_law_begins (fCons (fFz (fVar 8)) (fCons (fFz (fVar 6)) fNil))))))
      (fRet (fC (.bl false)))
      fNext)
    (fSeq (fDrop (fApp 9 (fC (.str "zq"))))
    (fIf (fTest (fOp aNe (fCall c_begins (fCons (fFz (fVar 5)) (fCons (fFz (fVar 7)) fNil))) (fCall c_law_begins (fCons (fFz (fVar 8)) (fCons (fFz (fVar 6)) fNil)))))
      (fRet (fC (.bl false)))
      fNext)))))
    (fSeq (fAsg (fComp 1 (fiList (fOp aAdd (fCall c_law_lacking (fCons (fFz (fVar 4)) fNil)) (fLst (fCons (fVar 3) fNil)))) (fgName 0) (fNot (fTest (fCall c_law_has (fCons (fFz (fVar 5)) (fCons (fFz (fVar 0)) fNil))))) (fVar 0)) (fgName 10))
    (fSeq (fIf (fNot (fTest (fCB cAll (fCons (fComp 1 (fiList (fVar 10)) (fgName 0) fYes (fCall c_law_refused (fCons (fFz (fVar 6)) (fCons (fFz (fVar 0)) fNil)))) fNil))))
      (fRet (fC (.bl false)))
      fNext)
    (fIf (fTest (fOp aNe (fVar 5) (fVar 4)))
      (fRet (fC (.bl false)))
      fNext))))))))))
    (fRet (fC (.bl true))))
theorem nu17:List.Nodup [("script" : Str),("k" : Str),("bag" : Str),("none" : Str),("book" : Str),("handed" : Str),("empty" : Str),("name" : Str),("form" : Str),("found" : Str),("asked" : Str)]:=by decide +kernel
theorem ok_law {f:Addr} {fd:FuncData} (F:Fun K "law" "law" s_law f fd) (T:Txt K mg) (O_law_cell_at:Own P w K mg base "_law_cell_at" 1 ["script", "k"] (spM K c_law_cell_at)) (O_law_bag:Own P w K mg base "_law_bag" 1 ["cell", "place"] (spM K c_law_bag)) (O_law_name:Own P w K mg base "_law_name" 2 ["bag", "last"] (spM K c_law_name)) (O_law_draw:Own P w K mg base "_law_draw" 1 ["bag", "many"] (spM K c_law_draw)) (O_law_chain:Own P w K mg base "_law_chain" 4 ["bag"] (spM K c_law_chain)) (O_law_book:Own P w K mg base "_law_book" 4 ["bag"] (spM K c_law_book)) (O_law_empty:Own P w K mg base "_law_empty" 1 ["book"] (spM K c_law_empty)) (O_begins:Own P w K mg base "begins" 4 ["book", "name"] (spM K c_begins)) (O_law_begins:Own P w K mg base "_law_begins" 1 ["form", "empty"] (spM K c_law_begins)) (O_law_lacking:Own P w K mg base "_law_lacking" 2 ["book"] (spM K c_law_lacking)) (O_law_has:Own P w K mg base "_law_has" 1 ["book", "name"] (spM K c_law_has)) (O_law_refused:Own P w K mg base "_law_refused" 3 ["book", "name"] (spM K c_law_refused))
    (hlen:∀ os P,c_law os P→os.length=1∧∀ j o,os[j]?=some o→j ∉ ([]:List Nat)→isFz o=true)
    (hc:∀ os P,c_law os P→f_law { nx:=fin [] os P (.fz .non),rt:=fin [] os P } (startF 11 os)) :
    FnOk P w K mg base CX0 7 f fd ["script"] (spM K c_law) :=
  Fun.okG 11 [] F sc_law rfl (by decide) hlen (by decide) (fun cdv A outer s H E hr=>⟨_,(wss_cons (ws_for PassesOwn.never rfl (wi_range1 rfl T.n_range (wa_c (we_callB (wc_max rfl) T.n_max kb_max (wa_c we_int (wa_c (we_callB (wc_min rfl) T.n_min kb_min (wa_c we_int (wa_c (we_callB (wc_len K rfl) T.n_len kb_len (wa_c (we_var 0 rfl (Or.inl rfl)) wa_nil rfl) rfl rfl) wa_nil rfl) rfl) rfl rfl) wa_nil rfl) rfl) rfl rfl) wa_nil rfl) rfl) (wg_name (i:=1) nu17 rfl (Or.inl rfl) (Or.inl rfl))
      (wss_cons (ws_set (i:=2) nu17 rfl (Or.inl rfl) (we_own O_law_bag (hr.mono (by decide)) (wa_c (we_own O_law_cell_at (hr.mono (by decide)) (wa_c (we_var 0 rfl (Or.inl rfl)) (wa_c (we_var 1 rfl (Or.inl rfl)) wa_nil rfl) rfl) rfl rfl) (wa_c (we_var 1 rfl (Or.inl rfl)) wa_nil rfl) rfl) rfl rfl) rfl (Or.inl rfl))
    (wss_cons (ws_set (i:=3) nu17 rfl (Or.inl rfl) (we_own O_law_name (hr.mono (by decide)) (wa_c (we_var 2 rfl (Or.inl rfl)) (wa_c we_str wa_nil rfl) rfl) rfl rfl) rfl (Or.inl rfl))
    (wss_cons (ws_if (wt_cmp (wop_eq K hr.units rfl) (we_own O_law_draw (hr.mono (by decide)) (wa_c (we_var 2 rfl (Or.inl rfl)) (wa_c we_int wa_nil rfl) rfl) rfl rfl) we_int (nomarkB (by decide) (by decide)))
      (wss_one (ws_set (i:=4) nu17 rfl (Or.inr rfl) (we_own O_law_chain (hr.mono (by decide)) (wa_c (we_var 2 rfl (Or.inl rfl)) wa_nil rfl) rfl rfl) rfl (Or.inl rfl)))
      (wss_one (ws_set (i:=4) nu17 rfl (Or.inr rfl) (we_own O_law_book (hr.mono (by decide)) (wa_c (we_var 2 rfl (Or.inl rfl)) wa_nil rfl) rfl rfl) rfl (Or.inl rfl))))
    (wss_cons (ws_set (i:=5) nu17 rfl (Or.inr rfl) (we_callT (wc_list K rfl rfl) T.n_list kb_list (wa_c (we_var 4 rfl (Or.inr (Or.inl rfl))) wa_nil rfl) rfl rfl) rfl (Or.inl rfl))
    (wss_cons (ws_set (i:=6) nu17 rfl (Or.inl rfl) (we_own O_law_empty (hr.mono (by decide)) (wa_c (we_var 4 rfl (Or.inr (Or.inl rfl))) wa_nil rfl) rfl rfl) rfl (Or.inl rfl))
    (wss_cons (ws_for PassesOwn.never rfl (wi_list K (we_var 4 rfl (Or.inr (Or.inl rfl))) rfl) (wg_tup K rfl (wgs_cons (wg_name (i:=7) nu17 rfl (Or.inl rfl) (Or.inl rfl)) (wgs_cons (wg_name (i:=8) nu17 rfl (Or.inl rfl) (Or.inl rfl)) wgs_nil rfl) rfl) rfl rfl rfl)
      (wss_cons (ws_set (i:=9) nu17 rfl (Or.inl rfl) (we_own O_begins (hr.mono (by decide)) (wa_c (we_var 5 rfl (Or.inr (Or.inl rfl))) (wa_c (we_var 7 rfl (Or.inl rfl)) wa_nil rfl) rfl) rfl rfl) rfl (Or.inl rfl))
    (wss_cons (ws_if (wt_w (ww_or (wt_not (wt_call (we_callB (wc_isD K rfl) T.n_isinstance kb_isinstance (wa_c (we_var 9 rfl (Or.inl rfl)) (wa_c (we_ty T.n_list kb_list rfl) wa_nil rfl) rfl) rfl rfl))) (ww_or1 (wt_cmp (wop_ne K hr.units rfl) (we_var 9 rfl (Or.inl rfl)) (we_own O_law_begins (hr.mono (by decide)) (wa_c (we_var 8 rfl (Or.inl rfl)) (wa_c (we_var 6 rfl (Or.inl rfl)) wa_nil rfl) rfl) rfl rfl) (nomarkB (by decide) (by decide))))))
      (wss_one (ws_ret we_bl))
      wss_nil)
    (wss_cons (ws_expr (we_meth K PySem.F.plainAttrs_list PySem.F.slot_list_append PySem.F.type_list_append (wm_append K rfl) (we_var 9 rfl (Or.inl rfl)) (wa_c we_str wa_nil rfl) rfl rfl rfl (by decide) rfl) rfl)
    (wss_one (ws_if (wt_cmp (wop_ne K hr.units rfl) (we_own O_begins (hr.mono (by decide)) (wa_c (we_var 5 rfl (Or.inr (Or.inl rfl))) (wa_c (we_var 7 rfl (Or.inl rfl)) wa_nil rfl) rfl) rfl rfl) (we_own O_law_begins (hr.mono (by decide)) (wa_c (we_var 8 rfl (Or.inl rfl)) (wa_c (we_var 6 rfl (Or.inl rfl)) wa_nil rfl) rfl) rfl rfl) (nomarkB (by decide) (by decide)))
      (wss_one (ws_ret we_bl))
      wss_nil))))) (fun _=>rfl))
    (wss_cons (ws_setC (i:=10) (T:=["one"]) (F:=["book"]) (ixs:=[4]) rfl (CompScope.of rfl rfl rfl) (wi_list K (we_op (wop_addB K rfl) (we_own O_law_lacking (hr.mono (by decide)) (wa_c (we_var 4 rfl (Or.inr (Or.inl rfl))) wa_nil rfl) rfl rfl) (we_lst (wa_c (we_var 3 rfl (Or.inl rfl)) wa_nil rfl))) rfl) (fun _ _ _ _=>(wg_name (i:=0) (show List.Nodup [("one" : Str),("book" : Str)] from by decide +kernel) rfl (Or.inl rfl) (Or.inr rfl))) (fun _ _ _ _=>(wif_one (wt_not (wt_call (we_own O_law_has (hr.mono (by decide)) (wa_c (we_var 1 rfl (Or.inr (Or.inl rfl))) (wa_c (we_var 0 rfl (Or.inl rfl)) wa_nil rfl) rfl) rfl rfl))))) (fun _ _ _ _=>(we_var 0 rfl (Or.inl rfl))) (fun _=>rfl) nu17 rfl (Or.inl rfl) rfl (Or.inl rfl))
    (wss_cons (ws_if (wt_not (wt_call (we_callB (wc_all K rfl rfl) T.n_all kb_all (wa_c (we_comp (T:=["one"]) (F:=["handed"]) (ixs:=[5]) rfl (CompScope.of rfl rfl rfl) (wi_list K (we_var 10 rfl (Or.inl rfl)) rfl) (fun _ _ _ _=>(wg_name (i:=0) (show List.Nodup [("one" : Str),("handed" : Str)] from by decide +kernel) rfl (Or.inl rfl) (Or.inr rfl))) (fun _ _ _ _=>wif_nil) (fun _ _ _ _=>(we_own O_law_refused (hr.mono (by decide)) (wa_c (we_var 1 rfl (Or.inr (Or.inl rfl))) (wa_c (we_var 0 rfl (Or.inl rfl)) wa_nil rfl) rfl) rfl rfl)) (fun _=>rfl)) wa_nil rfl) rfl rfl)))
      (wss_one (ws_ret we_bl))
      wss_nil)
    (wss_one (ws_if (wt_cmp (wop_ne K hr.units rfl) (we_var 5 rfl (Or.inr (Or.inl rfl))) (we_var 4 rfl (Or.inr (Or.inl rfl))) (nomarkB (by decide) (by decide)))
      (wss_one (ws_ret we_bl))
      wss_nil)))))))))) (fun _=>rfl))
    (wss_one (ws_ret we_bl))),
    (sf_seq (sf_for (itf_rng1 (af_cons (ef_cb cf_max (af_cons ef_int (af_cons (ef_cb cf_min (af_cons ef_int (af_cons (ef_cb cf_len (af_cons (ef_v (by decide)) af_nil)) af_nil))) af_nil))) af_nil)) (gf_n (by decide)) (notIn_of (by decide))
      (sf_seq (sf_setO (ef_call (c:=c_law_bag) (af_cons (ef_fz (ef_call (c:=c_law_cell_at) (af_cons (ef_fz (ef_v (by decide))) (af_cons (ef_fz (ef_v (by decide))) af_nil)))) (af_cons (ef_fz (ef_v (by decide))) af_nil))) (by decide))
    (sf_seq (sf_asg (ef_call (c:=c_law_name) (af_cons (ef_v (by decide)) (af_cons ef_str af_nil))) (gf_n (by decide)) (notIn_of (by decide)))
    (sf_seq (sf_if (tf_test (ef_op opf_eq (ef_call (c:=c_law_draw) (af_cons (ef_v (by decide)) (af_cons ef_int af_nil))) ef_int))
      (sf_asg (ef_call (c:=c_law_chain) (af_cons (ef_v (by decide)) af_nil)) (gf_n (by decide)) (notIn_of (by decide)))
      (sf_asg (ef_call (c:=c_law_book) (af_cons (ef_v (by decide)) af_nil)) (gf_n (by decide)) (notIn_of (by decide))))
    (sf_seq (sf_asg (ef_cb cf_list (af_cons (ef_v (by decide)) af_nil)) (gf_n (by decide)) (notIn_of (by decide)))
    (sf_seq (sf_asg (ef_call (c:=c_law_empty) (af_cons (ef_fz (ef_v (by decide))) af_nil)) (gf_n (by decide)) (notIn_of (by decide)))
    (sf_seq (sf_for (itf_list (ef_v (by decide))) (gf_tup (gsf_cons (gf_n (by decide)) (gsf_cons (gf_n (by decide)) gsf_nil))) (notIn_of (by decide))
      (sf_seq (sf_setO (ef_call (c:=c_begins) (af_cons (ef_fz (ef_v (by decide))) (af_cons (ef_fz (ef_v (by decide))) af_nil))) (by decide))
    (sf_seq (sf_if (tf_or (tf_not (tf_b (ef_cb cf_is (af_cons (ef_v (by decide)) (af_cons ef_ty af_nil))))) (tf_test (ef_op opf_ne (ef_v (by decide)) (ef_call (c:=c_law_begins) (af_cons (ef_fz (ef_v (by decide))) (af_cons (ef_fz (ef_v (by decide))) af_nil))))))
      (sf_ret ef_bl)
      sf_next)
    (sf_seq (sf_drop (ef_appV (by decide) ef_str))
    (sf_if (tf_test (ef_op opf_ne (ef_call (c:=c_begins) (af_cons (ef_fz (ef_v (by decide))) (af_cons (ef_fz (ef_v (by decide))) af_nil))) (ef_call (c:=c_law_begins) (af_cons (ef_fz (ef_v (by decide))) (af_cons (ef_fz (ef_v (by decide))) af_nil)))))
      (sf_ret ef_bl)
      sf_next)))))
    (sf_seq (sf_asg (ef_comp (no:=1) (ixs:=[4]) (itf_list (ef_op opf_add (ef_call (c:=c_law_lacking) (af_cons (ef_fz (ef_v (by decide))) af_nil)) (ef_lst (af_cons (ef_v (by decide)) af_nil)))) (ix_range (by decide)) (gf_name (i:=0) (by decide) (by decide)) (lt_of (by decide)) (tf_not (tf_b (ef_call (c:=c_law_has) (af_cons (ef_fz (ef_var (i:=5) (by decide))) (af_cons (ef_fz (ef_var (i:=0) (by decide))) af_nil))))) (ef_var (i:=0) (by decide))) (gf_n (by decide)) (notIn_of (by decide)))
    (sf_seq (sf_if (tf_not (tf_b (ef_cb cf_all (af_cons (ef_comp (no:=1) (ixs:=[5]) (itf_list (ef_v (by decide))) (ix_range (by decide)) (gf_name (i:=0) (by decide) (by decide)) (lt_of (by decide)) tf_yes (ef_call (c:=c_law_refused) (af_cons (ef_fz (ef_var (i:=6) (by decide))) (af_cons (ef_fz (ef_var (i:=0) (by decide))) af_nil)))) af_nil))))
      (sf_ret ef_bl)
      sf_next)
    (sf_if (tf_test (ef_op opf_ne (ef_v (by decide)) (ef_v (by decide))))
      (sf_ret ef_bl)
      sf_next))))))))))
    (sf_ret ef_bl))⟩) hc
theorem l_law (os:List OV) (P:OV→List OV→Prop) (h:c_law os P):os.length=1∧∀ j o,os[j]?=some o→j ∉ ([]:List Nat)→isFz o=true:=by
  unfold c_law at h
  obtain ⟨ns,rfl,_⟩:=h
  exact fzs1
theorem turns_of {n k:Nat} {x:Int} (hn:n≤63) (hk:k≤40) (e:x=(if (if (n:Int) < k then (n:Int) else k) > 1 then (if (n:Int) < k then (n:Int) else k) else 1)):∃ m:Nat,x=m∧m≤40:=by
  subst e
  split <;> split <;> first | exact ⟨n,rfl,by (first|lia|omega)⟩ | exact ⟨k,rfl,by (first|lia|omega)⟩ | exact ⟨1,rfl,by (first|lia|omega)⟩ | skip
theorem low_nil:lowL ("" : Str).cps.toList:=by
  have e:("" : Str).cps.toList=[]:=by decide +kernel
  rw [e]
  exact fun _ h=>nomatch h
theorem h_law (os:List OV) (P:OV→List OV→Prop) (h:c_law os P):f_law { nx:=fin [] os P (.fz .non),rt:=fin [] os P } (startF 11 os):=by
  unfold c_law at h
  obtain ⟨ns,rfl,hns,q⟩:=h
  have sz:=sz_is
  walk_at "go"
  rw [List.length_map]
  obtain ⟨m,hm,hm40⟩:=turns_of (n:=ns.length) (k:=10) hns (by (first|lia|omega)) rfl
  refine ⟨⟨?_,?_⟩,?_⟩
  · split <;> split <;> (first|lia|omega)
  · split <;> split <;> (first|lia|omega)
  walk_at "go"
  refine floop_by (fun i ρ=>∃ x1 x2 x3 x4 x5 x6 x7 x8 x9 x10:Option OV,ρ=[some (.fz (.lst (ns.map .int))),x1,x2,x3,x4,x5,x6,x7,x8,x9,x10]) ⟨none,none,none,none,none,none,none,none,none,none,rfl⟩ ?_ ?_
  · rintro i d ρ R hd ⟨x1,x2,x3,x4,x5,x6,x7,x8,x9,x10,rfl⟩ kk
    obtain ⟨hi,rfl⟩:=rangeD_at hd
    have hi':i≤40:=by split at hi <;> split at hi <;> (first|lia|omega)
    walk_at "go"
    rw [Int.zero_add]
    refine cell_by fun c=>?_
    walk_at "go"
    refine bag_by (by (first|lia|omega)) fun b0 b1 b2 hb=>?_
    walk_at "go"
    refine name_by hb (by decide) low_nil (by decide) fun nn b0 b1 b2 hnn hb0=>?_
    walk_at "go"
    refine if_join (fun ρ=>∃ (rows:List Rw) (b0 b1 b2:Int),BookL rows∧ρ=[some (.fz (.lst (ns.map .int))),some (.fz (.int i)),some (bagO b0 b1 b2),some (.fz (.str nn)),some (.fz (.lst (rows.map rowD))),x5,x6,x7,x8,x9,x10]) ?_ ?_
    · rintro ρ ⟨rows,b0,b1,b2,hB,rfl⟩
      have few:=hB.few
      walk_at "go"
      refine lempty_by hB fun zs hn he=>?_
      have hz:∀ z,z ∈ sortS zs↔z ∈ zs:=fun z=>(sortS_perm zs).mem_iff
      walk_at "go"
      refine floop_by (fun _ ρ=>∃ y7 y8 y9:Option OV,ρ=[some (.fz (.lst (ns.map .int))),some (.fz (.int i)),some (bagO b0 b1 b2),some (.fz (.str nn)),some (.fz (.lst (rows.map rowD))),some (.fz (.lst (rows.map rowD))),some (.fz (.lst ((sortS zs).map .str))),y7,y8,y9,x10]) ⟨_,_,_,rfl⟩ ?_ ?_
      · rintro j d ρ R2 hd ⟨y7,y8,y9,rfl⟩ kk2
        obtain ⟨r,hr,rfl⟩:=row_at hd
        have hrm:=List.mem_of_getElem? hr
        have hf:=(hB.ok r hrm).2
        walk_at "go"
        refine ⟨rfl,?_⟩
        walk_at "go"
        refine begins_by hB hrm fun z1 h1=>?_
        have e1:beginsL z1=beginsL (sortS zs):=begins_congr fun z=>((h1 z).trans (he z).symm).trans (hz z).symm
        rw [e1]
        have h8:=begins_len (zs:=sortS zs) hf
        have hs8:=setS_len (beginsL (sortS zs) r.2.1 r.2.2)
        walk_at "go"
        refine if_guard True (fun _=>?_) (fun rest=>?_)
        · walk_at "go"
          refine ⟨rfl,?_⟩
          walk_at "go"
          refine ⟨by rw [List.length_map]; (first|lia|omega),?_⟩
          walk_at "go"
          refine if_go ?_
          walk_at "go"
          refine begins_by hB hrm fun z2 h2=>?_
          have e2:beginsL z2=beginsL (sortS zs):=begins_congr fun z=>((h2 z).trans (he z).symm).trans (hz z).symm
          walk_at "go"
          refine lbeg_by hf ?_
          walk_at "go"
          refine ⟨eqOk_strs,?_⟩
          rw [e2,dEq_refl]
          walk_at "go"
          refine br_F ?_
          exact kk2 _ ⟨_,_,_,rfl⟩
        · walk_at "go"
          refine ⟨⟨rfl,rfl⟩,?_⟩
          walk_at "go"
          refine br_F ?_
          walk_at "go"
          refine lbeg_by hf ?_
          walk_at "go"
          refine ⟨eqOk_strs,?_⟩
          rw [dEq_refl]
          walk_at "go"
          exact br_F (rest trivial)
      · rintro ρ ⟨y7,y8,y9,rfl⟩
        walk_at "go"
        refine llack_by hB fun ls hls=>?_
        walk_at "go"
        refine ⟨by show 1≤sizeLine; (first|lia|omega),?_⟩
        walk_at "go"
        refine ⟨by rw [List.length_map]; show ls.length+1≤sizeLine; (first|lia|omega),?_⟩
        have e3:ls.map D.str++[D.str nn]=(ls++[nn]).map D.str:=by rw [List.map_append]; rfl
        rw [e3]
        walk_at "go"
        refine fcomp_by (fun j as ρ=>∃ (ys:List Str) (x:Option OV),as=ys.map .str∧ys.length≤j∧(∀ z ∈ ys,z ∉ rows.map (·.1))∧ρ=[x,some (.fz (.lst (ns.map .int))),some (.fz (.int i)),some (bagO b0 b1 b2),some (.fz (.str nn)),some (.fz (.lst (rows.map rowD))),some (.fz (.lst (rows.map rowD))),some (.fz (.lst ((sortS zs).map .str))),y7,y8,y9,x10]) ⟨[],none,rfl,Nat.zero_le _,(fun _ h=>nomatch h),rfl⟩ ?_ ?_
        · rintro j d as ρ R' hd ⟨ys,x,rfl,hyl,hys,rfl⟩ k2
          obtain ⟨z,hz',rfl⟩:=str_at hd
          have hj:j < (ls++[nn]).length:=(List.getElem?_eq_some_iff.mp hz').1
          rw [List.length_append,List.length_singleton] at hj
          walk_at "go"
          refine lhas_by few fun b hb=>?_
          walk_at "go"
          refine br_by (b=false) (by cases b <;> simp) (fun e=>?_) (fun _=>?_)
          · walk_at "go"
            refine ⟨by rw [List.length_map]; (first|lia|omega),k2 _ _ ⟨ys++[z],_,by rw [List.map_append]; rfl,by rw [List.length_append,List.length_singleton]; (first|lia|omega),fun z' hz2=>?_,rfl⟩⟩
            rcases List.mem_append.mp hz2 with h | h
            · exact hys z' h
            · have e4:z'=z:=by first|exact h|exact List.mem_singleton.mp h|simpa using h
              rw [e4]
              exact fun h5=>by rw [hb.mpr h5] at e; exact nomatch e
          · exact k2 _ _ ⟨ys,_,rfl,by (first|lia|omega),hys,rfl⟩
        · rintro as ρ ⟨ys,x,rfl,hyl,hys,rfl⟩
          rw [List.length_map,List.length_append,List.length_singleton] at hyl
          walk_at "go"
          refine if_guard True (fun _=>?_) (fun rest=>?_)
          · walk_at "go"
            refine if_go ?_
            walk_at "go"
            refine ⟨eqOk_rows,?_⟩
            rw [dEq_refl]
            walk_at "go"
            refine br_F ?_
            exact kk _ ⟨_,_,_,_,_,_,_,_,_,_,rfl⟩
          · walk_at "go"
            refine fcomp_by (fun j as ρ=>∃ (x:Option OV),as=(List.replicate j true).map .bl∧ρ=[x,some (.fz (.lst (ns.map .int))),some (.fz (.int i)),some (bagO b0 b1 b2),some (.fz (.str nn)),some (.fz (.lst (rows.map rowD))),some (.fz (.lst (rows.map rowD))),some (.fz (.lst ((sortS zs).map .str))),y7,y8,y9,some (.fz (.lst (ys.map .str)))]) ⟨none,rfl,rfl⟩ ?_ ?_
            · rintro j d as ρ R' hd ⟨x,rfl,rfl⟩ k2
              obtain ⟨z,hz',rfl⟩:=str_at hd
              have hj:j < ys.length:=(List.getElem?_eq_some_iff.mp hz').1
              walk_at "go"
              refine br_T ?_
              walk_at "go"
              refine lrefused_by hB (hys z (List.mem_of_getElem? hz')) ?_
              walk_at "go"
              refine ⟨by rw [List.length_map,List.length_replicate]; (first|lia|omega),k2 _ _ ⟨_,?_,rfl⟩⟩
              rw [List.replicate_succ',List.map_append]
              rfl
            · rintro as ρ ⟨x,rfl,rfl⟩
              walk_at "go"
              refine bls_by ?_
              have ea:(List.replicate (ys.map D.str).length true).all id=true:=by
                rw [List.all_eq_true]
                intro b hb
                rw [(List.mem_replicate.mp hb).2]
                rfl
              rw [ea]
              walk_at "go"
              exact br_F (rest trivial)
    · intro rest
      walk_at "go"
      refine draw_by _ hb0 (by decide) (by decide) (by decide) fun r b0 b1 b2 r0 r1 hb2=>?_
      walk_at "go"
      refine ⟨eqOk_int,?_⟩
      walk_at "go"
      refine br_by (r=3) dEq_int (fun _=>?_) (fun _=>?_)
      · walk_at "go"
        refine chain_by hb2 (by decide) fun rows b0 b1 b2 hB hb3=>?_
        exact rest _ ⟨rows,b0,b1,b2,hB,rfl⟩
      · walk_at "go"
        refine book_by hb2 (by decide) fun rows b0 b1 b2 hB hb3=>?_
        exact rest _ ⟨rows,b0,b1,b2,hB,rfl⟩
  · rintro ρ ⟨x1,x2,x3,x4,x5,x6,x7,x8,x9,x10,rfl⟩
    walk_at "go"
    exact q
end
end KR
set_option maxHeartbeats 4000000
namespace KR
open PySem L2
theorem arg1 {α:Type} {P:List α→Prop} (h:∀ a,P [a]):∀ us:List α,us.length=1→P us
  | [a],_=>h a
theorem arg2 {α:Type} {P:List α→Prop} (h:∀ a b,P [a,b]):∀ us:List α,us.length=2→P us
  | [a,b],_=>h a b
noncomputable def spLaw (K:PySem.W.Frag):Sp:=fun vs H Q _=>∃ (a:Addr) (ns:List Int),vs=[.ref a]∧SqL K H a (ns.map V.int)∧ns.length≤63∧∀ H',Q (.bl true) H'
theorem law_sp {K:PySem.W.Frag} (vs:List V) (H:Hp) (Q:VK) (E:XK) (h:spLaw K vs H Q E):spM K c_law vs H Q E:=by
  obtain ⟨a,ns,rfl,hS,hl,q⟩:=h
  refine ⟨H,fun _=>none,[.fz (.lst (ns.map .int))],[],fun o _=>o=.fz (.bl true),Same.refl H,(fun _ _ z=>nomatch z),fun _ _ _=>rfl,.cons (.fz (.lst hS (Dens.ints ns))) .nil,List.nodup_nil,(fun _ z=>nomatch z),?_,fun o os' v F' H' C' B e _ _ _ _ _ ow _ _=>?_⟩
  · unfold c_law
    exact ⟨ns,rfl,hl,rfl⟩
  · subst e
    cases ow with
    | fz d=>rw [d.bl_eq]; exact q H'
theorem all_mk {l:PySem.W.OpenLaw} {w:World} {K:PySem.W.Frag} {h:Heap} {mg:Str→Option Value} {fa f0 f1 f2 f3 f4 f5 f6 f7 f8 f9 f10 f11 f12 f13 f14 f15 f16 f17 f18 f19 f20 f21:Addr} (X:K.In h) (G:h.Ns mainGlobals mg) (hfa:mg "law" = some (.ref fa))
    {od0 an0 od1 an1 od2 an2 od3 an3 od4 an4 od5 an5 od6 an6 od7 an7 od8 an8 od9 an9 od10 an10 od11 an11 od12 an12 od13 an13 od14 an14 od15 an15 od16 an16 od17 an17 od18 an18 od19 an19 od20 an20 od21 an21:Option Addr} {sl0 sl1 sl2 sl3 sl4 sl5 sl6 sl7 sl8 sl9 sl10 sl11 sl12 sl13 sl14 sl15 sl16 sl17 sl18 sl19 sl20 sl21:Array (Option Value)} {oc0 kV0 dc0 pm0 cd0 ct0 oc1 kV1 dc1 pm1 cd1 ct1 oc2 kV2 dc2 pm2 cd2 ct2 oc3 kV3 dc3 pm3 cd3 ct3 oc4 kV4 dc4 pm4 cd4 ct4 oc5 kV5 dc5 pm5 cd5 ct5 oc6 kV6 dc6 pm6 cd6 ct6 oc7 kV7 dc7 pm7 cd7 ct7 oc8 kV8 dc8 pm8 cd8 ct8 oc9 kV9 dc9 pm9 cd9 ct9 oc10 kV10 dc10 pm10 cd10 ct10 oc11 kV11 dc11 pm11 cd11 ct11 oc12 kV12 dc12 pm12 cd12 ct12 oc13 kV13 dc13 pm13 cd13 ct13 oc14 kV14 dc14 pm14 cd14 ct14 oc15 kV15 dc15 pm15 cd15 ct15 oc16 kV16 dc16 pm16 cd16 ct16 oc17 kV17 dc17 pm17 cd17 ct17 oc18 kV18 dc18 pm18 cd18 ct18 oc19 kV19 dc19 pm19 cd19 ct19 oc20 kV20 dc20 pm20 cd20 ct20 oc21 kV21 dc21 pm21 cd21 ct21:Value}
    (a0:PySem.W.nsIn K mainGlobals "parts_of" = some (some (.ref f0))) (l0:K.lookup f0=some ⟨oc0,od0,.func (PySem.W.fnOf "parts_of" "parts_of" (defArgs s_parts) (defBody s_parts) (defScope s_parts) .none kV0 dc0 pm0 an0 cd0 ct0),sl0⟩) (c0:PySem.W.codeIn K cd0 "parts_of" = true) (k0:PySem.W.keepIn K (.ref f0)=true)
    (a1:PySem.W.nsIn K mainGlobals "may_be_empty" = some (some (.ref f1))) (l1:K.lookup f1=some ⟨oc1,od1,.func (PySem.W.fnOf "may_be_empty" "may_be_empty" (defArgs s_may) (defBody s_may) (defScope s_may) .none kV1 dc1 pm1 an1 cd1 ct1),sl1⟩) (c1:PySem.W.codeIn K cd1 "may_be_empty" = true) (k1:PySem.W.keepIn K (.ref f1)=true)
    (a2:PySem.W.nsIn K mainGlobals "empty_names" = some (some (.ref f2))) (l2:K.lookup f2=some ⟨oc2,od2,.func (PySem.W.fnOf "empty_names" "empty_names" (defArgs s_enames) (defBody s_enames) (defScope s_enames) .none kV2 dc2 pm2 an2 cd2 ct2),sl2⟩) (c2:PySem.W.codeIn K cd2 "empty_names" = true) (k2:PySem.W.keepIn K (.ref f2)=true)
    (a3:PySem.W.nsIn K mainGlobals "begins_of_row" = some (some (.ref f3))) (l3:K.lookup f3=some ⟨oc3,od3,.func (PySem.W.fnOf "begins_of_row" "begins_of_row" (defArgs s_brow) (defBody s_brow) (defScope s_brow) .none kV3 dc3 pm3 an3 cd3 ct3),sl3⟩) (c3:PySem.W.codeIn K cd3 "begins_of_row" = true) (k3:PySem.W.keepIn K (.ref f3)=true)
    (a4:PySem.W.nsIn K mainGlobals "begins_of_form" = some (some (.ref f4))) (l4:K.lookup f4=some ⟨oc4,od4,.func (PySem.W.fnOf "begins_of_form" "begins_of_form" (defArgs s_bform) (defBody s_bform) (defScope s_bform) .none kV4 dc4 pm4 an4 cd4 ct4),sl4⟩) (c4:PySem.W.codeIn K cd4 "begins_of_form" = true) (k4:PySem.W.keepIn K (.ref f4)=true)
    (a5:PySem.W.nsIn K mainGlobals "form_of" = some (some (.ref f5))) (l5:K.lookup f5=some ⟨oc5,od5,.func (PySem.W.fnOf "form_of" "form_of" (defArgs s_formof) (defBody s_formof) (defScope s_formof) .none kV5 dc5 pm5 an5 cd5 ct5),sl5⟩) (c5:PySem.W.codeIn K cd5 "form_of" = true) (k5:PySem.W.keepIn K (.ref f5)=true)
    (a6:PySem.W.nsIn K mainGlobals "begins" = some (some (.ref f6))) (l6:K.lookup f6=some ⟨oc6,od6,.func (PySem.W.fnOf "begins" "begins" (defArgs s_begins) (defBody s_begins) (defScope s_begins) .none kV6 dc6 pm6 an6 cd6 ct6),sl6⟩) (c6:PySem.W.codeIn K cd6 "begins" = true) (k6:PySem.W.keepIn K (.ref f6)=true)
    (a7:PySem.W.nsIn K mainGlobals "_law_cell_at" = some (some (.ref f7))) (l7:K.lookup f7=some ⟨oc7,od7,.func (PySem.W.fnOf "_law_cell_at" "_law_cell_at" (defArgs s_cell) (defBody s_cell) (defScope s_cell) .none kV7 dc7 pm7 an7 cd7 ct7),sl7⟩) (c7:PySem.W.codeIn K cd7 "_law_cell_at" = true) (k7:PySem.W.keepIn K (.ref f7)=true)
    (a8:PySem.W.nsIn K mainGlobals "_law_bag" = some (some (.ref f8))) (l8:K.lookup f8=some ⟨oc8,od8,.func (PySem.W.fnOf "_law_bag" "_law_bag" (defArgs s_bag) (defBody s_bag) (defScope s_bag) .none kV8 dc8 pm8 an8 cd8 ct8),sl8⟩) (c8:PySem.W.codeIn K cd8 "_law_bag" = true) (k8:PySem.W.keepIn K (.ref f8)=true)
    (a9:PySem.W.nsIn K mainGlobals "_law_draw" = some (some (.ref f9))) (l9:K.lookup f9=some ⟨oc9,od9,.func (PySem.W.fnOf "_law_draw" "_law_draw" (defArgs s_draw) (defBody s_draw) (defScope s_draw) .none kV9 dc9 pm9 an9 cd9 ct9),sl9⟩) (c9:PySem.W.codeIn K cd9 "_law_draw" = true) (k9:PySem.W.keepIn K (.ref f9)=true)
    (a10:PySem.W.nsIn K mainGlobals "_law_name" = some (some (.ref f10))) (l10:K.lookup f10=some ⟨oc10,od10,.func (PySem.W.fnOf "_law_name" "_law_name" (defArgs s_name) (defBody s_name) (defScope s_name) .none kV10 dc10 pm10 an10 cd10 ct10),sl10⟩) (c10:PySem.W.codeIn K cd10 "_law_name" = true) (k10:PySem.W.keepIn K (.ref f10)=true)
    (a11:PySem.W.nsIn K mainGlobals "_law_names" = some (some (.ref f11))) (l11:K.lookup f11=some ⟨oc11,od11,.func (PySem.W.fnOf "_law_names" "_law_names" (defArgs s_names) (defBody s_names) (defScope s_names) .none kV11 dc11 pm11 an11 cd11 ct11),sl11⟩) (c11:PySem.W.codeIn K cd11 "_law_names" = true) (k11:PySem.W.keepIn K (.ref f11)=true)
    (a12:PySem.W.nsIn K mainGlobals "_law_signs" = some (some (.ref f12))) (l12:K.lookup f12=some ⟨oc12,od12,.func (PySem.W.fnOf "_law_signs" "_law_signs" (defArgs s_signs) (defBody s_signs) (defScope s_signs) .none kV12 dc12 pm12 an12 cd12 ct12),sl12⟩) (c12:PySem.W.codeIn K cd12 "_law_signs" = true) (k12:PySem.W.keepIn K (.ref f12)=true)
    (a13:PySem.W.nsIn K mainGlobals "_law_form" = some (some (.ref f13))) (l13:K.lookup f13=some ⟨oc13,od13,.func (PySem.W.fnOf "_law_form" "_law_form" (defArgs s_form) (defBody s_form) (defScope s_form) .none kV13 dc13 pm13 an13 cd13 ct13),sl13⟩) (c13:PySem.W.codeIn K cd13 "_law_form" = true) (k13:PySem.W.keepIn K (.ref f13)=true)
    (a14:PySem.W.nsIn K mainGlobals "_law_book" = some (some (.ref f14))) (l14:K.lookup f14=some ⟨oc14,od14,.func (PySem.W.fnOf "_law_book" "_law_book" (defArgs s_book) (defBody s_book) (defScope s_book) .none kV14 dc14 pm14 an14 cd14 ct14),sl14⟩) (c14:PySem.W.codeIn K cd14 "_law_book" = true) (k14:PySem.W.keepIn K (.ref f14)=true)
    (a15:PySem.W.nsIn K mainGlobals "_law_chain" = some (some (.ref f15))) (l15:K.lookup f15=some ⟨oc15,od15,.func (PySem.W.fnOf "_law_chain" "_law_chain" (defArgs s_chain) (defBody s_chain) (defScope s_chain) .none kV15 dc15 pm15 an15 cd15 ct15),sl15⟩) (c15:PySem.W.codeIn K cd15 "_law_chain" = true) (k15:PySem.W.keepIn K (.ref f15)=true)
    (a16:PySem.W.nsIn K mainGlobals "_law_empty" = some (some (.ref f16))) (l16:K.lookup f16=some ⟨oc16,od16,.func (PySem.W.fnOf "_law_empty" "_law_empty" (defArgs s_lempty) (defBody s_lempty) (defScope s_lempty) .none kV16 dc16 pm16 an16 cd16 ct16),sl16⟩) (c16:PySem.W.codeIn K cd16 "_law_empty" = true) (k16:PySem.W.keepIn K (.ref f16)=true)
    (a17:PySem.W.nsIn K mainGlobals "_law_begins" = some (some (.ref f17))) (l17:K.lookup f17=some ⟨oc17,od17,.func (PySem.W.fnOf "_law_begins" "_law_begins" (defArgs s_lbeg) (defBody s_lbeg) (defScope s_lbeg) .none kV17 dc17 pm17 an17 cd17 ct17),sl17⟩) (c17:PySem.W.codeIn K cd17 "_law_begins" = true) (k17:PySem.W.keepIn K (.ref f17)=true)
    (a18:PySem.W.nsIn K mainGlobals "_law_refused" = some (some (.ref f18))) (l18:K.lookup f18=some ⟨oc18,od18,.func (PySem.W.fnOf "_law_refused" "_law_refused" (defArgs s_lrefused) (defBody s_lrefused) (defScope s_lrefused) .none kV18 dc18 pm18 an18 cd18 ct18),sl18⟩) (c18:PySem.W.codeIn K cd18 "_law_refused" = true) (k18:PySem.W.keepIn K (.ref f18)=true)
    (a19:PySem.W.nsIn K mainGlobals "_law_has" = some (some (.ref f19))) (l19:K.lookup f19=some ⟨oc19,od19,.func (PySem.W.fnOf "_law_has" "_law_has" (defArgs s_lhas) (defBody s_lhas) (defScope s_lhas) .none kV19 dc19 pm19 an19 cd19 ct19),sl19⟩) (c19:PySem.W.codeIn K cd19 "_law_has" = true) (k19:PySem.W.keepIn K (.ref f19)=true)
    (a20:PySem.W.nsIn K mainGlobals "_law_lacking" = some (some (.ref f20))) (l20:K.lookup f20=some ⟨oc20,od20,.func (PySem.W.fnOf "_law_lacking" "_law_lacking" (defArgs s_llack) (defBody s_llack) (defScope s_llack) .none kV20 dc20 pm20 an20 cd20 ct20),sl20⟩) (c20:PySem.W.codeIn K cd20 "_law_lacking" = true) (k20:PySem.W.keepIn K (.ref f20)=true)
    (a21:PySem.W.nsIn K mainGlobals "law" = some (some (.ref f21))) (l21:K.lookup f21=some ⟨oc21,od21,.func (PySem.W.fnOf "law" "law" (defArgs s_law) (defBody s_law) (defScope s_law) .none kV21 dc21 pm21 an21 cd21 ct21),sl21⟩) (c21:PySem.W.codeIn K cd21 "law" = true) (k21:PySem.W.keepIn K (.ref f21)=true)
    (z0:PySem.W.nsIn K mainGlobals "len" = some none)
    (z1:PySem.W.nsIn K mainGlobals "max" = some none)
    (z2:PySem.W.nsIn K mainGlobals "min" = some none)
    (z3:PySem.W.nsIn K mainGlobals "isinstance" = some none)
    (z4:PySem.W.nsIn K mainGlobals "all" = some none)
    (z5:PySem.W.nsIn K mainGlobals "any" = some none)
    (z6:PySem.W.nsIn K mainGlobals "sorted" = some none)
    (z7:PySem.W.nsIn K mainGlobals "range" = some none)
    (z8:PySem.W.nsIn K mainGlobals "list" = some none)
    (z9:PySem.W.nsIn K mainGlobals "tuple" = some none)
    (z10:PySem.W.nsIn K mainGlobals "set" = some none)
    (z11:PySem.W.nsIn K mainGlobals "ValueError" = some none)
    {ta0:Addr} {odt0:Option Addr} {nt0:Nat} {slt0:Array (Option Value)} {tt0_0 tt0_1 tt0_2 tt0_3:Tok}
    (ga0:PySem.W.nsIn K mainGlobals "WORDS_EVER_EMPTY" = some (some (.ref ta0))) (gt0:K.lookup ta0=some ⟨.type "tuple", odt0,.seq #[.str "none" tt0_0,.str "again" tt0_1,.str "ahead" tt0_2,.str "not" tt0_3] nt0,slt0⟩)
    {C cR e0 e1 e2 e3 e4 e5 e6 e7 e8 e9:Addr}
    (x0:PySem.W.nsIn K mainGlobals "NoRule" = some (some (.ref C)))
    (x1:PySem.W.nsIn K mainGlobals "ReadError" = some (some (.ref cR)))
    (x2:PySem.W.nsIn K mainGlobals "Loops" = some (some (.ref e0)))
    (x3:PySem.W.nsIn K mainGlobals "NoBook" = some (some (.ref e1)))
    (x4:PySem.W.nsIn K mainGlobals "NoDeed" = some (some (.ref e2)))
    (x5:PySem.W.nsIn K mainGlobals "NoForm" = some (some (.ref e3)))
    (x6:PySem.W.nsIn K mainGlobals "NoName" = some (some (.ref e4)))
    (x7:PySem.W.nsIn K mainGlobals "NoPlace" = some (some (.ref e5)))
    (x8:PySem.W.nsIn K mainGlobals "NoRow" = some (some (.ref e6)))
    (x9:PySem.W.nsIn K mainGlobals "NoRows" = some (some (.ref e7)))
    (x10:PySem.W.nsIn K mainGlobals "NoText" = some (some (.ref e8)))
    (x11:PySem.W.nsIn K mainGlobals "TooMany" = some (some (.ref e9)))
    (xe:isExcIn K C)
    (xf1:PySem.W.findIn K (.ref C) "__getattribute__" = some (some (.builtin "BaseException.__getattribute__")))
    (xf2:PySem.W.findIn K (.ref C) "__getattr__" = some none)
    (xf3:PySem.W.findIn K (.ref C) "__class__" = some (some (.builtin "object.__class__")))
    (xf4:PySem.W.specialIn K (.builtin "object.__class__") "__get__" = some (some (.builtin "getset_descriptor.__get__")))
    (xf5:PySem.W.takesIn K (.builtin "object.__class__")=some true)
    (xf6:PySem.W.mroIn K C (.type "object")=some true)
    (xf7:PySem.W.mroIn K C (.type "BaseException")=some true)
    (xs:PySem.W.subIn K (.ref cR) (.type "BaseException")=some true)
    (xk:PySem.W.kitOne K (.ref C) (.ref cR)=some true)
    (xn:(Value.ref C == Value.ref cR)=false)
    (xa:PySem.W.kitAny K (.ref C) ([e0,e1,e2,e3,e4,e5,e6,e7,e8,e9].map Value.ref)=some false)
    (xv:PySem.W.kitOne K (.ref C) (.type "ValueError")=some true)
    : ∃ fd:FuncData,(∀ (s:Shared) (v:Value),BindsTo s fd ⟨[v],[]⟩ [("script", v)])∧∀ base:Heap,K.In base→base.Ns mainGlobals mg→FnOk l.prog w K mg base CX0 7 fa fd ["script"] (spLaw K):=by
  have e:=hfa.symm.trans (PySem.W.mg_of X G a21)
  cases e
  have T:Txt K mg:=⟨PySem.W.mg_none_of X G z0,PySem.W.mg_none_of X G z1,PySem.W.mg_none_of X G z2,PySem.W.mg_none_of X G z3,PySem.W.mg_none_of X G z4,PySem.W.mg_none_of X G z5,PySem.W.mg_none_of X G z6,PySem.W.mg_none_of X G z7,PySem.W.mg_none_of X G z8,PySem.W.mg_none_of X G z9,PySem.W.mg_none_of X G z10,PySem.W.mg_none_of X G z11,⟨ta0,PySem.W.mg_of X G ga0,fun _=>.inr ⟨_,_,_,gt0,rfl,rfl,(by show 4≤sizeLine; decide),(.cons ⟨_,rfl⟩ (.cons ⟨_,rfl⟩ (.cons ⟨_,rfl⟩ (.cons ⟨_,rfl⟩ Paired.nil))))⟩⟩⟩
  have F0:=fun_mk (st:=s_parts) l0 c0 k0
  have b0:=F0.binds (ps:=["form"]) fun _ _ _ _ _ _=>arg1 fun _=>rfl
  have F1:=fun_mk (st:=s_may) l1 c1 k1
  have b1:=F1.binds (ps:=["form", "empty"]) fun _ _ _ _ _ _=>arg2 fun _ _=>rfl
  have F2:=fun_mk (st:=s_enames) l2 c2 k2
  have b2:=F2.binds (ps:=["book"]) fun _ _ _ _ _ _=>arg1 fun _=>rfl
  have F3:=fun_mk (st:=s_brow) l3 c3 k3
  have b3:=F3.binds (ps:=["parts", "empty"]) fun _ _ _ _ _ _=>arg2 fun _ _=>rfl
  have F4:=fun_mk (st:=s_bform) l4 c4 k4
  have b4:=F4.binds (ps:=["form", "empty"]) fun _ _ _ _ _ _=>arg2 fun _ _=>rfl
  have F5:=fun_mk (st:=s_formof) l5 c5 k5
  have b5:=F5.binds (ps:=["book", "name"]) fun _ _ _ _ _ _=>arg2 fun _ _=>rfl
  have F6:=fun_mk (st:=s_begins) l6 c6 k6
  have b6:=F6.binds (ps:=["book", "name"]) fun _ _ _ _ _ _=>arg2 fun _ _=>rfl
  have F7:=fun_mk (st:=s_cell) l7 c7 k7
  have b7:=F7.binds (ps:=["script", "k"]) fun _ _ _ _ _ _=>arg2 fun _ _=>rfl
  have F8:=fun_mk (st:=s_bag) l8 c8 k8
  have b8:=F8.binds (ps:=["cell", "place"]) fun _ _ _ _ _ _=>arg2 fun _ _=>rfl
  have F9:=fun_mk (st:=s_draw) l9 c9 k9
  have b9:=F9.binds (ps:=["bag", "many"]) fun _ _ _ _ _ _=>arg2 fun _ _=>rfl
  have F10:=fun_mk (st:=s_name) l10 c10 k10
  have b10:=F10.binds (ps:=["bag", "last"]) fun _ _ _ _ _ _=>arg2 fun _ _=>rfl
  have F11:=fun_mk (st:=s_names) l11 c11 k11
  have b11:=F11.binds (ps:=["bag", "many"]) fun _ _ _ _ _ _=>arg2 fun _ _=>rfl
  have F12:=fun_mk (st:=s_signs) l12 c12 k12
  have b12:=F12.binds (ps:=["bag"]) fun _ _ _ _ _ _=>arg1 fun _=>rfl
  have F13:=fun_mk (st:=s_form) l13 c13 k13
  have b13:=F13.binds (ps:=["bag", "names"]) fun _ _ _ _ _ _=>arg2 fun _ _=>rfl
  have F14:=fun_mk (st:=s_book) l14 c14 k14
  have b14:=F14.binds (ps:=["bag"]) fun _ _ _ _ _ _=>arg1 fun _=>rfl
  have F15:=fun_mk (st:=s_chain) l15 c15 k15
  have b15:=F15.binds (ps:=["bag"]) fun _ _ _ _ _ _=>arg1 fun _=>rfl
  have F16:=fun_mk (st:=s_lempty) l16 c16 k16
  have b16:=F16.binds (ps:=["book"]) fun _ _ _ _ _ _=>arg1 fun _=>rfl
  have F17:=fun_mk (st:=s_lbeg) l17 c17 k17
  have b17:=F17.binds (ps:=["form", "empty"]) fun _ _ _ _ _ _=>arg2 fun _ _=>rfl
  have F18:=fun_mk (st:=s_lrefused) l18 c18 k18
  have b18:=F18.binds (ps:=["book", "name"]) fun _ _ _ _ _ _=>arg2 fun _ _=>rfl
  have F19:=fun_mk (st:=s_lhas) l19 c19 k19
  have b19:=F19.binds (ps:=["book", "name"]) fun _ _ _ _ _ _=>arg2 fun _ _=>rfl
  have F20:=fun_mk (st:=s_llack) l20 c20 k20
  have b20:=F20.binds (ps:=["book"]) fun _ _ _ _ _ _=>arg1 fun _=>rfl
  have F21:=fun_mk (st:=s_law) l21 c21 k21
  have b21:=F21.binds (ps:=["script"]) fun _ _ _ _ _ _=>arg1 fun _=>rfl
  refine ⟨PySem.W.fnOf "law" "law" (defArgs s_law) (defBody s_law) (defScope s_law) .none kV21 dc21 pm21 an21 cd21 ct21,fun s v=>.of_eq rfl,fun base _ _=>?_⟩
  have O_parts_of:Own l.prog w K mg base "parts_of" 1 ["form"] (spM K c_parts_of):=⟨f0,_,ok_parts F0 T l_parts h_parts,PySem.W.mg_of X G a0,k0,b0⟩
  have O_may_be_empty:Own l.prog w K mg base "may_be_empty" 2 ["form", "empty"] (spM K c_may_be_empty):=⟨f1,_,ok_may F1 T O_parts_of l_may h_may,PySem.W.mg_of X G a1,k1,b1⟩
  have O_empty_names:Own l.prog w K mg base "empty_names" 3 ["book"] (spM K c_empty_names):=⟨f2,_,ok_enames F2 T O_may_be_empty l_enames h_enames,PySem.W.mg_of X G a2,k2,b2⟩
  have O_begins_of_row:Own l.prog w K mg base "begins_of_row" 1 ["parts", "empty"] (spM K c_begins_of_row):=⟨f3,_,ok_brow F3 T l_brow h_brow,PySem.W.mg_of X G a3,k3,b3⟩
  have O_begins_of_form:Own l.prog w K mg base "begins_of_form" 2 ["form", "empty"] (spM K c_begins_of_form):=⟨f4,_,ok_bform F4 T O_parts_of O_begins_of_row l_bform h_bform,PySem.W.mg_of X G a4,k4,b4⟩
  have O_form_of:Own l.prog w K mg base "form_of" 1 ["book", "name"] (spM K c_form_of):=⟨f5,_,ok_formof F5 T l_formof h_formof,PySem.W.mg_of X G a5,k5,b5⟩
  have O_begins:Own l.prog w K mg base "begins" 4 ["book", "name"] (spM K c_begins):=⟨f6,_,ok_begins F6 T O_form_of O_begins_of_form O_empty_names l_begins h_begins,PySem.W.mg_of X G a6,k6,b6⟩
  have O_law_cell_at:Own l.prog w K mg base "_law_cell_at" 1 ["script", "k"] (spM K c_law_cell_at):=⟨f7,_,ok_cell F7 T l_cell h_cell,PySem.W.mg_of X G a7,k7,b7⟩
  have O_law_bag:Own l.prog w K mg base "_law_bag" 1 ["cell", "place"] (spM K c_law_bag):=⟨f8,_,ok_bag F8 T l_bag h_bag,PySem.W.mg_of X G a8,k8,b8⟩
  have O_law_draw:Own l.prog w K mg base "_law_draw" 1 ["bag", "many"] (spM K c_law_draw):=⟨f9,_,ok_draw F9 T l_draw h_draw,PySem.W.mg_of X G a9,k9,b9⟩
  have O_law_name:Own l.prog w K mg base "_law_name" 2 ["bag", "last"] (spM K c_law_name):=⟨f10,_,ok_name F10 T O_law_draw l_name h_name,PySem.W.mg_of X G a10,k10,b10⟩
  have O_law_names:Own l.prog w K mg base "_law_names" 3 ["bag", "many"] (spM K c_law_names):=⟨f11,_,ok_names F11 T O_law_name l_names h_names,PySem.W.mg_of X G a11,k11,b11⟩
  have O_law_signs:Own l.prog w K mg base "_law_signs" 2 ["bag"] (spM K c_law_signs):=⟨f12,_,ok_signs F12 T O_law_draw l_signs h_signs,PySem.W.mg_of X G a12,k12,b12⟩
  have O_law_form:Own l.prog w K mg base "_law_form" 3 ["bag", "names"] (spM K c_law_form):=⟨f13,_,ok_form F13 T O_law_draw O_law_signs l_form h_form,PySem.W.mg_of X G a13,k13,b13⟩
  have O_law_book:Own l.prog w K mg base "_law_book" 4 ["bag"] (spM K c_law_book):=⟨f14,_,ok_book F14 T O_law_draw O_law_names O_law_form l_book h_book,PySem.W.mg_of X G a14,k14,b14⟩
  have O_law_chain:Own l.prog w K mg base "_law_chain" 4 ["bag"] (spM K c_law_chain):=⟨f15,_,ok_chain F15 T O_law_draw O_law_names l_chain h_chain,PySem.W.mg_of X G a15,k15,b15⟩
  have O_law_empty:Own l.prog w K mg base "_law_empty" 1 ["book"] (spM K c_law_empty):=⟨f16,_,ok_lempty F16 T l_lempty h_lempty,PySem.W.mg_of X G a16,k16,b16⟩
  have O_law_begins:Own l.prog w K mg base "_law_begins" 1 ["form", "empty"] (spM K c_law_begins):=⟨f17,_,ok_lbeg F17 T l_lbeg h_lbeg,PySem.W.mg_of X G a17,k17,b17⟩
  have okF:=okx_formof (P:=l.prog) (w:=w) (base:=base) F5 T (PySem.W.mg_of X G x0) xe
  have okB:=okx_begins (P:=l.prog) (w:=w) (base:=base) F6 okF (PySem.W.mg_of X G a5) k5 b5
  have O_law_refused:Own l.prog w K mg base "_law_refused" 3 ["book", "name"] (spM K c_law_refused):=⟨f18,_,ok_lrefused F18 T okB (PySem.W.mg_of X G a6) k6 b6 (excCl_of xe xf1 xf2 xf3 xf4 xf5 xf6 xf7) (PySem.W.mg_of X G x1) (exm_of xs xk xn) (PySem.W.mg_of X G x0) (PySem.W.mg_of X G x2) (PySem.W.mg_of X G x3) (PySem.W.mg_of X G x4) (PySem.W.mg_of X G x5) (PySem.W.mg_of X G x6) (PySem.W.mg_of X G x7) (PySem.W.mg_of X G x8) (PySem.W.mg_of X G x9) (PySem.W.mg_of X G x10) (PySem.W.mg_of X G x11) xa xv,PySem.W.mg_of X G a18,k18,b18⟩
  have O_law_has:Own l.prog w K mg base "_law_has" 1 ["book", "name"] (spM K c_law_has):=⟨f19,_,ok_lhas F19 T l_lhas h_lhas,PySem.W.mg_of X G a19,k19,b19⟩
  have O_law_lacking:Own l.prog w K mg base "_law_lacking" 2 ["book"] (spM K c_law_lacking):=⟨f20,_,ok_llack F20 T O_law_has l_llack h_llack,PySem.W.mg_of X G a20,k20,b20⟩
  exact (ok_law F21 T O_law_cell_at O_law_bag O_law_name O_law_draw O_law_chain O_law_book O_law_empty O_begins O_law_begins O_law_lacking O_law_has O_law_refused l_law h_law).imp law_sp
theorem walk {l:PySem.W.OpenLaw} {q:Program} {loose:List Str} {XP:(Str→Option Value)→Heap→Prop} {YP:World→Heap→Prop} {d:DefRec} {K:Params→PySem.W.Frag} (hn:l.most=some 63) (hdf:d.params.defaults=[])
    (hY:∀ (w:World) (h:Heap),YP w h→(K w.params).In h)
    (F:∀ (w:World) (mg:Str→Option Value) (fa:Addr) (h:Heap),(K w.params).In h→h.Ns mainGlobals mg→mg d.name=some (.ref fa) →
      ∃ fd:FuncData,(∀ (s:Shared) (u:Value),BindsTo s fd ⟨[u],[]⟩ [("script", u)])∧∀ base:Heap,(K w.params).In base→base.Ns mainGlobals mg→FnOk l.prog w (K w.params) mg base CX0 7 fa fd ["script"] (spLaw (K w.params))) :
    PySem.W.WalkO q loose XP YP l.row.toRowW d [] (fun f vs=>PySem.call f vs) :=
  L2.walk_of (n:=63) (k:=7) (x := "script") (CX:=fun _=>CX0) (sp:=fun w=>spLaw (K w.params)) hn (by decide) hdf ⟨rfl,by decide,by decide,rfl⟩ hY F (fun _ _ a ns hl _ hS=>⟨a,ns,rfl,hS,hl,fun _=>rfl⟩) fun _ _ _ _ _ z=>z
end KR
open PySem PySem.W PyProof.Rows
set_option maxRecDepth 100000 in
set_option maxHeartbeats 0 in
theorem PySem.Challenge.cw_keptreading_k06_begins_holds : PySem.Challenge.rw_keptreading_k06_begins.Holds := by
  w_on; o_law; k_head; (case hw=>w_witness2)
  k_fill
  refine KR.walk (l:=PySem.Challenge.rw_keptreading_k06_begins) rfl rfl (fun w h Y=>PySem.W.kIn_of Y) ?F
  case F =>
    intro w mg fa h KX G hmg
    refine' KR.all_mk KX G hmg ?a0 ?l0 ?c0 ?k0 ?a1 ?l1 ?c1 ?k1 ?a2 ?l2 ?c2 ?k2 ?a3 ?l3 ?c3 ?k3 ?a4 ?l4 ?c4 ?k4 ?a5 ?l5 ?c5 ?k5 ?a6 ?l6 ?c6 ?k6 ?a7 ?l7 ?c7 ?k7 ?a8 ?l8 ?c8 ?k8 ?a9 ?l9 ?c9 ?k9 ?a10 ?l10 ?c10 ?k10 ?a11 ?l11 ?c11 ?k11 ?a12 ?l12 ?c12 ?k12 ?a13 ?l13 ?c13 ?k13 ?a14 ?l14 ?c14 ?k14 ?a15 ?l15 ?c15 ?k15 ?a16 ?l16 ?c16 ?k16 ?a17 ?l17 ?c17 ?k17 ?a18 ?l18 ?c18 ?k18 ?a19 ?l19 ?c19 ?k19 ?a20 ?l20 ?c20 ?k20 ?a21 ?l21 ?c21 ?k21 ?z0 ?z1 ?z2 ?z3 ?z4 ?z5 ?z6 ?z7 ?z8 ?z9 ?z10 ?z11 ?ga0 ?gt0 ?x0 ?x1 ?x2 ?x3 ?x4 ?x5 ?x6 ?x7 ?x8 ?x9 ?x10 ?x11 ?xe ?xf1 ?xf2 ?xf3 ?xf4 ?xf5 ?xf6 ?xf7 ?xs ?xk ?xn ?xa ?xv
    (case a0=>k_is); (case l0=>k_is); (case c0=>k_is); (case k0=>k_is); (case a1=>k_is); (case l1=>k_is)
    (case c1=>k_is); (case k1=>k_is); (case a2=>k_is); (case l2=>k_is); (case c2=>k_is); (case k2=>k_is)
    (case a3=>k_is); (case l3=>k_is); (case c3=>k_is); (case k3=>k_is); (case a4=>k_is); (case l4=>k_is)
    (case c4=>k_is); (case k4=>k_is); (case a5=>k_is); (case l5=>k_is); (case c5=>k_is); (case k5=>k_is)
    (case a6=>k_is); (case l6=>k_is); (case c6=>k_is); (case k6=>k_is); (case a7=>k_is); (case l7=>k_is)
    (case c7=>k_is); (case k7=>k_is); (case a8=>k_is); (case l8=>k_is); (case c8=>k_is); (case k8=>k_is)
    (case a9=>k_is); (case l9=>k_is); (case c9=>k_is); (case k9=>k_is); (case a10=>k_is); (case l10=>k_is)
    (case c10=>k_is); (case k10=>k_is); (case a11=>k_is); (case l11=>k_is); (case c11=>k_is); (case k11=>k_is)
    (case a12=>k_is); (case l12=>k_is); (case c12=>k_is); (case k12=>k_is); (case a13=>k_is); (case l13=>k_is)
    (case c13=>k_is); (case k13=>k_is); (case a14=>k_is); (case l14=>k_is); (case c14=>k_is); (case k14=>k_is)
    (case a15=>k_is); (case l15=>k_is); (case c15=>k_is); (case k15=>k_is); (case a16=>k_is); (case l16=>k_is)
    (case c16=>k_is); (case k16=>k_is); (case a17=>k_is); (case l17=>k_is); (case c17=>k_is); (case k17=>k_is)
    (case a18=>k_is); (case l18=>k_is); (case c18=>k_is); (case k18=>k_is); (case a19=>k_is); (case l19=>k_is)
    (case c19=>k_is); (case k19=>k_is); (case a20=>k_is); (case l20=>k_is); (case c20=>k_is); (case k20=>k_is)
    (case a21=>k_is); (case l21=>k_is); (case c21=>k_is); (case k21=>k_is); (case z0=>k_is); (case z1=>k_is)
    (case z2=>k_is); (case z3=>k_is); (case z4=>k_is); (case z5=>k_is); (case z6=>k_is); (case z7=>k_is)
    (case z8=>k_is); (case z9=>k_is); (case z10=>k_is); (case z11=>k_is)
    (case ga0=>k_is); (case gt0=>k_is)
    (case x0=>k_is)
    (case x1=>k_is)
    (case x2=>k_is)
    (case x3=>k_is)
    (case x4=>k_is)
    (case x5=>k_is)
    (case x6=>k_is)
    (case x7=>k_is)
    (case x8=>k_is)
    (case x9=>k_is)
    (case x10=>k_is)
    (case x11=>k_is)
    (case xe=>(show PySem.W.excIn _ _ [.type "ValueError", .type "Exception", .type "BaseException", .type "object"] "ValueError.__new__" = true; k_exc))
    (case xf1=>k_is)
    (case xf2=>k_is)
    (case xf3=>k_is)
    (case xf4=>k_is)
    (case xf5=>k_is)
    (case xf6=>k_is)
    (case xf7=>k_is)
    (case xs=>k_is)
    (case xk=>kit_is)
    (case xn=>first | rfl | decide)
    (case xa=>kit_is)
    (case xv=>kit_is)
