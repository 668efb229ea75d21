import PyProof.Rows.All
import Wide.All
import OpenK.AllK
import Wide.FinOn
import Lean
import PyProof.EqAt
import PyProof.EqKinds
import PyProof.TupleCall
import PySem.Challenge.RW_splitstream_k10_nets_read_and_written
set_option Elab.async false
set_option linter.all false
set_option maxRecDepth 100000
set_option maxHeartbeats 4000000
set_option exponentiation.threshold 10000
namespace L2
open PySem PySem.Spec PyProof.Rows
abbrev Key:=Sum Int Str
def keyIs : Key → Value → Bool
  | .inl k,v=>Value.isInt k v
  | .inr x,v=>Value.isStrOf x v
def keyH (w : World) : Key → Int
  | .inl k=>hashInt k
  | .inr x=>hashStr w x
theorem keyIs_shape : ∀ {k : Key} {v : Value},keyIs k v = true → (∃ i t,k = Sum.inl i ∧ v = Value.int i t) ∨ (∃ x t,k = Sum.inr x ∧ v = Value.str x t)
  | .inl i,v,h=>by
    obtain ⟨t,e⟩:=Value.isInt_shape (k:=i) (v:=v) h
    exact .inl ⟨i,t,rfl,e⟩
  | .inr x,v,h=>by
    obtain ⟨t,e⟩:=Value.isStrOf_shape (x:=x) (v:=v) h
    exact .inr ⟨x,t,rfl,e⟩
theorem key_ll (a b : Int) : decide ((Sum.inl a : Key) = Sum.inl b) = (a == b):=by
  by_cases e : a = b
  · subst e; simp
  · have h : ¬ (Sum.inl a : Key) = Sum.inl b:=fun q=>e (Sum.inl.inj q)
    rw [decide_eq_false h]
    exact (beq_eq_false_iff_ne.mpr e).symm
theorem key_rr (a b : Str) : decide ((Sum.inr a : Key) = Sum.inr b) = decide (a = b):=by
  by_cases e : a = b
  · subst e; simp
  · have h : ¬ (Sum.inr a : Key) = Sum.inr b:=fun q=>e (Sum.inr.inj q)
    rw [decide_eq_false h,decide_eq_false e]
theorem key_lr (a : Int) (b : Str) : decide ((Sum.inl a : Key) = Sum.inr b) = false:=decide_eq_false (fun q=>nomatch q)
theorem key_rl (a : Str) (b : Int) : decide ((Sum.inr a : Key) = Sum.inl b) = false:=decide_eq_false (fun q=>nomatch q)
def mixKind (prog : Program) (w : World) : PySem.KeyKind prog w Key where
  is:=keyIs
  hash:=keyH w
  inj:=fun v a b ha hb=>by
    rcases keyIs_shape ha with ⟨i,t,rfl,rfl⟩ | ⟨x,t,rfl,rfl⟩
    · rcases keyIs_shape hb with ⟨j,u,rfl,e⟩ | ⟨y,u,rfl,e⟩
      · injection e with e1 _; rw [e1]
      · exact nomatch e
    · rcases keyIs_shape hb with ⟨j,u,rfl,e⟩ | ⟨y,u,rfl,e⟩
      · exact nomatch e
      · injection e with e1 _; rw [e1]
  byValue:=fun k v h=>by
    rcases keyIs_shape h with ⟨i,t,rfl,rfl⟩ | ⟨x,t,rfl,rfl⟩ <;> rfl
  pyHash:=fun hv h=>by
    rcases keyIs_shape hv with ⟨i,t,rfl,rfl⟩ | ⟨x,t,rfl,rfl⟩
    · exact wpAny_pyHash_int h
    · exact wpAny_pyHash_str h
  eqBool:=fun hu hv h=>by
    rcases keyIs_shape hu with ⟨i,t,rfl,rfl⟩ | ⟨x,t,rfl,rfl⟩
    · rcases keyIs_shape hv with ⟨j,u,rfl,rfl⟩ | ⟨y,u,rfl,rfl⟩
      · rw [key_ll] at h; exact wpAny_eqBool_int h
      · rw [key_lr] at h; exact SeqAt.EqAt.int_str i t y u _ _ _ _ h
    · rcases keyIs_shape hv with ⟨j,u,rfl,rfl⟩ | ⟨y,u,rfl,rfl⟩
      · rw [key_rl] at h; exact SeqAt.EqAt.str_int x t j u _ _ _ _ h
      · rw [key_rr] at h; exact wpAny_eqBool_str h
  «strs»:=fun k x t v h=>by
    rcases keyIs_shape h with ⟨i,u,rfl,e⟩ | ⟨y,u,rfl,e⟩
    · exact nomatch e
    · injection e with e1 _
      subst e1
      cases v <;> rfl
end L2
namespace L2
open PySem PySem.Spec PyProof.Rows
inductive V where
  | non | bl (b : Bool) | int (i : Int) | str (x : Str) | byt (b : Array UInt8) | flt (b : UInt64) | ref (a : Addr) | ty (n : String)
  deriving DecidableEq
def RelV : V → Value → Prop
  | .non,u=>u = Value.none
  | .bl b,u=>u = Value.bool b
  | .int i,u=>∃ t,u = Value.int i t
  | .str x,u=>∃ t,u = Value.str x t
  | .byt b,u=>∃ t,u = Value.bytes b t
  | .flt b,u=>∃ t,u = Value.float b t
  | .ref a,u=>u = Value.ref a
  | .ty n,u=>u = Value.type n
abbrev Vals : List V → List Value → Prop:=Paired RelV
theorem Vals.length {xs : List V} {us : List Value} (r : Vals xs us) : xs.length = us.length:=Paired.length r
theorem Vals.get : ∀ {xs : List V} {us : List Value} {i : Nat} {x : V},Vals xs us → xs[i]? = some x → ∃ u,us[i]? = some u ∧ RelV x u
  | _,_,_,_,.nil,e=>by simp at e
  | _,_,0,_,.cons r _,e=>by simp at e; subst e; exact ⟨_,rfl,r⟩
  | _,_,i + 1,x,.cons _ t,e=>by
    obtain ⟨u,h1,h2⟩:=Vals.get (i:=i) (x:=x) t (by simpa using e)
    exact ⟨u,by simpa using h1,h2⟩
theorem Vals.set {x : V} {u : Value} (r : RelV x u) : ∀ {xs : List V} {us : List Value} (i : Nat),Vals xs us → Vals (xs.set i x) (us.set i u)
  | _,_,_,.nil=>.nil
  | _,_,0,.cons _ t=>.cons r t
  | _,_,i + 1,.cons q t=>.cons q (Vals.set r i t)
theorem Vals.append : ∀ {xs ys : List V} {us ws : List Value},Vals xs us → Vals ys ws → Vals (xs ++ ys) (us ++ ws)
  | _,_,_,_,.nil,s=>s
  | _,_,_,_,.cons r t,s=>.cons r (Vals.append t s)
theorem Vals.take : ∀ {xs : List V} {us : List Value} (n : Nat),Vals xs us → Vals (xs.take n) (us.take n)
  | _,_,0,_=>.nil
  | _,_,_ + 1,.nil=>.nil
  | _,_,n + 1,.cons r t=>.cons r (Vals.take n t)
theorem Vals.drop : ∀ {xs : List V} {us : List Value} (n : Nat),Vals xs us → Vals (xs.drop n) (us.drop n)
  | _,_,0,r=>r
  | _,_,_ + 1,.nil=>.nil
  | _,_,n + 1,.cons _ t=>Vals.drop n t
def RelO : Option V → Option Value → Prop
  | some v,some u=>RelV v u
  | none,none=>True
  | _,_=>False
def KV {κ : Type} : List (κ × V) → List (κ × Value) → Prop:=Paired fun (p : κ × V) (q : κ × Value)=>p.1 = q.1 ∧ RelV p.2 q.2
def kV : Key → V
  | .inl i=>.int i
  | .inr x=>.str x
inductive HO where
    | lst (xs : List V)
    | tup (xs : List V)
    | dK (kvs : List (Key × V)) | dT (kvs : List (List Key × V))
    | set (S : Int → Bool) (n : Nat)
    | ins (C dx : Addr) (fs : List (Str × V))
    | own (x : Addr)
    | xd (fs : List (Str × V))
    | met (f x : Addr)
    | rng (lo hi : Int)
    | frz (o : Obj) (u : HO)
    | tbl (ps : Array Value)
    | ext (φ : Heap → Prop)
abbrev Hp:=Addr → Option HO
def upd (H : Hp) (a : Addr) (o : HO) : Hp:=fun b=>if b = a then some o else H b
theorem upd_same {H : Hp} {a : Addr} {o : HO} : upd H a o a = some o:=by unfold upd; rw [if_pos rfl]
theorem upd_ne {H : Hp} {a b : Addr} {o : HO} (h : b ≠ a) : upd H a o b = H b:=by unfold upd; rw [if_neg h]
theorem ne_of {H : Hp} {a b : Addr} {o u : HO} (h : H a = some o) (h' : H b = some u) (d : o ≠ u) : a ≠ b:=by
  intro e; subst e; rw [h] at h'; exact d (Option.some.inj h')
theorem ne_of_none {H : Hp} {a b : Addr} {o : HO} (h : H a = some o) (h' : H b = none) : a ≠ b:=by
  intro e; subst e; rw [h] at h'; cases h'
section
variable (P : Program) (w : World)
def ObjOk (H : Hp) (h : Heap) (a : Addr) : HO → Prop
  | .lst xs=>xs.length ≤ sizeLine ∧ ∃ (its : List Value) (n : Nat),Vals xs its ∧ h.get? a = some { cls:=.type "list",data:=.seq its.toArray n }
  | .tup xs=>xs.length ≤ sizeLine ∧ ∃ its : List Value,Vals xs its ∧ IsTup h a its.toArray
  | .dK kvs=>kvs.length ≤ sizeLine ∧ (a == sysModules) = false ∧ ∃ vs,KV kvs vs ∧ h.DictOf (mixKind P w) a vs
  | .dT kvs=>kvs.length ≤ sizeLine ∧ (a == sysModules) = false ∧ ∃ xs : List (List Key × Addr × Value),
      Paired (fun (p : List Key × V) (q : List Key × Addr × Value)=>p.1 = q.1 ∧ H q.2.1 = some (.tup (p.1.map kV)) ∧ RelV p.2 q.2.2) kvs xs ∧
      ∃ o es ep,h.get? a = some o ∧ o.ExactDict ∧ o.data = .dict es ep ∧ es.toList = xs.map (entryOfKey (tupleKind (mixKind P w))) ∧ (xs.map (·.1)).Nodup
  | .set S n=>h.SetOf (intKind P w) a S n
  | .ins C dx fs=>H dx = some (.own a) ∧ fs.length ≤ 1000 ∧ dx ≠ a ∧ h.get? a = some (PySem.W.instObj C dx) ∧
      ∃ mA,h.Ns1 dx mA ∧ (∀ f,RelO (fs.lookup f) (mA f)) ∧ PySem.Within mA (fs.map (·.1))
  | .own _=>∃ o,h.get? a = some o
  | .xd fs=>∃ mA,h.Ns1 a mA ∧ ∀ f,RelO (fs.lookup f) (mA f)
  | .rng lo hi=>∃ t u v,h.get? a = some { cls:=.type "range",data:=.fields #[.int lo t,.int hi u,.int 1 v] }
  | .frz o u=>h.get? a = some o ∧ ObjOk H h a u
  | .tbl ps=>h.get? a = some { cls:=.none,data:=.fields ps }
  | .met f x=>h.get? a = some (PySem.W.methodObj (.ref f) (.ref x))
  | .ext φ=>φ h ∧ (∃ o,h.get? a = some o) ∧ ∀ h1 h2 : Heap,φ h1 → (∀ o,h1.get? a = some o → h2.get? a = some o) → φ h2
def HOk (H : Hp) (h : Heap) : Prop:=∀ a o,H a = some o → ObjOk P w H h a o
end
section
variable {P : Program} {w : World} {H H' : Hp} {h h' : Heap} {a : Addr} {o : HO}
theorem ObjOk.lt (x : ObjOk P w H h a o) : a < h.objs.size:=by
  cases o with
  | lst xs=>obtain ⟨_,_,_,_,e⟩:=x; exact Heap.lt_size e
  | tup xs=>obtain ⟨_,_,_,p⟩:=x; exact p.lt
  | dK kvs=>obtain ⟨_,_,_,_,o,_,_,e,_⟩:=x; exact Heap.lt_size e
  | dT kvs=>obtain ⟨_,_,_,_,o,_,_,e,_⟩:=x; exact Heap.lt_size e
  | set S n=>obtain ⟨o,_,_,_,e,_⟩:=x; exact Heap.lt_size e
  | ins C dx fs=>obtain ⟨_,_,_,e,_⟩:=x; exact Heap.lt_size e
  | own y=>obtain ⟨_,e⟩:=x; exact Heap.lt_size e
  | xd fs=>obtain ⟨_,⟨_,_,_,e,_⟩,_⟩:=x; exact Heap.lt_size e
  | rng lo hi=>obtain ⟨_,_,_,e⟩:=x; exact Heap.lt_size e
  | frz ob u=>obtain ⟨e,_⟩:=x; exact Heap.lt_size e
  | tbl ps=>exact Heap.lt_size (show h.get? a = some _ from x)
  | met f y=>exact Heap.lt_size (show h.get? a = some _ from x)
  | ext φ=>obtain ⟨_,⟨_,e⟩,_⟩:=x; exact Heap.lt_size e
theorem Paired.mapP {α β : Type} {F G : α → β → Prop} : ∀ {l₁ : List α} {l₂ : List β},Paired F l₁ l₂ → (∀ a b,F a b → G a b) → Paired G l₁ l₂
  | _,_,.nil,_=>.nil
  | _,_,.cons r t,f=>.cons (f _ _ r) (Paired.mapP t f)
theorem ObjOk.stay (x : ObjOk P w H h a o) (k : ∀ b u,(b = a ∨ H b = some (.own a)) → h.get? b = some u → h'.get? b = some u)
    (ho : ∀ b,H b = some (.own a) → H' b = some (.own a)) (ht : ∀ b xs,H b = some (.tup xs) → H' b = some (.tup xs)) : ObjOk P w H' h' a o:=by
  induction o with
  | lst xs=>obtain ⟨z,its,n,r,e⟩:=x; exact ⟨z,its,n,r,k _ _ (.inl rfl) e⟩
  | tup xs=>obtain ⟨z,its,r,ob,e,c⟩:=x; exact ⟨z,its,r,ob,k _ _ (.inl rfl) e,c⟩
  | dK kvs=>obtain ⟨z,y,vs,r,ob,es,ep,e,c⟩:=x; exact ⟨z,y,vs,r,ob,es,ep,k _ _ (.inl rfl) e,c⟩
  | dT kvs =>
    obtain ⟨z,y,xs,r,ob,es,ep,e,c⟩:=x
    exact ⟨z,y,xs,Paired.mapP r fun p q z=>⟨z.1,ht _ _ z.2.1,z.2.2⟩,ob,es,ep,k _ _ (.inl rfl) e,c⟩
  | set S n=>obtain ⟨ob,es,ep,t,e,c⟩:=x; exact ⟨ob,es,ep,t,k _ _ (.inl rfl) e,c⟩
  | ins C dx fs =>
    obtain ⟨d,z,ne,e,mA,⟨od,es,ep,e2,c⟩,r⟩:=x
    exact ⟨ho _ d,z,ne,k _ _ (.inl rfl) e,mA,⟨od,es,ep,k _ _ (.inr d) e2,c⟩,r⟩
  | own y=>obtain ⟨ob,e⟩:=x; exact ⟨ob,k _ _ (.inl rfl) e⟩
  | xd fs=>obtain ⟨mA,⟨od,es,ep,e,c⟩,r⟩:=x; exact ⟨mA,⟨od,es,ep,k _ _ (.inl rfl) e,c⟩,r⟩
  | rng lo hi=>obtain ⟨t,u,v,e⟩:=x; exact ⟨t,u,v,k _ _ (.inl rfl) e⟩
  | frz ob u ih=>obtain ⟨e,q⟩:=x; exact ⟨k _ _ (.inl rfl) e,ih q⟩
  | tbl ps =>
    have e : h.get? a = some { cls:=.none,data:=.fields ps }:=x
    show h'.get? a = some { cls:=.none,data:=.fields ps }
    exact k a _ (.inl rfl) e
  | met f y =>
    have e : h.get? a = some (PySem.W.methodObj (.ref f) (.ref y)):=x
    show h'.get? a = some (PySem.W.methodObj (.ref f) (.ref y))
    exact k a _ (.inl rfl) e
  | ext φ=>obtain ⟨p,⟨o,e⟩,st⟩:=x; exact ⟨st _ _ p fun o q=>k _ _ (.inl rfl) q,⟨o,k _ _ (.inl rfl) e⟩,st⟩
theorem HOk.lt (x : HOk P w H h) (e : H a = some o) : a < h.objs.size:=(x a o e).lt
theorem HOk.fresh (x : HOk P w H h) (e : h.objs.size ≤ a) : H a = none:=by
  cases q : H a with
  | none=>rfl
  | some u=>exact absurd (Nat.lt_of_lt_of_le (x.lt q) e) (Nat.lt_irrefl _)
theorem HOk.kept (x : HOk P w H h) (k : ∀ b u,h.get? b = some u → h'.get? b = some u) : HOk P w H h':=fun a o e =>
  (x a o e).stay (fun b u _ q=>k b u q) (fun _ q=>q) fun _ _ q=>q
theorem HOk.laid (x : HOk P w H h) (k : ∀ b u,h.get? b = some u → h'.get? b = some u) (hp : h.objs.size ≤ a) (new : ObjOk P w (upd H a o) h' a o) : HOk P w (upd H a o) h':=fun b u e=>by
  have hn:=x.fresh hp
  by_cases hb : b = a
  · subst hb; rw [upd_same] at e; cases e; exact new
  · rw [upd_ne hb] at e
    exact (x b u e).stay (fun c v _ q=>k c v q) (fun c q=>by rw [upd_ne (ne_of_none q hn)]; exact q) fun c xs q=>by rw [upd_ne (ne_of_none q hn)]; exact q
end
def Rd (H : Hp) (a : Addr) (u : HO) : Prop:=H a = some u ∨ ∃ o,H a = some (.frz o u)
theorem Rd.ok {P : Program} {w : World} {H : Hp} {h : Heap} {a : Addr} {u : HO} (r : Rd H a u) (x : HOk P w H h) : ObjOk P w H h a u:=by
  rcases r with r | ⟨o,r⟩
  · exact x a u r
  · obtain ⟨_,q⟩:=x a _ r
    exact q
def Mut : Option HO → Prop
  | some (.lst _)=>True
  | some (.dK _)=>True
  | some (.dT _)=>True
  | some (.set _ _)=>True
  | some (.ins _ _ _)=>True
  | some (.ext _)=>True
  | _=>False
section
variable {P : Program} {w : World} {H : Hp} {h h' : Heap} {x e : Addr} {o' : HO}
theorem HOk.write (ok : HOk P w H h) (mu : Mut (H x)) (he : e = x ∨ H e = some (.own x)) (k : ∀ b u,b ≠ e → h.get? b = some u → h'.get? b = some u) (heo : ∃ u,h'.get? e = some u)
    (new : ObjOk P w (upd H x o') h' x o') : HOk P w (upd H x o') h':=fun b u q=>by
  have nown : ∀ c y,H c = some (.own y) → c ≠ x:=fun c y r z=>by subst z; rw [r] at mu; exact mu
  have ntup : ∀ c xs,H c = some (.tup xs) → c ≠ x:=fun c xs r z=>by subst z; rw [r] at mu; exact mu
  by_cases hb : b = x
  · subst hb; rw [upd_same] at q; cases q; exact new
  · rw [upd_ne hb] at q
    by_cases hbe : b = e
    · have q' : H b = some (.own x):=by
        rcases he with z | z
        · exact absurd (hbe.trans z) hb
        · rw [hbe]; exact z
      rw [q] at q'; cases q'
      obtain ⟨v,hv⟩:=heo
      exact ⟨v,by rw [hbe]; exact hv⟩
    · refine (ok b u q).stay (fun c v hc r=>k c v ?_ r) (fun c r=>by rw [upd_ne (nown c b r)]; exact r) fun c xs r=>by rw [upd_ne (ntup c xs r)]; exact r
      rcases hc with rfl | hc
      · exact hbe
      · rintro rfl
        rcases he with z | z
        · exact nown c b hc z
        · rw [hc] at z; cases z; exact hb rfl
end
structure Un (fs ex : List Addr) (H H' : Hp) (h h' : Heap) : Prop where
  keep : ∀ b o,h.get? b = some o → H b = none → b ∉ fs → b ∉ ex → h'.get? b = some o
  slot : ∀ b o,h.get? b = some o → H b = none → b ∈ fs → b ∉ ex → ∃ sl,h'.get? b = some { o with slots:=sl }
  free : ∀ b o,h.get? b = some o → H b = none → b ∉ ex → H' b = none
  there : ∀ b o,h.get? b = some o → b ∉ ex → ∃ o',h'.get? b = some o'
  tups : ∀ b xs,H b = some (.tup xs) → H' b = some (.tup xs)
  frzs : ∀ b o u,H b = some (.frz o u) → H' b = some (.frz o u)
  tbls : ∀ b ps,H b = some (.tbl ps) → ∃ more,H' b = some (.tbl (ps ++ more))
section
variable {fs fs' ex ex' : List Addr} {H H1 H2 : Hp} {h h1 h2 h' : Heap} {a x e : Addr} {o : HO}
theorem Un.any (u : Un fs ex H H1 h h1) {b : Addr} {ob : Obj} (q : h.get? b = some ob) (n : H b = none) (hx : b ∉ ex) : ∃ sl,h1.get? b = some { ob with slots:=sl }:=by
  by_cases hb : b ∈ fs
  · exact u.slot b ob q n hb hx
  · exact ⟨ob.slots,u.keep b ob q n hb hx⟩
theorem Un.kept (k : ∀ b u,h.get? b = some u → h'.get? b = some u) : Un fs ex H H h h' :=
  ⟨fun b ob q _ _ _=>k b ob q,fun b ob q _ _ _=>⟨ob.slots,k b ob q⟩,fun _ _ _ n _=>n,fun b ob q _=>⟨ob,k b ob q⟩,fun _ _ q=>q,fun _ _ _ q=>q,fun _ ps q=>⟨#[],by rw [q]; simp⟩⟩
theorem Un.refl : Un fs ex H H h h:=Un.kept fun _ _ q=>q
theorem Un.laid (k : ∀ b u,h.get? b = some u → h'.get? b = some u) (hp : h.objs.size ≤ a) (hn : H a = none) : Un fs ex H (upd H a o) h h' where
  keep:=fun b u q _ _ _=>k b u q
  slot:=fun b u q _ _ _=>⟨u.slots,k b u q⟩
  free:=fun b u q n _=>by rw [upd_ne (Nat.ne_of_lt (Nat.lt_of_lt_of_le (Heap.lt_size q) hp))]; exact n
  there:=fun b u q _=>⟨u,k b u q⟩
  tups:=fun b xs q=>by rw [upd_ne (ne_of_none q hn)]; exact q
  frzs:=fun b u xs q=>by rw [upd_ne (ne_of_none q hn)]; exact q
  tbls:=fun b ps q=>⟨#[],by rw [upd_ne (ne_of_none q hn),q]; simp⟩
theorem Un.write (mu : Mut (H x)) (he : e = x ∨ H e = some (.own x)) (k : ∀ b u,b ≠ e → h.get? b = some u → h'.get? b = some u) (heo : ∃ u,h'.get? e = some u) : Un fs ex H (upd H x o) h h':=by
  have hx : ∀ b,H b = none → b ≠ x:=fun b n z=>by subst z; rw [n] at mu; exact mu
  have hb : ∀ b,H b = none → b ≠ e:=fun b n z=>by
    subst z
    rcases he with r | r
    · exact hx b n r
    · rw [n] at r; cases r
  have hm : ∀ b u,H b = some u → ¬ Mut (some u) → b ≠ x:=fun b u q nm z=>by subst z; rw [q] at mu; exact nm mu
  refine ⟨fun b u q n _ _=>k b u (hb b n) q,fun b u q n _ _=>⟨u.slots,k b u (hb b n) q⟩,fun b u q n _=>by rw [upd_ne (hx b n)]; exact n,fun b u q _=>?_,
    fun b xs q=>by rw [upd_ne (hm b _ q fun z=>z)]; exact q,fun b u xs q=>by rw [upd_ne (hm b _ q fun z=>z)]; exact q,fun b ps q=>⟨#[],by rw [upd_ne (hm b _ q fun z=>z),q]; simp⟩⟩
  by_cases hbe : b = e
  · subst hbe; exact heo
  · exact ⟨u,k b u hbe q⟩
end
def trk (h : Heap) (H : Hp) : List Addr:=(List.range h.objs.size).filter fun a=>(H a).isSome
def hidT (h : Heap) (H : Hp) : Heap:=PySem.W.hideAll h (trk h H)
theorem hidT_size (h : Heap) (H : Hp) : (hidT h H).objs.size = h.objs.size:=PySem.W.hideAll_size _ _
theorem hidT_get {h : Heap} {H : Hp} {b : Addr} {o : Obj} (e : h.get? b = some o) (n : H b = none) : (hidT h H).get? b = some o :=
  PySem.W.hideAll_get _ e fun hm=>by
    have q : (H b).isSome = true:=(List.mem_filter.mp hm).2
    rw [n] at q; simp at q
theorem of_hidT {h : Heap} {H : Hp} {b : Addr} {o : Obj} (e : (hidT h H).get? b = some o) : h.get? b = some o ∧ H b = none:=by
  have e' : h.get? b = some o:=PySem.W.of_hideAll (trk h H) e
  refine ⟨e',?_⟩
  cases q : H b with
  | none=>rfl
  | some x =>
    have hm : b ∈ trk h H:=List.mem_filter.mpr ⟨List.mem_range.mpr (Heap.lt_size e'),by simp [q]⟩
    have z : (hidT h H).get? b = none:=PySem.W.hideAll_none (trk h H) hm
    rw [z] at e; cases e
end L2
namespace L2
open PySem PySem.Spec PyProof.Rows
structure Mod (K : PySem.W.Frag) (mg : Str → Option Value) (base : Heap) : Prop where
  kin : K.In base
  glob : base.Ns mainGlobals mg
  blt : ∃ mb,base.Ns builtinsNs mb ∧ ∀ x : Str,x ≠ "__name__" → mb x = bootBuiltins x
  nolimit : base.NoLimit
structure Cx where
  prog : Program
  w : World
  K : PySem.W.Frag
  mg : Str → Option Value
  base : Heap
  A : Around
  N : List Str
  s₀ : Shared
  H₀ : Hp
  env : Env
  outer : List Env
  stack : List Env
  ex : List Addr
  fn : Str → Bool
  calm : Bool
  pn : List (Addr × Obj)
  xe : Value → Shared → Prop
def frs (l : List Env) : List Addr:=l.filterMap (·.frame)
abbrev Cx.fs (X : Cx) : List Addr:=frs X.outer
def Vis (sc : Scope) (x : Str) : Prop:=sc.names.lookup x = some .local ∨ sc.names.lookup x = some .cell ∨ sc.names.lookup x = some .free
def Loc (sc : Scope) (x : Str) : Prop:=sc.names.lookup x = some .local ∨ sc.names.lookup x = some .cell
def Look (env : Env) (h : Heap) (m : Str → Option Value) (x : Str) (u : Value) : Prop :=
  (env.kindOf x = some .local ∧ m x = some u) ∨ ((env.kindOf x = some .cell ∨ env.kindOf x = some .free) ∧ ∃ c,env.cells.lookup x = some c ∧ h.IsCell c (some u))
structure Cx.Ok (X : Cx) : Prop where
  mod : Mod X.K X.mg X.base
  kind : X.env.scope.kind = .function
  glob : X.env.globals = mainGlobals
  blt : X.env.builtins = builtinsNs
  above : X.s₀.heap.objs.size ≤ X.env.locals
  inj : ∀ x y c,X.env.cells.lookup x = some c → X.env.cells.lookup y = some c → x = y
  has : ∀ x,(X.env.kindOf x = some .cell ∨ X.env.kindOf x = some .free) → ∃ c,X.env.cells.lookup x = some c
  cab : ∀ x c,X.fn x = true → X.env.cells.lookup x = some c → X.s₀.heap.objs.size ≤ c
  hd : X.calm = true → X.A.handled = none
  frames : X.A.frames = some X.stack
  stk : X.stack = X.outer ∨ (X.stack = X.env :: X.outer ∧ X.env.frame = some X.env.locals)
  exf : ∀ b ∈ X.ex,b ≠ X.env.locals ∧ ∀ x c,X.env.cells.lookup x = some c → c ≠ b
  bs : ∀ b o,X.base.get? b = some o → X.s₀.heap.get? b = some o ∧ X.H₀ b = none
  bsz : X.base.objs.size ≤ X.s₀.heap.objs.size
  noex : ∀ b o,X.base.get? b = some o → b ∉ X.ex
  exfs : ∀ b ∈ X.ex,b ∉ X.fs
  funs : X.s₀.heap.FunFrames X.base X.outer
  frf : ∀ b ∈ X.fs,X.H₀ b = none
structure Inv (X : Cx) (pins : List (Addr × Obj)) (σ : List (Option V)) (H : Hp) (s : Shared) : Prop where
  ok : X.Ok
  os : s.os = X.s₀.os
  bare : AllBare s.gens
  base : Un X.fs X.ex X.H₀ H X.s₀.heap s.heap
  loc : ∃ m,s.heap.Ns X.env.locals m ∧ ∀ (i : Nat) (x : Str) (v : V),X.N[i]? = some x → σ[i]? = some (some v) → Vis X.env.scope x → ∃ u,RelV v u ∧ Look X.env s.heap m x u
  cell : ∀ x c,X.env.cells.lookup x = some c → ∃ v,s.heap.IsCell c v
  free : H X.env.locals = none
  freeC : ∀ x c,X.env.cells.lookup x = some c → H c = none
  pin : ∀ p ∈ X.pn ++ pins,s.heap.get? p.1 = some p.2 ∧ H p.1 = none ∧ p.1 ≠ X.env.locals ∧ p.1 ∉ X.fs ∧ ∀ v,p.2.data ≠ .cell v
  hok : HOk X.prog X.w H s.heap
  len : σ.length = X.N.length
section
variable {X : Cx} {pins : List (Addr × Obj)} {σ : List (Option V)} {H H' : Hp} {s : Shared} {h' : Heap}
theorem Cx.Ok.nofr (ok : X.Ok) {b : Addr} {o : Obj} (e : X.base.get? b = some o) : b ∉ X.fs:=fun hb=>by
  have:=(ok.funs.mem hb).1
  rw [e] at this; cases this
theorem Inv.bs (I : Inv X pins σ H s) : ∀ b o,X.base.get? b = some o → s.heap.get? b = some o ∧ H b = none:=fun b o e =>
  ⟨I.base.keep b o (I.ok.bs b o e).1 (I.ok.bs b o e).2 (I.ok.nofr e) (I.ok.noex b o e),I.base.free b o (I.ok.bs b o e).1 (I.ok.bs b o e).2 (I.ok.noex b o e)⟩
theorem Inv.bk (I : Inv X pins σ H s) : ∀ b o,X.base.get? b = some o → s.heap.get? b = some o:=fun b o e=>(I.bs b o e).1
theorem Inv.mod (I : Inv X pins σ H s) : Mod X.K X.mg X.base:=I.ok.mod
theorem Inv.kIn (I : Inv X pins σ H s) : X.K.In s.heap:=I.ok.mod.kin.keeps I.bk
theorem Inv.lt (I : Inv X pins σ H s) : X.env.locals < s.heap.objs.size:=let ⟨_,hn,_⟩:=I.loc; hn.lt
theorem Inv.sz (I : Inv X pins σ H s) : X.s₀.heap.objs.size ≤ s.heap.objs.size:=Nat.le_trans I.ok.above (Nat.le_of_lt I.lt)
theorem Inv.nofs (I : Inv X pins σ H s) {a : Addr} (h : s.heap.objs.size ≤ a) : a ∉ X.fs:=fun hb=>by
  obtain ⟨_,o,ho,_⟩:=I.ok.funs.mem hb
  exact absurd (Nat.lt_of_lt_of_le (Heap.lt_size ho) (Nat.le_trans I.sz h)) (Nat.lt_irrefl _)
theorem Inv.cne (I : Inv X pins σ H s) : ∀ x c,X.env.cells.lookup x = some c → c ≠ X.env.locals:=fun x c e z=>by
  obtain ⟨v,o,ho,hd⟩:=I.cell x c e
  obtain ⟨m,⟨o',es,ep,ho',hd',_⟩,_⟩:=I.loc
  rw [z,ho'] at ho; cases ho; rw [hd'] at hd; cases hd
theorem Inv.funs (I : Inv X pins σ H s) : s.heap.FunFrames X.base X.outer:=by
  have all : ∀ (l : List Env),(∀ b ∈ frs l,b ∈ X.fs) → X.s₀.heap.FunFrames X.base l → s.heap.FunFrames X.base l:=by
    intro l
    induction l with
    | nil=>intro _ _; trivial
    | cons env r ih =>
      intro hs hl
      obtain ⟨hk,⟨L,o,hf,hn,ho,hd⟩,hr⟩:=hl
      have hL : L ∈ X.fs:=hs L (by unfold frs; rw [List.filterMap_cons,hf]; exact List.mem_cons_self)
      obtain ⟨sl,e⟩:=I.base.slot L o ho (I.ok.frf L hL) hL fun z=>I.ok.exfs L z hL
      exact ⟨hk,⟨L,_,hf,hn,e,hd⟩,ih (fun b hb=>hs b (by unfold frs; rw [List.filterMap_cons,hf]; exact List.mem_cons_of_mem _ hb)) hr⟩
  exact all X.outer (fun _ hb=>hb) I.ok.funs
theorem Inv.stack (I : Inv X pins σ H s) : s.heap.FunFrames X.base X.stack:=by
  rcases I.ok.stk with e | ⟨e,hf⟩
  · rw [e]; exact I.funs
  · rw [e]
    obtain ⟨m,hn,_⟩:=I.loc
    refine .cons (by rw [I.ok.kind]; decide) hf hn ?_ I.funs
    exact Heap.get?_none_of_le (Nat.le_trans I.ok.bsz I.ok.above)
theorem Inv.stkSub (I : Inv X pins σ H s) : ∀ b ∈ frs X.stack,b ∈ X.env.locals :: X.fs:=fun b hb=>by
  rcases I.ok.stk with e | ⟨e,hf⟩
  · rw [e] at hb; exact List.mem_cons_of_mem _ hb
  · rw [e] at hb
    unfold frs at hb
    rw [List.filterMap_cons,hf] at hb
    exact hb
theorem Inv.stkFree (I : Inv X pins σ H s) : ∀ b ∈ frs X.stack,H b = none:=fun b hb=>by
  rcases List.mem_cons.mp (I.stkSub b hb) with e | hb
  · rw [e]; exact I.free
  · obtain ⟨_,o,ho,_⟩:=I.ok.funs.mem hb
    exact I.base.free b o ho (I.ok.frf b hb) fun z=>I.ok.exfs b z hb
theorem Inv.step {g' : Array GenState} {t' : Nat} {d' : Drawn} {ch : List Addr} (I : Inv X pins σ H s)
    (hch : ∀ b ∈ ch,(b ∈ X.ex ∨ X.s₀.heap.objs.size ≤ b) ∧ b ≠ X.env.locals ∧ (∀ x c,X.env.cells.lookup x = some c → c ≠ b) ∧ ∀ p ∈ X.pn ++ pins,p.1 ≠ b)
    (keep : ∀ b o,b ≠ X.env.locals → b ∉ X.fs → b ∉ ch → s.heap.get? b = some o → H b = none → h'.get? b = some o)
    (slot : ∀ b o,b ≠ X.env.locals → b ∈ X.fs → b ∉ ch → s.heap.get? b = some o → H b = none → ∃ sl,h'.get? b = some { o with slots:=sl }) (free : ∀ b o,b ∉ ch → s.heap.get? b = some o → H b = none → H' b = none)
    (there : ∀ b o,b ∉ ch → s.heap.get? b = some o → ∃ o',h'.get? b = some o')
    (tups : ∀ b xs,H b = some (.tup xs) → H' b = some (.tup xs)) (frzs : ∀ b o u,H b = some (.frz o u) → H' b = some (.frz o u)) (tbls : ∀ b ps,H b = some (.tbl ps) → ∃ more,H' b = some (.tbl (ps ++ more)))
    (ns : ∀ m,s.heap.Ns X.env.locals m → h'.Ns X.env.locals m) (hok : HOk X.prog X.w H' h') (hg : AllBare g') :
    Inv X pins σ H' { s with heap:=h',gens:=g',drawn:=d',toks:=t' }:=by
  have neL : ∀ b o,X.s₀.heap.get? b = some o → b ≠ X.env.locals:=fun b o e=>Nat.ne_of_lt (Nat.lt_of_lt_of_le (Heap.lt_size e) I.ok.above)
  have neC : ∀ b o,X.s₀.heap.get? b = some o → b ∉ X.ex → b ∉ ch:=fun b o e hx hb=>by
    rcases (hch b hb).1 with z | z
    · exact hx z
    · exact absurd (Nat.lt_of_lt_of_le (Heap.lt_size e) z) (Nat.lt_irrefl _)
  have cellK : ∀ x c,X.env.cells.lookup x = some c → ∀ v,s.heap.IsCell c v → h'.IsCell c v:=fun x c e v ⟨o,ho,hd⟩=>by
    have nch : c ∉ ch:=fun z=>(hch c z).2.2.1 x c e rfl
    by_cases hc : c ∈ X.fs
    · obtain ⟨sl,q⟩:=slot c o (I.cne x c e) hc nch ho (I.freeC x c e)
      exact ⟨_,q,hd⟩
    · exact ⟨o,keep c o (I.cne x c e) hc nch ho (I.freeC x c e),hd⟩
  refine ⟨I.ok,I.os,hg,⟨fun b o e n hb hx=>?_,fun b o e n hb hx=>?_,fun b o e n hx=>?_,fun b o e hx=>?_,fun b xs e=>tups b xs (I.base.tups b xs e),fun b o xs e=>frzs b o xs (I.base.frzs b o xs e),fun b ps e=>?_⟩,?_,fun x c e=>?_,?_,fun x c e=>?_,fun p hp=>?_,hok,I.len⟩
  · exact keep b o (neL b o e) hb (neC b o e hx) (I.base.keep b o e n hb hx) (I.base.free b o e n hx)
  · obtain ⟨sl,e1⟩:=I.base.slot b o e n hb hx
    obtain ⟨sl',e2⟩:=slot b _ (neL b o e) hb (neC b o e hx) e1 (I.base.free b o e n hx)
    exact ⟨sl',e2⟩
  · obtain ⟨o',e1⟩:=I.base.there b o e hx
    exact free b o' (neC b o e hx) e1 (I.base.free b o e n hx)
  · obtain ⟨o',e1⟩:=I.base.there b o e hx
    exact there b o' (neC b o e hx) e1
  · obtain ⟨m1,e1⟩:=I.base.tbls b ps e
    obtain ⟨m2,e2⟩:=tbls b _ e1
    exact ⟨m1 ++ m2,by rw [e2,Array.append_assoc]⟩
  · obtain ⟨m,hn,hl⟩:=I.loc
    refine ⟨m,ns m hn,fun i x v e1 e2 e3=>?_⟩
    obtain ⟨u,r,l⟩:=hl i x v e1 e2 e3
    refine ⟨u,r,?_⟩
    rcases l with l | ⟨k,c,e,z⟩
    · exact .inl l
    · exact .inr ⟨k,c,e,cellK x c e _ z⟩
  · obtain ⟨v,z⟩:=I.cell x c e
    exact ⟨v,cellK x c e v z⟩
  · obtain ⟨m,⟨o,_,_,ho,_⟩,_⟩:=I.loc
    exact free _ o (fun z=>(hch _ z).2.1 rfl) ho I.free
  · obtain ⟨v,o,ho,hd⟩:=I.cell x c e
    exact free c o (fun z=>(hch c z).2.2.1 x c e rfl) ho (I.freeC x c e)
  · obtain ⟨e,n,ne,nf,d⟩:=I.pin p hp
    have nch : p.1 ∉ ch:=fun z=>(hch p.1 z).2.2.2 p hp rfl
    exact ⟨keep p.1 p.2 ne nf nch e n,free p.1 p.2 nch e n,ne,nf,d⟩
theorem Inv.un {t' : Nat} (I : Inv X pins σ H s) (u : Un X.fs [] H H' s.heap h') (hok : HOk X.prog X.w H' h') : Inv X pins σ H' { s with heap:=h',toks:=t' }:=by
  obtain ⟨m,⟨o,es,ep,ho,r⟩,_⟩:=id I.loc
  obtain ⟨sl,hL⟩:=u.any ho I.free (by simp)
  exact I.step (g':=s.gens) (d':=s.drawn) (ch:=[]) (fun _ z=>nomatch z) (fun b o _ hb _ e n=>u.keep b o e n hb (by simp)) (fun b o _ hb _ e n=>u.slot b o e n hb (by simp)) (fun b o _ e n=>u.free b o e n (by simp)) (fun b o _ e=>u.there b o e (by simp)) u.tups u.frzs u.tbls (fun m' hm=>by
    obtain ⟨o',es',ep',ho',r'⟩:=hm
    rw [ho] at ho'; cases ho'
    exact ⟨_,es',ep',hL,r'⟩) hok I.bare
theorem Inv.call {g' : Array GenState} {t' : Nat} {d' : Drawn} {ch : List Addr} (I : Inv X pins σ H s) (u : Un (frs X.stack) ch H H' s.heap h') (hok : HOk X.prog X.w H' h') (hg : AllBare g')
    (hch : ∀ b ∈ ch,(b ∈ X.ex ∨ X.s₀.heap.objs.size ≤ b) ∧ b ≠ X.env.locals ∧ (∀ x c,X.env.cells.lookup x = some c → c ≠ b) ∧ ∀ p ∈ X.pn ++ pins,p.1 ≠ b) :
    Inv X pins σ H' { s with heap:=h',gens:=g',drawn:=d',toks:=t' }:=by
  obtain ⟨m,⟨o,es,ep,ho,r⟩,_⟩:=id I.loc
  obtain ⟨sl,hL⟩:=u.any ho I.free fun z=>(hch _ z).2.1 rfl
  exact I.step (ch:=ch) hch (fun b o hL hb hc e n=>u.keep b o e n (fun z=>(List.mem_cons.mp (I.stkSub b z)).elim hL hb) hc) (fun b o _ _ hc e n=>u.any e n hc) (fun b o hc e n=>u.free b o e n hc) (fun b o hc e=>u.there b o e hc) u.tups u.frzs u.tbls (fun m' hm=>by
    obtain ⟨o',es',ep',ho',r'⟩:=hm
    rw [ho] at ho'; cases ho'
    exact ⟨_,es',ep',hL,r'⟩) hok hg
theorem Inv.turned {t' : Nat} {it : Addr} (I : Inv X pins σ H s) (k : ∀ b o,b ≠ it → s.heap.get? b = some o → h'.get? b = some o) (hn : H it = none) (hL : it ≠ X.env.locals)
    (h1 : it ∈ X.ex ∨ X.s₀.heap.objs.size ≤ it) (h2 : ∀ x c,X.env.cells.lookup x = some c → c ≠ it) (h3 : ∀ p ∈ X.pn ++ pins,p.1 ≠ it) : Inv X pins σ H { s with heap:=h',toks:=t' }:=by
  have nit : ∀ b u,H b = some u → b ≠ it:=fun b u e z=>by rw [z,hn] at e; cases e
  refine I.step (g':=s.gens) (d':=s.drawn) (ch:=[it]) (fun b hb=>?_) (fun b o _ _ hc e _=>k b o (fun z=>hc (by simp [z])) e) (fun b o _ _ hc e _=>⟨o.slots,k b o (fun z=>hc (by simp [z])) e⟩) (fun _ _ _ _ n=>n)
    (fun b o hc e=>⟨o,k b o (fun z=>hc (by simp [z])) e⟩) (fun _ _ e=>e) (fun _ _ _ e=>e) (fun b ps e=>⟨#[],by rw [e]; simp⟩) (fun m hm=>?_) (fun b u e=>?_) I.bare
  · have e : b = it:=by simpa using hb
    subst e
    exact ⟨h1,hL,h2,h3⟩
  · obtain ⟨o,es,ep,ho,r⟩:=hm
    exact ⟨o,es,ep,k _ o (Ne.symm hL) ho,r⟩
  · refine (I.hok b u e).stay (fun c v hc q=>k c v ?_ q) (fun _ q=>q) fun _ _ q=>q
    rcases hc with z | z
    · rw [z]; exact nit b u e
    · exact nit c _ z
theorem Inv.tok (I : Inv X pins σ H s) (t : Nat) : Inv X pins σ H { s with toks:=t }:=I.un (h':=s.heap) (t':=t) Un.refl I.hok
theorem Inv.kept {t' : Nat} (I : Inv X pins σ H s) (k : ∀ b u,s.heap.get? b = some u → h'.get? b = some u) : Inv X pins σ H { s with heap:=h',toks:=t' }:=I.un (Un.kept k) (I.hok.kept k)
theorem Inv.laid {a : Addr} {o : HO} {t' : Nat} (I : Inv X pins σ H s) (k : ∀ b u,s.heap.get? b = some u → h'.get? b = some u) (hp : s.heap.objs.size ≤ a) (new : ObjOk X.prog X.w (upd H a o) h' a o) :
    Inv X pins σ (upd H a o) { s with heap:=h',toks:=t' }:=I.un (Un.laid k hp (I.hok.fresh hp)) (I.hok.laid k hp new)
theorem Inv.write {x e : Addr} {o : HO} {t' : Nat} (I : Inv X pins σ H s) (mu : Mut (H x)) (he : e = x ∨ H e = some (.own x)) (k : ∀ b u,b ≠ e → s.heap.get? b = some u → h'.get? b = some u) (heo : ∃ u,h'.get? e = some u)
    (new : ObjOk X.prog X.w (upd H x o) h' x o) : Inv X pins σ (upd H x o) { s with heap:=h',toks:=t' }:=I.un (Un.write mu he k heo) (I.hok.write mu he k heo new)
theorem Inv.weak {σ' : List (Option V)} (I : Inv X pins σ H s) (hl : σ'.length = σ.length) (w : ∀ (i : Nat) v,σ'[i]? = some (some v) → σ[i]? = some (some v)) : Inv X pins σ' H s :=
  ⟨I.ok,I.os,I.bare,I.base,let ⟨m,hn,hl'⟩:=I.loc; ⟨m,hn,fun i x v e1 e2 e3=>hl' i x v e1 (w i v e2) e3⟩,I.cell,I.free,I.freeC,I.pin,I.hok,hl.trans I.len⟩
theorem Inv.pins_of {pins' : List (Addr × Obj)} (I : Inv X pins σ H s) (h : ∀ p ∈ pins',s.heap.get? p.1 = some p.2 ∧ H p.1 = none ∧ p.1 ≠ X.env.locals ∧ p.1 ∉ X.fs ∧ ∀ v,p.2.data ≠ .cell v) : Inv X pins' σ H s :=
  ⟨I.ok,I.os,I.bare,I.base,I.loc,I.cell,I.free,I.freeC,fun p hp=>(List.mem_append.mp hp).elim (fun z=>I.pin p (List.mem_append_left _ z)) (h p),I.hok,I.len⟩
theorem nodup_ix {N : List Str} (hN : N.Nodup) {i j : Nat} {x : Str} (a : N[i]? = some x) (b : N[j]? = some x) : i = j:=by
  obtain ⟨h1,e1⟩:=List.getElem?_eq_some_iff.mp a
  obtain ⟨h2,e2⟩:=List.getElem?_eq_some_iff.mp b
  exact (List.getElem_inj hN).mp (e1.trans e2.symm)
theorem store_ok2 {M : Model} {A : Around} {E : Value → Shared → Prop} {i : Nat} {x : Str} {v : V} {u : Value} {Q : Unit → Shared → Prop} (I : Inv X pins σ H s) (hN : X.N.Nodup) (hi : X.N[i]? = some x) (hx : Loc X.env.scope x) (r : RelV v u)
    (h : ∀ s',Inv X pins (σ.set i (some v)) H s' → (∃ a,Heap.SameBut a s.heap s'.heap ∧ (a = X.env.locals ∨ X.env.cells.lookup x = some a)) → Q () s') (hf : X.fn x = true ∨ X.env.scope.names.lookup x = some .local:=by first | exact .inl rfl | exact .inr rfl | assumption) : wpAny M A (storeName X.env x u) Q E s:=by
  obtain ⟨m,hn,hl⟩:=id I.loc
  have hcls : (X.env.scope.kind == .class || (X.env.scope.kind == .module && X.env.locals != X.env.globals)) = false:=by rw [I.ok.kind]; rfl
  have hiσ : i < σ.length:=by rw [I.len]; exact (List.getElem?_eq_some_iff.mp hi).1
  have cne:=I.cne
  have tracked : ∀ {a : Addr} {h' : Heap},(∃ o,s.heap.get? a = some o ∧ H a = none) → Heap.SameBut a s.heap h' → HOk X.prog X.w H h':=fun {a h'} ha hs b ob e=>by
    obtain ⟨_,_,hfree⟩:=ha
    refine (I.hok b ob e).stay (fun c w' hc q=>(hs.2 c ?_).trans q) (fun _ q=>q) fun _ _ q=>q
    rintro rfl
    rcases hc with rfl | hc
    · rw [hfree] at e; cases e
    · rw [hfree] at hc; cases hc
  rcases hx with hk | hk
  · refine wpAny_storeName_local hk hn (fun h' hn' hs=>?_) hcls
    obtain ⟨oL,_,_,hoL,_⟩:=id hn
    refine h _ ⟨I.ok,I.os,I.bare,⟨fun b o e n hb hx=>?_,fun b o e n hb hx=>?_,I.base.free,fun b o e hx=>?_,I.base.tups,I.base.frzs,I.base.tbls⟩,⟨_,hn',fun j y v' e1 e2 e3=>?_⟩,fun y c e=>?_,I.free,I.freeC,fun p hp=>?_,tracked ⟨oL,hoL,I.free⟩ hs,by simpa using I.len⟩ ⟨_,hs,.inl rfl⟩
    · exact (hs.2 b (Nat.ne_of_lt (Nat.lt_of_lt_of_le (Heap.lt_size e) I.ok.above))).trans (I.base.keep b o e n hb hx)
    · obtain ⟨sl,e1⟩:=I.base.slot b o e n hb hx
      exact ⟨sl,(hs.2 b (Nat.ne_of_lt (Nat.lt_of_lt_of_le (Heap.lt_size e) I.ok.above))).trans e1⟩
    · obtain ⟨o',e1⟩:=I.base.there b o e hx
      exact ⟨o',(hs.2 b (Nat.ne_of_lt (Nat.lt_of_lt_of_le (Heap.lt_size e) I.ok.above))).trans e1⟩
    · by_cases hj : j = i
      · subst hj
        rw [hi] at e1; cases e1
        rw [List.getElem?_set_self hiσ] at e2
        cases e2
        exact ⟨u,r,.inl ⟨hk,by simp⟩⟩
      · rw [List.getElem?_set_ne (Ne.symm hj)] at e2
        obtain ⟨u',r',q⟩:=hl j y v' e1 e2 e3
        refine ⟨u',r',?_⟩
        rcases q with ⟨k,e⟩ | ⟨k,c,e,z⟩
        · refine .inl ⟨k,?_⟩
          have : y ≠ x:=fun e=>hj (nodup_ix hN e1 (e ▸ hi))
          simp [this,e]
        · exact .inr ⟨k,c,e,z.sameBut hs (cne y c e)⟩
    · obtain ⟨w',z⟩:=I.cell y c e
      exact ⟨w',z.sameBut hs (cne y c e)⟩
    · obtain ⟨e,n,ne,nf,d⟩:=I.pin p hp
      exact ⟨(hs.2 p.1 ne).trans e,n,ne,nf,d⟩
  · have hfn : X.fn x = true:=by
      rcases hf with z | z
      · exact z
      · rw [z] at hk; cases hk
    obtain ⟨c,hc⟩:=I.ok.has x (.inl hk)
    obtain ⟨w',z⟩:=I.cell x c hc
    refine wpAny_storeName_cell I.ok.kind hk hc z (fun h' hc' hs=>?_)
    obtain ⟨oc,hoc,hocd⟩:=id z
    refine h { s with heap:=h' } ⟨I.ok,I.os,I.bare,⟨fun b o e n hb hx=>?_,fun b o e n hb hx=>?_,I.base.free,fun b o e hx=>?_,I.base.tups,I.base.frzs,I.base.tbls⟩,⟨m,hn.sameBut hs (Ne.symm (cne x c hc)),fun j y v' e1 e2 e3=>?_⟩,fun y c' e=>?_,I.free,I.freeC,fun p hp=>?_,tracked ⟨oc,hoc,I.freeC x c hc⟩ hs,by simpa using I.len⟩ ⟨c,hs,.inr hc⟩
    · exact (hs.2 b (Nat.ne_of_lt (Nat.lt_of_lt_of_le (Heap.lt_size e) (I.ok.cab x c hfn hc)))).trans (I.base.keep b o e n hb hx)
    · obtain ⟨sl,e1⟩:=I.base.slot b o e n hb hx
      exact ⟨sl,(hs.2 b (Nat.ne_of_lt (Nat.lt_of_lt_of_le (Heap.lt_size e) (I.ok.cab x c hfn hc)))).trans e1⟩
    · obtain ⟨o',e1⟩:=I.base.there b o e hx
      exact ⟨o',(hs.2 b (Nat.ne_of_lt (Nat.lt_of_lt_of_le (Heap.lt_size e) (I.ok.cab x c hfn hc)))).trans e1⟩
    · by_cases hj : j = i
      · subst hj
        rw [hi] at e1; cases e1
        rw [List.getElem?_set_self hiσ] at e2
        cases e2
        exact ⟨u,r,.inr ⟨.inl hk,c,hc,hc'⟩⟩
      · rw [List.getElem?_set_ne (Ne.symm hj)] at e2
        obtain ⟨u',r',q⟩:=hl j y v' e1 e2 e3
        refine ⟨u',r',?_⟩
        rcases q with q | ⟨k,c',e,z'⟩
        · exact .inl q
        · refine .inr ⟨k,c',e,z'.sameBut hs ?_⟩
          rintro rfl
          exact hj (nodup_ix hN e1 (I.ok.inj _ _ _ e hc ▸ hi))
    · by_cases hcc : c' = c
      · subst hcc; exact ⟨_,hc'⟩
      · obtain ⟨w2,z2⟩:=I.cell y c' e
        exact ⟨w2,z2.sameBut hs hcc⟩
    · obtain ⟨e,n,ne,nf,d⟩:=I.pin p hp
      refine ⟨(hs.2 p.1 ?_).trans e,n,ne,nf,d⟩
      intro q
      rw [q,hoc] at e
      have q' : oc = p.2:=Option.some.inj e
      exact d w' (by rw [← q']; exact hocd)
theorem store_ok {M : Model} {A : Around} {E : Value → Shared → Prop} {i : Nat} {x : Str} {v : V} {u : Value} {Q : Unit → Shared → Prop} (I : Inv X pins σ H s) (hN : X.N.Nodup) (hi : X.N[i]? = some x) (hx : Loc X.env.scope x) (r : RelV v u)
    (h : ∀ s',Inv X pins (σ.set i (some v)) H s' → Q () s') (hf : X.fn x = true ∨ X.env.scope.names.lookup x = some .local:=by first | exact .inl rfl | exact .inr rfl | assumption) : wpAny M A (storeName X.env x u) Q E s :=
  store_ok2 I hN hi hx r (fun s' I' _=>h s' I') hf
theorem Inv.call' {s' : Shared} {ch : List Addr} (I : Inv X pins σ H s) (ho : s'.os = s.os) (u : Un (frs X.stack) ch H H' s.heap s'.heap) (hok : HOk X.prog X.w H' s'.heap) (hg : AllBare s'.gens)
    (hch : ∀ b ∈ ch,(b ∈ X.ex ∨ X.s₀.heap.objs.size ≤ b) ∧ b ≠ X.env.locals ∧ (∀ x c,X.env.cells.lookup x = some c → c ≠ b) ∧ ∀ p ∈ X.pn ++ pins,p.1 ≠ b) : Inv X pins σ H' s':=by
  obtain ⟨h',g',d',t',o'⟩:=s'
  have e : o' = s.os:=ho
  subst e
  exact I.call (g':=g') (t':=t') (d':=d') u hok hg hch
end
abbrev XK:=Value → Option Addr → Hp → Prop
abbrev St:=List (Option V)
abbrev VK:=V → Hp → Prop
abbrev TE:=St → Hp → VK → Prop
abbrev TT:=St → Hp → (Bool → Hp → Prop) → Prop
abbrev TA:=St → Hp → (List V → Hp → Prop) → Prop
structure Ends where
  nx : St → Hp → Prop
  rt : VK
  bk : St → Hp → Prop:=fun _ _=>False
  ct : St → Hp → Prop:=fun _ _=>False
abbrev TS:=Ends → St → Hp → Prop
def EP (X : Cx) (pins : List (Addr × Obj)) (σ : St) (Q : VK) (u : Value) (s' : Shared) : Prop:=∃ v H',Inv X pins σ H' s' ∧ RelV v u ∧ Q v H'
def TP (X : Cx) (pins : List (Addr × Obj)) (σ : St) (Q : Bool → Hp → Prop) (b : Bool) (s' : Shared) : Prop:=∃ H',Inv X pins σ H' s' ∧ Q b H'
def AP (X : Cx) (pins : List (Addr × Obj)) (σ : St) (Q : List V → Hp → Prop) (us : List Value) (s' : Shared) : Prop:=∃ vs H',Inv X pins σ H' s' ∧ Vals vs us ∧ Q vs H'
def SP (X : Cx) (pins : List (Addr × Obj)) (D : Ends) (f : Flow) (s' : Shared) : Prop :=
  match f with
  | .next=>∃ σ' H',Inv X pins σ' H' s' ∧ D.nx σ' H'
  | .brk=>∃ σ' H',Inv X pins σ' H' s' ∧ D.bk σ' H'
  | .cont=>∃ σ' H',Inv X pins σ' H' s' ∧ D.ct σ' H'
  | .ret u=>∃ v σ' H',Inv X pins σ' H' s' ∧ RelV v u ∧ D.rt v H'
def PE (X : Cx) (e : Expr) (t : TE) : Prop :=
  ∀ (pins : List (Addr × Obj)) (s : Shared) (σ : St) (H : Hp) (Q : VK),Inv X pins σ H s → t σ H Q → wpAny (model X.prog X.w) X.A (eval e X.env) (EP X pins σ Q) X.xe s
def PT (X : Cx) (e : Expr) (t : TT) : Prop :=
  ∀ (pins : List (Addr × Obj)) (s : Shared) (σ : St) (H : Hp) (Q : Bool → Hp → Prop),Inv X pins σ H s → t σ H Q → wpAny (model X.prog X.w) X.A (isTrue e X.env (eval e X.env)) (TP X pins σ Q) X.xe s
def PW (X : Cx) (e : Expr) (t : TT) : Prop :=
  ∀ (whole : Sem Value) (pins : List (Addr × Obj)) (s : Shared) (σ : St) (H : Hp) (Q : Bool → Hp → Prop),Inv X pins σ H s → t σ H Q → wpAny (model X.prog X.w) X.A (isTrue e X.env whole) (TP X pins σ Q) X.xe s
theorem PW.pt {X : Cx} {e : Expr} {t : TT} (h : PW X e t) : PT X e t:=h _
def PA (X : Cx) (es : List Expr) (t : TA) : Prop :=
  ∀ (pos : Pos) (pins : List (Addr × Obj)) (s : Shared) (σ : St) (H : Hp) (Q : List V → Hp → Prop),Inv X pins σ H s → t σ H Q → wpAny (model X.prog X.w) X.A (spliced (backTo pos (starEach es X.env))) (AP X pins σ Q) X.xe s
def PS (X : Cx) (st : Stmt) (t : TS) : Prop :=
  ∀ (pins : List (Addr × Obj)) (s : Shared) (σ : St) (H : Hp) (D : Ends),Inv X pins σ H s → t D σ H → wpAny (model X.prog X.w) X.A (exec st X.env) (SP X pins D) X.xe s
def PSs (X : Cx) (st : List Stmt) (t : TS) : Prop :=
  ∀ (pins : List (Addr × Obj)) (s : Shared) (σ : St) (H : Hp) (D : Ends),Inv X pins σ H s → t D σ H → wpAny (model X.prog X.w) X.A (execs st X.env) (SP X pins D) X.xe s
theorem thn {α : Type} {t : Sem α} {Q Q' : α → Shared → Prop} {M : Model} {A : Around} {E : Value → Shared → Prop} {s : Shared} (h : wpAny M A t Q E s) (hQ : ∀ a s,Q a s → Q' a s) : wpAny M A t Q' E s:=wpAny_mono h hQ fun _ _ x=>x
end L2
namespace L2
open PySem PySem.Spec PyProof.Rows
section
variable {X : Cx}
def tVar (i : Nat) : TE:=fun σ H Q=>∃ v,σ[i]? = some (some v) ∧ Q v H
def tC (v : V) : TE:=fun _ H Q=>Q v H
theorem pe_var {i : Nat} {x : Str} {pos : Pos} (hN : X.N[i]? = some x) (hv : Vis X.env.scope x) (hd : (x == ("__debug__" : Str)) = false:=by decide) (hcd : (x == ("__classdict__" : Str)) = false:=by decide) : PE X (.Name x pos) (tVar i):=by
  intro pins s σ H Q I h
  obtain ⟨v,e,h⟩:=h
  obtain ⟨m,hn,hl⟩:=I.loc
  obtain ⟨u,r,l⟩:=hl i x v hN e hv
  have fin : EP X pins σ Q u s:=⟨v,H,I,r,h⟩
  rcases l with ⟨hk,hm⟩ | ⟨hk,c,hc,hcell⟩
  · exact wpAny_Name (wpAny_loadName_local I.ok.kind hk hn hm fin) hd
  · rcases hk with hk | hk
    · exact wpAny_Name (wpAny_loadName_cell I.ok.kind hk hc hcell fin) hd
    · exact wpAny_Name (wpAny_loadName_free I.ok.kind hk hc hcell fin hcd) hd
theorem pe_int {i j pos} : PE X (.Constant (.int i) j pos) (tC (.int i)):=fun _ _ _ H _ I h=>wpAny_Constant_int ⟨.int i,H,I.tok _,⟨_,rfl⟩,h⟩
theorem pe_bl {b j pos} : PE X (.Constant (.bool b) j pos) (tC (.bl b)):=fun _ _ _ H _ I h=>Constant_bool ⟨.bl b,H,I,rfl,h⟩
theorem pe_str {x j pos} : PE X (.Constant (.str x) j pos) (tC (.str x)):=fun _ _ _ H _ I h=>Calls.Constant_str ⟨.str x,H,I.tok _,⟨_,rfl⟩,h⟩
def Gl (X : Cx) (x : Str) : Prop:=X.env.kindOf x = some .globalImplicit
theorem ld_glob {E : Value → Shared → Prop} {pins : List (Addr × Obj)} {s : Shared} {σ : St} {H : Hp} {x : Str} {u : Value} {pos : Pos} {Q : Value → Shared → Prop} (I : Inv X pins σ H s) (hg : Gl X x) (hm : X.mg x = some u) (h : Q u s)
    (hd : (x == ("__debug__" : Str)) = false:=by decide) : wpAny (model X.prog X.w) X.A (eval (.Name x pos) X.env) Q E s :=
  Calls.Name_function_global I.ok.kind hg (Calls.loadGlobal_global (by rw [I.ok.glob]; exact I.mod.glob.keeps I.bk) hm h) hd
theorem ld_blt {E : Value → Shared → Prop} {pins : List (Addr × Obj)} {s : Shared} {σ : St} {H : Hp} {x : Str} {u : Value} {pos : Pos} {Q : Value → Shared → Prop} (I : Inv X pins σ H s) (hg : Gl X x) (hm : X.mg x = none) (hv : bootBuiltins x = some u) (h : Q u s)
    (hn : x ≠ "__name__":=by decide) (hd : (x == ("__debug__" : Str)) = false:=by decide) : wpAny (model X.prog X.w) X.A (eval (.Name x pos) X.env) Q E s:=by
  obtain ⟨mb,h1,h2⟩:=I.mod.blt
  exact Calls.Name_function_global I.ok.kind hg (Calls.loadGlobal_builtin (by rw [I.ok.glob]; exact I.mod.glob.keeps I.bk) hm (by rw [I.ok.blt]; exact h1.keeps I.bk) ((h2 x hn).trans hv) h) hd
theorem pe_glob {x : Str} {v : V} {u : Value} {pos : Pos} (hg : Gl X x) (hm : X.mg x = some u) (r : RelV v u) (hd : (x == ("__debug__" : Str)) = false:=by decide) : PE X (.Name x pos) (tC v) :=
  fun _ _ _ H _ I h=>ld_glob I hg hm ⟨v,H,I,r,h⟩ hd
theorem pe_bltn {x : Str} {v : V} {u : Value} {pos : Pos} (hg : Gl X x) (hm : X.mg x = none) (hv : bootBuiltins x = some u) (r : RelV v u) (hn : x ≠ "__name__":=by decide) (hd : (x == ("__debug__" : Str)) = false:=by decide) : PE X (.Name x pos) (tC v) :=
  fun _ _ _ H _ I h=>ld_blt I hg hm hv ⟨v,H,I,r,h⟩ hn hd
variable {a b : Expr} {ta tb : TE} {pos : Pos}
def tB (t : TE) : TT:=fun σ H Q=>t σ H fun x H1=>∃ c,x = .bl c ∧ Q c H1
theorem pt_val {e : Expr} {t : TE} (h : PE X e t) (he : ∀ whole,isTrue e X.env whole = (do let v ← whole; standAt e.pos; holding [v] (truthy v)):=by intro _; rfl) : PT X e (tB t):=by
  intro pins s σ H Q I hw
  refine isTrue_plain (thn (h pins s σ H _ I hw) fun v s1 ⟨x,H1,I1,r1,q1⟩=>?_) (he _)
  obtain ⟨d,rfl,q⟩:=q1
  cases r1
  exact wpAny_truthy_bool ⟨H1,I1,q⟩
variable {tA tB' : TT} {rest : List Expr}
def tOr (t u : TT) : TT:=fun σ H Q=>t σ H fun c H1=>if c = true then Q true H1 else u σ H1 Q
def tNot (t : TT) : TT:=fun σ H Q=>t σ H fun c H1=>Q (!c) H1
theorem pw_or1 (ha : PT X a tA) : PW X (.BoolOp .Or [a] pos) tA:=by
  intro wh pins s σ H Q I h
  refine isTrue_or (thn (ha pins s σ H Q I h) fun c s1 e=>?_)
  cases c with
  | false=>exact isTrue_or_nil e
  | true=>exact e
theorem pw_or (ha : PT X a tA) (hb : PW X (.BoolOp .Or (b :: rest) pos) tB') : PW X (.BoolOp .Or (a :: b :: rest) pos) (tOr tA tB'):=by
  intro wh pins s σ H Q I h
  refine isTrue_or (thn (ha pins s σ H _ I h) fun c s1 ⟨H1,I1,q1⟩=>?_)
  cases c with
  | true=>exact ⟨H1,I1,q1⟩
  | false=>exact hb wh pins s1 σ H1 Q I1 q1
theorem pt_not (ha : PT X a tA) : PT X (.UnaryOp .Not a pos) (tNot tA):=by
  intro pins s σ H Q I h
  exact isTrue_not (ha pins s σ H (fun c H1=>Q (!c) H1) I h)
def tAndV (ta tb : TE) : TE:=fun σ H Q=>ta σ H fun x H1=>∃ c,x = .bl c ∧ if c = true then tb σ H1 Q else Q (.bl false) H1
def tNotV (ta : TE) : TE:=fun σ H Q=>ta σ H fun x H1=>∃ c,x = .bl c ∧ Q (.bl (!c)) H1
theorem pe_one {op} {t : TE} (h : PE X a t) : PE X (.BoolOp op [a] pos) t:=fun pins s σ H Q I hw=>BoolOp_one (h pins s σ H Q I hw)
theorem pe_and (ha : PE X a ta) (hb : PE X (.BoolOp .And (b :: rest) pos) tb) : PE X (.BoolOp .And (a :: b :: rest) pos) (tAndV ta tb):=by
  intro pins s σ H Q I h
  refine BoolOp_and (thn (ha pins s σ H _ I h) fun v s1 ⟨x,H1,I1,r1,q1⟩=>?_)
  obtain ⟨c,rfl,q1⟩:=q1
  cases r1
  refine wpAny_truthy_bool ?_
  cases c with
  | true=>exact hb pins s1 σ H1 Q I1 q1
  | false=>exact ⟨.bl false,H1,I1,rfl,q1⟩
theorem pe_not (ha : PE X a ta) : PE X (.UnaryOp .Not a pos) (tNotV ta):=by
  intro pins s σ H Q I h
  refine UnaryOp_ (thn (ha pins s σ H _ I h) fun v s1 ⟨x,H1,I1,r1,q1⟩=>?_)
  obtain ⟨c,rfl,q1⟩:=q1
  cases r1
  exact not_of (wpAny_truthy_bool ⟨.bl (!c),H1,I1,rfl,q1⟩)
def tIf (t : TT) (ta tb : TE) : TE:=fun σ H Q=>t σ H fun c H1=>if c = true then ta σ H1 Q else tb σ H1 Q
theorem pe_ifExp {c : Expr} (hc : PT X c tA) (ha : PE X a ta) (hb : PE X b tb) : PE X (.IfExp c a b pos) (tIf tA ta tb):=by
  intro pins s σ H Q I h
  refine wpAny_IfExp (thn (hc pins s σ H _ I h) fun d s1 ⟨H1,I1,q1⟩=>?_)
  cases d with
  | true=>exact ha pins s1 σ H1 Q I1 q1
  | false=>exact hb pins s1 σ H1 Q I1 q1
end
end L2
namespace L2
open PySem PySem.Spec PyProof.Rows
def SqL (K : PySem.W.Frag) (H : Hp) (a : Addr) (xs : List V) : Prop :=
  Rd H a (.lst xs) ∨
    ∃ (o : Obj) (its : Array Value) (n : Nat),K.lookup a = some o ∧ o.cls = .type "list" ∧ o.dict = none ∧ o.data = .seq its n ∧ its.size ≤ sizeLine ∧ Vals xs its.toList
def SqT (K : PySem.W.Frag) (H : Hp) (a : Addr) (xs : List V) : Prop :=
  Rd H a (.tup xs) ∨
    ∃ (o : Obj) (its : Array Value) (n : Nat),K.lookup a = some o ∧ o.cls = .type "tuple" ∧ o.data = .seq its n ∧ its.size ≤ sizeLine ∧ Vals xs its.toList
def absV : Value → Option V
  | .none=>some .non
  | .bool b=>some (.bl b)
  | .int i _=>some (.int i)
  | .str x _=>some (.str x)
  | .bytes b _=>some (.byt b)
  | .float b _=>some (.flt b)
  | .ref a=>some (.ref a)
  | .type n=>some (.ty n)
  | _=>none
theorem RelV.abs {x : V} {u : Value} (r : RelV x u) : absV u = some x:=by
  cases x with
  | non=>cases r; rfl
  | bl _=>cases r; rfl
  | int _=>obtain ⟨t,rfl⟩:=r; rfl
  | str _=>obtain ⟨t,rfl⟩:=r; rfl
  | byt _=>obtain ⟨t,rfl⟩:=r; rfl
  | flt _=>obtain ⟨t,rfl⟩:=r; rfl
  | ref _=>cases r; rfl
  | ty _=>cases r; rfl
theorem RelV.inj {x y : V} {u : Value} (r : RelV x u) (q : RelV y u) : x = y:=Option.some.inj (r.abs.symm.trans q.abs)
theorem Vals.inj : ∀ {xs ys : List V} {us : List Value},Vals xs us → Vals ys us → xs = ys
  | _,_,_,.nil,.nil=>rfl
  | _,_,_,.cons r t,.cons r' t'=>by rw [r.inj r',Vals.inj t t']
section
variable {X : Cx} {pins : List (Addr × Obj)} {σ : St} {H : Hp} {s : Shared} {a : Addr} {xs ys : List V}
theorem SqL.of {K : PySem.W.Frag} (h : H a = some (.lst xs)) : SqL K H a xs:=.inl (.inl h)
theorem SqT.of {K : PySem.W.Frag} (h : H a = some (.tup xs)) : SqT K H a xs:=.inl (.inl h)
theorem Inv.list (I : Inv X pins σ H s) (h : SqL X.K H a xs) : ∃ its : List Value,Vals xs its ∧ PlainL s.heap a its.toArray ∧ xs.length ≤ sizeLine:=by
  rcases h with h | ⟨o,its,n,hk,hc,hd,hs,hz,r⟩
  · obtain ⟨z,its,n,r,e⟩:=h.ok I.hok
    exact ⟨its,r,⟨_,n,e,rfl,rfl,rfl⟩,z⟩
  · refine ⟨its.toList,r,⟨o,n,I.kIn a o hk,hc,hd,by simpa using hs⟩,?_⟩
    have e:=r.length
    simp only [Array.length_toList] at e
    omega
theorem Inv.tuple (I : Inv X pins σ H s) (h : SqT X.K H a xs) : ∃ its : List Value,Vals xs its ∧ IsTup s.heap a its.toArray ∧ xs.length ≤ sizeLine:=by
  rcases h with h | ⟨o,its,n,hk,hc,hs,hz,r⟩
  · obtain ⟨z,its,r,p⟩:=h.ok I.hok
    exact ⟨its,r,p,z⟩
  · refine ⟨its.toList,r,⟨o,I.kIn a o hk,hc,n,by simpa using hs⟩,?_⟩
    have e:=r.length
    simp only [Array.length_toList] at e
    omega
theorem Inv.list_inj (I : Inv X pins σ H s) (h : SqL X.K H a xs) (h' : SqL X.K H a ys) : xs = ys:=by
  obtain ⟨its,r,⟨o,n,e,_,_,d⟩,_⟩:=I.list h
  obtain ⟨its',r',⟨o',n',e',_,_,d'⟩,_⟩:=I.list h'
  rw [e] at e'; cases e'
  rw [d] at d'
  injection d' with d1 _
  have : its = its':=by simpa using congrArg Array.toList d1
  subst this
  exact r.inj r'
end
abbrev Cx.wish (X : Cx) (E : Value → Shared → Prop) : Cx:={ X with xe:=E }
abbrev Cx.nox (X : Cx) : Cx:=X.wish fun _ _=>False
theorem Cx.Ok.wish {X : Cx} (ok : X.Ok) (E : Value → Shared → Prop) : (X.wish E).Ok :=
  ⟨ok.mod,ok.kind,ok.glob,ok.blt,ok.above,ok.inj,ok.has,ok.cab,ok.hd,ok.frames,ok.stk,ok.exf,ok.bs,ok.bsz,ok.noex,ok.exfs,ok.funs,ok.frf⟩
theorem Cx.Ok.unwish {X : Cx} {E : Value → Shared → Prop} (ok : (X.wish E).Ok) : X.Ok :=
  ⟨ok.mod,ok.kind,ok.glob,ok.blt,ok.above,ok.inj,ok.has,ok.cab,ok.hd,ok.frames,ok.stk,ok.exf,ok.bs,ok.bsz,ok.noex,ok.exfs,ok.funs,ok.frf⟩
section
variable {X : Cx} {pins : List (Addr × Obj)} {σ : St} {H : Hp} {s : Shared} {E : Value → Shared → Prop}
theorem Inv.wish (I : Inv X pins σ H s) (E : Value → Shared → Prop) : Inv (X.wish E) pins σ H s:=⟨I.ok.wish E,I.os,I.bare,I.base,I.loc,I.cell,I.free,I.freeC,I.pin,I.hok,I.len⟩
theorem Inv.unwish (I : Inv (X.wish E) pins σ H s) : Inv X pins σ H s:=⟨I.ok.unwish,I.os,I.bare,I.base,I.loc,I.cell,I.free,I.freeC,I.pin,I.hok,I.len⟩
theorem SP.unwish {D : Ends} {f : Flow} {s' : Shared} (h : SP (X.wish E) pins D f s') : SP X pins D f s':=by
  cases f with
  | next=>obtain ⟨σ',H',I,q⟩:=h; exact ⟨σ',H',I.unwish,q⟩
  | brk=>obtain ⟨σ',H',I,q⟩:=h; exact ⟨σ',H',I.unwish,q⟩
  | cont=>obtain ⟨σ',H',I,q⟩:=h; exact ⟨σ',H',I.unwish,q⟩
  | ret u=>obtain ⟨v,σ',H',I,r,q⟩:=h; exact ⟨v,σ',H',I.unwish,r,q⟩
theorem PSs.nox {st : List Stmt} {t : TS} (h : PSs X.nox st t) : PSs X st t:=fun pins s σ H D I hw =>
  wpAny_mono (h pins s σ H D (I.wish _) hw) (fun _ _ q=>q.unwish) fun _ _ z=>False.elim z
end
section
variable {X : Cx} {st : Stmt} {rest : List Stmt} {t u : TS} {e : Expr} {te : TE} {pos : Pos}
def tNext : TS:=fun D σ H=>D.nx σ H
def tSeq (t u : TS) : TS:=fun D σ H=>t { D with nx:=u D } σ H
theorem pss_nil : PSs X [] tNext:=fun _ _ σ H _ I h=>wpAny_execs_nil ⟨σ,H,I,h⟩
theorem pss_cons (h1 : PS X st t) (h2 : PSs X rest u) : PSs X (st :: rest) (tSeq t u):=by
  intro pins s σ H D I h
  refine wpAny_execs_cons (thn (h1 pins s σ H { D with nx:=u D } I h) fun f s1 q=>?_)
  cases f with
  | next =>
    obtain ⟨σ',H',I',q⟩:=q
    exact h2 pins s1 σ' H' D I' q
  | ret v=>exact q
  | brk=>exact q
  | cont=>exact q
theorem pss_one (h1 : PS X st t) : PSs X [st] t:=by
  intro pins s σ H D I h
  refine wpAny_execs_cons (thn (h1 pins s σ H D I h) fun f s1 q=>?_)
  cases f with
  | next=>exact wpAny_execs_nil q
  | ret v=>exact q
  | brk=>exact q
  | cont=>exact q
theorem Inv.quiet {pins : List (Addr × Obj)} {σ : St} {H : Hp} {s : Shared} (I : Inv X pins σ H s) : interactive X.env = false:=by simp [interactive,I.ok.kind]
def tDrop (te : TE) : TS:=fun D σ H=>te σ H fun _ H1=>D.nx σ H1
theorem ps_expr (he : PE X e te) (hs : swapsWith e none pos.line X.env = pure false:=by rfl) : PS X (.Expr e pos) (tDrop te):=by
  intro pins s σ H D I h
  exact wpAny_Expr_any (thn (he pins s σ H _ I h) fun v s1 ⟨x,H1,I1,r1,q1⟩=>⟨σ,H1,I1,q1⟩) I.quiet hs
def tRet (te : TE) : TS:=fun D σ H=>te σ H D.rt
theorem ps_ret (he : PE X e te) : PS X (.Return (some e) pos) (tRet te):=by
  intro pins s σ H D I h
  exact wpAny_Return_some (thn (he pins s σ H _ I h) fun v s1 ⟨x,H1,I1,r1,q1⟩=>⟨x,σ,H1,I1,r1,q1⟩)
def tIfS (c : TT) (t u : TS) : TS:=fun D σ H=>c σ H fun b H1=>if b = true then t D σ H1 else u D σ H1
theorem ps_if {c : Expr} {a b : List Stmt} {tc : TT} (hc : PT X c tc) (ha : PSs X a t) (hb : PSs X b u) : PS X (.If c a b pos) (tIfS tc t u):=by
  intro pins s σ H D I h
  refine wpAny_If (thn (hc pins s σ H _ I h) fun d s1 ⟨H1,I1,q1⟩=>?_)
  cases d with
  | true=>exact ha pins s1 σ H1 D I1 q1
  | false=>exact hb pins s1 σ H1 D I1 q1
end
abbrev TG:=V → St → Hp → (St → Hp → Prop) → Prop
abbrev TGs:=List V → St → Hp → (St → Hp → Prop) → Prop
def PG (X : Cx) (target : Expr) (t : TG) : Prop :=
  ∀ (pins : List (Addr × Obj)) (s : Shared) (σ : St) (H : Hp) (v : V) (u : Value) (Q : St → Hp → Prop),Inv X pins σ H s → RelV v u → t v σ H Q →
    wpAny (model X.prog X.w) X.A (assign target X.env u) (fun _ s'=>∃ σ' H',Inv X pins σ' H' s' ∧ Q σ' H') X.xe s
def PGs (X : Cx) (ts : List Expr) (t : TGs) : Prop :=
  ∀ (pins : List (Addr × Obj)) (s : Shared) (σ : St) (H : Hp) (vs : List V) (us : List Value) (Q : St → Hp → Prop),Inv X pins σ H s → Vals vs us → t vs σ H Q →
    wpAny (model X.prog X.w) X.A (assignInOrder ((assignEach ts X.env).map (·.2)) us) (fun _ s'=>∃ σ' H',Inv X pins σ' H' s' ∧ Q σ' H') X.xe s
abbrev TSet:=V → V → V → Hp → (Hp → Prop) → Prop
def PSet (X : Cx) (t : TSet) : Prop :=
  ∀ (pins : List (Addr × Obj)) (s : Shared) (σ : St) (H : Hp) (o i v : V) (ov iv u : Value) (Q : Hp → Prop),Inv X pins σ H s → RelV o ov → RelV i iv → RelV v u → t o i v H Q →
    wpAny (model X.prog X.w) X.A (setItem ov iv u) (fun _ s'=>∃ H',Inv X pins σ H' s' ∧ Q H') X.xe s
section
variable {X : Cx} {pos : Pos}
def gName (i : Nat) : TG:=fun v σ H Q=>Q (σ.set i (some v)) H
theorem pg_name {i : Nat} {x : Str} (hN : X.N.Nodup) (hi : X.N[i]? = some x) (hx : Loc X.env.scope x) (hf : X.fn x = true ∨ X.env.scope.names.lookup x = some .local:=by first | exact .inl rfl | exact .inr rfl | assumption) : PG X (.Name x pos) (gName i):=by
  intro pins s σ H v u Q I r h
  exact wpAny_assign_Name (store_ok I hN hi hx r (fun s' I'=>⟨_,H,I',h⟩) hf)
def gNil : TGs:=fun vs σ H Q=>vs = [] ∧ Q σ H
def gCons (t : TG) (u : TGs) : TGs:=fun vs σ H Q=>∃ v r,vs = v :: r ∧ t v σ H fun σ' H'=>u r σ' H' Q
theorem pgs_nil : PGs X [] gNil:=by
  intro pins s σ H vs us Q I r h
  obtain ⟨e,h⟩:=h
  subst e
  cases r
  exact assignInOrder_nil ⟨σ,H,I,h⟩
theorem pgs_cons {e : Expr} {es : List Expr} {t : TG} {u : TGs} (h1 : PG X e t) (h2 : PGs X es u)
    (hs : (assignEach (e :: es) X.env).map (·.2) = assign e X.env :: (assignEach es X.env).map (·.2):=by rfl) : PGs X (e :: es) (gCons t u):=by
  intro pins s σ H vs us Q I r h
  obtain ⟨v,vr,e1,h⟩:=h
  subst e1
  cases r with
  | cons r rr =>
    rw [hs]
    refine assignInOrder_cons (thn (h1 pins s σ H _ _ _ I r h) fun _ s1 ⟨σ1,H1,I1,q1⟩=>?_)
    exact h2 pins s1 σ1 H1 _ _ Q I1 rr q1
def gTup (K : PySem.W.Frag) (n : Nat) (t : TGs) : TG:=fun v σ H Q=>∃ a xs,v = .ref a ∧ SqT K H a xs ∧ xs.length = n ∧ t xs σ H Q
theorem pg_tup {es : List Expr} {k : Nat} {t : TGs} {n : Nat} (hc : X.calm = true) (h : PGs X es t)
    (hn : (assignEach es X.env).length = n:=by rfl) (hst : (assignEach es X.env).findIdx? (·.1) = none:=by rfl) : PG X (.Tuple es k pos) (gTup X.K n t):=by
  intro pins s σ H v u Q I r hw
  obtain ⟨a,xs,e1,hq,hl,hw⟩:=hw
  subst e1
  cases r
  obtain ⟨its,rv,ht,hz⟩:=I.tuple hq
  refine assign_Tuple_tuple (I.ok.hd hc) ht (by simp [hn,← hl,rv.length]) hst fun h' hx=>?_
  have I1 : Inv X pins σ H { s with heap:=h' }:=I.kept (t':=s.toks) fun b o e=>hx b o (Nat.ne_of_lt (Heap.lt_size e)) e
  exact h pins _ σ H xs _ Q I1 (by simpa using rv) hw
def gSub (to ti : TE) (t : TSet) : TG:=fun v σ H Q=>to σ H fun o H1=>ti σ H1 fun i H2=>t o i v H2 fun H3=>Q σ H3
theorem pg_sub {o i : Expr} {to ti : TE} {t : TSet} (ho : PE X o to) (hi : PE X i ti) (hs : PSet X t)
    (ha : ∀ v,assign (.Subscript o i pos) X.env v = (do
      let ov ← holding [v] (eval o X.env)
      let iv ← holding [v,ov] (eval i X.env)
      standAt pos
      holding [v,ov,iv] (setItem ov iv v)
      release [v,ov,iv] []):=by intro _; rfl) : PG X (.Subscript o i pos) (gSub to ti t):=by
  intro pins s σ H v u Q I r h
  rw [ha]
  refine wpAny_bind (wpAny_holding (thn (ho pins s σ H _ I h) fun ov s1 ⟨x,H1,I1,r1,q1⟩=>?_))
  refine wpAny_bind (wpAny_holding (thn (hi pins s1 σ H1 _ I1 q1) fun iv s2 ⟨y,H2,I2,r2,q2⟩=>?_))
  refine wpAny_bind (wpAny_standAt (wpAny_bind (wpAny_holding (thn (hs pins s2 σ H2 x y v ov iv u _ I2 r1 r2 r q2) fun _ s3 ⟨H3,I3,q3⟩=>?_))))
  exact wpAny_release ⟨σ,H3,I3,q3⟩
def tAsg (te : TE) (g : TG) : TS:=fun D σ H=>te σ H fun x H1=>g x σ H1 D.nx
theorem ps_asg {tg e : Expr} {te : TE} {g : TG} (he : PE X e te) (hg : PG X tg g) (hs : swapsWithSole [tg] e pos.line X.env = pure false:=by rfl) (hw : swappedStores [tg] e X.env = pure none:=by rfl)
    (h1 : (assignEach [tg] X.env).map (·.2) = [assign tg X.env]:=by rfl) : PS X (.Assign [tg] e pos) (tAsg te g):=by
  intro pins s σ H D I h
  refine wpAny_Assign_stores (thn (he pins s σ H _ I h) fun v s1 ⟨x,H1,I1,r1,q1⟩=>?_) hs hw
  rw [h1]
  exact thn (hg pins s1 σ H1 x v _ I1 r1 q1) fun _ s2 q=>q
theorem ps_set {i : Nat} {x : Str} {e : Expr} {te : TE} {pos' : Pos} (hN : X.N.Nodup) (hi : X.N[i]? = some x) (hx : Loc X.env.scope x) (he : PE X e te) (hs : swapsWith e (some (.Name x pos')) pos.line X.env = pure false:=by rfl) (hf : X.fn x = true ∨ X.env.scope.names.lookup x = some .local:=by first | exact .inl rfl | exact .inr rfl | assumption) :
    PS X (.Assign [.Name x pos'] e pos) (tAsg te (gName i)):=by
  intro pins s σ H D I h
  refine wpAny_Assign_Name (thn (he pins s σ H _ I h) fun v s1 ⟨y,H1,I1,r1,q1⟩=>?_) hs
  exact store_ok I1 hN hi hx r1 (fun s2 I2=>⟨_,H1,I2,q1⟩) hf
def tPar (i j : Nat) (ta : TA) : TS:=fun D σ H=>ta σ H fun vs H1=>∃ v w,vs = [v,w] ∧ D.nx ((σ.set i (some v)).set j (some w)) H1
theorem ps_par {i j : Nat} {x y : Str} {a b : Expr} {ta : TA} {px py pt : Pos} {kt k2 pt2} (hc : X.calm = true) (hN : X.N.Nodup) (hi : X.N[i]? = some x) (hj : X.N[j]? = some y) (hij : i ≠ j)
    (hx : X.env.scope.names.lookup x = some .local) (hy : X.env.scope.names.lookup y = some .local) (ha : PA X [a,b] ta)
    (hw : swappedStores [.Tuple [.Name x px,.Name y py] kt pt] (.Tuple [a,b] k2 pt2) X.env = pure (some [x,y]))
    (hs : swapsWithSole [.Tuple [.Name x px,.Name y py] kt pt] (.Tuple [a,b] k2 pt2) pos.line X.env = pure false:=by rfl) :
    PS X (.Assign [.Tuple [.Name x px,.Name y py] kt pt] (.Tuple [a,b] k2 pt2) pos) (tPar i j ta):=by
  intro pins s σ H D I h
  rw [exec_Assign_arm]
  refine wpAny_bind (wpAny_standAt ?_)
  rw [hs]
  refine wpAny_bind (wpAny_pure ?_)
  rw [if_neg (by decide)]
  refine wpAny_bind (Tuple_ (thn (ha _ pins s σ H _ I h) fun us s1 ⟨vs,H1,I1,r1,q1⟩=>?_))
  obtain ⟨v,w,e1,q1⟩:=q1
  subst e1
  obtain ⟨u1,u2,rfl,rv,rw'⟩ : ∃ u1 u2,us = [u1,u2] ∧ RelV v u1 ∧ RelV w u2:=by
    cases r1 with
    | cons p q =>
      cases q with
      | cons p' q' =>
        cases q'
        exact ⟨_,_,rfl,p,p'⟩
  refine wpAny_newObj_type ?_ (by show 2 ≤ sizeLine; decide)
  have I2 : Inv X pins σ H1 { s1 with heap:=s1.heap.push { cls:=.type "tuple",data:=.seq [u1,u2].toArray } }:=I1.kept (t':=s1.toks) fun b o e=>Heap.get?_push_of_some _ e
  rw [hw]
  refine wpAny_bind (wpAny_pure ?_)
  show wpAny (model X.prog X.w) X.A (do rule "assign.swapped-stores"; let items ← unpackItems (.ref s1.heap.objs.size) 2 none; assignInOrder [fun v=>bindName X.env y v,fun v=>bindName X.env x v] items.reverse; pure Flow.next) _ _ _
  refine wpAny_bind (wpAny_rule (wpAny_bind (unpackItems_tuple (items:=#[u1,u2]) (I.ok.hd hc) (IsTup.new s1.heap _) fun h' hx'=>?_)))
  have I3:=I2.kept (h':=h') (t':=s1.toks) fun b o e=>hx' b o (Nat.ne_of_lt (Heap.lt_size e)) e
  show wpAny _ _ (assignInOrder [fun v=>bindName X.env y v,fun v=>bindName X.env x v] [u2,u1] >>= fun _=>pure Flow.next) _ _ _
  refine wpAny_bind (assignInOrder_cons (wpAny_bindName (store_ok I3 hN hj (.inl hy) rw' (fun s2 I4=>?_) (.inr hy))))
  refine assignInOrder_cons (wpAny_bindName (store_ok I4 hN hi (.inl hx) rv (fun s3 I5=>assignInOrder_nil (wpAny_pure ?_)) (.inr hx)))
  rw [List.set_comm _ _ (Ne.symm hij)] at I5
  exact ⟨_,H1,I5,q1⟩
end
section
variable {X : Cx} {pos : Pos}
def tWhile (c : TT) (tb : TS) : TS:=fun D σ H=>∃ W : Nat → St → Hp → Prop,(∃ m,W m σ H) ∧ ∀ m σ H,W m σ H →
  c σ H fun b H1=>if b = true then ∃ N : St → Hp → Prop,(∀ σ' H',N σ' H' → ∃ m',m' < m ∧ W m' σ' H') ∧ tb { D with nx:=N,ct:=N,bk:=D.nx } σ H1 else D.nx σ H1
theorem ps_while {c : Expr} {body : List Stmt} {tc : TT} {tb : TS} (hp : PassesOwn (model X.prog X.w) X.A X.env X.xe) (hc : PT X c tc) (hb : PSs X body tb) : PS X (.While c body [] pos) (tWhile tc tb):=by
  intro pins s σ H D I h
  obtain ⟨W,⟨m0,w0⟩,turn⟩:=h
  refine wpAny_While (codeAny_whileLoop (fun n s'=>∃ σ' H',Inv X pins σ' H' s' ∧ W n σ' H') ?_ m0 ⟨σ,H,I,w0⟩)
  rintro n s1 ⟨σ1,H1,I1,w1⟩
  refine wpAny_passesOwn hp (thn (hc pins s1 σ1 H1 _ I1 (turn n σ1 H1 w1)) fun b s2 ⟨H2,I2,q2⟩=>?_)
  cases b with
  | true =>
    obtain ⟨N,hN,q2⟩:=q2
    rw [if_pos rfl]
    refine wpAny_passesOwn hp (thn (hb pins s2 σ1 H2 _ I2 q2) fun f s3 q3=>?_)
    cases f with
    | next =>
      obtain ⟨σ3,H3,I3,n3⟩:=q3
      obtain ⟨m',hm,w3⟩:=hN σ3 H3 n3
      exact ⟨m',hm,σ3,H3,I3,w3⟩
    | cont =>
      obtain ⟨σ3,H3,I3,n3⟩:=q3
      obtain ⟨m',hm,w3⟩:=hN σ3 H3 n3
      exact ⟨m',hm,σ3,H3,I3,w3⟩
    | brk=>exact q3
    | ret v=>exact q3
  | false =>
    rw [if_neg Bool.false_ne_true]
    exact wpAny_execs_nil ⟨σ1,H2,I2,q2⟩
end
structure It where
  go : Nat → Hp → Prop
  yld : Nat → Hp → V → Hp → Prop
  stop : Nat → Hp → Prop
def FpOk (X : Cx) (pins : List (Addr × Obj)) (H : Hp) (b : Addr) : Prop :=
  H b = none ∧ b ≠ X.env.locals ∧ b ∉ X.fs ∧ (b ∈ X.ex ∨ X.s₀.heap.objs.size ≤ b) ∧ (∀ x c,X.env.cells.lookup x = some c → c ≠ b) ∧ ∀ p ∈ X.pn ++ pins,p.1 ≠ b
theorem Inv.fpOk {X : Cx} {pins : List (Addr × Obj)} {σ : St} {H H' : Hp} {s : Shared} {b : Addr} (I : Inv X pins σ H s) (hb : s.heap.objs.size ≤ b) (hn : H' b = none) : FpOk X pins H' b:=by
  refine ⟨hn,Nat.ne_of_gt (Nat.lt_of_lt_of_le I.lt hb),I.nofs hb,.inr (Nat.le_trans I.sz hb),fun x c e z=>?_,fun p hp z=>?_⟩
  · obtain ⟨v,q⟩:=I.cell x c e
    exact absurd (Nat.lt_of_lt_of_le q.lt (by rw [z]; exact hb)) (Nat.lt_irrefl _)
  · exact absurd (Nat.lt_of_lt_of_le (Heap.lt_size (I.pin p hp).1) (by rw [z]; exact hb)) (Nat.lt_irrefl _)
structure Turn (P : Program) (w : World) (K : PySem.W.Frag) (tg : Expr) (J : It) (fp : List Addr) (it : Addr) (tn : Nat → Heap → Prop) : Prop where
  mem : it ∈ fp
  obj : ∀ i h,tn i h → ∀ b ∈ fp,∃ o,h.get? b = some o ∧ ∀ v,o.data ≠ .cell v
  keep : ∀ i h h',tn i h → (∀ b ∈ fp,∀ o,h.get? b = some o → h'.get? b = some o) → tn i h'
  item : ∀ (X : Cx),X.prog = P → X.w = w → X.K = K → X.calm = true → ∀ (i : Nat) (pins : List (Addr × Obj)) (s : Shared) (σ : St) (H : Hp) (E : Value → Shared → Prop),Inv X pins σ H s → (∀ b ∈ fp,FpOk X pins H b) → tn i s.heap → J.go i H →
    wpAny (model P w) X.A (pyNext (.ref it)) (fun r s1=>∃ u,r = some u ∧
      wpAny (model P w) X.A (letOwnedTupleGo tg (.ref it) u) (fun _ s2=>∃ x H',Inv X pins σ H' s2 ∧ RelV x u ∧ J.yld i H x H' ∧ tn (i + 1) s2.heap ∧ ∀ b ∈ fp,H' b = none) E s1) E s
  done : ∀ (X : Cx),X.prog = P → X.w = w → X.K = K → X.calm = true → ∀ (i : Nat) (pins : List (Addr × Obj)) (s : Shared) (σ : St) (H : Hp) (E : Value → Shared → Prop),Inv X pins σ H s → (∀ b ∈ fp,FpOk X pins H b) → tn i s.heap → J.stop i H →
    wpAny (model P w) X.A (pyNext (.ref it)) (fun r s1=>r = none ∧ Inv X pins σ H s1) E s
  self : ∀ (A : Around) (i : Nat) (s : Shared) (Q : Value → Shared → Prop) (E : Value → Shared → Prop),tn i s.heap → Q (.ref it) s → wpAny (model P w) A (pyIter (.ref it)) Q E s
abbrev TI:=St → Hp → (It → Hp → Prop) → Prop
def PIE (X : Cx) (pins : List (Addr × Obj)) (σ : St) (tg : Expr) (R : It → Hp → Prop) (itv : Value) (s2 : Shared) : Prop :=
  ∃ (it : Addr) (fp : List Addr) (tn : Nat → Heap → Prop) (J : It) (H' : Hp),itv = .ref it ∧ Inv X pins σ H' s2 ∧ Turn X.prog X.w X.K tg J fp it tn ∧ tn 0 s2.heap ∧ (∀ b ∈ fp,FpOk X pins H' b) ∧ R J H'
def PI (X : Cx) (tg iter : Expr) (wi : TI) : Prop :=
  ∀ (pins : List (Addr × Obj)) (s : Shared) (σ : St) (H : Hp) (R : It → Hp → Prop),Inv X pins σ H s → wi σ H R →
    wpAny (model X.prog X.w) X.A (eval iter X.env) (fun v s1=>wpAny (model X.prog X.w) X.A (pyIter v) (PIE X pins σ tg R) X.xe s1) X.xe s
theorem go_of {M : Model} {A : Around} {E : Value → Shared → Prop} {s : Shared} {tg : Expr} {it : Addr} {u : Value} {o : Obj} {n : String} {vs : Array Value} {Q : Unit → Shared → Prop} (ho : s.heap.get? it = some o) (hc : o.cls = .type n) (hd : o.data = .fields vs)
    (hn : ["enumerate","zip","dict_itemiterator","dict_reverseitemiterator","odict_iterator","itertools.zip_longest","itertools.pairwise"].contains n = false) (hQ : Q () s) : wpAny M A (letOwnedTupleGo tg (.ref it) u) Q E s:=by
  unfold letOwnedTupleGo
  cases tg <;> first
    | exact wpAny_pure hQ
    | (cases u <;> first
        | exact wpAny_pure hQ
        | (refine wpAny_bind (wpAny_load ho ?_)
           rw [hc,hd]
           show wpAny M A (if (["enumerate","zip","dict_itemiterator","dict_reverseitemiterator","odict_iterator","itertools.zip_longest","itertools.pairwise"].contains n && vs[0]? == some (rawInt _)) = true then _ else _) Q E s
           rw [if_neg (by intro h; rw [hn,Bool.false_and] at h; cases h)]
           exact wpAny_pure hQ))
def Itl (K : PySem.W.Frag) (a : Addr) : It :=
  ⟨fun i H=>∃ xs x,SqL K H a xs ∧ xs[i]? = some x,fun i H x H'=>H' = H ∧ ∀ xs,SqL K H a xs → xs[i]? = some x,fun i H=>∃ xs,SqL K H a xs ∧ xs.length ≤ i⟩
def Itr (lo : Int) (n : Nat) : It:=⟨fun i _=>i < n,fun i H x H'=>H' = H ∧ x = .int (lo + i),fun i _=>n ≤ i⟩
theorem turn_list {P : Program} {w : World} {K : PySem.W.Frag} {tg : Expr} (a it : Addr) : Turn P w K tg (Itl K a) [it] it (fun i h=>h.IsListIter it a i) where
  mem:=by simp
  obj:=fun i h st b hb=>by
    have e : b = it:=by simpa using hb
    subst e
    obtain ⟨o,e,c,d⟩:=st
    exact ⟨o,e,fun v z=>by rw [d] at z; cases z⟩
  keep:=fun i h h' st k=>st.at fun o e=>k it (by simp) o e
  item:=by
    intro X hP hw hK hc i pins s σ H E I hf st hg
    subst hP hw hK
    obtain ⟨xs,x,hq,hx⟩:=hg
    obtain ⟨its,rv,p,hz⟩:=I.list hq
    obtain ⟨u,hu,ru⟩:=rv.get hx
    obtain ⟨f0,f1,f2,f3,f4,f5⟩:=hf it (by simp)
    refine wpAny_pyNext_list_item st p.isList (x:=u) (by simpa using hu) fun h' st' sb=>?_
    have I1 : Inv X pins σ H { s with heap:=h' }:=I.turned (t':=s.toks) (fun b o hb e=>(sb.2 b hb).trans e) f0 f1 f3 f4 f5
    obtain ⟨o,e,c,d⟩:=id st'
    exact ⟨u,rfl,go_of (s:={ s with heap:=h' }) e c d (by decide) ⟨x,H,I1,ru,⟨rfl,fun ys hy=>by rw [I.list_inj hy hq]; exact hx⟩,st',fun b hb=>(hf b hb).1⟩⟩
  done:=by
    intro X hP hw hK hc i pins s σ H E I hf st hg
    subst hP hw hK
    obtain ⟨xs,hq,hx⟩:=hg
    obtain ⟨its,rv,p,hz⟩:=I.list hq
    obtain ⟨f0,f1,f2,f3,f4,f5⟩:=hf it (by simp)
    have hl:=rv.length
    exact wpAny_pyNext_list_end (I.ok.hd hc) st p.isList (by simp; omega) fun h' eb=>⟨rfl,I.turned (t':=s.toks) (fun b o hb e=>eb b o hb e) f0 f1 f3 f4 f5⟩
  self:=fun _ _ _ _ _ st h=>wpAny_pyIter_listiter st h
theorem turn_range {P : Program} {w : World} {K : PySem.W.Frag} {tg : Expr} (it : Addr) (lo : Int) (n : Nat) : Turn P w K tg (Itr lo n) [it] it (fun i h=>IsRangeIter h it (lo + (i : Nat) * 1) ((n : Int) - (i : Nat)) 1) where
  mem:=by simp
  obj:=fun i h st b hb=>by
    have e : b = it:=by simpa using hb
    subst e
    exact ⟨_,st,fun v z=>by
      have z' : Data.fields _ = Data.cell v:=z
      cases z'⟩
  keep:=fun i h h' st k=>k it (by simp) _ st
  item:=by
    intro X hP hw hK hc i pins s σ H E I hf st hg
    subst hP hw hK
    obtain ⟨f0,f1,f2,f3,f4,f5⟩:=hf it (by simp)
    have W:=Walks.range (prog:=X.prog) (w:=X.w) (I.ok.hd hc) it lo 1 n
    refine W.item i s _ _ hg st fun v h' tk hv st' kk=>?_
    obtain ⟨t,rfl⟩:=hv
    have I1 : Inv X pins σ H { s with heap:=h',toks:=tk }:=I.turned (fun b o hb e=>kk b o (by simpa using hb) e) f0 f1 f3 f4 f5
    refine ⟨_,rfl,go_of (s:={ s with heap:=h',toks:=tk }) (n:="range_iterator") st' rfl rfl (by decide) ⟨.int (lo + i),H,I1,⟨t,?_⟩,⟨rfl,rfl⟩,st',fun b hb=>(hf b hb).1⟩⟩
    rw [Int.mul_one]
  done:=by
    intro X hP hw hK hc i pins s σ H E I hf st hg
    subst hP hw hK
    obtain ⟨f0,f1,f2,f3,f4,f5⟩:=hf it (by simp)
    exact wpAny_pyNext_range_end (I.ok.hd hc) st (by have : n ≤ i:=hg; omega) fun h' eb=>⟨rfl,I.turned (t':=s.toks) (fun b o hb e=>eb b o hb e) f0 f1 f3 f4 f5⟩
  self:=fun _ _ _ _ _ st h=>wpAny_pyIter_rangeiter st h
end L2
namespace L2
open PySem PySem.Spec PyProof.Rows
section
variable {X : Cx} {tg : Expr}
def iList (K : PySem.W.Frag) (tl : TE) : TI:=fun σ H R=>tl σ H fun x H1=>∃ a,x = .ref a ∧ (∃ xs,SqL K H1 a xs) ∧ R (Itl K a) H1
theorem pi_list {l : Expr} {tl : TE} (hl : PE X l tl) : PI X tg l (iList X.K tl):=by
  intro pins s σ H R I h
  refine thn (hl pins s σ H _ I h) fun v s1 ⟨x,H1,I1,r1,q1⟩=>?_
  obtain ⟨a,e,⟨xs,hq⟩,q⟩:=q1
  subst e
  cases r1
  obtain ⟨its,rv,p,hz⟩:=I1.list hq
  refine wpAny_pyIter_list p.isList ?_
  refine ⟨s1.heap.objs.size,[s1.heap.objs.size],_,_,H1,rfl,I1.kept (t':=s1.toks) fun b o e=>Heap.get?_push_of_some _ e,turn_list a _,⟨_,Heap.get?_push_size _ rfl,rfl,rfl⟩,fun b hb=>?_,q⟩
  have e : b = s1.heap.objs.size:=by simpa using hb
  subst e
  exact I1.fpOk (Nat.le_refl _) (I1.hok.fresh (Nat.le_refl _))
theorem range_it {pins : List (Addr × Obj)} {σ : St} {H : Hp} {s : Shared} {R : It → Hp → Prop} {E : Value → Shared → Prop} {lo hi : Int} {t u v : Tok} {tk : Nat} (I : Inv X pins σ H s) (h1 : -(2 ^ 62) ≤ lo) (h2 : lo < 2 ^ 62) (h3 : -(2 ^ 62) ≤ hi) (h4 : hi < 2 ^ 62)
    (q : R (Itr lo (hi - lo).toNat) H) : wpAny (model X.prog X.w) X.A (pyIter (.ref s.heap.objs.size)) (PIE X pins σ tg R) E { s with heap:=s.heap.push { cls:=.type "range",data:=.fields #[.int lo t,.int hi u,.int 1 v] },toks:=tk }:=by
  refine wpAny_pyIter_range (IsRange.new ..) (small_one h1 h2 h3 h4) ?_
  have I1 : Inv X pins σ H { s with heap:=s.heap.push { cls:=.type "range",data:=.fields #[.int lo t,.int hi u,.int 1 v] },toks:=tk }:=I.kept fun b o e=>Heap.get?_push_of_some _ e
  refine ⟨(s.heap.push { cls:=.type "range",data:=.fields #[.int lo t,.int hi u,.int 1 v] }).objs.size,[(s.heap.push { cls:=.type "range",data:=.fields #[.int lo t,.int hi u,.int 1 v] }).objs.size],_,_,H,rfl,
    I1.kept (t':=tk) fun b o e=>Heap.get?_push_of_some _ e,turn_range _ lo (hi - lo).toNat,?_,fun b hb=>?_,q⟩
  · have e1 : lo + ((0 : Nat) : Int) * 1 = lo:=by simp
    have e2 : (((hi - lo).toNat : Nat) : Int) - ((0 : Nat) : Int) = Builtin.Range.rangeSize lo hi 1:=by rw [rangeSize_one]; split <;> omega
    show IsRangeIter _ _ (lo + ((0 : Nat) : Int) * 1) ((((hi - lo).toNat : Nat) : Int) - ((0 : Nat) : Int)) 1
    rw [e1,e2]
    exact Heap.get?_push_size _ rfl
  · have e : b = (s.heap.push { cls:=.type "range",data:=.fields #[.int lo t,.int hi u,.int 1 v] }).objs.size:=by simpa using hb
    subst e
    exact I1.fpOk (Nat.le_refl _) (I1.hok.fresh (Nat.le_refl _))
def iRng1 (ta : TA) : TI:=fun σ H R=>ta σ H fun vs H1=>∃ j : Int,vs = [.int j] ∧ -(2 ^ 62) ≤ j ∧ j < 2 ^ 62 ∧ R (Itr 0 j.toNat) H1
theorem pi_range1 {a : Expr} {ta : TA} {p pos : Pos} (hg : Gl X "range") (hm : X.mg "range" = none) (ha : PA X [a] ta) (hs : starEach [a] X.env = [(false,eval a X.env)]:=by rfl) : PI X tg (.Call (.Name "range" p) [a] [] pos) (iRng1 ta):=by
  intro pins s σ H R I h
  refine Call_ (ld_blt I hg hm boot_range (PyProof.Rows.callWith_type1 (thn (ha pos pins s σ H _ I h) fun us s1 ⟨vs,H1,I1,r1,q1⟩=>?_) hs rfl))
  obtain ⟨j,e,q1,q2,q⟩:=q1
  subst e
  cases r1 with
  | cons r rr =>
    cases rr
    obtain ⟨t,rfl⟩:=r
    exact call_range_1 (range_it I1 (by omega) (by omega) q1 q2 (by simpa using q))
def tFor (wi : TI) (g : TG) (tb : TS) : TS:=fun D σ H=>wi σ H fun J H1=>∃ W : Nat → Nat → St → Hp → Prop,(∃ m,W 0 m σ H1) ∧ ∀ i m σ H,W i m σ H →
  (J.stop i H ∧ D.nx σ H) ∨ (J.go i H ∧ ∃ N : St → Hp → Prop,(∀ σ' H',N σ' H' → ∃ m',m' < m ∧ W (i + 1) m' σ' H') ∧ ∀ x H',J.yld i H x H' → g x σ H' fun σ2 H2=>tb { D with nx:=N,ct:=N,bk:=D.nx } σ2 H2)
def pinsAt (fp : List Addr) (h : Heap) : List (Addr × Obj):=fp.filterMap fun b=>(h.get? b).map fun o=>(b,o)
theorem mem_pinsAt {fp : List Addr} {h : Heap} {b : Addr} {o : Obj} (hb : b ∈ fp) (e : h.get? b = some o) : (b,o) ∈ pinsAt fp h:=List.mem_filterMap.mpr ⟨b,hb,by rw [e]; rfl⟩
theorem of_pinsAt {fp : List Addr} {h : Heap} {p : Addr × Obj} (hp : p ∈ pinsAt fp h) : p.1 ∈ fp ∧ h.get? p.1 = some p.2:=by
  obtain ⟨b,hb,e⟩:=List.mem_filterMap.mp hp
  cases q : h.get? b with
  | none=>rw [q] at e; cases e
  | some o =>
    rw [q] at e
    have e' : (b,o) = p:=Option.some.inj e
    subst e'
    exact ⟨hb,q⟩
theorem Inv.pinned {pins : List (Addr × Obj)} {σ : St} {H : Hp} {s : Shared} {fp : List Addr} (I : Inv X pins σ H s) (hf : ∀ b ∈ fp,FpOk X pins H b) (ho : ∀ b ∈ fp,∃ o,s.heap.get? b = some o ∧ ∀ v,o.data ≠ .cell v) : Inv X (pins ++ pinsAt fp s.heap) σ H s :=
  I.pins_of fun p hp=>(List.mem_append.mp hp).elim (fun z=>I.pin p (List.mem_append_right _ z)) fun z=>by
    obtain ⟨hb,e⟩:=of_pinsAt z
    obtain ⟨f0,f1,f2,_⟩:=hf p.1 hb
    obtain ⟨o,e',d⟩:=ho p.1 hb
    rw [e] at e'; cases e'
    exact ⟨e,f0,f1,f2,d⟩
theorem Inv.unpinned {pins pl : List (Addr × Obj)} {σ : St} {H : Hp} {s : Shared} (I : Inv X (pins ++ pl) σ H s) : Inv X pins σ H s:=I.pins_of fun p hp=>I.pin p (List.mem_append_right _ (List.mem_append_left _ hp))
theorem ps_for {iter : Expr} {body : List Stmt} {wi : TI} {g : TG} {tb : TS} {pos : Pos} (hp : PassesOwn (model X.prog X.w) X.A X.env X.xe) (hc : X.calm = true) (hi : PI X tg iter wi) (hg : PG X tg g) (hb : PSs X body tb)
    (hs : ∀ x,foldedSetIterable iter X.env x = pure x:=by intro _; rfl) : PS X (.For tg iter body [] pos) (tFor wi g tb):=by
  intro pins s σ H D I h
  refine wpAny_For (thn (hi pins s σ H _ I h) fun v s1 h1=>thn h1 fun itv s2 h2=>?_) hs
  obtain ⟨it,fp,tn,J,H2,e,I2,T,st2,f2,W,⟨m0,w0⟩,turn⟩:=h2
  subst e
  have stat : ∀ {H' : Hp},(∀ b ∈ fp,H' b = none) → ∀ b ∈ fp,FpOk X pins H' b:=fun hn b hb=>⟨hn b hb,(f2 b hb).2⟩
  refine codeAny_forLoop_any (fun n s'=>∃ i σ' H',Inv X pins σ' H' s' ∧ tn i s'.heap ∧ (∀ b ∈ fp,H' b = none) ∧ W i n σ' H') ?_ m0 ⟨0,σ,H2,I2,st2,fun b hb=>(f2 b hb).1,w0⟩
  rintro n s3 ⟨i,σ3,H3,I3,st3,fr3,w3⟩
  rcases turn i n σ3 H3 w3 with ⟨stop,qn⟩ | ⟨go,N,hN,step⟩
  · refine wpAny_passesOwn hp (thn (T.done X rfl rfl rfl hc i pins s3 σ3 H3 X.xe I3 (stat fr3) st3 stop) fun r s4 ⟨hr,I4⟩=>?_)
    subst hr
    exact wpAny_execs_nil ⟨σ3,H3,I4,qn⟩
  · refine wpAny_passesOwn hp (thn (T.item X rfl rfl rfl hc i pins s3 σ3 H3 X.xe I3 (stat fr3) st3 go) fun r s4 ⟨u,hr,h4⟩=>?_)
    subst hr
    refine wpAny_passesOwn hp (thn h4 fun _ s5 ⟨x,H5,I5,r5,y5,st5,fr5⟩=>?_)
    have I5':=I5.pinned (stat fr5) (T.obj _ _ st5)
    refine wpAny_passesOwn hp (thn (hg _ s5 σ3 H5 x u _ I5' r5 (step x H5 y5)) fun _ s6 ⟨σ6,H6,I6,q6⟩=>?_)
    refine wpAny_passesOwn hp (thn (hb _ s6 σ6 H6 _ I6 q6) fun f s7 q7=>?_)
    have again : ∀ {σ7 : St} {H7 : Hp},Inv X (pins ++ pinsAt fp s5.heap) σ7 H7 s7 → N σ7 H7 → ∃ m,m < n ∧ ∃ i σ' H',Inv X pins σ' H' s7 ∧ tn i s7.heap ∧ (∀ b ∈ fp,H' b = none) ∧ W i m σ' H':=fun {σ7 H7} I7 n7=>by
      obtain ⟨m',hm,w7⟩:=hN σ7 H7 n7
      refine ⟨m',hm,i + 1,σ7,H7,I7.unpinned,T.keep _ _ _ st5 fun b hb o e=>(I7.pin (b,o) (List.mem_append_right _ (List.mem_append_right _ (mem_pinsAt hb e)))).1,fun b hb=>?_,w7⟩
      obtain ⟨o,e,d⟩:=T.obj _ _ st5 b hb
      exact (I7.pin (b,o) (List.mem_append_right _ (List.mem_append_right _ (mem_pinsAt hb e)))).2.1
    cases f with
    | next=>obtain ⟨σ7,H7,I7,n7⟩:=q7; exact again I7 n7
    | cont=>obtain ⟨σ7,H7,I7,n7⟩:=q7; exact again I7 n7
    | brk=>obtain ⟨σ7,H7,I7,q7⟩:=q7; exact ⟨σ7,H7,I7.unpinned,q7⟩
    | ret v=>obtain ⟨x7,σ7,H7,I7,r7,q7⟩:=q7; exact ⟨x7,σ7,H7,I7.unpinned,r7,q7⟩
end
theorem for_list {K : PySem.W.Frag} {a : Addr} {xs : List V} {g : TG} {tb : TS} {D : Ends} {σ : St} {H : Hp} (Pv : Nat → St → Hp → Prop) (h0 : Pv 0 σ H) (hl : ∀ i σ H,i ≤ xs.length → Pv i σ H → SqL K H a xs)
    (hs : ∀ i x σ H,xs[i]? = some x → Pv i σ H → g x σ H fun σ2 H2=>tb { D with nx:=Pv (i + 1),ct:=Pv (i + 1),bk:=D.nx } σ2 H2) (hd : ∀ σ H,Pv xs.length σ H → D.nx σ H) :
    ∃ W : Nat → Nat → St → Hp → Prop,(∃ m,W 0 m σ H) ∧ ∀ i m σ H,W i m σ H →
      ((Itl K a).stop i H ∧ D.nx σ H) ∨ ((Itl K a).go i H ∧ ∃ N : St → Hp → Prop,(∀ σ' H',N σ' H' → ∃ m',m' < m ∧ W (i + 1) m' σ' H') ∧ ∀ x H',(Itl K a).yld i H x H' → g x σ H' fun σ2 H2=>tb { D with nx:=N,ct:=N,bk:=D.nx } σ2 H2):=by
  refine ⟨fun i m σ H=>m = xs.length - i ∧ i ≤ xs.length ∧ Pv i σ H,⟨xs.length,by simp,Nat.zero_le _,h0⟩,?_⟩
  rintro i m σ H ⟨rfl,hi,p⟩
  have q:=hl i σ H hi p
  by_cases hlt : i < xs.length
  · refine .inr ⟨⟨xs,xs[i],q,by simp [hlt]⟩,Pv (i + 1),fun σ' H' p'=>⟨xs.length - (i + 1),by omega,rfl,hlt,p'⟩,fun x H' y=>?_⟩
    obtain ⟨e,y⟩:=y
    subst e
    exact hs i x σ _ (y xs q) p
  · have e : i = xs.length:=by omega
    subst e
    exact .inl ⟨⟨xs,q,Nat.le_refl _⟩,hd σ H p⟩
theorem for_range {lo : Int} {n : Nat} {g : TG} {tb : TS} {D : Ends} {σ : St} {H : Hp} (Pv : Nat → St → Hp → Prop) (h0 : Pv 0 σ H)
    (hs : ∀ i σ H,i < n → Pv i σ H → g (.int (lo + i)) σ H fun σ2 H2=>tb { D with nx:=Pv (i + 1),ct:=Pv (i + 1),bk:=D.nx } σ2 H2) (hd : ∀ σ H,Pv n σ H → D.nx σ H) :
    ∃ W : Nat → Nat → St → Hp → Prop,(∃ m,W 0 m σ H) ∧ ∀ i m σ H,W i m σ H →
      ((Itr lo n).stop i H ∧ D.nx σ H) ∨ ((Itr lo n).go i H ∧ ∃ N : St → Hp → Prop,(∀ σ' H',N σ' H' → ∃ m',m' < m ∧ W (i + 1) m' σ' H') ∧ ∀ x H',(Itr lo n).yld i H x H' → g x σ H' fun σ2 H2=>tb { D with nx:=N,ct:=N,bk:=D.nx } σ2 H2):=by
  refine ⟨fun i m σ H=>m = n - i ∧ i ≤ n ∧ Pv i σ H,⟨n,by simp,Nat.zero_le _,h0⟩,?_⟩
  rintro i m σ H ⟨rfl,hi,p⟩
  by_cases hlt : i < n
  · refine .inr ⟨hlt,Pv (i + 1),fun σ' H' p'=>⟨n - (i + 1),by omega,rfl,hlt,p'⟩,fun x H' y=>?_⟩
    obtain ⟨e,y⟩:=y
    subst e y
    exact hs i σ _ hlt p
  · have e : i = n:=by omega
    subst e
    exact .inl ⟨Nat.le_refl _,hd σ H p⟩
theorem while_by {c : TT} {tb : TS} {D : Ends} {σ : St} {H : Hp} (Pv : St → Hp → Prop) (μ : St → Hp → Nat) (h0 : Pv σ H)
    (hs : ∀ σ H,Pv σ H → c σ H fun b H1=>if b = true then tb { D with nx:=fun σ' H'=>Pv σ' H' ∧ μ σ' H' < μ σ H,ct:=fun σ' H'=>Pv σ' H' ∧ μ σ' H' < μ σ H,bk:=D.nx } σ H1 else D.nx σ H1)
    (mono : ∀ σ H Q Q',(∀ b H1,Q b H1 → Q' b H1) → c σ H Q → c σ H Q') : tWhile c tb D σ H:=by
  refine ⟨fun m σ H=>m = μ σ H ∧ Pv σ H,⟨_,rfl,h0⟩,?_⟩
  rintro m σ H ⟨rfl,p⟩
  refine mono σ H _ _ (fun b H1 q=>?_) (hs σ H p)
  cases b with
  | true=>exact ⟨_,fun σ' H' ⟨p',l⟩=>⟨_,l,rfl,p'⟩,q⟩
  | false=>exact q
end L2
namespace L2
open PySem PySem.Spec PyProof.Rows
abbrev R2:=V → V → Hp → VK → Prop
def OpR (X : Cx) (f : Value → Value → Sem Value) (r : R2) : Prop :=
  ∀ (pins : List (Addr × Obj)) (s : Shared) (σ : St) (H : Hp) (x y : V) (v u : Value) (Q : VK),Inv X pins σ H s → RelV x v → RelV y u → r x y H Q →
    wpAny (model X.prog X.w) X.A (f v u) (EP X pins σ Q) X.xe s
def CallR (X : Cx) (f : Value) (r : List V → Hp → VK → Prop) : Prop :=
  ∀ (pins : List (Addr × Obj)) (s : Shared) (σ : St) (H : Hp) (xs : List V) (us : List Value) (Q : VK),Inv X pins σ H s → Vals xs us → r xs H Q →
    wpAny (model X.prog X.w) X.A (call f us) (EP X pins σ Q) X.xe s
def tOp (r : R2) (ta tb : TE) : TE:=fun σ H Q=>ta σ H fun x H1=>tb σ H1 fun y H2=>r x y H2 Q
def rI (C : Int → Int → Prop) (g : Int → Int → V) : R2:=fun x y H Q=>∃ i j,x = .int i ∧ y = .int j ∧ C i j ∧ Q (g i j) H
def rI0 (g : Int → Int → V) : R2:=fun x y H Q=>∃ i j,x = .int i ∧ y = .int j ∧ Q (g i j) H
section
variable {X : Cx} {a b c : Expr} {ta tb tc : TE} {pos : Pos}
theorem binT (ha : PE X a ta) (hb : PE X b tb) {pins : List (Addr × Obj)} {s : Shared} {σ : St} {H : Hp} {R : V → V → Hp → Prop} (I : Inv X pins σ H s)
    (h : ta σ H fun x H1=>tb σ H1 fun y H2=>R x y H2) {Q : Value → Shared → Prop} {f : Value → Value → Sem Value}
    (hf : ∀ v u s2 x y H2,Inv X pins σ H2 s2 → RelV x v → RelV y u → R x y H2 → wpAny (model X.prog X.w) X.A (f v u) Q X.xe s2) :
    wpAny (model X.prog X.w) X.A (eval a X.env) (fun v s₁=>wpAny (model X.prog X.w) X.A (eval b X.env) (fun u s₂=>wpAny (model X.prog X.w) X.A (f v u) Q X.xe s₂) X.xe s₁) X.xe s:=by
  refine thn (ha pins s σ H _ I h) fun v s1 ⟨x,H1,I1,r1,q1⟩=>?_
  refine thn (hb pins s1 σ H1 _ I1 q1) fun u s2 ⟨y,H2,I2,r2,q2⟩=>?_
  exact hf v u s2 x y H2 I2 r1 r2 q2
theorem pe_op {op : Operator} {r : R2} (ho : OpR X (binaryOp op) r) (ha : PE X a ta) (hb : PE X b tb) : PE X (.BinOp a op b pos) (tOp r ta tb):=by
  intro pins s σ H Q I h
  exact wpAny_BinOp (binT ha hb I h fun v u s2 x y H2 I2 rx ry q=>ho pins s2 σ H2 x y v u Q I2 rx ry q)
theorem opI {f : Value → Value → Sem Value} {C : Int → Int → Prop} {g : Int → Int → Int}
    (rule : ∀ (i j : Int) (t u : Tok) (s : Shared) (Q : Value → Shared → Prop) (E : Value → Shared → Prop),C i j → Q (.int (g i j) s.toks) { s with toks:=s.toks + 1 } → wpAny (model X.prog X.w) X.A (f (.int i t) (.int j u)) Q E s) :
    OpR X f (rI C fun i j=>.int (g i j)):=by
  intro pins s σ H x y v u Q I rx ry h
  obtain ⟨i,j,rfl,rfl,hc,q⟩:=h
  obtain ⟨t,rfl⟩:=rx
  obtain ⟨t',rfl⟩:=ry
  exact rule i j t t' s _ _ hc ⟨.int (g i j),H,I.tok _,⟨_,rfl⟩,q⟩
theorem opI0 {f : Value → Value → Sem Value} {g : Int → Int → Int}
    (rule : ∀ (i j : Int) (t u : Tok) (s : Shared) (Q : Value → Shared → Prop) (E : Value → Shared → Prop),Q (.int (g i j) s.toks) { s with toks:=s.toks + 1 } → wpAny (model X.prog X.w) X.A (f (.int i t) (.int j u)) Q E s) :
    OpR X f (rI0 fun i j=>.int (g i j)):=by
  intro pins s σ H x y v u Q I rx ry h
  obtain ⟨i,j,rfl,rfl,q⟩:=h
  obtain ⟨t,rfl⟩:=rx
  obtain ⟨t',rfl⟩:=ry
  exact rule i j t t' s _ _ ⟨.int (g i j),H,I.tok _,⟨_,rfl⟩,q⟩
theorem opB0 {f : Value → Value → Sem Value} {g : Int → Int → Bool}
    (rule : ∀ (i j : Int) (t u : Tok) (s : Shared) (Q : Value → Shared → Prop) (E : Value → Shared → Prop),Q (.bool (g i j)) s → wpAny (model X.prog X.w) X.A (f (.int i t) (.int j u)) Q E s) :
    OpR X f (rI0 fun i j=>.bl (g i j)):=by
  intro pins s σ H x y v u Q I rx ry h
  obtain ⟨i,j,rfl,rfl,q⟩:=h
  obtain ⟨t,rfl⟩:=rx
  obtain ⟨t',rfl⟩:=ry
  exact rule i j t t' s _ _ ⟨.bl (g i j),H,I,rfl,q⟩
def CDiv (i j : Int) : Prop:=0 < j ∧ j < 1073741824
def CMul (i j : Int) : Prop:=(-(2 ^ 64) < i ∧ i < 2 ^ 64) ∨ (-(2 ^ 64) < j ∧ j < 2 ^ 64)
theorem CMul.ok {i j : Int} (h : CMul i j) : IntMulOk i j:=by
  rcases h with ⟨h1,h2⟩ | ⟨h1,h2⟩
  · exact .of_left (intBits_le_64 h1 h2)
  · exact .of_right (intBits_le_64 h1 h2)
theorem op_add : OpR X (binaryOp .Add) (rI0 fun i j=>.int (i + j)):=opI0 fun _ _ _ _ _ _ _ q=>add_int q
theorem op_sub : OpR X (binaryOp .Sub) (rI0 fun i j=>.int (i - j)):=opI0 fun _ _ _ _ _ _ _ q=>sub_int q
theorem op_mul : OpR X (binaryOp .Mult) (rI CMul fun i j=>.int (i * j)):=opI fun _ _ _ _ _ _ _ hc q=>mul_int q hc.ok
theorem op_fdiv : OpR X (binaryOp .FloorDiv) (rI CDiv fun i j=>.int (i / j)):=opI fun i j _ _ _ _ _ hc q=>by
  have h1 : (0 : Int) < j:=hc.1
  have h2 : j < 1073741824:=hc.2
  exact floordiv_int (by omega) (by rw [Int.fdiv_eq_ediv_of_nonneg i (by omega)]; exact q) (.inl (PyProof.noPylong_small (by omega)))
theorem op_mod : OpR X (binaryOp .Mod) (rI (fun _ j=>0 < j) fun i j=>.int (i % j)):=opI fun i j _ _ _ _ _ hc q=>by
  have h1 : (0 : Int) < j:=hc
  exact mod_int' (by omega) (by rw [Int.fmod_eq_emod_of_nonneg i (by omega)]; exact q)
end
def scal : V → V → Bool
  | .non,.non=>true | .non,.int _=>true | .int _,.non=>true | .non,.bl _=>true | .bl _,.non=>true | .non,.str _=>true | .str _,.non=>true
  | .int _,.int _=>true | .bl _,.bl _=>true | .str _,.str _=>true | .byt _,.byt _=>true
  | .int _,.str _=>true | .str _,.int _=>true | .bl _,.str _=>true | .str _,.bl _=>true
  | _,_=>false
def rEq : R2:=fun x y H Q=>scal x y = true ∧ Q (.bl (decide (x = y))) H
def rNe : R2:=fun x y H Q=>scal x y = true ∧ Q (.bl (!decide (x = y))) H
theorem dec_int {i j : Int} : decide (V.int i = V.int j) = (i == j):=by
  rw [Bool.eq_iff_iff]
  simp
theorem dec_bl {i j : Bool} : decide (V.bl i = V.bl j) = (i == j):=by
  rw [Bool.eq_iff_iff]
  simp
theorem dec_str {i j : Str} : decide (V.str i = V.str j) = (i == j):=by
  rw [Bool.eq_iff_iff]
  simp
theorem dec_byt {i j : Array UInt8} : decide (V.byt i = V.byt j) = (i.toList == j.toList):=by
  rw [Bool.eq_iff_iff]
  cases i
  cases j
  simp
section
variable {X : Cx} {a b c : Expr} {ta tb tc : TE} {pos : Pos}
theorem fin_bl {pins : List (Addr × Obj)} {σ : St} {H : Hp} {s : Shared} {Q : VK} {k k' : Bool} (I : Inv X pins σ H s) (q : Q (.bl k) H) (e : k = k') : EP X pins σ Q (.bool k') s:=by
  subst e
  exact ⟨.bl k,H,I,rfl,q⟩
theorem op_eq : OpR X (compareOp .Eq) rEq:=by
  intro pins s σ H x y v u Q I rx ry h
  obtain ⟨hs,q⟩:=h
  cases x with
  | non =>
    cases rx
    cases y with
    | non=>cases ry; exact PySem.EqNone.eq_none_none (fin_bl I q (by simp))
    | bl j=>cases ry; exact PySem.EqNone.eq_none_bool (fin_bl I q (by simp))
    | int j=>obtain ⟨t',rfl⟩:=ry; exact PySem.EqNone.eq_none_int (fin_bl I q (by simp))
    | str j=>obtain ⟨t',rfl⟩:=ry; exact PySem.EqNone.eq_none_str (fin_bl I q (by simp))
    | _=>exact absurd (show false = true from hs) Bool.false_ne_true
  | bl i =>
    cases rx
    cases y with
    | non=>cases ry; exact PySem.EqNone.eq_bool_none (fin_bl I q (by simp))
    | bl j=>cases ry; exact eq_bool (fin_bl I q dec_bl)
    | str j=>obtain ⟨t',rfl⟩:=ry; exact PySem.EqMixed.eq_bool_str (fin_bl I q (by simp))
    | _=>exact absurd (show false = true from hs) Bool.false_ne_true
  | int i =>
    obtain ⟨t,rfl⟩:=rx
    cases y with
    | non=>cases ry; exact PySem.EqNone.eq_int_none (fin_bl I q (by simp))
    | int j=>obtain ⟨t',rfl⟩:=ry; exact eq_int (fin_bl I q dec_int)
    | str j=>obtain ⟨t',rfl⟩:=ry; exact PySem.EqMixed.eq_int_str (fin_bl I q (by simp))
    | _=>exact absurd (show false = true from hs) Bool.false_ne_true
  | str i =>
    obtain ⟨t,rfl⟩:=rx
    cases y with
    | non=>cases ry; exact PySem.EqNone.eq_str_none (fin_bl I q (by simp))
    | bl j=>cases ry; exact PySem.EqMixed.eq_str_bool (fin_bl I q (by simp))
    | int j=>obtain ⟨t',rfl⟩:=ry; exact PySem.EqMixed.eq_str_int (fin_bl I q (by simp))
    | str j=>obtain ⟨t',rfl⟩:=ry; exact eq_str (fin_bl I q dec_str)
    | _=>exact absurd (show false = true from hs) Bool.false_ne_true
  | byt i =>
    obtain ⟨t,rfl⟩:=rx
    cases y with
    | byt j=>obtain ⟨t',rfl⟩:=ry; exact PySem.W.eq_bytes (fin_bl I q dec_byt)
    | _=>exact absurd (show false = true from hs) Bool.false_ne_true
  | _=>cases y <;> exact absurd (show false = true from hs) Bool.false_ne_true
theorem op_ne : OpR X (compareOp .NotEq) rNe:=by
  intro pins s σ H x y v u Q I rx ry h
  obtain ⟨hs,q⟩:=h
  cases x with
  | non =>
    cases rx
    cases y with
    | non=>cases ry; exact PySem.EqNone.ne_none_none (fin_bl I q (by simp))
    | bl j=>cases ry; exact PySem.EqNone.ne_none_bool (fin_bl I q (by simp))
    | int j=>obtain ⟨t',rfl⟩:=ry; exact PySem.EqNone.ne_none_int (fin_bl I q (by simp))
    | str j=>obtain ⟨t',rfl⟩:=ry; exact PySem.EqNone.ne_none_str (fin_bl I q (by simp))
    | _=>exact absurd (show false = true from hs) Bool.false_ne_true
  | bl i =>
    cases rx
    cases y with
    | non=>cases ry; exact PySem.EqNone.ne_bool_none (fin_bl I q (by simp))
    | bl j=>cases ry; exact ne_bool (fin_bl I q (congrArg not dec_bl))
    | str j=>obtain ⟨t',rfl⟩:=ry; exact PySem.EqMixed.ne_bool_str (fin_bl I q (by simp))
    | _=>exact absurd (show false = true from hs) Bool.false_ne_true
  | int i =>
    obtain ⟨t,rfl⟩:=rx
    cases y with
    | non=>cases ry; exact PySem.EqNone.ne_int_none (fin_bl I q (by simp))
    | int j=>obtain ⟨t',rfl⟩:=ry; exact ne_int (fin_bl I q (congrArg not dec_int))
    | str j=>obtain ⟨t',rfl⟩:=ry; exact PySem.EqMixed.ne_int_str (fin_bl I q (by simp))
    | _=>exact absurd (show false = true from hs) Bool.false_ne_true
  | str i =>
    obtain ⟨t,rfl⟩:=rx
    cases y with
    | non=>cases ry; exact PySem.EqNone.ne_str_none (fin_bl I q (by simp))
    | bl j=>cases ry; exact PySem.EqMixed.ne_str_bool (fin_bl I q (by simp))
    | int j=>obtain ⟨t',rfl⟩:=ry; exact PySem.EqMixed.ne_str_int (fin_bl I q (by simp))
    | str j=>obtain ⟨t',rfl⟩:=ry; exact ne_str (fin_bl I q (congrArg not dec_str))
    | _=>exact absurd (show false = true from hs) Bool.false_ne_true
  | byt i =>
    obtain ⟨t,rfl⟩:=rx
    cases y with
    | byt j=>obtain ⟨t',rfl⟩:=ry; exact PySem.W.ne_bytes (fin_bl I q (congrArg not dec_byt))
    | _=>exact absurd (show false = true from hs) Bool.false_ne_true
  | _=>cases y <;> exact absurd (show false = true from hs) Bool.false_ne_true
theorem op_lt : OpR X (compareOp .Lt) (rI0 fun i j=>.bl (decide (i < j))):=opB0 fun _ _ _ _ _ _ _ q=>lt_int q
theorem op_le : OpR X (compareOp .LtE) (rI0 fun i j=>.bl (decide (i ≤ j))):=opB0 fun _ _ _ _ _ _ _ q=>le_int q
theorem op_gt : OpR X (compareOp .Gt) (rI0 fun i j=>.bl (decide (j < i))):=opB0 fun _ _ _ _ _ _ _ q=>gt_int q
theorem op_ge : OpR X (compareOp .GtE) (rI0 fun i j=>.bl (decide (j ≤ i))):=opB0 fun _ _ _ _ _ _ _ q=>ge_int q
theorem nomark (b : Expr) {op : CmpOp} (h : op ≠ .In:=by decide) (h2 : op ≠ .NotIn:=by decide) : behindInMarks op b = false:=by
  have e1 : (op == CmpOp.In) = false:=by cases op <;> first | rfl | exact absurd rfl h
  have e2 : (op == CmpOp.NotIn) = false:=by cases op <;> first | rfl | exact absurd rfl h2
  cases b <;> simp [behindInMarks,e1,e2]
theorem pe_cmpR {op : CmpOp} {r : R2} (ho : OpR X (compareOp op) r) (ha : PE X a ta) (hb : PE X b tb) (hm : behindInMarks op b = false) : PE X (.Compare a [op] [b] pos) (tOp r ta tb):=by
  intro pins s σ H Q I h
  exact wpAny_Compare1 (binT ha hb I h fun v u s2 x y H2 I2 rx ry q=>ho pins s2 σ H2 x y v u Q I2 rx ry q) hm
def tTest (t : TE) : TT:=fun σ H Q=>t σ H fun x H'=>∃ k,x = .bl k ∧ Q k H'
theorem pt_cmpR {op : CmpOp} {r : R2} (ho : OpR X (compareOp op) r) (ha : PE X a ta) (hb : PE X b tb) (hm : behindInMarks op b = false) : PT X (.Compare a [op] [b] pos) (tTest (tOp r ta tb)):=by
  intro pins s σ H Q I h
  refine wpAny_isTrue_Compare1 (thn (ha pins s σ H _ I h) fun v s1 ⟨x,H1,I1,r1,q1⟩=>thn (hb pins s1 σ H1 _ I1 q1) fun u s2 ⟨y,H2,I2,r2,q2⟩ =>
    thn (ho pins s2 σ H2 x y v u _ I2 r1 r2 q2) fun c s3 ⟨z,H3,I3,r3,k,e,q3⟩=>?_) hm
  subst e
  cases r3
  exact wpAny_truthy_bool ⟨H3,I3,q3⟩
def tChain (r r' : R2) (ta tb tc : TE) : TE:=fun σ H Q=>ta σ H fun x H1=>tb σ H1 fun y H2=>r x y H2 fun z H3=>∃ k,z = .bl k ∧
  (if k = true then tc σ H3 fun w' H4=>r' y w' H4 Q else Q (.bl false) H3)
theorem pe_chain {op op' : CmpOp} {r r' : R2} (ho : OpR X (compareOp op) r) (ho' : OpR X (compareOp op') r') (ha : PE X a ta) (hb : PE X b tb) (hc : PE X c tc)
    (hm : lastMarks [op,op'] [b,c] = false:=by with_unfolding_all rfl) : PE X (.Compare a [op,op'] [b,c] pos) (tChain r r' ta tb tc):=by
  intro pins s σ H Q I h
  refine Compare_chain (thn (ha pins s σ H _ I h) fun v s1 ⟨x,H1,I1,r1,q1⟩=>chain_link (thn (hb pins s1 σ H1 _ I1 q1) fun u s2 ⟨y,H2,I2,r2,q2⟩ =>
    thn (ho pins s2 σ H2 x y v u _ I2 r1 r2 q2) fun d s3 ⟨z,H3,I3,r3,k,e,q3⟩=>?_)) hm
  subst e
  cases r3
  refine wpAny_truthy_bool ?_
  cases k with
  | false=>exact ite_ff ⟨.bl false,H3,I3,rfl,q3⟩
  | true=>exact ite_tt (chain_last (thn (hc pins s3 σ H3 _ I3 q3) fun w' s4 ⟨z',H4,I4,r4,q4⟩=>ho' pins s4 σ H4 y z' u w' Q I4 r2 r4 q4))
theorem pt_chain {op op' : CmpOp} {r r' : R2} (ho : OpR X (compareOp op) r) (ho' : OpR X (compareOp op') r') (ha : PE X a ta) (hb : PE X b tb) (hc : PE X c tc)
    (hm : lastMarks [op,op'] [b,c] = false:=by with_unfolding_all rfl) : PT X (.Compare a [op,op'] [b,c] pos) (tTest (tChain r r' ta tb tc)):=by
  intro pins s σ H Q I h
  refine isTrue_chain (thn (ha pins s σ H _ I h) fun v s1 ⟨x,H1,I1,r1,q1⟩=>test_link (thn (hb pins s1 σ H1 _ I1 q1) fun u s2 ⟨y,H2,I2,r2,q2⟩ =>
    thn (ho pins s2 σ H2 x y v u _ I2 r1 r2 q2) fun d s3 ⟨z,H3,I3,r3,k,e,q3⟩=>?_)) hm
  subst e
  cases r3
  refine wpAny_truthy_bool ?_
  cases k with
  | false =>
    obtain ⟨k',e',q'⟩:=q3
    cases e'
    exact ite_ff ⟨H3,I3,q'⟩
  | true =>
    refine ite_tt (test_last (thn (hc pins s3 σ H3 _ I3 q3) fun w' s4 ⟨z',H4,I4,r4,q4⟩=>thn (ho' pins s4 σ H4 y z' u w' _ I4 r2 r4 q4) fun d' s5 ⟨z2,H5,I5,r5,k2,e2,q5⟩=>?_))
    subst e2
    cases r5
    exact wpAny_truthy_bool ⟨H5,I5,q5⟩
theorem line63 : (sizeLine : Nat) < 2 ^ 63:=by rw [sizeLine_eq]; decide
theorem op_add_str : OpR X (binaryOp .Add) (fun x y H Q=>∃ i j,x = .str i ∧ y = .str j ∧ i.length + j.length ≤ sizeLine ∧ Q (.str (i ++ j)) H):=by
  intro pins s σ H x y v u Q I rx ry h
  obtain ⟨i,j,rfl,rfl,hz,q⟩:=h
  obtain ⟨t,rfl⟩:=rx
  obtain ⟨t',rfl⟩:=ry
  exact add_str (fun t' tk=>⟨.str (i ++ j),H,I.tok _,⟨_,rfl⟩,q⟩) hz
theorem vals1 {x : V} {us : List Value} (r : Vals [x] us) : ∃ u,us = [u] ∧ RelV x u:=by
  cases r with
  | cons r1 r2=>cases r2; exact ⟨_,rfl,r1⟩
theorem call_abs : CallR X (.builtin "abs") (fun xs H Q=>∃ i,xs = [.int i] ∧ Q (.int (if i < 0 then -i else i)) H):=by
  intro pins s σ H xs us Q I r h
  obtain ⟨i,rfl,q⟩:=h
  obtain ⟨u,rfl,t,rfl⟩:=vals1 r
  exact call_abs_int fun u tk=>⟨.int (if i < 0 then -i else i),H,I.tok _,⟨_,rfl⟩,q⟩
theorem call_str_int : CallR X (.type "str") (fun xs H Q=>∃ i,xs = [.int i] ∧ i.natAbs.log2 < 1920 ∧ Q (.str (toString i)) H):=by
  intro pins s σ H xs us Q I r h
  obtain ⟨i,rfl,hz,q⟩:=h
  obtain ⟨u,rfl,t,rfl⟩:=vals1 r
  exact PySem.P.str_of_int hz ⟨.str _,H,I.tok _,⟨_,rfl⟩,q⟩
end
end L2
namespace L2
open PySem PySem.Spec PyProof.Rows
structure ObjM (h : Heap) (x dx C : Addr) (mA : Str → Option Value) : Prop where
  obj : h.get? x = some (PySem.W.instObj C dx)
  ns : h.Ns1 dx mA
  ne : dx ≠ x
theorem lookIn_ns {h : Heap} {dx : Addr} {mA : Str → Option Value} (n : h.Ns1 dx mA) : ∃ od,h.get? dx = some od ∧ ∀ name,PySem.W.lookIn name od = some (mA name):=by
  obtain ⟨o,es,ep,ho,hd,hk,_,hm⟩:=n
  refine ⟨o,ho,fun name=>?_⟩
  have e:=hm name
  unfold nsFind findBy at e
  rw [← Array.find?_toList] at e
  unfold PySem.W.lookIn
  rw [hd]
  dsimp only
  split
  · rename_i y q
    rw [q] at e
    exact congrArg some e
  · rename_i q
    rw [q] at e
    have a : es.toList.any (·.refKey) = false:=by
      rw [List.any_eq_false]
      intro y hy
      obtain ⟨z,t,hkey⟩:=hk y (Array.mem_toList_iff.mp hy)
      simp [DictEntry.refKey,hkey]
    have a' : ¬ es.toList.any (·.refKey) = true:=by rw [a]; exact Bool.false_ne_true
    rw [if_neg a']
    exact congrArg some e
theorem ObjM.look {h : Heap} {x dx C : Addr} {mA : Str → Option Value} (I : ObjM h x dx C mA) : ∃ od,PySem.W.InstAt h x (PySem.W.instObj C dx) C (some od) ∧ ∀ name,PySem.W.lookIn name od = some (mA name) :=
  let ⟨od,ho,hl⟩:=lookIn_ns I.ns
  ⟨od,⟨I.obj,rfl,rfl,ho⟩,hl⟩
section
variable {prog : Program} {w : World} {A : Around} {E : Value → Shared → Prop} {s : Shared} {K : PySem.W.Frag} {x dx C f : Addr} {mA : Str → Option Value} {name : Str} {v : Value}
theorem get_map {expr : Bool} {Q : Value → Shared → Prop} (X : K.In s.heap) (I : ObjM s.heap x dx C mA) (hg : PySem.W.plainGet K C name = true) (hh : PySem.W.hasDictIn K C = true)
    (ha : PySem.W.findIn K (.ref C) name = some none) (hv : mA name = some v) (hv' : PySem.W.handedIn v = true) (h : Q v { s with toks:=s.toks + 1 }) :
    wpAny (model prog w) A (getAttr (.ref x) name expr) Q E s:=by
  obtain ⟨od,J,hl⟩:=I.look
  exact PySem.W.get_value X J (PySem.W.plainGet_of hg).1 (PySem.W.findObj_own hh ha rfl (by rw [hl,hv])) hv' h
theorem get_meth {pl : Sem Bool} {Q : Value × List Value → Shared → Prop} (X : K.In s.heap) (I : ObjM s.heap x dx C mA) (hg : PySem.W.plainGet K C name = true)
    (hf : PySem.W.findIn K (.ref C) name = some (some (.ref f))) (ht : PySem.W.isFn K (.ref f) = true) (hv : mA name = none) (h : Q (.ref f,[.ref x]) s) :
    wpAny (model prog w) A (getMethod (.ref x) name pl) Q E s:=by
  obtain ⟨od,J,hl⟩:=I.look
  exact PySem.W.method_fn X J (PySem.W.plainGet_of hg).1 (PySem.W.plainGet_of hg).2 hf (beq_iff_eq.mp ht) (by show (PySem.W.lookIn name od).map (·.isSome) = some false; rw [hl,hv]; rfl) h
theorem set_map {ns : List Str} {Q : Unit → Shared → Prop} (X : K.In s.heap) (I : ObjM s.heap x dx C mA)
    (hs : PySem.W.findIn K (.ref C) "__setattr__" = some (some (.builtin "object.__setattr__"))) (hp : PySem.W.plainOver K C = true) (ht : PySem.W.takerIn K C name = some none) (hh : PySem.W.hasDictIn K C = true)
    (hw : PySem.Within mA ns) (hsz : ns.length ≤ sizeLine)
    (h : ∀ h',ObjM h' x dx C (fun y=>if y = name then some v else mA y) → Heap.SameBut dx s.heap h' → Q () { s with heap:=h',toks:=s.toks + 2 }) :
    wpAny (model prog w) A (setAttr (.ref x) name v) Q E s:=by
  obtain ⟨od,J,hl⟩:=I.look
  refine PySem.W.set_plain X J hs (PySem.W.osa_open (s:={ s with toks:=s.toks + 1 }) (r:=none) X J hp ht fun b=>?_)
  obtain ⟨cd,hc,hd'⟩:=PySem.W.any_some hh
  have hx : s.heap.get? x = some ⟨.ref C,some dx,.plain,#[]⟩:=I.obj
  refine wpAny_bind (wpAny_pure (wpAny_bind (wpAny_bind (wpAny_loadPart hx (wpAny_bind (PySem.W.Looks.here (s:={ s with toks:=s.toks + 1 }) (PySem.W.looks_clsIn X hc) ?_))))))
  rw [hd']
  refine wpAny_pure (a:=some dx) (wpAny_bind (wpAny_pure (wpAny_bind ?_)))
  refine wpAny_nsSet1 (s:={ s with toks:=s.toks + 1 }) I.ns fun h' hn2 hs2=>?_
  obtain ⟨oD,esD,epD,hoD,hdD,hcD⟩:=hn2.count (PySem.Within.cons name v hw)
  refine wpAny_bind (wpAny_lookBehind hoD (by rw [hdD]; exact pastItsLine_dict (Nat.le_trans hcD (by rw [List.length_cons]; omega))) ?_)
  exact wpAny_pure (h _ ⟨(hs2.2 _ (Ne.symm I.ne)).trans I.obj,hn2,I.ne⟩ hs2)
theorem make_map {R : Result → Shared → Prop} {vs : List Value} {kw : List (Str × Value)} (X : K.In s.heap) (hm : PySem.W.makesIn K C = true)
    (hi : PySem.W.findIn K (.ref C) "__init__" = some (some (.ref f))) (hf : PySem.W.typeIn K (.ref f) = some (.type "function"))
    (h : codeAny (model prog w) (A.under (.builtin "type.__call__" ⟨.ref C :: vs,kw⟩)) (.call (.ref f) ⟨.ref (s.heap.objs.size + 1) :: vs,kw⟩) (PySem.W.InitBack (s.heap.objs.size + 1) R)
      { s with heap:=(s.heap.push PySem.W.emptyDict).push (PySem.W.instObj C s.heap.objs.size) }) :
    codeAny (model prog w) A (.call (.ref C) ⟨vs,kw⟩) R s:=by
  obtain ⟨hh,g,d,t,os⟩:=s
  exact PySem.W.make_core (PySem.W.makes_of X hm) (PySem.W.looks_findIn X hi) (fun self=>PySem.W.bind_fn X self hf) (.inl rfl) h
end
def putF (f : Str) (v : V) : List (Str × V) → List (Str × V)
  | []=>[(f,v)]
  | (g,x) :: r=>if g = f then (g,v) :: r else (g,x) :: putF f v r
theorem lookup_putF (f g : Str) (v : V) : ∀ fs : List (Str × V),(putF f v fs).lookup g = if g = f then some v else fs.lookup g
  | []=>by
    show List.lookup g [(f,v)] = _
    by_cases h : g = f
    · have hb : (g == f) = true:=beq_iff_eq.mpr h
      simp only [List.lookup,hb,if_pos h]
    · have hb : (g == f) = false:=beq_eq_false_iff_ne.mpr h
      simp only [List.lookup,hb,if_neg h]
  | (k,x) :: r=>by
    have ih:=lookup_putF f g v r
    rw [show putF f v ((k,x) :: r) = (if k = f then (k,v) :: r else (k,x) :: putF f v r) from rfl]
    by_cases hk : k = f
    · rw [if_pos hk]
      by_cases h : g = k
      · have hb : (g == k) = true:=beq_iff_eq.mpr h
        simp only [List.lookup,hb,if_pos (h.trans hk)]
      · have hb : (g == k) = false:=beq_eq_false_iff_ne.mpr h
        simp only [List.lookup,hb,if_neg (fun e : g = f=>h (e.trans hk.symm))]
    · rw [if_neg hk]
      by_cases h : g = k
      · have hb : (g == k) = true:=beq_iff_eq.mpr h
        simp only [List.lookup,hb,if_neg (fun e : g = f=>hk (h.symm.trans e))]
      · have hb : (g == k) = false:=beq_eq_false_iff_ne.mpr h
        simp only [List.lookup,hb]
        exact ih
theorem keys_putF (f : Str) (v : V) : ∀ fs : List (Str × V),f ∈ (putF f v fs).map (·.1) ∧ ∀ g,g ∈ fs.map (·.1) → g ∈ (putF f v fs).map (·.1)
  | []=>⟨by simp [putF],fun g h=>by simp at h⟩
  | (k,x) :: r=>by
    obtain ⟨i1,i2⟩:=keys_putF f v r
    rw [show putF f v ((k,x) :: r) = (if k = f then (k,v) :: r else (k,x) :: putF f v r) from rfl]
    by_cases hk : k = f
    · rw [if_pos hk]
      subst hk
      exact ⟨by simp,fun g h=>by simpa using h⟩
    · rw [if_neg hk]
      refine ⟨?_,fun g h=>?_⟩
      · rw [List.map_cons]
        exact List.mem_cons_of_mem _ i1
      · rw [List.map_cons] at h ⊢
        rcases List.mem_cons.mp h with e | e
        · exact List.mem_cons.mpr (.inl e)
        · exact List.mem_cons_of_mem _ (i2 g e)
theorem length_putF (f : Str) (v : V) : ∀ fs : List (Str × V),(putF f v fs).length ≤ fs.length + 1
  | []=>by simp [putF]
  | (k,x) :: r=>by
    have ih:=length_putF f v r
    rw [show putF f v ((k,x) :: r) = (if k = f then (k,v) :: r else (k,x) :: putF f v r) from rfl]
    by_cases hk : k = f
    · rw [if_pos hk,List.length_cons,List.length_cons]; omega
    · rw [if_neg hk,List.length_cons,List.length_cons]; omega
theorem RelO.some_of {v : V} {o : Option Value} (r : RelO (some v) o) : ∃ u,o = some u ∧ RelV v u:=by
  cases o with
  | none=>exact (show False from r).elim
  | some u=>exact ⟨u,rfl,r⟩
theorem RelO.none_of {o : Option Value} (r : RelO none o) : o = none:=by
  cases o with
  | none=>rfl
  | some u=>exact (show False from r).elim
theorem handed_of {v : V} {u : Value} (r : RelV v u) : PySem.W.handedIn u = true:=by
  cases v with
  | non=>cases (show u = Value.none from r); rfl
  | bl b=>cases (show u = Value.bool b from r); rfl
  | int i=>obtain ⟨t,e⟩:=(show ∃ t,u = Value.int i t from r); cases e; rfl
  | str x=>obtain ⟨t,e⟩:=(show ∃ t,u = Value.str x t from r); cases e; rfl
  | byt b=>obtain ⟨t,e⟩:=(show ∃ t,u = Value.bytes b t from r); cases e; rfl
  | flt b=>obtain ⟨t,e⟩:=(show ∃ t,u = Value.float b t from r); cases e; rfl
  | ref a=>cases (show u = Value.ref a from r); rfl
  | ty n=>cases (show u = Value.type n from r); rfl
section
variable {P : Program} {w : World} {H H' : Hp} {h h' : Heap} {a C dx : Addr} {fs fs' : List (Str × V)}
theorem ins_get (hok : HOk P w H h) (e : H a = some (.ins C dx fs)) : ∃ mA,ObjM h a dx C mA ∧ (∀ f,RelO (fs.lookup f) (mA f)) ∧ PySem.Within mA (fs.map (·.1)) ∧ fs.length ≤ 1000 ∧ H dx = some (.own a):=by
  obtain ⟨d,z,ne,ob,mA,n,r,q⟩:=(show ObjOk P w H h a (.ins C dx fs) from hok a _ e)
  exact ⟨mA,⟨ob,n,ne⟩,r,q,z,d⟩
end
structure Cls (K : PySem.W.Frag) (C : Addr) : Prop where
  pg : PySem.W.plainGet K C Str.empty = true
  hd : PySem.W.hasDictIn K C = true
  po : PySem.W.plainOver K C = true
  sa : PySem.W.findIn K (.ref C) "__setattr__" = some (some (.builtin "object.__setattr__"))
theorem Cls.get {K : PySem.W.Frag} {C : Addr} (c : Cls K C) (f : Str) : PySem.W.plainGet K C f = true:=c.pg
def NoAttr (K : PySem.W.Frag) (C : Addr) (f : Str) : Prop:=PySem.W.findIn K (.ref C) f = some none
theorem NoAttr.taker {K : PySem.W.Frag} {C : Addr} {f : Str} (n : NoAttr K C f) : PySem.W.takerIn K C f = some none:=by
  unfold PySem.W.takerIn
  rw [show PySem.W.findIn K (.ref C) f = some none from n]
  rfl
structure Con (K : PySem.W.Frag) (C : Addr) (f : Str) (v : V) (u : Value) : Prop where
  at_ : PySem.W.findIn K (.ref C) f = some (some u)
  rel : RelV v u
  get : PySem.W.specialIn K u "__get__" = some none
  cp : PySem.W.copiedNames.contains f = false
structure Meth (K : PySem.W.Frag) (C : Addr) (m : Str) (f : Addr) : Prop where
  at_ : PySem.W.findIn K (.ref C) m = some (some (.ref f))
  fn : PySem.W.isFn K (.ref f) = true
  kp : PySem.W.keepIn K (.ref f) = true
section
variable {X : Cx} {pins : List (Addr × Obj)} {σ : St} {H : Hp} {s : Shared} {a C dx : Addr} {fs : List (Str × V)} {f : Str} {v : V} {A : Around} {E : Value → Shared → Prop}
theorem getattr_ok {b : Bool} {Q : Value → Shared → Prop} (I : Inv X pins σ H s) (e : H a = some (.ins C dx fs)) (c : Cls X.K C) (n : NoAttr X.K C f) (l : fs.lookup f = some v)
    (h : ∀ u s',Inv X pins σ H s' → RelV v u → Q u s') : wpAny (model X.prog X.w) A (getAttr (.ref a) f b) Q E s:=by
  obtain ⟨mA,O,r,_,_,_⟩:=ins_get I.hok e
  obtain ⟨u,hu,ru⟩:=RelO.some_of (v:=v) (o:=mA f) (by rw [← l]; exact r f)
  exact get_map I.kIn O (c.get f) c.hd n hu (handed_of ru) (h u _ (I.tok _) ru)
theorem getmeth_ok {m : Str} {g : Addr} {pl : Sem Bool} {Q : Value × List Value → Shared → Prop} (I : Inv X pins σ H s) (e : H a = some (.ins C dx fs)) (c : Cls X.K C) (k : Meth X.K C m g) (l : fs.lookup m = none)
    (h : Q (.ref g,[.ref a]) s) : wpAny (model X.prog X.w) A (getMethod (.ref a) m pl) Q E s:=by
  obtain ⟨mA,O,r,_,_,_⟩:=ins_get I.hok e
  have hn : mA m = none:=RelO.none_of (by rw [← l]; exact r m)
  exact get_meth I.kIn O (c.get m) k.at_ k.fn hn h
theorem setattr_ok {y : V} {u : Value} {Q : Unit → Shared → Prop} (I : Inv X pins σ H s) (e : H a = some (.ins C dx fs)) (c : Cls X.K C) (n : NoAttr X.K C f) (hl : fs.length < 1000) (ry : RelV y u)
    (h : ∀ s',Inv X pins σ (upd H a (.ins C dx (putF f y fs))) s' → Q () s') : wpAny (model X.prog X.w) A (setAttr (.ref a) f u) Q E s:=by
  obtain ⟨mA,O,r,wi,_,ho⟩:=ins_get I.hok e
  have hz : (fs.map (·.1)).length ≤ sizeLine:=by rw [List.length_map,sizeLine_eq]; omega
  refine set_map I.kIn O c.sa c.po n.taker c.hd wi hz fun h' O' sb=>h _ ?_
  have hd : ∃ o,h'.get? dx = some o:=let ⟨o,_,_,e',_⟩:=O'.ns; ⟨o,e'⟩
  refine I.write (x:=a) (e:=dx) (by rw [e]; exact True.intro) (.inr ho) (fun b q hb z=>(sb.2 b hb).trans z) hd ?_
  refine ⟨by rw [upd_ne O.ne]; exact ho,?_,O.ne,O'.obj,_,O'.ns,fun g=>?_,fun g hg=>?_⟩
  · have:=length_putF f y fs; omega
  · show RelO ((putF f y fs).lookup g) (if g = f then some u else mA g)
    rw [lookup_putF]
    by_cases q : g = f
    · rw [if_pos q,if_pos q]; exact ry
    · rw [if_neg q,if_neg q]; exact r g
  · by_cases q : g = f
    · rw [q]; exact (keys_putF f y fs).1
    · refine (keys_putF f y fs).2 g (wi g fun z=>hg ?_)
      show (if g = f then some u else mA g) = none
      rw [if_neg q]; exact z
theorem Inv.made (I : Inv X pins σ H s) : Inv X pins σ (upd (upd H s.heap.objs.size (.own (s.heap.objs.size + 1))) (s.heap.objs.size + 1) (.ins C s.heap.objs.size []))
    { s with heap:=(s.heap.push PySem.W.emptyDict).push (PySem.W.instObj C s.heap.objs.size) }:=by
  have e1 : (s.heap.push PySem.W.emptyDict).get? s.heap.objs.size = some PySem.W.emptyDict:=Heap.get?_push_size s.heap rfl
  have e2 : ((s.heap.push PySem.W.emptyDict).push (PySem.W.instObj C s.heap.objs.size)).get? (s.heap.objs.size + 1) = some (PySem.W.instObj C s.heap.objs.size):=by
    have:=Heap.get?_push_size (s.heap.push PySem.W.emptyDict) (o:=PySem.W.instObj C s.heap.objs.size) rfl
    rwa [Heap.size_push] at this
  have e3 : (s.heap.push PySem.W.emptyDict).Ns s.heap.objs.size (fun _=>none):=⟨PySem.W.emptyDict,#[],_,e1,rfl,(fun e he=>absurd he (by simp)),fun _=>rfl⟩
  have I1:=I.laid (a:=s.heap.objs.size) (o:=.own (s.heap.objs.size + 1)) (h':=s.heap.push PySem.W.emptyDict) (t':=s.toks) (fun b u q=>Heap.get?_push_of_some _ q) (Nat.le_refl _) ⟨_,e1⟩
  refine I1.laid (a:=s.heap.objs.size + 1) (o:=.ins C s.heap.objs.size []) (t':=s.toks) (fun b u q=>Heap.get?_push_of_some _ q) (Nat.le_of_eq (Heap.size_push _ _)) ?_
  have ne : s.heap.objs.size ≠ s.heap.objs.size + 1:=Nat.ne_of_lt (Nat.lt_succ_self _)
  refine ⟨by rw [upd_ne ne,upd_same],Nat.zero_le _,ne,e2,fun _=>none,(Heap.Ns1.of_empty e3).at fun o q=>Heap.get?_push_of_some _ q,fun _=>True.intro,fun y hy=>absurd rfl hy⟩
theorem attr_of {prog : Program} {w : World} {env : Env} {e : Expr} {f : Str} {pos : Pos} {s : Shared} {Q : Value → Shared → Prop} (hb : attributeBase e f env (eval e env) = eval e env)
    (h : wpAny (model prog w) A (eval e env) (fun o s₁=>wpAny (model prog w) A (getAttr o f true) Q E s₁) E s) : wpAny (model prog w) A (eval (.Attribute e f pos) env) Q E s :=
  Attribute_any_ h (by rw [arm_eval_Attribute,hb])
end
def tFld (K : PySem.W.Frag) (ta : TE) (f : Str) : TE:=fun σ H Q=>ta σ H fun x H1=>∃ a C dx fs v,x = .ref a ∧ H1 a = some (.ins C dx fs) ∧ Cls K C ∧ NoAttr K C f ∧ fs.lookup f = some v ∧ Q v H1
def sFld (K : PySem.W.Frag) (ta tv : TE) (f : Str) : TS:=fun D σ H=>tv σ H fun y H1=>ta σ H1 fun x H2=>∃ a C dx fs,x = .ref a ∧ H2 a = some (.ins C dx fs) ∧ Cls K C ∧ NoAttr K C f ∧ fs.length < 1000 ∧
  D.nx σ (upd H2 a (.ins C dx (putF f y fs)))
section
variable {X : Cx} {o e value : Expr} {f : Str} {pos pos' tpos : Pos} {ta tv : TE}
theorem pe_fld (he : PE X e ta) (hb : attributeBase e f X.env (eval e X.env) = eval e X.env) : PE X (.Attribute e f pos) (tFld X.K ta f):=by
  intro pins s σ H Q I h
  refine attr_of hb (thn (he pins s σ H _ I h) fun u s1 ⟨x,H1,I1,rx,a,C,dx,fs,v,ex,ea,c,n,l,q⟩=>?_)
  subst ex
  obtain rfl : u = Value.ref a:=rx
  exact getattr_ok I1 ea c n l fun u' s2 I2 ru=>⟨v,H1,I2,ru,q⟩
theorem ps_fld (ha : PE X o ta) (hv : PE X value tv) (hs : swapsWith value (some (.Attribute o f pos')) pos.line X.env = pure false) : PS X (.Assign [.Attribute o f pos'] value pos) (sFld X.K ta tv f):=by
  intro pins s σ H D I h
  refine plainObj_wpAny_Assign_Attribute (thn (hv pins s σ H _ I h) fun u s1 ⟨y,H1,I1,ry,q⟩=>thn (ha pins s1 σ H1 _ I1 q) fun ov s2 ⟨x,H2,I2,rx,a,C,dx,fs,ex,ea,c,n,l,q2⟩=>?_) hs
  subst ex
  obtain rfl : ov = Value.ref a:=rx
  exact setattr_ok I2 ea c n l ry fun s3 I3=>⟨σ,_,I3,q2⟩
end
section
variable {X : Cx} {pins : List (Addr × Obj)} {σ : St} {H : Hp} {s : Shared} {A : Around} {E : Value → Shared → Prop} {Q : Value → Shared → Prop} {c : Value} {b : Bool}
inductive TyOf (K : PySem.W.Frag) (H : Hp) : V → Value → Prop where
  | non : TyOf K H .non (.type "NoneType")
  | bl (x : Bool) : TyOf K H (.bl x) (.type "bool")
  | int (i : Int) : TyOf K H (.int i) (.type "int")
  | str (x : Str) : TyOf K H (.str x) (.type "str")
  | flt (x : UInt64) : TyOf K H (.flt x) (.type "float")
  | lst {a : Addr} {xs : List V} (e : H a = some (.lst xs)) : TyOf K H (.ref a) (.type "list")
  | frz {a : Addr} {o : Obj} {xs : List V} (e : H a = some (.frz o (.lst xs))) : TyOf K H (.ref a) (.type "list")
  | tup {a : Addr} {xs : List V} (e : H a = some (.tup xs)) : TyOf K H (.ref a) (.type "tuple")
  | dK {a : Addr} {kvs : List (Key × V)} (e : H a = some (.dK kvs)) : TyOf K H (.ref a) (.type "dict")
  | dT {a : Addr} {kvs : List (List Key × V)} (e : H a = some (.dT kvs)) : TyOf K H (.ref a) (.type "dict")
  | ins {a C dx : Addr} {fs : List (Str × V)} (e : H a = some (.ins C dx fs)) (cl : Cls K C) (ha : PySem.W.findIn K (.ref C) "__class__" = some (some (.builtin "object.__class__")))
      (hn : PySem.W.specialIn K (.builtin "object.__class__") "__get__" = some (some (.builtin "getset_descriptor.__get__"))) (htk : PySem.W.takesIn K (.builtin "object.__class__") = some true)
      (hm : PySem.W.mroIn K C (.type "object") = some true) : TyOf K H (.ref a) (.ref C)
theorem isinst_ok {x : V} {u t : Value} (I : Inv X pins σ H s) (rx : RelV x u) (ty : TyOf X.K H x t) (e : PySem.W.kitOne X.K t c = some b) (h : ∀ tk,Q (.bool b) { s with toks:=tk }) :
    wpAny (model X.prog X.w) A (call (.builtin "isinstance") [u,c]) Q E s:=by
  cases ty with
  | non=>cases (show u = Value.none from rx); exact PySem.W.kia_one PySem.W.kitx_none I.kIn True.intro e (fun z=>nomatch z) h
  | bl y=>cases (show u = Value.bool y from rx); exact PySem.W.kia_one PySem.W.kitx_bool I.kIn True.intro e (fun z=>nomatch z) h
  | int i=>obtain ⟨t,q⟩:=(show ∃ t,u = Value.int i t from rx); cases q; exact PySem.W.kia_one PySem.W.kitx_int I.kIn True.intro e (fun z=>nomatch z) h
  | str y=>obtain ⟨t,q⟩:=(show ∃ t,u = Value.str y t from rx); cases q; exact PySem.W.kia_one PySem.W.kitx_str I.kIn True.intro e (fun z=>nomatch z) h
  | flt y=>obtain ⟨t,q⟩:=(show ∃ t,u = Value.float y t from rx); cases q; exact PySem.W.kia_one PySem.W.kitx_float I.kIn True.intro e (fun z=>nomatch z) h
  | @lst a xs ea =>
    cases (show u = Value.ref a from rx)
    obtain ⟨_,_,n,_,h1⟩:=(show ObjOk X.prog X.w H s.heap a (.lst xs) from I.hok a _ ea)
    exact PySem.W.kia_one PySem.W.kitx_list I.kIn ⟨_,h1,rfl⟩ e (fun z=>nomatch z) h
  | @frz a ob xs ea =>
    cases (show u = Value.ref a from rx)
    obtain ⟨_,_,_,n,_,h1⟩:=(show ObjOk X.prog X.w H s.heap a (.frz ob (.lst xs)) from I.hok a _ ea)
    exact PySem.W.kia_one PySem.W.kitx_list I.kIn ⟨_,h1,rfl⟩ e (fun z=>nomatch z) h
  | @tup a xs ea =>
    cases (show u = Value.ref a from rx)
    obtain ⟨_,_,_,p⟩:=(show ObjOk X.prog X.w H s.heap a (.tup xs) from I.hok a _ ea)
    obtain ⟨o,h1,h2,_⟩:=p
    exact PySem.W.kia_one PySem.W.kitx_tuple I.kIn ⟨o,h1,h2⟩ e (fun z=>nomatch z) h
  | @dK a kvs ea =>
    cases (show u = Value.ref a from rx)
    obtain ⟨_,_,vs,_,p⟩:=(show ObjOk X.prog X.w H s.heap a (.dK kvs) from I.hok a _ ea)
    obtain ⟨o,es,ep,h1,h2,_⟩:=p
    exact PySem.W.kia_one PySem.W.kitx_dict I.kIn ⟨o,h1,h2.1⟩ e (fun z=>nomatch z) h
  | @dT a kvs ea =>
    cases (show u = Value.ref a from rx)
    obtain ⟨_,_,xs,_,o,es,ep,h1,h2,_⟩:=(show ObjOk X.prog X.w H s.heap a (.dT kvs) from I.hok a _ ea)
    exact PySem.W.kia_one PySem.W.kitx_dict I.kIn ⟨o,h1,h2.1⟩ e (fun z=>nomatch z) h
  | @ins a C dx fs ea cl ha hn htk hm =>
    cases (show u = Value.ref a from rx)
    obtain ⟨mA,O,_⟩:=ins_get I.hok ea
    obtain ⟨od,J,_⟩:=O.look
    exact PySem.W.kia_one (PySem.W.kitx_own (cl.get _) cl.hd ha hn htk hm) I.kIn J e (fun z=>nomatch z) h
end
end L2
namespace L2
open PySem PySem.Spec PyProof.Rows
structure Room (k : Nat) (A : Around) : Prop where
  hd : A.handled = none
  dp : A.depth + 3 * k + 5 < recursionLimit
  un : A.units + 16 * k + 200 < cLine
theorem Room.mono {j k : Nat} {A : Around} (r : Room k A) (h : j ≤ k) : Room j A:=⟨r.hd,by have:=r.dp; omega,by have:=r.un; omega⟩
theorem Room.deeper {k : Nat} {A : Around} (r : Room (k + 1) A) (env : Env) : Room k (A.deeper env) :=
  ⟨r.hd,by have:=r.dp; show A.depth + 1 + 3 * k + 5 < _; omega,by have:=r.un; show A.units + 3 + 16 * k + 200 < _; omega⟩
theorem make_depth {A : Around} {C : Addr} {us : List Value} {kw : List (Str × Value)} : (A.under (.builtin "type.__call__" ⟨.ref C :: us,kw⟩)).depth = A.depth + 1:=by
  first | rfl | simp [Around.under,Code.weight,Code.isCreation,Code.isGuard,Code.isCaller,Code.frames,Code.isFrame,guardIds]
theorem make_units {A : Around} {C : Addr} {us : List Value} {kw : List (Str × Value)} : (A.under (.builtin "type.__call__" ⟨.ref C :: us,kw⟩)).units = A.units + 1:=by
  first | rfl | simp [Around.under,Code.cUnits,Code.frames,Code.isFrame]
theorem Room.make {k : Nat} {A : Around} (r : Room (k + 1) A) (C : Addr) (us : List Value) (kw : List (Str × Value)) : Room k (A.under (.builtin "type.__call__" ⟨.ref C :: us,kw⟩)) :=
  ⟨r.hd,by have:=r.dp; rw [make_depth]; omega,by have:=r.un; rw [make_units]; omega⟩
theorem Room.depth {k : Nat} {A : Around} (r : Room k A) : A.depth < recursionLimit:=by have:=r.dp; omega
theorem Room.units {k : Nat} {A : Around} (r : Room k A) : A.units + 64 < cLine:=by have:=r.un; omega
def tNil : TA:=fun _ H Q=>Q [] H
def tCons (ta : TE) (tr : TA) : TA:=fun σ H Q=>ta σ H fun x H1=>tr σ H1 fun xs H2=>Q (x :: xs) H2
section
variable {X : Cx} {e : Expr} {es : List Expr} {te : TE} {t : TA} {pos : Pos}
theorem pa_nil : PA X [] tNil:=fun _ _ _ _ H Q I h=>Calls.spliced_nil ⟨[],H,I,.nil,h⟩
theorem pa_cons (ha : PE X e te) (hr : PA X es t) (hs : starEach (e :: es) X.env = (false,eval e X.env) :: starEach es X.env:=by rfl) : PA X (e :: es) (tCons te t):=by
  intro pos pins s σ H Q I h
  rw [hs]
  show wpAny _ _ (spliced ((false,eval e X.env) :: backTo pos (starEach es X.env))) _ _ s
  refine Calls.spliced_cons (thn (ha pins s σ H _ I h) fun u s1 ⟨x,H1,I1,r1,q1⟩=>?_)
  exact thn (hr pos pins s1 σ H1 _ I1 q1) fun us s2 ⟨xs,H2,I2,r2,q2⟩=>⟨x :: xs,H2,I2,.cons r1 r2,q2⟩
def tTup (t : TA) : TE:=fun σ H Q=>t σ H fun xs H1=>xs.length ≤ sizeLine ∧ ∀ p,H1 p = none → Q (.ref p) (upd H1 p (.tup xs))
def tLst (t : TA) : TE:=fun σ H Q=>t σ H fun xs H1=>xs.length ≤ sizeLine ∧ ∀ p,H1 p = none → Q (.ref p) (upd H1 p (.lst xs))
theorem pe_tup {x1} (h : PA X es t) : PE X (.Tuple es x1 pos) (tTup t):=by
  intro pins s σ H Q I hq
  refine wpAny_Tuple_spliced (thn (h pos pins s σ H _ I hq) fun us s1 ⟨xs,H1,I1,r,z,q⟩=>⟨by rw [← r.length]; exact z,?_⟩)
  have hf : H1 s1.heap.objs.size = none:=I1.hok.fresh (Nat.le_refl _)
  refine ⟨.ref s1.heap.objs.size,upd H1 s1.heap.objs.size (.tup xs),I1.laid (t':=s1.toks) (fun b u e=>Heap.get?_push_of_some _ e) (Nat.le_refl _) ?_,rfl,q _ hf⟩
  exact ⟨z,us,r,⟨_,Heap.get?_push_size _ rfl,rfl,_,rfl⟩⟩
theorem pe_lst (h : PA X es t) : PE X (.List es pos) (tLst t):=by
  intro pins s σ H Q I hq
  refine wpAny_List_spliced (thn (h pos pins s σ H _ I hq) fun us s1 ⟨xs,H1,I1,r,z,q⟩=>⟨by rw [← r.length]; exact z,?_⟩)
  have hf : H1 s1.heap.objs.size = none:=I1.hok.fresh (Nat.le_refl _)
  refine ⟨.ref s1.heap.objs.size,upd H1 s1.heap.objs.size (.lst xs),I1.laid (t':=s1.toks) (fun b u e=>Heap.get?_push_of_some _ e) (Nat.le_refl _) ?_,rfl,q _ hf⟩
  exact ⟨z,us,0,r,Heap.get?_push_size _ rfl⟩
end
abbrev Sp:=List V → Hp → VK → XK → Prop
abbrev CXT:=List Env → Hp → Shared → XK → Value → Shared → Prop
structure Env0 (P : Program) (w : World) (K : PySem.W.Frag) (mg : Str → Option Value) (base : Heap) (A : Around) (outer : List Env) (s : Shared) (H : Hp) : Prop where
  frames : A.frames = some outer
  mod : Mod K mg base
  bs : ∀ b o,base.get? b = some o → s.heap.get? b = some o ∧ H b = none
  bsz : base.objs.size ≤ s.heap.objs.size
  funs : s.heap.FunFrames base outer
  frf : ∀ b ∈ frs outer,H b = none
  hok : HOk P w H s.heap
  bare : AllBare s.gens
def CE (outer : List Env) (P : Program) (w : World) (H : Hp) (s : Shared) (Q : VK) (u : Value) (s' : Shared) : Prop :=
  ∃ v H',s'.os = s.os ∧ AllBare s'.gens ∧ Un (frs outer) [] H H' s.heap s'.heap ∧ HOk P w H' s'.heap ∧ RelV v u ∧ Q v H'
def CR (CX : CXT) (outer : List Env) (P : Program) (w : World) (H : Hp) (s : Shared) (Q : VK) (E : XK) (r : Result) (s' : Shared) : Prop :=
  match r with
  | .ok (.ret u)=>CE outer P w H s Q u s'
  | .ok _=>False
  | .error e=>CX outer H s E e s'
structure FnOk (P : Program) (w : World) (K : PySem.W.Frag) (mg : Str → Option Value) (base : Heap) (CX : CXT) (k : Nat) (f : Addr) (fd : FuncData) (ps : List Str) (sp : Sp) : Prop where
  len : ∀ vs H Q E,sp vs H Q E → vs.length = ps.length
  run : ∀ (A : Around) (outer : List Env) (s : Shared) (H : Hp) (args : Args) (us : List Value) (vs : List V) (Q : VK) (E : XK),Room k A → Env0 P w K mg base A outer s H → BindsTo s fd args (ps.zip us) → Vals vs us → sp vs H Q E →
    codeAny (model P w) A (.call (.ref f) args) (CR CX outer P w H s Q E) s
theorem Env0.make {P : Program} {w : World} {K : PySem.W.Frag} {mg : Str → Option Value} {base : Heap} {A : Around} {outer : List Env} {s : Shared} {H : Hp} (e : Env0 P w K mg base A outer s H) (C : Addr) (us : List Value) (kw : List (Str × Value)) :
    Env0 P w K mg base (A.under (.builtin "type.__call__" ⟨.ref C :: us,kw⟩)) outer s H:=⟨by first | exact e.frames | (simpa [Around.under,Code.envs,Code.isFrame,pushEnvs] using e.frames),e.mod,e.bs,e.bsz,e.funs,e.frf,e.hok,e.bare⟩
section
variable {X : Cx} {pins : List (Addr × Obj)} {σ : St} {H : Hp} {s s' : Shared}
theorem Inv.env0 (I : Inv X pins σ H s) : Env0 X.prog X.w X.K X.mg X.base X.A X.stack s H :=
  ⟨I.ok.frames,I.ok.mod,I.bs,Nat.le_trans I.ok.bsz I.sz,I.stack,I.stkFree,I.hok,I.bare⟩
theorem Inv.after {Q : VK} {u : Value} (I : Inv X pins σ H s) (h : CE X.stack X.prog X.w H s Q u s') : EP X pins σ Q u s':=by
  obtain ⟨v,H',os,bare,un,hok,r,q⟩:=h
  obtain ⟨hh,g,d,t,os'⟩:=s'
  obtain rfl : os' = s.os:=os
  exact ⟨v,H',I.call (h':=hh) (g':=g) (d':=d) (t':=t) (ch:=[]) un hok bare (fun b z=>absurd z (by simp)),r,q⟩
end
def tCall (sp : Sp) (dvs : List V) (E : XK) (t : TA) : TE:=fun σ H Q=>t σ H fun vs H1=>sp (vs ++ dvs) H1 Q E
def tMeth (C : Addr) (m : Str) (sp : Sp) (dvs : List V) (E : XK) (ta : TE) (t : TA) : TE:=fun σ H Q=>ta σ H fun x H1=>∃ a dx fs,x = .ref a ∧ H1 a = some (.ins C dx fs) ∧ fs.lookup m = none ∧
  t σ H1 fun vs H2=>sp (x :: (vs ++ dvs)) H2 Q E
def tMake (C : Addr) (sp : Sp) (dvs : List V) (E : XK) (t : TA) : TE:=fun σ H Q=>t σ H fun vs H1=>∀ x dx,H1 x = none → H1 dx = none → dx ≠ x →
  sp (.ref x :: (vs ++ dvs)) (upd (upd H1 dx (.own x)) x (.ins C dx [])) (fun v H2=>v = .non ∧ Q (.ref x) H2) E
def Binds (K : PySem.W.Frag) (fd : FuncData) (ps : List Str) (ds : List Value) : Prop :=
  ∀ (s : Shared) (us : List Value),K.In s.heap → (us ++ ds).length = ps.length → BindsTo s fd ⟨us,[]⟩ (ps.zip (us ++ ds))
theorem Binds.all {K : PySem.W.Frag} {fd : FuncData} {ps : List Str} (h : ∀ us : List Value,us.length = ps.length → bindArgs fd ⟨us,[]⟩ = pure (ps.zip us)) : Binds K fd ps []:=fun s us _ hl=>by
  rw [List.append_nil] at hl ⊢
  exact .of_eq (h us hl)
def Passes (CX : CXT) (X : Cx) (E : XK) : Prop:=∀ (pins : List (Addr × Obj)) (σ : St) (H : Hp) (s : Shared) (e : Value) (s' : Shared),Inv X pins σ H s → CX X.stack H s E e s' → X.xe e s'
section
variable {X : Cx} {CX : CXT} {k : Nat} {f C : Addr} {fd : FuncData} {ps : List Str} {sp : Sp} {dvs : List V} {ds : List Value} {E : XK} {x m : Str} {p pos apos : Pos} {e o : Expr} {es : List Expr} {ta : TE} {t : TA}
theorem run_fn {pins : List (Addr × Obj)} {σ : St} {H : Hp} {s : Shared} {Q : VK} {us : List Value} {vs : List V} (F : FnOk X.prog X.w X.K X.mg X.base CX k f fd ps sp) (hr : Room k X.A) (hb : Binds X.K fd ps ds) (hd : Vals dvs ds) (hx : Passes CX X E)
    (I : Inv X pins σ H s) (r : Vals vs us) (h : sp (vs ++ dvs) H Q E) : wpAny (model X.prog X.w) X.A (call (.ref f) us) (EP X pins σ Q) X.xe s:=by
  have r2 : Vals (vs ++ dvs) (us ++ ds):=r.append hd
  have hl : (us ++ ds).length = ps.length:=by rw [← r2.length]; exact F.len _ _ _ _ h
  refine wpAny_call (codeAny_mono (F.run X.A X.stack s H ⟨us,[]⟩ (us ++ ds) (vs ++ dvs) Q E hr I.env0 (hb s us I.kIn hl) r2 h) fun r s' hq=>?_)
  cases r with
  | error e=>exact hx pins σ H s e s' I hq
  | ok fl =>
    cases fl with
    | ret u=>exact I.after hq
    | next=>exact False.elim hq
    | brk=>exact False.elim hq
    | cont=>exact False.elim hq
theorem pe_call (F : FnOk X.prog X.w X.K X.mg X.base CX k f fd ps sp) (hr : Room k X.A) (hg : Gl X x) (hm : X.mg x = some (.ref f)) (hk : PySem.W.keepIn X.K (.ref f) = true) (hb : Binds X.K fd ps ds) (hd : Vals dvs ds) (hx : Passes CX X E)
    (ha : PA X (e :: es) t) (hdb : (x == ("__debug__" : Str)) = false:=by decide) (he : starEach (e :: es) X.env = (false,eval e X.env) :: starEach es X.env:=by rfl) (hpl : (backTo pos (starEach es X.env)).any (·.1) = false:=by rfl) :
    PE X (.Call (.Name x p) (e :: es) [] pos) (tCall sp dvs E t):=by
  intro pins s σ H Q I h
  refine wpAny_Call_Name_kw (ld_glob I hg hm ?_ hdb)
  refine PySem.W.callWith_K (h₀:=X.base) I.ok.mod.kin hk (thn (ha pos pins s σ H _ I h) fun us s1 ⟨vs,H1,I1,r,q⟩=>⟨I1.kIn,?_⟩) he hpl
  exact run_fn F hr hb hd hx I1 r q
theorem pe_meth0 {pl : Sem Bool} (he : PE X o ta) (c : Cls X.K C) (hm : Meth X.K C m f) (F : FnOk X.prog X.w X.K X.mg X.base CX k f fd ps sp) (hr : Room k X.A) (hb : Binds X.K fd ps ds) (hd : Vals dvs ds) (hx : Passes CX X E)
    (ht : eval (.Call (.Attribute o m apos) [] [] pos) X.env = (do
      let ov ← eval o X.env
      standAt apos.atName
      let (f,first) ← holding [ov] (getMethod ov m pl)
      callWith pos f first (backTo pos (starEach [] X.env)) (backToKw pos (keywordEach [] X.env))):=by rfl) :
    PE X (.Call (.Attribute o m apos) [] [] pos) (tMeth C m sp dvs E ta tNil):=by
  intro pins s σ H Q I h
  refine PySem.W.methodCall_KW (pl:=pl) (thn (he pins s σ H _ I h) fun u s1 ⟨x,H1,I1,rx,a,dx,fs,ex,ea,l,q⟩=>?_) ht
  subst ex
  obtain rfl : u = Value.ref a:=rx
  refine getmeth_ok I1 ea c hm l ?_
  exact PySem.W.callWith_K0 (first:=[.ref a]) I1.kIn hm.kp (run_fn (us:=[.ref a]) (vs:=[.ref a]) F hr hb hd hx I1 (.cons rfl .nil) q)
structure Mk (K : PySem.W.Frag) (C f : Addr) : Prop where
  makes : PySem.W.makesIn K C = true
  init : PySem.W.findIn K (.ref C) "__init__" = some (some (.ref f))
  fn : PySem.W.isFn K (.ref f) = true
  kp : PySem.W.keepIn K (.ref C) = true
theorem run_make {pins : List (Addr × Obj)} {σ : St} {H : Hp} {s : Shared} {Q : VK} {us : List Value} {vs : List V} (M : Mk X.K C f) (F : FnOk X.prog X.w X.K X.mg X.base CX k f fd ps sp) (hr : Room (k + 1) X.A) (hb : Binds X.K fd ps ds) (hd : Vals dvs ds)
    (hx : Passes CX X E) (I : Inv X pins σ H s) (r : Vals vs us)
    (h : ∀ x dx,H x = none → H dx = none → dx ≠ x → sp (.ref x :: (vs ++ dvs)) (upd (upd H dx (.own x)) x (.ins C dx [])) (fun v H2=>v = .non ∧ Q (.ref x) H2) E) :
    wpAny (model X.prog X.w) X.A (call (.ref C) us) (EP X pins σ Q) X.xe s:=by
  have hq:=h (s.heap.objs.size + 1) s.heap.objs.size (I.hok.fresh (Nat.le_succ _)) (I.hok.fresh (Nat.le_refl _)) (Nat.ne_of_lt (Nat.lt_succ_self _))
  have I2:=Inv.made (C:=C) I
  have r2 : Vals (V.ref (s.heap.objs.size + 1) :: (vs ++ dvs)) (Value.ref (s.heap.objs.size + 1) :: (us ++ ds)):=.cons rfl (r.append hd)
  have hl : (Value.ref (s.heap.objs.size + 1) :: us ++ ds).length = ps.length:=by
    have e:=r2.length
    rw [F.len _ _ _ _ hq] at e
    exact e.symm
  refine wpAny_call (make_map (f:=f) I.kIn M.makes M.init (beq_iff_eq.mp M.fn) (codeAny_mono (F.run _ X.stack _ _ ⟨Value.ref (s.heap.objs.size + 1) :: us,[]⟩ (Value.ref (s.heap.objs.size + 1) :: (us ++ ds)) _ _ E (hr.make C us [])
    (I2.env0.make C us []) (hb _ (Value.ref (s.heap.objs.size + 1) :: us) I2.kIn hl) r2 hq) fun r s' hq'=>?_))
  cases r with
  | error e=>exact hx pins σ _ _ e s' I2 hq'
  | ok fl =>
    cases fl with
    | ret u =>
      obtain ⟨v,H',I3,rv,ev,q3⟩:=I2.after hq'
      subst ev
      exact ⟨rv,⟨V.ref (s.heap.objs.size + 1),H',I3,rfl,q3⟩⟩
    | next=>exact False.elim hq'
    | brk=>exact False.elim hq'
    | cont=>exact False.elim hq'
theorem pe_make (M : Mk X.K C f) (F : FnOk X.prog X.w X.K X.mg X.base CX k f fd ps sp) (hr : Room (k + 1) X.A) (hg : Gl X x) (hm : X.mg x = some (.ref C)) (hb : Binds X.K fd ps ds) (hd : Vals dvs ds) (hx : Passes CX X E)
    (ha : PA X (e :: es) t) (hdb : (x == ("__debug__" : Str)) = false:=by decide) (he : starEach (e :: es) X.env = (false,eval e X.env) :: starEach es X.env:=by rfl) (hpl : (backTo pos (starEach es X.env)).any (·.1) = false:=by rfl) :
    PE X (.Call (.Name x p) (e :: es) [] pos) (tMake C sp dvs E t):=by
  intro pins s σ H Q I h
  refine wpAny_Call_Name_kw (ld_glob I hg hm ?_ hdb)
  refine PySem.W.callWith_K (h₀:=X.base) I.ok.mod.kin M.kp (thn (ha pos pins s σ H _ I h) fun us s1 ⟨vs,H1,I1,r,q⟩=>⟨I1.kIn,?_⟩) he hpl
  exact run_make M F hr hb hd hx I1 r q
end
section
variable {X : Cx} {CX : CXT} {k : Nat} {f C : Addr} {fd : FuncData} {ps ks : List Str} {sp : Sp} {E : XK} {x m : Str} {p pos apos kpos : Pos} {e o : Expr} {es : List Expr} {kws : List Keyword} {te ta : TE} {t tk : TA} {nm : Option Str}
structure KBinds (K : PySem.W.Frag) (fd : FuncData) (ps ks : List Str) (g : List Value → List Value → List Value) (gV : List V → List V → List V) : Prop where
  to : ∀ (s : Shared) (us ws : List Value),K.In s.heap → (g us ws).length = ps.length → BindsTo s fd ⟨us,ks.zip ws⟩ (ps.zip (g us ws))
  rel : ∀ {vs : List V} {us : List Value} {zs : List V} {ws : List Value},Vals vs us → Vals zs ws → Vals (gV vs zs) (g us ws)
variable {g : List Value → List Value → List Value} {gV : List V → List V → List V}
end
structure FnScope (N P : List Str) (sc : Scope) : Prop where
  kind : sc.kind = .function
  co : sc.isCoroutine = false
  gen : sc.isGenerator = false
  nd : N.Nodup
  pre : N.take P.length = P
  par : ∀ x ∈ P,sc.names.lookup x = some .local ∨ sc.names.lookup x = some .cell
  nofree : ∀ y ∈ sc.names,y.2 ≠ .free
theorem bindL_out {kindOf : Str → Option NameKind} {x : Str} : ∀ {binds : List (Str × Value)} {m : Str → Option Value},(∀ v,(x,v) ∉ binds) → bindL kindOf binds m x = m x
  | [],_,_=>rfl
  | (n,v) :: r,m,h=>by
    unfold bindL
    rw [bindL_out fun w hw=>h w (List.mem_cons_of_mem _ hw)]
    split
    · have : x ≠ n:=by rintro rfl; exact h v List.mem_cons_self
      simp [this]
    · rfl
theorem bindC_out {kindOf : Str → Option NameKind} {x : Str} : ∀ {binds : List (Str × Value)} {m : Str → Option Value},(∀ v,(x,v) ∉ binds) → bindC kindOf binds m x = m x
  | [],_,_=>rfl
  | (n,v) :: r,m,h=>by
    unfold bindC
    rw [bindC_out fun w hw=>h w (List.mem_cons_of_mem _ hw)]
    split
    · rfl
    · have : x ≠ n:=by rintro rfl; exact h v List.mem_cons_self
      simp [this]
theorem bindL_get {kindOf : Str → Option NameKind} {x : Str} {v : Value} : ∀ {P : List Str} {vs : List Value} {i : Nat} {m : Str → Option Value},P.Nodup → P[i]? = some x → vs[i]? = some v → kindOf x = some .local →
    bindL kindOf (P.zip vs) m x = some v
  | [],_,_,_,_,h,_,_=>by simp at h
  | _ :: _,[],_,_,_,_,h,_=>by simp at h
  | p :: P,w :: vs,0,m,nd,h1,h2,hk=>by
    simp at h1 h2; subst h1; subst h2
    show bindL kindOf ((p,w) :: P.zip vs) m p = _
    unfold bindL
    rw [bindL_out fun v hv=>(List.nodup_cons.mp nd).1 (List.of_mem_zip hv).1,if_pos hk]
    simp
  | p :: P,w :: vs,i + 1,m,nd,h1,h2,hk=>by
    show bindL kindOf ((p,w) :: P.zip vs) m x = _
    unfold bindL
    exact bindL_get (i:=i) (List.nodup_cons.mp nd).2 (by simpa using h1) (by simpa using h2) hk
theorem bindC_get {kindOf : Str → Option NameKind} {x : Str} {v : Value} : ∀ {P : List Str} {vs : List Value} {i : Nat} {m : Str → Option Value},P.Nodup → P[i]? = some x → vs[i]? = some v → kindOf x ≠ some .local →
    bindC kindOf (P.zip vs) m x = some v
  | [],_,_,_,_,h,_,_=>by simp at h
  | _ :: _,[],_,_,_,_,h,_=>by simp at h
  | p :: P,w :: vs,0,m,nd,h1,h2,hk=>by
    simp at h1 h2; subst h1; subst h2
    show bindC kindOf ((p,w) :: P.zip vs) m p = _
    unfold bindC
    rw [bindC_out fun v hv=>(List.nodup_cons.mp nd).1 (List.of_mem_zip hv).1,if_neg hk]
    simp
  | p :: P,w :: vs,i + 1,m,nd,h1,h2,hk=>by
    show bindC kindOf ((p,w) :: P.zip vs) m x = _
    unfold bindC
    exact bindC_get (i:=i) (List.nodup_cons.mp nd).2 (by simpa using h1) (by simpa using h2) hk
def start (N : List Str) (vs : List V) : St:=vs.map some ++ List.replicate (N.length - vs.length) none
def cxOf (CX : CXT) (P : Program) (w : World) (K : PySem.W.Frag) (mg : Str → Option Value) (base : Heap) (N : List Str) (qual : Str) (scope : Scope) (f : Addr) (cd : Value) (A : Around) (outer : List Env) (s : Shared) (H : Hp) (E : XK) : Cx where
  prog:=P
  w:=w
  K:=K
  mg:=mg
  base:=base
  A:=A.deeper (envOfC qual scope s.heap.objs.size f cd)
  N:=N
  s₀:=s
  H₀:=H
  env:=envOfC qual scope s.heap.objs.size f cd
  outer:=outer
  stack:=envOfC qual scope s.heap.objs.size f cd :: outer
  ex:=[]
  calm:=true
  fn:=fun _=>true
  pn:=[]
  xe:=fun e s'=>wpAny (model P w) (A.deeper (envOfC qual scope s.heap.objs.size f cd)) (leaving (envOfC qual scope s.heap.objs.size f cd) e) (fun _ s''=>CX outer H s E e s'') (fun e' s''=>CX outer H s E e' s'') s'
theorem cell_has {sc : Scope} {n : Nat} {x : Str} (h : sc.names.lookup x = some .cell) : ∃ c,(cellsFrom n sc.names []).lookup x = some c:=by
  have q:=PySem.W.cellsFrom_some sc.names n [] (.inl h)
  exact Option.isSome_iff_exists.mp q
theorem inv_start {CX : CXT} {P : Program} {w : World} {K : PySem.W.Frag} {mg : Str → Option Value} {base : Heap} {N ps : List Str} {qual : Str} {scope : Scope} {f : Addr} {cd : Value} {A : Around} {outer : List Env} {s s1 : Shared} {H : Hp} {E : XK} {us : List Value} {vs : List V}
    (S : FnScope N ps scope) (hd : A.handled = none) (e0 : Env0 P w K mg base A outer s H) (hl : vs.length = ps.length) (r : Vals vs us)
    (x : InCallC s s.heap.objs.size (bindL (envOfC qual scope s.heap.objs.size f cd).kindOf (ps.zip us) fun _=>none) (cellsFrom (s.heap.objs.size + 1) scope.names []) (bindC (envOfC qual scope s.heap.objs.size f cd).kindOf (ps.zip us) fun _=>none) s1) :
    Inv (cxOf CX P w K mg base N qual scope f cd A outer s H E) [] (start N vs) H s1:=by
  have hpl : ps.length ≤ N.length:=by have:=congrArg List.length S.pre; rw [List.length_take] at this; omega
  obtain ⟨h1,tk,rfl,hk⟩:=x.done
  have noA : ∀ b : Addr,b ∉ (cxOf CX P w K mg base N qual scope f cd A outer s H E).ex:=fun b z=>absurd (show b ∈ ([] : List Addr) from z) (by simp)
  refine ⟨⟨e0.mod,S.kind,rfl,rfl,Nat.le_refl _,fun y z c h1 h2=>?_,fun y hy=>?_,fun y c _ h=>?_,fun _=>hd,Around.frames_deeper e0.frames,.inr ⟨rfl,rfl⟩,fun b z=>absurd z (noA b),e0.bs,e0.bsz,fun b _ _=>noA b,fun b z=>absurd z (noA b),e0.funs,e0.frf⟩,
    rfl,e0.bare,Un.kept hk,⟨_,x.toInCall.ns,fun i y v h1 h2 h3=>?_⟩,fun y c h=>⟨_,x.cell y c h⟩,e0.hok.fresh (Nat.le_refl _),fun y c h=>?_,fun p hp=>absurd (show p ∈ ([] : List (Addr × Obj)) from hp) (by simp),e0.hok.kept hk,?_⟩
  · exact name_of_addr x.apart (PySem.mem_of_lookup h1) (PySem.mem_of_lookup h2)
  · have hy : scope.names.lookup y = some .cell ∨ scope.names.lookup y = some .free:=hy
    rcases hy with hy | hy
    · exact cell_has hy
    · exact absurd rfl (S.nofree _ (PySem.mem_of_lookup hy))
  · exact Nat.le_of_lt (x.above y c (PySem.mem_of_lookup h))
  · have hi : i < vs.length:=by
      unfold start at h2
      by_cases hi : i < vs.length
      · exact hi
      · rw [List.getElem?_append_right (by simpa using hi)] at h2
        rw [List.getElem?_replicate] at h2
        split at h2 <;> cases h2
    have ha : vs[i]? = some v:=by
      unfold start at h2
      rw [List.getElem?_append_left (by simpa using hi),List.getElem?_map] at h2
      cases e : vs[i]? with
      | none=>rw [e] at h2; cases h2
      | some a=>rw [e] at h2; cases h2; rfl
    obtain ⟨u,hu,rv⟩:=r.get ha
    have hp : ps[i]? = some y:=by
      rw [← S.pre,List.getElem?_take_of_lt (by omega)]; exact h1
    have ndP : ps.Nodup:=by rw [← S.pre]; exact S.nd.sublist (List.take_sublist _ _)
    refine ⟨u,rv,?_⟩
    rcases S.par y (List.mem_of_getElem? hp) with k | k
    · exact .inl ⟨k,bindL_get ndP hp hu k⟩
    · obtain ⟨c,e⟩:=cell_has (n:=s.heap.objs.size + 1) k
      refine .inr ⟨.inl k,c,e,?_⟩
      have q:=x.cell y c e
      rw [bindC_get ndP hp hu (by show scope.names.lookup y ≠ _; rw [k]; decide)] at q
      exact q
  · exact e0.hok.fresh (Nat.le_of_lt (x.above y c (PySem.mem_of_lookup h)))
  · unfold start
    show _ = N.length
    rw [List.length_append,List.length_map,List.length_replicate]
    omega
theorem fn_of {CX : CXT} {P : Program} {w : World} {K : PySem.W.Frag} {mg : Str → Option Value} {base : Heap} {k : Nat} {f : Addr} {name qual : Str} {params : Arguments} {body : List Stmt} {scope : Scope} {dV kV doc pm cdv ct oc : Value} {an od : Option Addr}
    {osl : Array (Option Value)} {N ps : List Str} {sp : Sp} (lk : K.lookup f = some ⟨oc,od,.func (PySem.W.fnOf name qual params body scope dV kV doc pm an cdv ct),osl⟩) (hcd : PySem.W.codeIn K cdv qual = true) (S : FnScope N ps scope)
    (len : ∀ vs H Q E,sp vs H Q E → vs.length = ps.length)
    (hbody : ∀ (A : Around) (outer : List Env) (s : Shared) (H : Hp) (vs : List V) (Q : VK) (E : XK),Room k (A.deeper (envOfC qual scope s.heap.objs.size f cdv)) → sp vs H Q E →
      ∃ t,PSs (cxOf CX P w K mg base N qual scope f cdv A outer s H E) body t ∧ t { nx:=fun _ H'=>Q .non H',rt:=Q } (start N vs) H) :
    FnOk P w K mg base CX (k + 1) f (PySem.W.fnOf name qual params body scope dV kV doc pm an cdv ct) ps sp:=by
  refine ⟨len,fun A outer s H args us vs Q E hr e0 hb r hsp=>?_⟩
  have hl:=len _ _ _ _ hsp
  have KX : K.In s.heap:=e0.mod.kin.keeps fun b o e=>(e0.bs b o e).1
  have lim : s.heap.NoLimit:=e0.mod.nolimit.keeps fun b o e=>(e0.bs b o e).1
  have hkind : ∀ y ∈ ps.zip us,scope.names.lookup y.1 = some .local ∨ (scope.names.lookup y.1 = some .cell ∧ ((cellsFrom (s.heap.objs.size + 1) scope.names []).lookup y.1).isSome = true):=fun ⟨n,v⟩ hy=>by
    rcases S.par n (List.of_mem_zip hy).1 with q | q
    · exact .inl q
    · exact .inr ⟨q,PySem.W.cellsFrom_some _ _ _ (.inl q)⟩
  refine codeAny_call_function hr.depth (KX _ _ lk) rfl S.co S.gen rfl (PySem.W.codeRec_of KX hcd) (hb _ _ _ _ ?_)
  refine wpAny_newFunctionEnv_cells S.kind hkind fun env he s1 x=>?_
  subst he
  refine ⟨lim.keeps x.toInCall.keep,codeAny_func ?_⟩
  obtain ⟨t,ht,hq⟩:=hbody A outer s H vs Q E (hr.deeper _) hsp
  have I : Inv (cxOf CX P w K mg base N qual scope f cdv A outer s H E) [] (start N vs) H s1:=inv_start S hr.hd e0 hl r x
  refine wpAny_mono (ht [] s1 (start N vs) H _ I hq) (fun fl s' hs=>?_) fun e s' hs=>hs
  have fin : ∀ {σ' : St} {H' : Hp} {v : V} {u : Value},Inv (cxOf CX P w K mg base N qual scope f cdv A outer s H E) [] σ' H' s' → RelV v u → Q v H' → CE outer P w H s Q u s' :=
    fun {σ' H' v u} J rv q=>⟨v,H',J.os,J.bare,J.base,J.hok,rv,q⟩
  cases fl with
  | ret u =>
    obtain ⟨v,σ',H',J,rv,q⟩:=hs
    exact fin J rv q
  | next =>
    obtain ⟨σ',H',J,q⟩:=hs
    exact fin (v:=V.non) (u:=Value.none) J rfl q
  | brk =>
    obtain ⟨_,_,_,q⟩:=hs
    exact False.elim q
  | cont =>
    obtain ⟨_,_,_,q⟩:=hs
    exact False.elim q
end L2
namespace L2
open PySem PySem.Spec PyProof.Rows
section
variable {X : Cx} {x : Str} {p pos : Pos} {e : Expr} {es : List Expr} {t : TA} {id T : String} {r : List V → Hp → VK → Prop}
def tCB (r : List V → Hp → VK → Prop) (t : TA) : TE:=fun σ H Q=>t σ H fun vs H1=>r vs H1 Q
theorem pe_callB (hc : CallR X (.builtin id) r) (hg : Gl X x) (hm : X.mg x = none) (hv : bootBuiltins x = some (.builtin id)) (ha : PA X (e :: es) t) (hn : x ≠ "__name__":=by decide) (hdb : (x == ("__debug__" : Str)) = false:=by decide)
    (he : starEach (e :: es) X.env = (false,eval e X.env) :: starEach es X.env:=by rfl) (hpl : (backTo pos (starEach es X.env)).any (·.1) = false:=by rfl) : PE X (.Call (.Name x p) (e :: es) [] pos) (tCB r t):=by
  intro pins s σ H Q I h
  refine wpAny_Call_Name_kw (ld_blt I hg hm hv ?_ hn hdb)
  exact PyProof.Rows.callWith_builtin1 (thn (ha pos pins s σ H _ I h) fun us s1 ⟨vs,H1,I1,r1,q1⟩=>hc pins s1 σ H1 vs us Q I1 r1 q1) he hpl
theorem pe_callTy (hc : CallR X (.type T) r) (hg : Gl X x) (hm : X.mg x = none) (hv : bootBuiltins x = some (.type T)) (ha : PA X (e :: es) t) (hn : x ≠ "__name__":=by decide) (hdb : (x == ("__debug__" : Str)) = false:=by decide)
    (he : starEach (e :: es) X.env = (false,eval e X.env) :: starEach es X.env:=by rfl) (hpl : (backTo pos (starEach es X.env)).any (·.1) = false:=by rfl) : PE X (.Call (.Name x p) (e :: es) [] pos) (tCB r t):=by
  intro pins s σ H Q I h
  refine wpAny_Call_Name_kw (ld_blt I hg hm hv ?_ hn hdb)
  exact PyProof.Rows.callWith_type1 (thn (ha pos pins s σ H _ I h) fun us s1 ⟨vs,H1,I1,r1,q1⟩=>hc pins s1 σ H1 vs us Q I1 r1 q1) he hpl
end
end L2
namespace HT
open PySem PyProof.Rows
section
open PySem.SeqAt
open PySem.AutoSeq1 (wpAny_loadPart')
open PySem.MeetsSeq PySem.MeetsSeq2 PySem.MeetsSeq3
end
section
variable {prog : Program} {w : World} {A : Around} {E : Value → Shared → Prop} {s : Shared}
def sIx (n d : Nat) : Option Int → Nat
  | none=>d
  | some v=>if v < 0 then (v + (n : Int)).toNat else min v.toNat n
theorem sIx_none (n d : Nat) : sIx n d none = d:=rfl
theorem sIx_nat (n d k : Nat) : sIx n d (some (k : Int)) = min k n:=by
  show (if (k : Int) < 0 then ((k : Int) + (n : Int)).toNat else min (k : Int).toNat n) = min k n
  rw [if_neg (by omega),Int.toNat_natCast]
end
end HT
namespace L2
open PySem PySem.Spec PyProof.Rows
abbrev TO:=St → Hp → (Option Int → Hp → Prop) → Prop
def PO (X : Cx) (e : Option Expr) (t : TO) : Prop :=
  ∀ (pins : List (Addr × Obj)) (s : Shared) (σ : St) (H : Hp) (Q : Option Int → Hp → Prop),Inv X pins σ H s → t σ H Q →
    wpAny (model X.prog X.w) X.A (evalPart e X.env) (fun u s'=>∃ o H',Inv X pins σ H' s' ∧ IsPart u o ∧ Q o H') X.xe s
def tNoPart : TO:=fun _ H Q=>Q none H
def tPart (t : TE) : TO:=fun σ H Q=>t σ H fun x H1=>∃ i,x = .int i ∧ Q (some i) H1
section
variable {X : Cx} {e : Expr} {te : TE} {lo hi : Option Expr} {tl th : TO} {pos p2 : Pos}
theorem po_none : PO X none tNoPart:=by
  intro pins s σ H Q I h
  rw [evalPart_none]
  exact wpAny_pure ⟨none,H,I,.none,h⟩
theorem po_some (h : PE X e te) : PO X (some e) (tPart te):=by
  intro pins s σ H Q I hw
  rw [evalPart_some]
  refine thn (h pins s σ H _ I hw) fun u s1 ⟨x,H1,I1,r1,q1⟩=>?_
  obtain ⟨i,rfl,q⟩:=q1
  obtain ⟨t,rfl⟩:=r1
  exact ⟨some i,H1,I1,.int i t,q⟩
def SlR (X : Cx) (r : V → Option Int → Option Int → Hp → VK → Prop) : Prop :=
  ∀ (pins : List (Addr × Obj)) (s : Shared) (σ : St) (H : Hp) (x : V) (v vl vu : Value) (lo hi : Option Int) (sl : Addr) (Q : VK),Inv X pins σ H s → RelV x v → s.heap.IsSliceOf sl vl vu .none → IsPart vl lo → IsPart vu hi → r x lo hi H Q →
    ∃ T id,typeLookup (.type T) "__getitem__" = pure (some (.builtin id)) ∧ s.TypeIs v T ∧ wpAny (model X.prog X.w) X.A (getItem v (.ref sl)) (EP X pins σ Q) X.xe s
def tSl (r : V → Option Int → Option Int → Hp → VK → Prop) (te : TE) (tl th : TO) : TE:=fun σ H Q=>te σ H fun x H1=>tl σ H1 fun l H2=>th σ H2 fun u H3=>r x l u H3 Q
theorem pe_slice {r : V → Option Int → Option Int → Hp → VK → Prop} (hr : SlR X r) (he : PE X e te) (hl : PO X lo tl) (hu : PO X hi th) : PE X (.Subscript e (.Slice lo hi none p2) pos) (tSl r te tl th):=by
  intro pins s σ H Q I h
  refine Subscript_ (thn (he pins s σ H _ I h) fun v s1 ⟨x,H1,I1,r1,q1⟩=>?_)
  refine wpAny_Slice (thn (hl pins s1 σ H1 _ I1 q1) fun vl s2 ⟨l,H2,I2,pl,q2⟩=>thn (hu pins s2 σ H2 _ I2 q2) fun vu s3 ⟨u,H3,I3,pu,q3⟩=>?_)
  rw [evalPart_none]
  refine wpAny_pure ?_
  have I4 : Inv X pins σ H3 { s3 with heap:=s3.heap.push { cls:=.type "slice",data:=.fields #[vl,vu,.none] } }:=I3.kept (t':=s3.toks) fun b ob q=>Heap.get?_push_of_some _ q
  obtain ⟨T,id,hT,ht,hg⟩:=hr pins { s3 with heap:=s3.heap.push { cls:=.type "slice",data:=.fields #[vl,vu,.none] } } σ H3 x v vl vu l u s3.heap.objs.size Q I4 r1 (Heap.IsSliceOf.new ..) pl pu q3
  show wpAny (model X.prog X.w) X.A (subscriptTail e (.Slice lo hi none p2) v (.ref s3.heap.objs.size)) (EP X pins σ Q) X.xe { s3 with heap:=s3.heap.push { cls:=.type "slice",data:=.fields #[vl,vu,.none] } }
  exact tail_any (ops:=[.ref s3.heap.objs.size,v]) ht hT hg (by with_unfolding_all rfl)
def cutV (xs : List V) (lo hi : Option Int) : List V:=(xs.drop (HT.sIx xs.length 0 lo)).take (HT.sIx xs.length xs.length hi - HT.sIx xs.length 0 lo)
theorem cutV_length (xs : List V) (lo hi : Option Int) : (cutV xs lo hi).length ≤ xs.length:=by
  unfold cutV
  rw [List.length_take,List.length_drop]
  omega
end
end L2
namespace L2
open PySem PySem.Spec PyProof.Rows
def ixN (n : Nat) (i : Int) : Option Nat:=if 0 ≤ i then (if i < n then some i.toNat else none) else if -(n : Int) ≤ i then some (i + n).toNat else none
def atI {α : Type} (xs : List α) (i : Int) : Option α:=(ixN xs.length i).bind fun j=>xs[j]?
theorem ixN_seq {n : Nat} {i : Int} {j : Nat} (h : ixN n i = some j) : seqIndex? i n = some j ∧ j < n ∧ -(n : Int) ≤ i ∧ i < n:=by
  unfold ixN at h
  by_cases h0 : 0 ≤ i
  · rw [if_pos h0] at h
    by_cases h1 : i < n
    · rw [if_pos h1] at h
      have e : i.toNat = j:=Option.some.inj h
      exact ⟨by rw [seqIndex_of h0 h1,e],by omega,by omega,h1⟩
    · rw [if_neg h1] at h; cases h
  · rw [if_neg h0] at h
    by_cases h1 : -(n : Int) ≤ i
    · rw [if_pos h1] at h
      have e : (i + n).toNat = j:=Option.some.inj h
      exact ⟨by rw [seqIndex_neg (by omega) h1,e],by omega,h1,by omega⟩
    · rw [if_neg h1] at h; cases h
theorem atI_get {α : Type} {xs : List α} {i : Int} {v : α} (h : atI xs i = some v) : ∃ j,seqIndex? i xs.length = some j ∧ xs[j]? = some v ∧ j < xs.length ∧ -(xs.length : Int) ≤ i ∧ i < xs.length:=by
  unfold atI at h
  cases e : ixN xs.length i with
  | none=>rw [e] at h; cases h
  | some j =>
    rw [e] at h
    obtain ⟨h1,h2,h3,h4⟩:=ixN_seq e
    exact ⟨j,h1,h,h2,h3,h4⟩
theorem atI_nat {α : Type} {xs : List α} {j : Nat} {v : α} (h : xs[j]? = some v) : atI xs (j : Int) = some v:=by
  have hj : j < xs.length:=(List.getElem?_eq_some_iff.mp h).1
  have e : ixN xs.length (j : Int) = some j:=by
    unfold ixN
    rw [if_pos (by omega),if_pos (by omega)]; simp
  unfold atI; rw [e]; exact h
def PlainIx (b : Expr) : Prop:=∀ o i,subscripted b false o i = operate [o,i] (getItem o i)
def IxR (X : Cx) (r : R2) : Prop :=
  ∀ (value slice : Expr) (pins : List (Addr × Obj)) (s : Shared) (σ : St) (H : Hp) (x y : V) (v u : Value) (Q : VK),Inv X pins σ H s → RelV x v → RelV y u → r x y H Q →
    subscripted slice false v u = operate [v,u] (getItem v u) → wpAny (model X.prog X.w) X.A (subscriptTail value slice v u) (EP X pins σ Q) X.xe s
def MtR (X : Cx) (id : String) (r : V → List V → Hp → VK → Prop) : Prop :=
  ∀ (pins : List (Addr × Obj)) (s : Shared) (σ : St) (H : Hp) (x : V) (xs : List V) (v : Value) (us : List Value) (Q : VK),Inv X pins σ H s → RelV x v → Vals xs us → r x xs H Q →
    wpAny (model X.prog X.w) X.A (call (.builtin id) (v :: us)) (EP X pins σ Q) X.xe s
section
variable {X : Cx} {a b : Expr} {ta tb : TE} {pos : Pos}
theorem pe_ix {r : R2} (hr : IxR X r) (ha : PE X a ta) (hb : PE X b tb) (hs : PlainIx b) : PE X (.Subscript a b pos) (tOp r ta tb):=by
  intro pins s σ H Q I h
  exact Subscript_ (binT ha hb I h fun v u s2 x y H2 I2 rx ry q=>hr a b pins s2 σ H2 x y v u Q I2 rx ry q (hs _ _))
def rIxL (K : PySem.W.Frag) : R2:=fun x y H Q=>∃ p xs i v,x = .ref p ∧ y = .int i ∧ SqL K H p xs ∧ atI xs i = some v ∧ Q v H
def rIxT (K : PySem.W.Frag) : R2:=fun x y H Q=>∃ p xs i v,x = .ref p ∧ y = .int i ∧ SqT K H p xs ∧ atI xs i = some v ∧ Q v H
theorem ix_list : IxR X (rIxL X.K):=by
  intro value slice pins s σ H x y v u Q I rx ry h hs
  obtain ⟨p,xs,i,z,rfl,rfl,hq,he,q⟩:=h
  cases rx
  obtain ⟨t,rfl⟩:=ry
  obtain ⟨its,r,pl,hz⟩:=I.list hq
  obtain ⟨j,h1,h2,h3,h4,h5⟩:=atI_get he
  obtain ⟨w,ew,rw'⟩:=r.get h2
  have hl:=r.length
  have hn:=line63
  have fin : EP X pins σ Q w s:=⟨z,H,I,rw',q⟩
  by_cases h0 : 0 ≤ i
  · have hj : i.toNat = j:=by
      rw [seqIndex_of h0 h5] at h1
      exact Option.some.inj h1
    exact item_listR pl.isList h0 (by omega) (by rw [hj]; simpa using ew) fin hs
  · have hj : (i + (its.toArray.size : Int)).toNat = j:=by
      rw [seqIndex_neg (by omega) h4] at h1
      rw [List.size_toArray,← hl]
      exact Option.some.inj h1
    exact subscriptTail_builtinR (x:=w) pl.isList.typeIs slot_list_getitem.lookup
      (wpAny_getItem_list_neg (Q:=fun r s'=>r = w ∧ EP X pins σ Q r s') pl.isList (by omega) (by rw [List.size_toArray] <;> omega) (by omega) (by rw [hj]; simpa using ew) ⟨rfl,fin⟩) hs
theorem ix_tup : IxR X (rIxT X.K):=by
  intro value slice pins s σ H x y v u Q I rx ry h hs
  obtain ⟨p,xs,i,z,rfl,rfl,hq,he,q⟩:=h
  cases rx
  obtain ⟨t,rfl⟩:=ry
  obtain ⟨its,r,pl,hz⟩:=I.tuple hq
  obtain ⟨j,h1,h2,h3,h4,h5⟩:=atI_get he
  obtain ⟨w,ew,rw'⟩:=r.get h2
  have hl:=r.length
  have hn:=line63
  have fin : EP X pins σ Q w s:=⟨z,H,I,rw',q⟩
  exact subscriptTail_builtinR (x:=w) pl.typeIs slot_tuple_getitem.lookup
    (getItem_tuple (j:=j) (Q:=fun r s'=>r = w ∧ EP X pins σ Q r s') pl (by omega) (by omega) (by rw [List.size_toArray,← hl]; exact h1) (by simpa using ew) ⟨rfl,fin⟩) hs
theorem mapSeq_set (its : List Value) (n j : Nat) (u : Value) : Obj.mapSeq (·.setIfInBounds j u) { cls:=.type "list",data:=.seq its.toArray n } = { cls:=.type "list",data:=.seq (its.set j u).toArray n }:=by
  simp [Obj.mapSeq]
theorem Inv.lst {pins : List (Addr × Obj)} {σ : St} {H : Hp} {s : Shared} {p : Addr} {xs : List V} (I : Inv X pins σ H s) (h : H p = some (.lst xs)) :
    ∃ (its : List Value) (n : Nat),Vals xs its ∧ s.heap.get? p = some { cls:=.type "list",data:=.seq its.toArray n } ∧ xs.length ≤ sizeLine:=by
  obtain ⟨z,its,n,r,e⟩:=I.hok p _ h
  exact ⟨its,n,r,e,z⟩
theorem Inv.lstUpd {pins : List (Addr × Obj)} {σ : St} {H : Hp} {s : Shared} {p : Addr} {xs ys : List V} {its its' : List Value} {n n' : Nat} {f : Obj → Obj} (I : Inv X pins σ H s) (h : H p = some (.lst xs))
    (ho : s.heap.get? p = some { cls:=.type "list",data:=.seq its.toArray n }) (hf : f { cls:=.type "list",data:=.seq its.toArray n } = { cls:=.type "list",data:=.seq its'.toArray n' }) (r : Vals ys its') (hz : ys.length ≤ sizeLine) (t : Nat) :
    Inv X pins σ (upd H p (.lst ys)) { s with heap:=s.heap.update p f,toks:=t }:=by
  have e : (s.heap.update p f).get? p = some { cls:=.type "list",data:=.seq its'.toArray n' }:=by
    rw [Heap.get?_update_self f ho (by rw [hf] <;> rfl),hf]
  refine I.write (x:=p) (e:=p) (by rw [h]; trivial) (.inl rfl) (fun b u hb q=>(Heap.get?_update_other _ _ (Ne.symm hb)).trans q) ⟨_,e⟩ ?_
  exact ⟨hz,its',n',r,e⟩
def rSetL : V → V → V → Hp → (Hp → Prop) → Prop:=fun o i v H Q=>∃ p xs k j,o = .ref p ∧ i = .int k ∧ H p = some (.lst xs) ∧ ixN xs.length k = some j ∧ Q (upd H p (.lst (xs.set j v)))
theorem set_list : PSet X rSetL:=by
  intro pins s σ H o i v ov iv u Q I ro ri rv h
  obtain ⟨p,xs,k,j,rfl,rfl,hp,hj,q⟩:=h
  cases ro
  obtain ⟨t,rfl⟩:=ri
  obtain ⟨its,n,r,ho,hz⟩:=I.lst hp
  obtain ⟨h1,h2,h3,h4⟩:=ixN_seq hj
  have hl:=r.length
  have hn:=line63
  have I' : Inv X pins σ (upd H p (.lst (xs.set j v))) { s with heap:=s.heap.update p (Obj.mapSeq (·.setIfInBounds j u)) } :=
    I.lstUpd hp ho (mapSeq_set its n j u) (r.set rv j) (by rw [List.length_set]; exact hz) s.toks
  by_cases h0 : 0 ≤ k
  · have hk : k.toNat = j:=by
      rw [seqIndex_of h0 h4] at h1
      exact Option.some.inj h1
    exact PySem.W.ki_setAt ho h0 (by omega) (by rw [List.size_toArray,← hl]; exact h4) (by rw [hk]; exact ⟨_,I',q⟩)
  · have hk : (k + (its.toArray.size : Int)).toNat = j:=by
      rw [seqIndex_neg (by omega) h3] at h1
      rw [List.size_toArray,← hl]
      exact Option.some.inj h1
    exact PySem.W.ki_setBack ho (by omega) (by rw [List.size_toArray,← hl]; exact h3) (by omega) (by rw [hk]; exact ⟨_,I',q⟩)
theorem slice_bounds (lo hi : Option Int) (n : Nat) : (sliceBounds lo hi none n).1 = ((HT.sIx n 0 lo : Nat) : Int) ∧ (sliceBounds lo hi none n).2.1 = ((HT.sIx n n hi : Nat) : Int) ∧ (sliceBounds lo hi none n).2.2 = 1:=by
  refine ⟨?_,?_,rfl⟩
  · cases lo with
    | none=>simp [sliceBounds,HT.sIx]
    | some i =>
      simp only [sliceBounds,HT.sIx,Option.getD_none,show (1 : Int) > 0 by decide,if_true]
      by_cases h : i < 0
      · simp only [h,if_true] <;> omega
      · simp only [h,if_false] <;> omega
  · cases hi with
    | none=>simp [sliceBounds,HT.sIx]
    | some i =>
      simp only [sliceBounds,HT.sIx,Option.getD_none,show (1 : Int) > 0 by decide,if_true]
      by_cases h : i < 0
      · simp only [h,if_true] <;> omega
      · simp only [h,if_false] <;> omega
theorem slicePick_cut (its : List Value) (lo hi : Option Int) : slicePick its.toArray lo hi none = ((its.drop (HT.sIx its.length 0 lo)).take (HT.sIx its.length its.length hi - HT.sIx its.length 0 lo)).toArray:=by
  obtain ⟨h1,h2,h3⟩:=slice_bounds lo hi its.toArray.size
  unfold slicePick
  rw [h1,h2,h3]
  simp only [sliceRange_one,pick_run,List.size_toArray] <;> rfl
def rSlL (K : PySem.W.Frag) : V → Option Int → Option Int → Hp → VK → Prop:=fun x lo hi H Q=>∃ a xs,x = .ref a ∧ SqL K H a xs ∧ ∀ p,H p = none → Q (.ref p) (upd H p (.lst (cutV xs lo hi)))
theorem sl_list : SlR X (rSlL X.K):=by
  intro pins s σ H x v vl vu lo hi sl Q I rx hs pl pu h
  obtain ⟨a,xs,rfl,hx,q⟩:=h
  cases rx
  obtain ⟨its,r,ht,hz⟩:=I.list hx
  have hlen:=r.length
  refine ⟨"list",_,slot_list_getitem.lookup,ht.isList.typeIs,?_⟩
  refine wpAny_getItem_list_slice ht.isList hs pl pu .none (by simp) ?_ (by rw [List.size_toArray] <;> omega)
  rw [slicePick_cut,← hlen]
  refine ⟨.ref s.heap.objs.size,_,I.laid (t':=s.toks) (o:=.lst (cutV xs lo hi)) (fun b ob q=>Heap.get?_push_of_some _ q) (Nat.le_refl _) ?_,rfl,q _ (I.hok.fresh (Nat.le_refl _))⟩
  exact ⟨Nat.le_trans (cutV_length xs lo hi) hz,_,0,(r.drop (HT.sIx xs.length 0 lo)).take (HT.sIx xs.length xs.length hi - HT.sIx xs.length 0 lo),Heap.get?_push_size _ rfl⟩
theorem call_len_seq : CallR X (.builtin "len") (fun xs H Q=>∃ p ys,xs = [.ref p] ∧ (SqL X.K H p ys ∨ SqT X.K H p ys) ∧ Q (.int ys.length) H):=by
  intro pins s σ H xs us Q I r h
  obtain ⟨p,ys,rfl,hq,q⟩:=h
  obtain ⟨u,rfl,rx⟩:=vals1 r
  cases rx
  have hn:=line63
  rcases hq with hq | hq
  · obtain ⟨its,r',pl,hz⟩:=I.list hq
    have hlen:=r'.length
    exact Calls.call_len_list pl.isList (by simp only [List.size_toArray] <;> omega) ⟨.int ys.length,H,I.tok _,⟨s.toks + 1,by rw [List.size_toArray,hlen]⟩,q⟩
  · obtain ⟨its,r',pl,hz⟩:=I.tuple hq
    have hlen:=r'.length
    exact len_tuple pl (by simp only [List.size_toArray] <;> omega) ⟨.int ys.length,H,I.tok _,⟨s.toks + 1,by rw [List.size_toArray,hlen]⟩,q⟩
theorem call_list_of : CallR X (.type "list") (fun xs H Q=>∃ p ys,xs = [.ref p] ∧ (SqL X.K H p ys ∨ SqT X.K H p ys) ∧ ∀ l,H l = none → Q (.ref l) (upd H l (.lst ys))):=by
  intro pins s σ H xs us Q I r h
  obtain ⟨p,ys,rfl,hq,q⟩:=h
  obtain ⟨u,rfl,rx⟩:=vals1 r
  cases rx
  have fin : ∀ (its : List Value),Vals ys its → ys.length ≤ sizeLine → ∀ (h' : Heap) (c' : Nat),(∀ b o',s.heap.get? b = some o' → h'.get? b = some o') →
      h'.get? s.heap.objs.size = some { cls:=.type "list",dict:=none,data:=.seq its.toArray c',slots:=#[] } → EP X pins σ Q (.ref s.heap.objs.size) { s with heap:=h' }:=fun its r' hz h' c' kp e =>
    ⟨.ref s.heap.objs.size,_,I.laid (t':=s.toks) kp (Nat.le_refl _) (show ObjOk X.prog X.w _ h' _ (.lst ys) from ⟨hz,its,c',r',e⟩),rfl,q _ (I.hok.fresh (Nat.le_refl _))⟩
  rcases hq with hq | hq
  · obtain ⟨its,r',pl,hz⟩:=I.list hq
    have hlen:=r'.length
    obtain ⟨o,ho,hc,n,hd⟩:=pl.isList
    exact call_list_seq p (.inl rfl) ho hc hd (fun h' c' kp e=>fin its r' hz h' c' kp e) (by simp only [List.size_toArray] <;> omega)
  · obtain ⟨its,r',pl,hz⟩:=I.tuple hq
    have hlen:=r'.length
    obtain ⟨o,ho,hc,n,hd⟩:=pl
    exact call_list_seq p (.inr rfl) ho hc hd (fun h' c' kp e=>fin its r' hz h' c' kp e) (by simp only [List.size_toArray] <;> omega)
theorem call_tuple_of : CallR X (.type "tuple") (fun xs H Q=>∃ p ys,xs = [.ref p] ∧ ((SqL X.K H p ys ∧ ∀ l,H l = none → Q (.ref l) (upd H l (.tup ys))) ∨ (SqT X.K H p ys ∧ Q (.ref p) H))):=by
  intro pins s σ H xs us Q I r h
  obtain ⟨p,ys,rfl,h⟩:=h
  obtain ⟨u,rfl,rx⟩:=vals1 r
  cases rx
  rcases h with ⟨hq,q⟩ | ⟨hq,q⟩
  · obtain ⟨its,r',pl,hz⟩:=I.list hq
    have hlen:=r'.length
    refine call_tuple_list pl.isList (fun h' kp=>?_) (by simp only [List.size_toArray] <;> omega)
    have I1 : Inv X pins σ H { s with heap:=h' }:=I.kept (t':=s.toks) kp
    have I2 : Inv X pins σ (upd H h'.objs.size (.tup ys)) { s with heap:=h'.push { cls:=.type "tuple",data:=.seq its.toArray } } :=
      I1.laid (t':=s.toks) (fun b o e=>Heap.get?_push_of_some _ e) (Nat.le_refl _) (show ObjOk X.prog X.w _ _ _ (.tup ys) from ⟨hz,its,r',IsTup.new _ _⟩)
    exact ⟨.ref h'.objs.size,_,I2,rfl,q _ (I1.hok.fresh (Nat.le_refl _))⟩
  · obtain ⟨its,r',pl,hz⟩:=I.tuple hq
    exact call_tuple_same pl ⟨.ref p,H,I,rfl,q⟩
def tyV (K : PySem.W.Frag) (T : String) (x : V) (H : Hp) : Prop:=match x with
  | .str _=>T = "str"
  | .int _=>T = "int"
  | .ref p=>(T = "list" ∧ ∃ xs,SqL K H p xs) ∨ (T = "tuple" ∧ ∃ o,K.lookup p = some o ∧ o.cls = .type "tuple" ∧ o.dict = none) ∨
      (T = "dict" ∧ ((∃ kvs,H p = some (.dK kvs)) ∨ ∃ kvs,H p = some (.dT kvs))) ∨ (T = "set" ∧ ∃ S n,H p = some (.set S n))
  | _=>False
theorem tyV_is {pins : List (Addr × Obj)} {σ : St} {H : Hp} {s : Shared} {T : String} {x : V} {v : Value} (I : Inv X pins σ H s) (r : RelV x v) (ty : tyV X.K T x H) :
    s.TypeIs v T ∧ ∀ a,v = .ref a → ∃ ob,s.heap.get? a = some ob ∧ ob.dict = none:=by
  cases x with
  | str z =>
    obtain ⟨t,rfl⟩:=r
    cases (show T = "str" from ty)
    exact ⟨typeIs_str s z t,fun _ e=>nomatch e⟩
  | int i =>
    obtain ⟨t,rfl⟩:=r
    cases (show T = "int" from ty)
    exact ⟨typeIs_int s i t,fun _ e=>nomatch e⟩
  | ref p =>
    cases r
    rcases ty with ⟨rfl,xs,hq⟩ | ⟨rfl,o,hk,hc,hd⟩ | ⟨rfl,hk⟩ | ⟨rfl,S,n,hk⟩
    · obtain ⟨its,_,pl,_⟩:=I.list hq
      refine ⟨pl.isList.typeIs,fun a e=>?_⟩
      cases e
      obtain ⟨o,n,e,c,hd,_⟩:=pl
      exact ⟨o,e,hd⟩
    · refine ⟨⟨o,I.kIn p o hk,hc⟩,fun a e=>?_⟩
      cases e
      exact ⟨o,I.kIn _ o hk,hd⟩
    · have z : ∃ o,s.heap.get? p = some o ∧ o.ExactDict:=by
        rcases hk with ⟨kvs,hk⟩ | ⟨kvs,hk⟩
        · obtain ⟨_,_,_,_,o,_,_,e,ex,_⟩:=I.hok p _ hk
          exact ⟨o,e,ex⟩
        · obtain ⟨_,_,_,_,o,_,_,e,ex,_⟩:=I.hok p _ hk
          exact ⟨o,e,ex⟩
      obtain ⟨o,e,ex⟩:=z
      refine ⟨⟨o,e,ex.1⟩,fun a e2=>?_⟩
      cases e2
      exact ⟨o,e,ex.2.1⟩
    · obtain ⟨o,_,_,_,e,ex,_⟩:=I.hok p _ hk
      refine ⟨⟨o,e,ex.1⟩,fun a e2=>?_⟩
      cases e2
      exact ⟨o,e,ex.2.1⟩
  | _=>exact False.elim ty
def tBM (K : PySem.W.Frag) (T : String) (r : V → List V → Hp → VK → Prop) (to : TE) (t : TA) : TE:=fun σ H Q=>to σ H fun x H1=>tyV K T x H1 ∧ t σ H1 fun xs H2=>r x xs H2 Q
variable {o e : Expr} {es : List Expr} {to : TE} {t : TA} {name : Str} {apos cpos : Pos} {T id : String} {r : V → List V → Hp → VK → Prop}
theorem pe_bm (pa : PlainAttrs T) (slot : Slot T name id) (hty : typeOf (.builtin id) = pure (.type "method_descriptor")) (hm : MtR X id r) (ho : PE X o to) (ha : PA X (e :: es) t)
    (hbase : attributeBase o name X.env (eval o X.env) = eval o X.env:=by rfl)
    (hfew : ((backTo cpos (starEach (e :: es) X.env)).all (fun x=>!x.1) && (backToKw cpos (keywordEach [] X.env)).all (fun x=>x.1.isSome)
      && decide ((e :: es).length + ([] : List Keyword).length + (if ([] : List Keyword).isEmpty then 0 else 1) < 30)) = true:=by rfl)
    (hline : (apos.endLine == cpos.line) = true:=by rfl) (hs : starEach (e :: es) X.env = (false,eval e X.env) :: starEach es X.env:=by rfl) (hplain : (backTo cpos (starEach es X.env)).any (·.1) = false:=by rfl) :
    PE X (.Call (.Attribute o name apos) (e :: es) [] cpos) (tBM X.K T r to t):=by
  intro pins s σ H Q I h
  refine wpAny_Call_method_late hbase hfew hline rfl (thn (ho pins s σ H _ I h) fun v s1 ⟨x,H1,I1,r1,ty,q1⟩=>?_)
  obtain ⟨h1,h2⟩:=tyV_is I1 r1 ty
  refine ⟨T,id,pa,slot,hty,h1,h2,?_⟩
  have hA:=ha cpos pins s1 σ H1 _ I1 q1
  rw [hs] at hA ⊢
  refine Calls.callWith_builtin (by show (false || (backTo cpos (starEach es X.env)).any (·.1)) = false; rw [hplain] <;> rfl) (Calls.evalArgs_plain ?_)
  exact thn hA fun us s2 ⟨vs,H2,I2,r2,q2⟩=>hm pins s2 σ H2 x vs v us Q I2 r1 r2 q2
end
end L2
namespace L2
open PySem PySem.Spec PyProof.Rows
def MtM (X : Cx) (id : String) (r : V → List V → Hp → VK → Prop) : Prop :=
  ∀ (pins : List (Addr × Obj)) (s : Shared) (σ : St) (H : Hp) (x : V) (xs : List V) (v : Value) (us : List Value) (Q : VK),Inv X pins σ H s → RelV x v → Vals xs us → r x xs H Q →
    wpAny (model X.prog X.w) X.A (call (.builtin id) (v :: us)) (EP X pins σ Q) X.xe s
theorem Vals.one : ∀ {x : V} {us : List Value},Vals [x] us → ∃ u,us = [u] ∧ RelV x u
  | _,_,.cons r .nil=>⟨_,rfl,r⟩
section
variable {X : Cx} {pins : List (Addr × Obj)} {σ : St} {H : Hp} {s : Shared} {l b : Addr} {xs ys zs : List V}
theorem Inv.lset {its its' : List Value} {n : Nat} {f : Array Value → Array Value} {t' : Nat} (I : Inv X pins σ H s) (hH : H l = some (.lst xs))
    (e : s.heap.get? l = some { cls:=.type "list",data:=.seq its.toArray n }) (hf : f its.toArray = its'.toArray) (hv : Vals ys its') (hz : ys.length ≤ sizeLine) :
    Inv X pins σ (upd H l (.lst ys)) { s with heap:=s.heap.update l (Obj.mapSeq f),toks:=t' }:=by
  have q:=PySem.IsL.update e f
  rw [hf] at q
  refine I.write (x:=l) (e:=l) (by rw [hH]; exact trivial) (.inl rfl) (fun b' u hb hu=>(Heap.get?_update_other s.heap (Obj.mapSeq f) (Ne.symm hb)).trans hu) ⟨_,q⟩ ?_
  exact ⟨hz,its',_,hv,q⟩
theorem Inv.lnew {its : List Value} {t' : Nat} (I : Inv X pins σ H s) (hv : Vals ys its) (hz : ys.length ≤ sizeLine) :
    Inv X pins σ (upd H s.heap.objs.size (.lst ys)) { s with heap:=s.heap.push { cls:=.type "list",data:=.seq its.toArray },toks:=t' } :=
  I.laid (fun _ _ q=>Heap.get?_push_of_some _ q) (Nat.le_refl _) ⟨hz,its,0,hv,Heap.get?_push_size _ rfl⟩
theorem Inv.fresh (I : Inv X pins σ H s) : H s.heap.objs.size = none:=I.hok.fresh (Nat.le_refl _)
theorem Inv.lstM (I : Inv X pins σ H s) (hH : H l = some (.lst xs)) : xs.length ≤ sizeLine ∧ ∃ (its : List Value) (n : Nat),Vals xs its ∧ xs.length = its.length ∧ s.heap.get? l = some { cls:=.type "list",data:=.seq its.toArray n }:=by
  obtain ⟨z,its,n,r,e⟩:=I.hok l _ hH
  exact ⟨z,its,n,r,r.length,e⟩
theorem notLongL {n : Nat} (h : n ≤ sizeLine) : Builtin.List.listTooLong n = false:=by
  unfold Builtin.List.listTooLong
  exact decide_eq_false (by omega)
end
section
variable {X : Cx}
def rAppend : V → List V → Hp → VK → Prop:=fun x vs H Q=>∃ l xs y,x = .ref l ∧ vs = [y] ∧ H l = some (.lst xs) ∧ xs.length < sizeLine ∧ Q .non (upd H l (.lst (xs ++ [y])))
theorem mt_append : MtM X "list.append" rAppend:=by
  intro pins s σ H x vs v us Q I rx rv h
  obtain ⟨l,xs,y,rfl,rfl,hH,hz,q⟩:=h
  cases rx
  obtain ⟨u,rfl,ru⟩:=rv.one
  obtain ⟨z,its,n,r,hl,e⟩:=I.lstM hH
  refine call_meets F.slot_list_append ⟨_,e,rfl⟩ F.entry_list_append (F.args_list_append_2 _ _) (PySem.list_append l its.toArray n u (by rw [List.size_toArray]; omega)) ⟨e,?_⟩
  refine ⟨.non,_,I.lset (its':=its ++ [u]) hH e (by simp) (r.append (.cons ru .nil)) ?_,rfl,q⟩
  rw [List.length_append,List.length_singleton]
  omega
def rCat : R2:=fun x y H Q=>∃ l b xs zs,x = .ref l ∧ y = .ref b ∧ H l = some (.lst xs) ∧ H b = some (.lst zs) ∧ xs.length + zs.length ≤ sizeLine ∧ ∀ p,H p = none → Q (.ref p) (upd H p (.lst (xs ++ zs)))
theorem op_cat : OpR X (binaryOp .Add) rCat:=by
  intro pins s σ H x y v u Q I rx ry h
  obtain ⟨l,b,xs,zs,rfl,rfl,hH,hB,hz,q⟩:=h
  cases rx
  cases ry
  obtain ⟨z,its,n,r,hl,e⟩:=I.lstM hH
  obtain ⟨z2,its2,n2,r2,hl2,e2⟩:=I.lstM hB
  refine PySem.P.add_list e e2 ?_ (by rw [List.size_toArray,List.size_toArray]; omega)
  have ea : its.toArray ++ its2.toArray = (its ++ its2).toArray:=by simp
  rw [ea]
  exact ⟨.ref _,_,I.lnew (t':=s.toks) (r.append r2) (by rw [List.length_append]; omega),rfl,q _ I.fresh⟩
end
section
variable {prog : Program} {w : World} {A : Around} {E : Value → Shared → Prop} {s : Shared}
theorem bounds_run {a c n : Nat} (hac : a ≤ c) (hc : c ≤ n) : sliceBounds (some (a : Int)) (some (c : Int)) none n = ((a : Int),(c : Int),1):=by
  simp only [sliceBounds,Option.getD_none]
  have h1 : ¬ ((a : Int) < 0):=by omega
  have h2 : ¬ ((c : Int) < 0):=by omega
  simp only [h1,h2,if_false,show (1 : Int) > 0 by decide,if_true]
  congr 1
  · omega
  · congr 1; omega
set_option maxRecDepth 100000 in
theorem setItem_slice {l b sl : Addr} {items new : Array Value} {n n2 : Nat} {vl vu : Value} {a c : Nat} {Q : Unit → Shared → Prop}
    (e : s.heap.get? l = some { cls:=.type "list",data:=.seq items n }) (e2 : s.heap.get? b = some { cls:=.type "list",data:=.seq new n2 }) (hne : l ≠ b)
    (hs : s.heap.IsSliceOf sl vl vu .none) (pl : IsPart vl (some (a : Int))) (pu : IsPart vu (some (c : Int))) (hac : a ≤ c) (hc : c ≤ items.size)
    (hsz : items.size + new.size ≤ sizeLine) (h : Q () { s with heap:=s.heap.update l (Obj.mapSeq fun xs=>xs.extract 0 a ++ new ++ xs.extract c xs.size) }) :
    wpAny (model prog w) A (setItem (.ref l) (.ref sl) (.ref b)) Q E s:=by
  have hl : s.heap.IsList l items:=PySem.IsL.isList e
  have hb : s.heap.IsList b new:=PySem.IsL.isList e2
  obtain ⟨os,hos,hcs,hds⟩:=id hs
  have hTs : s.TypeIs (.ref sl) "slice":=⟨os,hos,hcs⟩
  have hstep : ¬ ((rawPart none == rawInt 0) = true):=Bool.false_ne_true
  have hsame : Builtin.List.listSameRef (.ref l) (.ref b) = false:=by
    unfold Builtin.List.listSameRef
    exact beq_eq_false_iff_ne.mpr hne
  have hmax : (max (a : Int) (c : Int)).toNat = c:=by omega
  have hz' : ((fun xs : Array Value=>xs.extract 0 a ++ new ++ xs.extract c xs.size) items).size ≤ sizeLine + 1:=by
    simp only [Array.size_append,Array.size_extract]
    omega
  unfold setItem
  try with_reducible refine wpAny_holding ?_
  first | refine wpAny_bind (wpAny_pure ?_) | skip
  refine wpAny_bind (wpAny_sequenceKey hl.typeIs (by decide) ?_)
  refine wpAny_bind (wpAny_callSpecial?_slot (name:=Str.ofString "__setitem__") hl.typeIs slot_list_setitem
    (wpAny_call_entry slot_list_setitem hl.typeIs entry_list_setitem ?_ (args_list_setitem _ _ _)))
  show wpAny _ _ (Builtin.List.listSubscript? (.ref sl) >>= _) _ _ s
  refine wpAny_bind ?_
  unfold Builtin.List.listSubscript?
  refine wpAny_bind (wpAny_specialOf hTs slice_no_index ?_)
  simp only [Option.isNone_none,if_true]
  refine wpAny_pure ?_
  show wpAny _ _ (typeOf (.ref sl) >>= _) _ _ s
  refine wpAny_bind (wpAny_typeOf hTs ?_)
  first
    | rw [if_neg (by decide)]
    | refine PySem.W.KFB.if_not (by decide) ?_
  rw [listSliceParts_eq]
  refine wpAny_bind (wpAny_bind (wpAny_field hos hds (x:=.none) rfl (wpAny_bind (wpAny_listPart .none ?_))))
  rw [if_neg hstep]
  refine wpAny_bind (wpAny_field hos hds (x:=vl) rfl (wpAny_bind (wpAny_listPart pl ?_)))
  refine wpAny_bind (wpAny_field hos hds (x:=vu) rfl (wpAny_bind (wpAny_listPart pu (wpAny_pure ?_))))
  first
    | simp only [hsame,Bool.false_eq_true,if_false]
    | refine PySem.W.KFB.if_not hsame ?_
    | (dsimp only
       rw [if_neg (by rw [hsame]; exact Bool.false_ne_true)])
  refine wpAny_bind (m:=Builtin.List.listAllItems (.ref b) "must assign iterable to extended slice") ?_
  unfold Builtin.List.listAllItems
  refine wpAny_bind (wpAny_typeOf hb.typeIs ?_)
  first
    | refine PySem.W.KFB.if_so (by decide) ?_
    | rw [if_pos (by decide)]
    | simp only [beq_self_eq_true,Bool.true_or,if_true]
  unfold Builtin.List.listItems
  refine wpAny_bind (wpAny_seqItems e2 rfl (wpAny_pure ?_))
  refine wpAny_bind (wpAny_bind (wpAny_seqItems e rfl (wpAny_pure ?_)))
  refine wpAny_bind (wpAny_of_eq ((sliceIndices_raw (some (a : Int)) (some (c : Int)) none items.size (by simp)).trans (congrArg (pure : Int × Int × Int → Sem (Int × Int × Int)) (bounds_run hac hc))) ?_)
  show wpAny _ _ (if ((1 : Int) == 1) = true then _ else _) _ _ s
  rw [if_pos (by decide)]
  refine wpAny_bind (wpAny_rule ?_)
  first
    | simp only [notLongL hsz,Bool.false_eq_true,if_false]
    | refine PySem.W.KFB.if_not (notLongL hsz) ?_
  first | refine wpAny_bind (wpAny_pure ?_) | skip
  show wpAny _ _ (updateSeq l (fun xs=>xs.extract 0 ((a : Int)).toNat ++ new ++ xs.extract (max (a : Int) (c : Int)).toNat xs.size) >>= _) _ _ s
  rw [hmax,Int.toNat_natCast]
  refine wpAny_bind (wpAny_updateSeq (hz:=Nat.le_trans (Nat.le_add_right _ _) hsz) (_hz':=hz') e rfl ?_)
  refine wpAny_bind (wpAny_letGo ?_)
  first
    | exact wpAny_bind (wpAny_pure (wpAny_pure ⟨.none,rfl,wpAny_pure h⟩))
    | exact wpAny_pure ⟨.none,rfl,wpAny_pure h⟩
end
section
variable {X : Cx}
end
end L2
namespace L2
open PySem PySem.Spec PyProof.Rows
section
variable {κ : Type} [DecidableEq κ]
end
section
variable {P : Program} {w : World} {H : Hp} {h : Heap} {a : Addr}
end
section
variable {X : Cx} {pins : List (Addr × Obj)} {σ : St} {H : Hp} {s : Shared} {a : Addr} {y v : V} {u r : Value} {o : Option V} {A : Around} {E : Value → Shared → Prop}
end
section
variable {X : Cx} {pins : List (Addr × Obj)} {σ : St} {H : Hp} {s : Shared} {a : Addr} {kvs : List (Key × V)} {k : Key} {u : Value} {A : Around} {E : Value → Shared → Prop}
end
section
variable {X : Cx} {o i e value : Expr} {pos pos' tpos : Pos} {td ty tv : TE}
end
section
variable {X : Cx} {pos : Pos}
end
structure M1 (X : Cx) (o : Expr) (m : Str) (apos : Pos) (e : Expr) (cpos : Pos) : Prop where
  base : attributeBase o m X.env (eval o X.env) = eval o X.env
  few : ((backTo cpos (starEach [e] X.env)).all (fun x=>!x.1) && (backToKw cpos (keywordEach [] X.env)).all (fun x=>x.1.isSome)
    && decide (([e] : List Expr).length + ([] : List Keyword).length + (if ([] : List Keyword).isEmpty then 0 else 1) < 30)) = true
  line : (apos.endLine == cpos.line) = true
  trees : backTo cpos (starEach [e] X.env) = [(false,eval e X.env)]
structure M2 (X : Cx) (o : Expr) (m : Str) (apos : Pos) (e f : Expr) (cpos : Pos) : Prop where
  base : attributeBase o m X.env (eval o X.env) = eval o X.env
  few : ((backTo cpos (starEach [e,f] X.env)).all (fun x=>!x.1) && (backToKw cpos (keywordEach [] X.env)).all (fun x=>x.1.isSome)
    && decide (([e,f] : List Expr).length + ([] : List Keyword).length + (if ([] : List Keyword).isEmpty then 0 else 1) < 30)) = true
  line : (apos.endLine == cpos.line) = true
  trees : backTo cpos (starEach [e,f] X.env) = [(false,eval e X.env),(false,eval f X.env)]
section
variable {X : Cx} {pins : List (Addr × Obj)} {σ : St} {H : Hp} {s : Shared} {a : Addr} {y d : V} {u r : Value} {o : Option V} {A : Around} {E : Value → Shared → Prop}
end
section
variable {X : Cx} {o e f : Expr} {apos cpos : Pos} {td ty tx : TE}
end
section
variable {X : Cx} {pins : List (Addr × Obj)} {σ : St} {H : Hp} {s : Shared} {a : Addr} {kvs : List (Key × V)} {A : Around} {E : Value → Shared → Prop}
end
section
variable {X : Cx} {pins : List (Addr × Obj)} {σ : St} {H : Hp} {s : Shared} {a : Addr} {y : V} {u : Value} {A : Around} {E : Value → Shared → Prop}
end
end L2
namespace Att
open PySem PySem.W PySem.Calls PyProof.Rows
theorem ints_of_wellAll {P : Params} {h : Heap} : ∀ (ns : List Int) (vs : List Value),WellAll P h vs (ns.map WData.int) → IntsAre vs ns:=by
  intro ns
  induction ns with
  | nil =>
    intro vs w
    rw [List.map_nil] at w
    cases w
    exact .nil
  | cons n ns ih =>
    intro vs w
    rw [List.map_cons] at w
    cases w with
    | cons a b =>
      cases a
      exact .cons _ _ (ih _ b)
theorem script_of {l : OpenLaw} {n : Nat} (hn : l.most = some n) {P : Params} {h : Heap} {args : List WData} {vals : List Value}
    (hpre : l.row.toRowW.claim.pre args = true) (hwl : WellAll P h vals args) :
    ∃ a vs ns,vals = [Value.ref a] ∧ args = [WData.list (ns.map WData.int)] ∧ h.get? a = some { cls:=.type "list",data:=.seq vs.toArray } ∧ IntsAre vs ns ∧ ns.length ≤ n:=by
  have hsh : WShape.hasAll [] args [.list .int] = true:=(pre_splitW hpre).1
  have hc : l.pre.holds [] { args:=args } = true:=(pre_splitW hpre).2
  obtain ⟨d,r,rfl,h1,h2⟩:=hasAllW_cons hsh
  obtain rfl:=hasAllW_nil h2
  obtain ⟨xs,rfl,h3⟩:=hasW_list h1
  obtain ⟨ns,rfl⟩:=items_int h3
  have hlen : ns.length ≤ n:=by
    unfold OpenLaw.pre at hc
    have h4 : (WTm.not (.lt (.lit (.int (n : Int))) (.len (.arg 0)))).holds [] { args:=[.list (ns.map .int)] } = true:=by
      have h4:=(holds_andW hc).1
      rw [hn] at h4
      exact h4
    have h5:=condW_of h4 (w_not (w_lt w_lit (w_len_list (w_arg rfl))))
    rw [List.length_map] at h5
    refine Nat.le_of_not_lt fun q=>?_
    have q' : (n : Int) < ((ns.length : Nat) : Int):=by omega
    first
      | (rw [decide_eq_true q'] at h5; exact absurd h5 (by decide))
      | (simp at h5; omega)
  cases hwl with
  | cons w1 w2 =>
    cases w2
    cases w1 with
    | list ho hall=>exact ⟨_,_,ns,rfl,rfl,ho,ints_of_wellAll ns _ hall,hlen⟩
theorem post_true (l : OpenLaw) (args : List WData) : l.row.toRowW.claim.post args (.bool true) args = true :=
  postW_of (r:=l.row.toRowW) (X:=(true == true))
    (show WShape.has [] (.bool true) .bool = true by first | rfl | decide | simp [WShape.has,WShape.arms,WShape.armsAll])
    (show (WTm.eq .res (.lit (.bool true))).value [] { args:=args,res:=some (.bool true),after:=args } = some (.bool (true == true)) from w_eq_bool (w_res rfl) w_lit) rfl
theorem attach_call {l : OpenLaw} {n : Nat} {q : Program} {loose : List Str} {XP : (Str → Option Value) → Heap → Prop} {YP : World → Heap → Prop} {d : DefRec}
    (hn : l.most = some n) (hdf : d.params.defaults = [])
    (call : ∀ (w : World) (s₀ s₁ : Shared) (mg mb : Str → Option Value) (fa : Addr) (o : Obj) (pm cd doc : Value) (a : Addr) (vs : List Value) (ns : List Int),
      Ground q loose [] XP w s₀ mg mb s₁.heap → YP w s₁.heap →
      s₁.heap.get? fa = some o → o.data = .func (docDef d.name d.params d.body d.scope pm cd doc) → s₁.heap.CodeRec cd d.name → mg d.name = some (.ref fa) →
      s₁.heap.get? a = some { cls:=.type "list",data:=.seq vs.toArray } → IntsAre vs ns → ns.length ≤ n → s₁.gens = #[] →
      codeAny (model l.prog w) callerA (.call (.ref fa) ⟨[.ref a],[]⟩) (fun r s'=>r = .ok (.ret (.bool true)) ∧ OldK s₁.heap s'.heap ∧ s'.os = s₁.os ∧ AllBare s'.gens) s₁) :
    WalkO q loose XP YP l.row.toRowW d [] (fun f vs=>PySem.call f vs):=by
  intro w s₀ s₁ mg mb G Y fa o pm cd doc dV kV ho hd hcd hD hmg hg args vals as hpre hlay hrd hwl hlo
  obtain rfl : dV = .none:=Dflts.none hD hdf
  obtain rfl : kV = .none:=Dflts.noKw hD
  obtain ⟨a,vs,ns,rfl,rfl,hobj,hints,hlen⟩:=script_of hn hpre hwl
  refine enter_call (codeAny_mono (call w s₀ s₁ mg mb fa o pm cd doc a vs ns G Y ho (fd_plain hd) hcd hmg hobj hints hlen hg) fun r s' hq=>?_)
  obtain ⟨rfl,h2,h3,h4⟩:=hq
  exact ⟨.inl ⟨.bool true,.bool true,[],rfl,fun _=>rfl,.bool true,post_true l _,fun _=>⟨List.Pairwise.nil,fun _ hm=>(nomatch hm)⟩⟩,h2,h3,h4⟩
section
variable {prog : Program} {w : World} {A : Around} {E : Value → Shared → Prop} {s : Shared} {K : Frag}
end
end Att
namespace L2
open PySem PySem.Spec PyProof.Rows
theorem vals_ints : ∀ {vs : List Value} {ns : List Int},IntsAre vs ns → Vals (ns.map V.int) vs
  | _,_,.nil=>.nil
  | _,_,.cons n t h=>.cons ⟨t,rfl⟩ (vals_ints h)
def Only (H : Hp) : Prop:=∀ b,H b = none ∨ ∃ o xs,H b = some (.frz o (.lst xs))
theorem law_call {P : Program} {w : World} {K : PySem.W.Frag} {mg mb : Str → Option Value} {CX : CXT} {k : Nat} {fa a : Addr} {fd : FuncData} {x : Str} {sp : Sp} {s₁ : Shared} {vs : List Value} {ns : List Int}
    (KX : K.In s₁.heap) (hns : s₁.heap.Ns mainGlobals mg) (hb : s₁.heap.Ns builtinsNs mb) (hbb : ∀ x : Str,x ≠ "__name__" → mb x = bootBuiltins x) (hlim : s₁.heap.NoLimit) (hg : s₁.gens = #[])
    (ha : s₁.heap.get? a = some { cls:=.type "list",data:=.seq vs.toArray }) (hi : IntsAre vs ns) (hl : ns.length ≤ sizeLine) (hr : Room k callerA)
    (F : ∀ base : Heap,K.In base → base.Ns mainGlobals mg → FnOk P w K mg base CX k fa fd [x] sp) (hbind : ∀ (s : Shared) (u : Value),BindsTo s fd ⟨[u],[]⟩ [(x,u)])
    (hsp : ∀ H : Hp,Only H → SqL K H a (ns.map V.int) → sp [.ref a] H (fun v _=>v = .bl true) fun _ _ _=>False)
    (hCX : ∀ H e s',CX [] H s₁ (fun _ _ _=>False) e s' → False) :
    codeAny (model P w) callerA (.call (.ref fa) ⟨[.ref a],[]⟩) (fun r s'=>r = .ok (.ret (.bool true)) ∧ OldK s₁.heap s'.heap ∧ s'.os = s₁.os ∧ AllBare s'.gens) s₁:=by
  have rv:=vals_ints hi
  have lenV:=hi.length
  have core : ∀ H : Hp,Only H → SqL K H a (ns.map V.int) → HOk P w H s₁.heap → (∀ b,H b ≠ none → b = a) → (H a ≠ none → K.lookup a = none) →
      codeAny (model P w) callerA (.call (.ref fa) ⟨[.ref a],[]⟩) (fun r s'=>r = .ok (.ret (.bool true)) ∧ OldK s₁.heap s'.heap ∧ s'.os = s₁.os ∧ AllBare s'.gens) s₁:=by
    intro H hO hS hok hA hK
    have base_of : ∀ {b : Addr} {o : Obj},s₁.heap.get? b = some o → H b = none → (hidT s₁.heap H).get? b = some o:=fun e n=>hidT_get e n
    have noA : ∀ {b : Addr} {o : Obj} {es : Array DictEntry} {ep : Nat},s₁.heap.get? b = some o → o.data = .dict es ep → H b = none:=fun {b o es ep} e d=>by
      cases q : H b with
      | none=>rfl
      | some u =>
        have e' : b = a:=hA b (by rw [q]; simp)
        subst e'
        rw [ha] at e; cases e
        have d' : Data.seq vs.toArray _ = Data.dict es ep:=d
        cases d'
    have nsK : ∀ {b : Addr} {m : Str → Option Value},s₁.heap.Ns b m → (hidT s₁.heap H).Ns b m:=fun {b m} ⟨o,es,ep,e,d,r⟩=>⟨o,es,ep,base_of e (noA e d),d,r⟩
    have hKb : K.In (hidT s₁.heap H):=fun b o e=>base_of (KX b o e) (by
      cases q : H b with
      | none=>rfl
      | some u =>
        have e' : b = a:=hA b (by rw [q]; simp)
        subst e'
        rw [hK (by rw [q]; simp)] at e; cases e)
    have hM : Mod K mg (hidT s₁.heap H):=⟨hKb,nsK hns,⟨mb,nsK hb,hbb⟩,let ⟨mc,h1,h2⟩:=hlim; ⟨mc,nsK h1,h2⟩⟩
    have e0 : Env0 P w K mg (hidT s₁.heap H) callerA [] s₁ H:=⟨rfl,hM,fun b o e=>of_hidT e,Nat.le_of_eq (hidT_size _ _),trivial,fun b hb=>absurd (show b ∈ ([] : List Addr) from hb) (by simp),hok,.of_eq hg⟩
    refine codeAny_mono ((F _ hKb (nsK hns)).run callerA [] s₁ H ⟨[.ref a],[]⟩ [.ref a] [.ref a] _ _ hr e0 (hbind s₁ (.ref a)) (.cons rfl .nil) (hsp H hO hS)) fun r s' h=>?_
    cases r with
    | error e=>exact (hCX H e s' h).elim
    | ok fl =>
      cases fl with
      | next=>exact False.elim h
      | brk=>exact False.elim h
      | cont=>exact False.elim h
      | ret u =>
        obtain ⟨v,H',os,bare,un,hok',r',q⟩:=h
        have q' : v = .bl true:=q
        subst q'
        obtain rfl : u = Value.bool true:=r'
        refine ⟨rfl,OldK.of_keep fun b o e=>?_,os,bare⟩
        cases q : H b with
        | none=>exact un.keep b o e q (by intro z; exact absurd (show b ∈ ([] : List Addr) from z) (by simp)) (by simp)
        | some u =>
          rcases hO b with z | ⟨ob,xs,z⟩
          · rw [q] at z; cases z
          · have z2:=un.frzs b ob _ z
            obtain ⟨e1,_⟩:=hok b _ z
            obtain ⟨e2,_⟩:=hok' b _ z2
            rw [e] at e1; cases e1
            exact e2
  cases hk : K.lookup a with
  | some o =>
    have e:=KX a o hk
    rw [ha] at e
    cases e
    refine core (fun _=>none) (fun _=>.inl rfl) (.inr ⟨_,vs.toArray,_,hk,rfl,rfl,rfl,by rw [List.size_toArray,lenV]; exact hl,by simpa using rv⟩) (fun b u z=>by have z' : (none : Option HO) = some u:=z; cases z') (fun b z=>absurd rfl z) fun z=>absurd rfl z
  | none =>
    refine core (fun b=>if b = a then some (.frz { cls:=.type "list",data:=.seq vs.toArray } (.lst (ns.map V.int))) else none) (fun b=>?_) (.inl (.inr ⟨{ cls:=.type "list",data:=.seq vs.toArray },if_pos rfl⟩)) (fun b u z=>?_) (fun b z=>?_) fun _=>hk
    · by_cases hb : b = a
      · exact .inr ⟨_,_,if_pos hb⟩
      · exact .inl (if_neg hb)
    · by_cases hb : b = a
      · have z':=(if_pos hb).symm.trans z
        cases z'
        subst hb
        exact ⟨ha,by rw [List.length_map]; exact hl,vs,_,rv,ha⟩
      · have z':=(if_neg hb).symm.trans z
        cases z'
    · by_cases hb : b = a
      · exact hb
      · exact absurd (if_neg hb) z
end L2
namespace L2
open PySem PySem.Spec PyProof.Rows
theorem walk_of {l : PySem.W.OpenLaw} {n k : Nat} {q : Program} {loose : List Str} {XP : (Str → Option Value) → Heap → Prop} {YP : World → Heap → Prop} {d : DefRec} {K : Params → PySem.W.Frag} {CX : World → CXT} {sp : World → Sp} {x : Str}
    (hn : l.most = some n) (hn2 : n ≤ sizeLine) (hdf : d.params.defaults = []) (hr : Room k callerA)
    (hY : ∀ (w : World) (h : Heap),YP w h → (K w.params).In h)
    (F : ∀ (w : World) (mg : Str → Option Value) (fa : Addr) (h : Heap),(K w.params).In h → h.Ns mainGlobals mg → mg d.name = some (.ref fa) →
      ∃ fd : FuncData,(∀ (s : Shared) (u : Value),BindsTo s fd ⟨[u],[]⟩ [(x,u)]) ∧
        ∀ base : Heap,(K w.params).In base → base.Ns mainGlobals mg → FnOk l.prog w (K w.params) mg base (CX w) k fa fd [x] (sp w))
    (hsp : ∀ (w : World) (H : Hp) (a : Addr) (ns : List Int),ns.length ≤ n → Only H → SqL (K w.params) H a (ns.map V.int) → sp w [.ref a] H (fun v _=>v = .bl true) fun _ _ _=>False)
    (hCX : ∀ (w : World) (H : Hp) (s : Shared) (e : Value) (s' : Shared),CX w [] H s (fun _ _ _=>False) e s' → False) :
    PySem.W.WalkO q loose XP YP l.row.toRowW d [] (fun f vs=>PySem.call f vs):=by
  refine Att.attach_call hn hdf fun w s₀ s₁ mg mb fa o pm cd doc a vs ns G Y ho hd hcd hmg hobj hints hlen hg=>?_
  have KX:=hY w _ Y
  obtain ⟨fd,hb,hF⟩:=F w mg fa _ KX G.T.g hmg
  exact law_call KX G.T.g G.T.b G.T.builtins G.T.nolimit hg hobj hints (Nat.le_trans hlen hn2) hr hF hb (fun H hO hS=>hsp w H a ns hlen hO hS) fun H e s'=>hCX w H s₁ e s'
end L2
namespace L2
open PySem PySem.Spec PyProof.Rows
def inClass (s : Stmt) (j : Nat) : Stmt:=match s with
  | .ClassDef _ _ _ body _ _ _ _ _ _ _=>body.getD j (.Pass ⟨0,0,0,0⟩)
  | _=>.Pass ⟨0,0,0,0⟩
def defArgs (s : Stmt) : Arguments:=match s with
  | .FunctionDef _ a _ _ _ _ _ _ _ _=>a
  | _=>{ posonlyargs:=[],args:=[],vararg:=none,kwonlyargs:=[],kw_defaults:=[],kwarg:=none,defaults:=[] }
def defBody (s : Stmt) : List Stmt:=match s with
  | .FunctionDef _ _ b _ _ _ _ _ _ _=>b
  | _=>[]
def defScope (s : Stmt) : Scope:=match s with
  | .FunctionDef _ _ _ _ _ _ sc _ _ _=>sc
  | _=>{ kind:=.function,names:=[],isGenerator:=false,isCoroutine:=false }
abbrev CX0 : CXT:=fun _ _ _ _ _ _=>False
abbrev E0 : XK:=fun _ _ _=>False
theorem pass0 {X : Cx} : Passes CX0 X E0:=fun _ _ _ _ _ _ _ h=>h.elim
structure Fun (K : PySem.W.Frag) (x qual : Str) (st : Stmt) (f : Addr) (fd : FuncData) : Prop where
  ex : ∃ (oc : Value) (od : Option Addr) (kV doc pm : Value) (an : Option Addr) (cdv ct : Value) (osl : Array (Option Value)),
    fd = PySem.W.fnOf x qual (defArgs st) (defBody st) (defScope st) .none kV doc pm an cdv ct ∧ K.lookup f = some ⟨oc,od,.func fd,osl⟩ ∧ PySem.W.codeIn K cdv qual = true
  kp : PySem.W.keepIn K (.ref f) = true
section
variable {P : Program} {w : World} {K : PySem.W.Frag} {mg : Str → Option Value} {base : Heap}
theorem Fun.ok {x qual : Str} {st : Stmt} {f : Addr} {fd : FuncData} {N ps : List Str} {k : Nat} {sp : Sp} (F : Fun K x qual st f fd) (S : FnScope N ps (defScope st)) (len : ∀ vs H Q E,sp vs H Q E → vs.length = ps.length)
    (hbody : ∀ (cdv : Value) (A : Around) (outer : List Env) (s : Shared) (H : Hp) (vs : List V) (Q : VK) (E : XK),Room k (A.deeper (envOfC qual (defScope st) s.heap.objs.size f cdv)) → sp vs H Q E →
      ∃ t,PSs (cxOf CX0 P w K mg base N qual (defScope st) f cdv A outer s H E).nox (defBody st) t ∧ t { nx:=fun _ H'=>Q .non H',rt:=Q } (start N vs) H) : FnOk P w K mg base CX0 (k + 1) f fd ps sp:=by
  obtain ⟨oc,od,kV,doc,pm,an,cdv,ct,osl,rfl,lk,hcd⟩:=F.ex
  refine fn_of lk hcd S len fun A outer s H vs Q E hr hsp=>?_
  obtain ⟨t,h,q⟩:=hbody cdv A outer s H vs Q E hr hsp
  exact ⟨t,h.nox,q⟩
theorem Fun.binds {x qual : Str} {st : Stmt} {f : Addr} {fd : FuncData} {ps : List Str} (F : Fun K x qual st f fd)
    (h : ∀ (kV doc pm : Value) (an : Option Addr) (cdv ct : Value) (us : List Value),us.length = ps.length → bindArgs (PySem.W.fnOf x qual (defArgs st) (defBody st) (defScope st) .none kV doc pm an cdv ct) ⟨us,[]⟩ = pure (ps.zip us)) : Binds K fd ps []:=by
  obtain ⟨oc,od,kV,doc,pm,an,cdv,ct,osl,rfl,lk,hcd⟩:=F.ex
  exact .all (h kV doc pm an cdv ct)
theorem fun_mk {x qual : Str} {st : Stmt} {f : Addr} {oc : Value} {od an : Option Addr} {osl : Array (Option Value)} {kV doc pm cdv ct : Value} (l : K.lookup f = some ⟨oc,od,.func (PySem.W.fnOf x qual (defArgs st) (defBody st) (defScope st) .none kV doc pm an cdv ct),osl⟩)
    (c : PySem.W.codeIn K cdv qual = true) (k : PySem.W.keepIn K (.ref f) = true) : Fun K x qual st f (PySem.W.fnOf x qual (defArgs st) (defBody st) (defScope st) .none kV doc pm an cdv ct):=⟨⟨oc,od,kV,doc,pm,an,cdv,ct,osl,rfl,l,c⟩,k⟩
end
theorem small1000 {n : Nat} (h : n ≤ 1000) : n < sizeLine:=Nat.lt_of_le_of_lt h (by decide)
section
variable {X : Cx}
theorem pv (i : Nat) {x : Str} {pos : Pos} (hN : X.N[i]? = some x:=by rfl) (hv : Vis X.env.scope x:=by first | exact Or.inl rfl | exact Or.inr (Or.inl rfl) | exact Or.inr (Or.inr rfl)) (hd : (x == ("__debug__" : Str)) = false:=by decide)
    (hcd : (x == ("__classdict__" : Str)) = false:=by decide) : PE X (.Name x pos) (tVar i):=pe_var hN hv hd hcd
end
theorem iteF {A B : Prop} (h : B) : if false = true then A else B:=by
  rw [if_neg Bool.false_ne_true]
  exact h
theorem iteT {A B : Prop} (h : A) : if true = true then A else B:=by
  rw [if_pos rfl]
  exact h
theorem ite2 {c A B : Prop} [Decidable c] (h1 : c → A) (h2 : ¬ c → B) : if c then A else B:=by
  by_cases h : c
  · rw [if_pos h]
    exact h1 h
  · rw [if_neg h]
    exact h2 h
def Same (H H' : Hp) : Prop:=∀ b o,H b = some o → H' b = some o
theorem Same.refl (H : Hp) : Same H H:=fun _ _ h=>h
theorem Same.trans {H H1 H2 : Hp} (a : Same H H1) (b : Same H1 H2) : Same H H2:=fun c o h=>b c o (a c o h)
theorem Same.free {H H' : Hp} (e : Same H H') {l : Addr} (h : H' l = Option.none) : H l = Option.none:=by
  cases q : H l with
  | none=>rfl
  | some o =>
    rw [e l o q] at h
    cases h
theorem Same.seq {K : PySem.W.Frag} {H H' : Hp} {a : Addr} {xs : List V} (e : Same H H') (h : SqL K H a xs) : SqL K H' a xs:=by
  rcases h with (h | ⟨o,h⟩) | h
  · exact .inl (.inl (e _ _ h))
  · exact .inl (.inr ⟨o,e _ _ h⟩)
  · exact .inr h
end L2
namespace L2
open PySem PySem.Spec PyProof.Rows
section
variable {X : Cx}
end
section
variable {κ : Type} [DecidableEq κ]
end
end L2
namespace L2
open PySem PySem.Spec PyProof.Rows
abbrev excO (cls : Value) (t : Addr) (tb : Value) : Obj:={ cls:=cls,data:=.fields #[.ref t,tb,.none,.none,.bool false,.none] }
structure Lies (h B : Heap) (e : Addr) (cls fl : Value) : Prop where
  lie : ∃ t T oT ts,h.get? e = some (excO cls t (.ref T)) ∧ T ≠ e ∧ B.get? T = none ∧ h.get? T = some oT ∧ oT.data = .fields ts ∧ ts[3]? = some fl
  new : B.get? e = none
structure Gone (B : Heap) (l : List Env) (h h' : Heap) : Prop where
  stays : B.StaysIn h'
  fr : h'.FunFrames B l
  up : ∀ b o,b ∈ frs l → h.get? b = some o → ∃ sl,h'.get? b = some { o with slots:=sl }
  there : ∀ b o,h.get? b = some o → ∃ o',h'.get? b = some o'
section
variable {M : Model} {A : Around} {E : Value → Shared → Prop} {s : Shared} {B : Heap} {env : Env} {outer : List Env} {L e : Addr} {cls : Value} {Q : Unit → Shared → Prop}
end
structure Fly (P : Program) (w : World) (outer : List Env) (H : Hp) (s : Shared) (e : Addr) (cls : Value) (H' : Hp) (B h' : Heap) : Prop where
  stays : B.StaysIn h'
  fr : h'.FunFrames B outer
  lies : Lies h' B e cls .none
  hok : HOk P w H' B
  out : H' e = none
  new : s.heap.get? e = none
  keep : ∀ b o,s.heap.get? b = some o → H b = none → b ∉ frs outer → B.get? b = some o
  slot : ∀ b o,s.heap.get? b = some o → b ∈ frs outer → ∃ sl,h'.get? b = some { o with slots:=sl }
  free : ∀ b o,s.heap.get? b = some o → H b = none → H' b = none
  there : ∀ b o,s.heap.get? b = some o → ∃ o',h'.get? b = some o'
  tups : ∀ b xs,H b = some (.tup xs) → H' b = some (.tup xs)
  frzs : ∀ b o u,H b = some (.frz o u) → H' b = some (.frz o u)
  tbls : ∀ b ps,H b = some (.tbl ps) → ∃ more,H' b = some (.tbl (ps ++ more))
section
variable {P : Program} {w : World} {K : PySem.W.Frag} {mg : Str → Option Value} {base : Heap} {N : List Str} {qual : Str} {scope : Scope} {f : Addr} {cd : Value} {A : Around} {outer : List Env} {s₀ : Shared} {H₀ : Hp} {E : XK}
end
end L2
namespace L2
open PySem PySem.Spec PyProof.Rows
section
variable {X : Cx} {x : Str} {np cpos pos : Pos} {e₀ : Expr} {rest : List Expr} {ta : TA} {C : Addr} {E : XK}
end
abbrev ExcAt (a : Addr) (cls : Value) : HO:=.ext fun h=>∃ t tb,h.get? a = some (excO cls t tb)
abbrev Cx.tried (X : Cx) (pn : List (Addr × Obj)) (E : Value → Shared → Prop) : Cx:={ X with pn:=pn,xe:=E }
section
variable {X : Cx} {pins : List (Addr × Obj)} {σ : St} {H : Hp} {s : Shared}
theorem Inv.tried (I : Inv X pins σ H s) (E : Value → Shared → Prop) : Inv (X.tried (X.pn ++ pins) E) [] σ H s :=
  ⟨⟨I.ok.mod,I.ok.kind,I.ok.glob,I.ok.blt,I.ok.above,I.ok.inj,I.ok.has,I.ok.cab,I.ok.hd,I.ok.frames,I.ok.stk,I.ok.exf,I.ok.bs,I.ok.bsz,I.ok.noex,I.ok.exfs,I.ok.funs,I.ok.frf⟩,I.os,I.bare,I.base,I.loc,I.cell,I.free,I.freeC,fun p hp=>I.pin p (by simpa using hp),I.hok,I.len⟩
theorem Inv.untried {pl : List (Addr × Obj)} {E : Value → Shared → Prop} (I : Inv (X.tried (X.pn ++ pins) E) pl σ H s) : Inv X pins σ H s :=
  ⟨⟨I.ok.mod,I.ok.kind,I.ok.glob,I.ok.blt,I.ok.above,I.ok.inj,I.ok.has,I.ok.cab,I.ok.hd,I.ok.frames,I.ok.stk,I.ok.exf,I.ok.bs,I.ok.bsz,I.ok.noex,I.ok.exfs,I.ok.funs,I.ok.frf⟩,I.os,I.bare,I.base,I.loc,I.cell,I.free,I.freeC,fun p hp=>I.pin p (List.mem_append_left _ hp),I.hok,I.len⟩
end
theorem Inv.track' {X : Cx} {pins : List (Addr × Obj)} {σ : St} {H : Hp} {s : Shared} {D : Addr} {o : HO} (I : Inv X pins σ H s) (hn : H D = none) (hL : D ≠ X.env.locals) (h0 : X.s₀.heap.get? D = none) (hcell : ∀ x c,X.env.cells.lookup x = some c → c ≠ D) (hpin : ∀ p ∈ X.pn ++ pins,p.1 ≠ D)
    (new : ObjOk X.prog X.w (upd H D o) s.heap D o) : Inv X pins σ (upd H D o) s:=by
  have old : ∀ b u,H b = some u → upd H D o b = some u:=fun b u e=>by rw [upd_ne (ne_of_none e hn)]; exact e
  refine ⟨I.ok,I.os,I.bare,⟨I.base.keep,I.base.slot,fun b ob e n hx=>?_,I.base.there,fun b xs e=>old _ _ (I.base.tups b xs e),fun b ob u e=>old _ _ (I.base.frzs b ob u e),fun b ps e=>?_⟩,I.loc,I.cell,?_,fun x c e=>?_,fun p hp=>?_,fun b u e=>?_,I.len⟩
  · rw [upd_ne (fun z=>by rw [z,h0] at e; cases e)]
    exact I.base.free b ob e n hx
  · obtain ⟨more,q⟩:=I.base.tbls b ps e
    exact ⟨more,old _ _ q⟩
  · rw [upd_ne (Ne.symm hL)]
    exact I.free
  · rw [upd_ne (hcell x c e)]
    exact I.freeC x c e
  · obtain ⟨q1,q2,q3,q4,q5⟩:=I.pin p hp
    exact ⟨q1,by rw [upd_ne (hpin p hp)]; exact q2,q3,q4,q5⟩
  · by_cases hb : b = D
    · subst hb
      rw [upd_same] at e
      cases e
      exact new
    · rw [upd_ne hb] at e
      exact (I.hok b u e).stay (fun _ _ _ q=>q) (fun c r=>by rw [upd_ne (ne_of_none r hn)]; exact r) fun c xs r=>by rw [upd_ne (ne_of_none r hn)]; exact r
end L2
namespace L2
open PySem PySem.Spec PyProof.Rows
theorem neL {a b : Nat} (h : a < b) : a ≠ b:=Nat.ne_of_lt h
theorem neG {a b : Nat} (h : b < a) : a ≠ b:=Nat.ne_of_gt h
theorem get_lt {h : Heap} {b : Nat} {o : Obj} (e : h.get? b = some o) : b < Array.size h.objs:=Heap.lt_size e
def closOf (cells : List (Str × Addr)) : List (Str × NameKind) → List (Str × Addr) → List (Str × Addr)
  | [],acc=>acc
  | (n,k) :: r,acc=>closOf cells r (if k == .free then (match cells.lookup n with | some a=>(n,a) :: acc | none=>acc) else acc)
theorem closureFor_go {env : Env} : ∀ (names : List (Str × NameKind)) (acc : List (Str × Addr)),(∀ y ∈ names,y.2 = .free → ∃ a,env.cells.lookup y.1 = some a) →
    (forIn names acc (fun (x : Str × NameKind) (cs : List (Str × Addr))=>if (x.2 == NameKind.free) = true then (do let a ← cellOf env x.1; pure (ForInStep.yield ((x.1,a) :: cs))) else (pure (ForInStep.yield cs) : Sem _))) = (pure (closOf env.cells names acc) : Sem _)
  | [],acc,_=>rfl
  | (n,k) :: r,acc,h=>by
    have ih:=fun acc'=>closureFor_go r acc' fun y hy=>h y (List.mem_cons_of_mem _ hy)
    rw [List.forIn_cons]
    by_cases hk : k = .free
    · subst hk
      obtain ⟨a,ha⟩:=h (n,.free) List.mem_cons_self rfl
      have e1 : cellOf env n = pure a:=by unfold cellOf; rw [ha]
      have e2 : closOf env.cells ((n,NameKind.free) :: r) acc = closOf env.cells r ((n,a) :: acc):=by
        show closOf env.cells r (if (NameKind.free == NameKind.free) = true then (match env.cells.lookup n with | some a=>(n,a) :: acc | none=>acc) else acc) = _
        rw [if_pos (show (NameKind.free == NameKind.free) = true by decide),show env.cells.lookup n = some a from ha]
      rw [e2,← ih]
      show ((do let a ← cellOf env n; pure (ForInStep.yield ((n,a) :: acc)) : Sem _) >>= _) = _
      rw [e1]
      rfl
    · have hb : (k == NameKind.free) = false:=by simpa using hk
      have e2 : closOf env.cells ((n,k) :: r) acc = closOf env.cells r acc:=by
        show closOf env.cells r (if (k == NameKind.free) = true then _ else acc) = _
        rw [hb]; rfl
      rw [e2,← ih]
      show ((if (k == NameKind.free) = true then (do let a ← cellOf env n; pure (ForInStep.yield ((n,a) :: acc))) else (pure (ForInStep.yield acc) : Sem _)) >>= _) = _
      rw [hb]
      rfl
theorem closureFor_of {scope : Scope} {env : Env} (h : ∀ y ∈ scope.names,y.2 = .free → ∃ a,env.cells.lookup y.1 = some a) : closureFor scope env = pure (closOf env.cells scope.names []):=by
  have e:=closureFor_go scope.names [] h
  unfold closureFor
  show (forIn scope.names [] _ >>= fun cs=>pure cs) = _
  have e' : (forIn scope.names ([] : List (Str × Addr)) (fun (x : Str × NameKind) (cs : List (Str × Addr))=>match x with | (name,kind)=>if (kind == NameKind.free) = true then (do let a ← cellOf env name; pure (ForInStep.yield ((name,a) :: cs))) else (pure (ForInStep.yield cs) : Sem _))) = (pure (closOf env.cells scope.names []) : Sem _):=e
  first
    | (rw [e']; rfl)
    | (simp only [e']; rfl)
    | (erw [e']; rfl)
theorem closOf_sub {cells : List (Str × Addr)} : ∀ (names : List (Str × NameKind)) (acc : List (Str × Addr)),(∀ x c,acc.lookup x = some c → cells.lookup x = some c) → ∀ x c,(closOf cells names acc).lookup x = some c → cells.lookup x = some c
  | [],acc,h,x,c,e=>h x c e
  | (n,k) :: r,acc,h,x,c,e=>by
    refine closOf_sub r _ ?_ x c e
    intro y d q
    by_cases hk : (k == NameKind.free) = true
    · rw [if_pos hk] at q
      cases ha : cells.lookup n with
      | none=>rw [ha] at q; exact h y d q
      | some a =>
        rw [ha] at q
        by_cases hy : y = n
        · subst hy
          have q' : List.lookup y ((y,a) :: acc) = some d:=q
          rw [List.lookup_cons,beq_self_eq_true] at q'
          cases q'
          exact ha
        · have q' : List.lookup y ((n,a) :: acc) = some d:=q
          rw [List.lookup_cons,show (y == n) = false from by simpa using hy] at q'
          exact h y d q'
    · rw [if_neg hk] at q
      exact h y d q
theorem closOf_acc {cells : List (Str × Addr)} : ∀ (names : List (Str × NameKind)) (acc : List (Str × Addr)) (x : Str),(∃ c,acc.lookup x = some c) → ∃ c,(closOf cells names acc).lookup x = some c
  | [],_,_,h=>h
  | (n,k) :: r,acc,x,⟨c,h⟩=>by
    refine closOf_acc r _ x ?_
    by_cases hk : (k == NameKind.free) = true
    · rw [if_pos hk]
      cases ha : cells.lookup n with
      | none=>exact ⟨c,h⟩
      | some a =>
        show ∃ c,List.lookup x ((n,a) :: acc) = some c
        rw [List.lookup_cons]
        cases x == n with
        | true=>exact ⟨a,rfl⟩
        | false=>exact ⟨c,h⟩
    · rw [if_neg hk]
      exact ⟨c,h⟩
theorem closOf_has {cells : List (Str × Addr)} : ∀ (names : List (Str × NameKind)) (acc : List (Str × Addr)) (x : Str) (c : Addr),(x,NameKind.free) ∈ names → cells.lookup x = some c → (closOf cells names acc).lookup x = some c ∨ ∃ d,(closOf cells names acc).lookup x = some d
  | [],_,_,_,h,_=>nomatch h
  | (n,k) :: r,acc,x,c,h,e=>by
    rcases List.mem_cons.mp h with z | z
    · cases z
      refine .inr (closOf_acc r _ _ ?_)
      rw [if_pos (show (NameKind.free == NameKind.free) = true by decide),e]
      exact ⟨c,by show List.lookup n ((n,c) :: acc) = _; rw [List.lookup_cons,beq_self_eq_true]⟩
    · exact closOf_has r _ x c z e
theorem closOf_at {cells : List (Str × Addr)} {names : List (Str × NameKind)} {x : Str} {c : Addr} (h : (x,NameKind.free) ∈ names) (e : cells.lookup x = some c) : (closOf cells names []).lookup x = some c:=by
  rcases closOf_has names [] x c h e with z | ⟨d,z⟩
  · exact z
  · have q:=closOf_sub names [] (fun y d q=>by cases q) x d z
    rw [e] at q
    cases q
    exact z
def compOk (fs scope : Scope) (N own : List Str) (cap : List Nat) : Bool :=
  (scope.kind == .function) && scope.names.all (fun y=>y.2 != .cell) && scope.names.all (fun y=>y.2 != .local || scope.names.lookup y.1 == some .local) &&
    scope.names.all (fun y=>y.2 != .free || (fs.names.lookup y.1 == some .cell || fs.names.lookup y.1 == some .free)) &&
    decide ((own ++ cap.map fun i=>N.getD i "").Nodup) && cap.all (fun i=>decide (i < N.length) && (scope.names.lookup (N.getD i "") == some .free) && (fs.names.lookup (N.getD i "") == some .cell || fs.names.lookup (N.getD i "") == some .free))
abbrev compN (N own : List Str) (cap : List Nat) : List Str:=own ++ cap.map fun i=>N.getD i ""
def capσ (own : List Str) (cap : List Nat) (σ : St) : St:=(own.map fun _=>none) ++ cap.map fun i=>(σ[i]?).join
def cxComp (X : Cx) (scope : Scope) (N' : List Str) (C : Addr) (s₀ : Shared) (H₀ : Hp) (ex : List Addr) : Cx where
  prog:=X.prog
  w:=X.w
  K:=X.K
  mg:=X.mg
  base:=X.base
  A:=X.A
  N:=N'
  s₀:=s₀
  H₀:=H₀
  env:=compEnvC scope (closOf X.env.cells scope.names []) C X.env
  outer:=X.stack
  stack:=X.stack
  ex:=ex
  fn:=fun _=>false
  calm:=X.calm
  pn:=[]
  xe:=fun _ _=>False
theorem relabel_has {scope : Scope} {env : Env} {x : Str} (hc : ∀ y ∈ scope.names,y.2 ≠ .cell) (h : (relabel scope env).names.lookup x = some .cell ∨ (relabel scope env).names.lookup x = some .free) : (x,NameKind.free) ∈ scope.names:=by
  have mem : ∀ k,(relabel scope env).names.lookup x = some k → (k = .cell ∨ k = .free) → (x,NameKind.free) ∈ scope.names:=fun k e hk=>by
    obtain ⟨⟨n,k0⟩,hm,q⟩:=List.mem_map.mp (PySem.mem_of_lookup e)
    by_cases c : (k0 == NameKind.free && env.scope.kind == .function && env.kindOf n == some .cell) = true
    · have q' : (if (k0 == NameKind.free && env.scope.kind == .function && env.kindOf n == some .cell) = true then (n,NameKind.cell) else (n,k0)) = (x,k):=q
      rw [if_pos c] at q'
      cases q'
      have : k0 = .free:=by
        have c1:=(Bool.and_eq_true _ _ ▸ c).1
        have c2:=(Bool.and_eq_true _ _ ▸ c1).1
        simpa using c2
      subst this
      exact hm
    · have q' : (if (k0 == NameKind.free && env.scope.kind == .function && env.kindOf n == some .cell) = true then (n,NameKind.cell) else (n,k0)) = (x,k):=q
      rw [if_neg c] at q'
      cases q'
      rcases hk with z | z
      · exact absurd z (hc _ hm)
      · subst z; exact hm
  rcases h with h | h
  · exact mem _ h (.inl rfl)
  · exact mem _ h (.inr rfl)
theorem relabel_free {scope : Scope} {env : Env} {x : Str} (hnd : scope.names.lookup x = some .free) : (relabel scope env).names.lookup x = some .cell ∨ (relabel scope env).names.lookup x = some .free:=by
  have : ∀ names : List (Str × NameKind),names.lookup x = some .free →
      (names.map fun (n,k)=>if (k == NameKind.free && env.scope.kind == .function && env.kindOf n == some .cell) = true then (n,NameKind.cell) else (n,k)).lookup x = some .cell ∨
      (names.map fun (n,k)=>if (k == NameKind.free && env.scope.kind == .function && env.kindOf n == some .cell) = true then (n,NameKind.cell) else (n,k)).lookup x = some .free:=by
    intro names
    induction names with
    | nil=>intro h; cases h
    | cons y r ih =>
      obtain ⟨n,k⟩:=y
      intro h
      show List.lookup x ((if (k == NameKind.free && env.scope.kind == .function && env.kindOf n == some .cell) = true then (n,NameKind.cell) else (n,k)) :: _) = _ ∨ List.lookup x ((if (k == NameKind.free && env.scope.kind == .function && env.kindOf n == some .cell) = true then (n,NameKind.cell) else (n,k)) :: _) = _
      cases hx : x == n with
      | true =>
        simp only [List.lookup_cons,hx] at h
        cases h
        by_cases hc : (NameKind.free == NameKind.free && env.scope.kind == .function && env.kindOf n == some .cell) = true
        · rw [if_pos hc,List.lookup_cons,hx]; exact .inl rfl
        · rw [if_neg hc,List.lookup_cons,hx]; exact .inr rfl
      | false =>
        simp only [List.lookup_cons,hx] at h
        by_cases hc : (k == NameKind.free && env.scope.kind == .function && env.kindOf n == some .cell) = true
        · rw [if_pos hc]; simp only [List.lookup_cons,hx]; exact ih h
        · rw [if_neg hc]; simp only [List.lookup_cons,hx]; exact ih h
  exact this scope.names hnd
def GK (n : Nat) (g : TG) : Prop:=∀ v σ H (Q Q' : St → Hp → Prop),g v σ H Q → (∀ σ' H',Q σ' H' → σ'.length = σ.length → (∀ j,n ≤ j → σ'[j]? = σ[j]?) → Q' σ' H') → g v σ H Q'
def GKs (n : Nat) (g : TGs) : Prop:=∀ vs σ H (Q Q' : St → Hp → Prop),g vs σ H Q → (∀ σ' H',Q σ' H' → σ'.length = σ.length → (∀ j,n ≤ j → σ'[j]? = σ[j]?) → Q' σ' H') → g vs σ H Q'
theorem gk_name {n i : Nat} (h : i < n:=by decide) : GK n (gName i):=fun v σ H Q Q' q k=>k _ _ q List.length_set fun j hj=>List.getElem?_set_ne (by omega)
theorem gks_nil {n : Nat} : GKs n gNil:=fun vs σ H Q Q' ⟨e,q⟩ k=>⟨e,k _ _ q rfl fun _ _=>rfl⟩
theorem gks_cons {n : Nat} {t : TG} {u : TGs} (h1 : GK n t) (h2 : GKs n u) : GKs n (gCons t u):=fun vs σ H Q Q' ⟨v,r,e,q⟩ k =>
  ⟨v,r,e,h1 v σ H _ _ q fun σ1 H1 q1 l1 k1=>h2 r σ1 H1 _ _ q1 fun σ2 H2 q2 l2 k2=>k σ2 H2 q2 (l2.trans l1) fun j hj=>(k2 j hj).trans (k1 j hj)⟩
theorem gk_tup {n m : Nat} {K : PySem.W.Frag} {t : TGs} (h : GKs n t) : GK n (gTup K m t):=fun v σ H Q Q' ⟨a,xs,e,sq,l,q⟩ k=>⟨a,xs,e,sq,l,h xs σ H Q Q' q k⟩
def PF (Y : Cx) (ifs : List Expr) (tf : TT) : Prop :=
  ∀ (pins : List (Addr × Obj)) (s : Shared) (σ : St) (H : Hp) (Q : Bool → Hp → Prop),Inv Y pins σ H s → tf σ H Q →
    wpAny (model Y.prog Y.w) Y.A (forIn ifs true fun c r=>if r = true then do let ok ← isTrue c Y.env (eval c Y.env); pure (ForInStep.yield ok) else pure (ForInStep.yield r)) (TP Y pins σ Q) Y.xe s
def tNoTest : TT:=fun _ H Q=>Q true H
theorem pf_nil {Y : Cx} : PF Y [] tNoTest:=fun _ _ _ H _ I q=>wpAny_tests_nil ⟨H,I,q⟩
abbrev Blk (α : Type) : Type:=Addr → Shared → Hp → List Addr → α
abbrev CompR (own : List Str) (cap : List Nat) (g : Blk TG) (tf : Blk TT) (te : Blk TE) (σ : St) (Q : VK) (J : It) (H1 : Hp) : Prop :=
  ∃ W : Nat → Nat → List V → Hp → Prop,(∃ m,W 0 m [] H1) ∧ ∀ i m ys H,W i m ys H →
    (J.stop i H ∧ ys.length ≤ sizeLine ∧ ∀ p,H p = none → Q (.ref p) (upd H p (.lst ys))) ∨
    (J.go i H ∧ ys.length < sizeLine ∧ ∀ x H',J.yld i H x H' → ∀ C s₀ H₀ ex,g C s₀ H₀ ex x (capσ own cap σ) H' fun σ2 H2=>tf C s₀ H₀ ex σ2 H2 fun b H3 =>
      if b = true then te C s₀ H₀ ex σ2 H3 fun v H4=>∃ m',m' < m ∧ W (i + 1) m' (ys ++ [v]) H4 else ∃ m',m' < m ∧ W (i + 1) m' ys H3)
def tComp (own : List Str) (cap : List Nat) (wi : TI) (g : Blk TG) (tf : Blk TT) (te : Blk TE) : TE:=fun σ H Q=>wi σ H fun J H1=>CompR own cap g tf te σ Q J H1
section
variable {prog : Program} {w : World} {A : Around} {R : Result → Shared → Prop} {s : Shared}
theorem codeAny_compLoop_any {elt target iter : Expr} {ifs : List Expr} {scope : Scope} {pos : Pos} {it acc : Value} {env : Env} (I : Nat → Shared → Prop)
    (turn : ∀ n s,I n s → wpAny (model prog w) A (pyNext it) (fun r s₁=>match r with
      | none=>R (.ok .next) s₁
      | some v=>wpAny (model prog w) A (letOwnedTupleGo target it v) (fun _ s₁'=>wpAny (model prog w) A (assign target env v) (fun _ s₂ =>
          wpAny (model prog w) A (forIn ifs true fun c r=>if r = true then do let ok ← isTrue c env (eval c env); pure (ForInStep.yield ok) else pure (ForInStep.yield r)) (fun ok s₃ =>
            if ok = true then wpAny (model prog w) A (eval elt env) (fun x s₄ =>
              wpAny (model prog w) A (call (.builtin "list.append") [acc,x]) (fun _ s₅=>∃ m,m < n ∧ I m s₅) (fun _ _=>False) s₄) (fun _ _=>False) s₃
            else ∃ m,m < n ∧ I m s₃) (fun _ _=>False) s₂) (fun _ _=>False) s₁') (fun _ _=>False) s₁) (fun _ _=>False) s)
    (n : Nat) (h : I n s) :
    codeAny (model prog w) A (.compLoop (.ListComp elt [⟨target,iter,ifs,0⟩] scope pos) 0 it acc env) R s:=by
  refine codeAny_loop rfl I (fun n s hI=>?_) n h
  show wpAny _ A ((compTurn (.ListComp elt [⟨target,iter,ifs,0⟩] scope pos) 0 it acc env).onRaise (fun x=>do noteFrame x env; theTreesLotGoes x)) _ _ s
  refine wpAny_noted ?_
  rw [compTurn_list]
  refine wpAny_bind (wpAny_standAt (wpAny_bind (wpAny_mono (turn n s hI) (fun r s₁ h₁=>?_) fun _ _ f=>f.elim)))
  cases r with
  | none=>exact wpAny_pure h₁
  | some v =>
    refine wpAny_bind (wpAny_mono h₁ (fun _ s₁' h₁'=>?_) fun _ _ f=>f.elim)
    refine wpAny_bind (wpAny_mono h₁' (fun _ s₂ h₂=>wpAny_bind (wpAny_mono h₂ (fun ok s₃ h₃=>?_) fun _ _ f=>f.elim)) fun _ _ f=>f.elim)
    cases ok with
    | false=>exact wpAny_pure ⟨rfl,h₃⟩
    | true =>
      exact wpAny_bind (wpAny_bind (wpAny_mono h₃ (fun x s₄ h₄=>wpAny_bind (wpAny_mono h₄ (fun _ s₅ h₅=>wpAny_pure (wpAny_pure ⟨rfl,h₅⟩)) fun _ _ f=>f.elim)) fun _ _ f=>f.elim))
end
section
variable {X : Cx} {elt tg iter : Expr} {ifs : List Expr} {scope : Scope} {cpos : Pos} {own : List Str} {cap : List Nat} {wi : TI} {g : Blk TG} {tf : Blk TT} {te : Blk TE}
theorem join_some {α : Type} {o : Option (Option α)} {v : α} (h : o.join = some v) : o = some (some v):=by
  cases o with
  | none=>cases h
  | some o =>
    cases o with
    | none=>cases h
    | some w=>cases h; rfl
theorem Inv.comp {pins : List (Addr × Obj)} {σ : St} {H : Hp} {s : Shared} {fs : Scope} {fp : List Addr} {C : Addr} {h3 : Heap} (I : Inv X pins σ H s) (hfs : X.env.scope = fs) (hck : compOk fs scope X.N own cap = true) (hfp : ∀ b ∈ fp,FpOk X pins H b)
    (hlt : ∀ b ∈ fp,b < s.heap.objs.size) (hC : s.heap.objs.size ≤ C) (hns : h3.Ns C fun _=>none) (kp : ∀ b o,s.heap.get? b = some o → h3.get? b = some o) (tk : Nat) :
    Inv (cxComp X scope (compN X.N own cap) C s H fp) [] (capσ own cap σ) H { s with heap:=h3,toks:=tk }:=by
  subst hfs
  unfold compOk at hck
  simp only [Bool.and_eq_true] at hck
  obtain ⟨⟨⟨⟨⟨c1,c2⟩,c3⟩,c4⟩,c5⟩,c6⟩:=hck
  have hkind : scope.kind = .function:=by simpa using c1
  have hcell : ∀ y ∈ scope.names,y.2 ≠ .cell:=fun y hy=>by simpa using List.all_eq_true.mp c2 y hy
  have hfree : ∀ y ∈ scope.names,y.2 = .free → X.env.kindOf y.1 = some .cell ∨ X.env.kindOf y.1 = some .free:=fun y hy hk=>by
    have z:=List.all_eq_true.mp c4 y hy
    rw [hk] at z
    simpa [Env.kindOf] using z
  have clsub : ∀ x c,(closOf X.env.cells scope.names []).lookup x = some c → X.env.cells.lookup x = some c:=closOf_sub scope.names [] fun _ _ q=>by cases q
  have exf : ∀ b ∈ fp,b ∉ frs X.stack:=fun b hb z=>by
    obtain ⟨f0,f1,f2,_⟩:=hfp b hb
    rcases List.mem_cons.mp (I.stkSub b z) with e | e
    · exact f1 e
    · exact f2 e
  have HC : H C = none:=I.hok.fresh hC
  refine ⟨⟨I.ok.mod,?_,I.ok.glob,I.ok.blt,hC,?_,?_,?_,I.ok.hd,I.ok.frames,.inl rfl,?_,fun b o e=>I.bs b o e,Nat.le_trans I.ok.bsz I.sz,?_,exf,I.stack,I.stkFree⟩,rfl,I.bare,Un.kept kp,⟨_,hns,?_⟩,?_,HC,?_,?_,I.hok.kept kp,?_⟩
  · exact hkind
  · intro x y c h1 h2
    exact I.ok.inj x y c (clsub x c h1) (clsub y c h2)
  · intro x hx
    have hm:=relabel_has hcell hx
    obtain ⟨c,hc⟩:=I.ok.has x (hfree _ hm rfl)
    exact ⟨c,closOf_at hm hc⟩
  · intro x c h
    have : false = true:=h
    cases this
  · intro b hb
    obtain ⟨f0,f1,f2,f3,f4,f5⟩:=hfp b hb
    exact ⟨Nat.ne_of_lt (Nat.lt_of_lt_of_le (hlt b hb) hC),fun x c e=>f4 x c (clsub x c e)⟩
  · intro b o e hb
    obtain ⟨f0,f1,f2,f3,f4,f5⟩:=hfp b hb
    rcases f3 with z | z
    · exact I.ok.noex b o e z
    · exact absurd (Nat.lt_of_lt_of_le (Heap.lt_size e) (Nat.le_trans I.ok.bsz z)) (Nat.lt_irrefl _)
  · intro i x v h1 h2 h3'
    have h1 : (own ++ cap.map fun i=>X.N.getD i "")[i]? = some x:=h1
    unfold capσ at h2
    by_cases hi : i < own.length
    · rw [List.getElem?_append_left (by simpa using hi),List.getElem?_map] at h2
      cases q : own[i]? with
      | none=>rw [q] at h2; cases h2
      | some y=>rw [q] at h2; cases h2
    · rw [List.getElem?_append_right (by simpa using hi),List.getElem?_map,List.length_map] at h2
      rw [List.getElem?_append_right (by simpa using hi),List.getElem?_map] at h1
      cases q : cap[i - own.length]? with
      | none=>rw [q] at h2; cases h2
      | some i0 =>
        rw [q] at h1 h2
        have h1' : X.N.getD i0 "" = x:=Option.some.inj h1
        have h2' : (σ[i0]?).join = some v:=Option.some.inj h2
        have z:=List.all_eq_true.mp c6 i0 (List.mem_of_getElem? q)
        rw [h1'] at z
        simp only [Bool.and_eq_true,decide_eq_true_eq] at z
        obtain ⟨⟨z1,z2⟩,z3⟩:=z
        have hx2 : scope.names.lookup x = some .free:=by simpa using z2
        have hx3 : X.env.kindOf x = some .cell ∨ X.env.kindOf x = some .free:=by simpa [Env.kindOf] using z3
        have hN : X.N[i0]? = some x:=by
          rw [← h1',List.getD_eq_getElem?_getD]
          cases r : X.N[i0]? with
          | none=>exact absurd z1 (by have:=List.getElem?_eq_none_iff.mp r; omega)
          | some y=>rfl
        obtain ⟨m,hn,hl⟩:=I.loc
        obtain ⟨u,ru,lu⟩:=hl i0 x v hN (join_some h2') (by
          rcases hx3 with y | y
          · exact .inr (.inl y)
          · exact .inr (.inr y))
        refine ⟨u,ru,.inr ⟨relabel_free hx2,?_⟩⟩
        rcases lu with ⟨k,_⟩ | ⟨k,c,e,o,ho,hd⟩
        · rcases hx3 with y | y <;> (rw [k] at y; cases y)
        · exact ⟨c,closOf_at (PySem.mem_of_lookup hx2) e,o,kp _ _ ho,hd⟩
  · intro x c e
    obtain ⟨v,o,ho,hd⟩:=I.cell x c (clsub x c e)
    exact ⟨v,o,kp _ _ ho,hd⟩
  · intro x c e
    exact I.freeC x c (clsub x c e)
  · intro p hp
    exact absurd (show p ∈ ([] : List (Addr × Obj)) from hp) (by simp)
  · simp [capσ,cxComp]
abbrev lstObj (its : List Value) (k : Nat) : Obj:={ cls:=.type "list",data:=.seq its.toArray k }
theorem comp_run {pins : List (Addr × Obj)} {σ : St} {H2 : Hp} {s2 : Shared} {fs : Scope} {fp : List Addr} {it : Addr} {tn : Nat → Heap → Prop} {J : It} {Q : VK} {E : Value → Shared → Prop} {RR : Value → Addr → Result → Shared → Prop}
    (hc : X.calm = true) (hfs : X.env.scope = fs) (hck : compOk fs scope X.N own cap = true)
    (hg : ∀ C s₀ H₀ ex,PG (cxComp X scope (compN X.N own cap) C s₀ H₀ ex) tg (g C s₀ H₀ ex)) (gk : ∀ C s₀ H₀ ex,GK own.length (g C s₀ H₀ ex)) (hf : ∀ C s₀ H₀ ex,PF (cxComp X scope (compN X.N own cap) C s₀ H₀ ex) ifs (tf C s₀ H₀ ex)) (he : ∀ C s₀ H₀ ex,PE (cxComp X scope (compN X.N own cap) C s₀ H₀ ex) elt (te C s₀ H₀ ex))
    (I2 : Inv X pins σ H2 s2) (T : Turn X.prog X.w X.K tg J fp it tn) (st2 : tn 0 s2.heap) (f2 : ∀ b ∈ fp,FpOk X pins H2 b)
    (W : Nat → Nat → List V → Hp → Prop) (w0 : ∃ m,W 0 m [] H2)
    (turn : ∀ i m ys H,W i m ys H → (J.stop i H ∧ ys.length ≤ sizeLine ∧ ∀ p,H p = none → Q (.ref p) (upd H p (.lst ys))) ∨
      (J.go i H ∧ ys.length < sizeLine ∧ ∀ x H',J.yld i H x H' → ∀ C s₀ H₀ ex,g C s₀ H₀ ex x (capσ own cap σ) H' fun σ2 H2=>tf C s₀ H₀ ex σ2 H2 fun b H3 =>
        if b = true then te C s₀ H₀ ex σ2 H3 fun v H4=>∃ m',m' < m ∧ W (i + 1) m' (ys ++ [v]) H4 else ∃ m',m' < m ∧ W (i + 1) m' ys H3))
    (hR : ∀ (D C : Addr) (s4 : Shared) (H3 : Hp) (ys : List V) (oC : Obj) (m : Str → Option Value),Inv X (pins ++ [(C,oC)]) σ (upd H3 D (.lst ys)) s4 → H3 D = none → s4.heap.Ns C m → X.s₀.heap.objs.size ≤ C → (∀ p ∈ X.pn ++ pins,p.1 ≠ C) → Q (.ref D) (upd H3 D (.lst ys)) → RR (.ref D) C (.ok .next) s4) :
    wpAny (model X.prog X.w) X.A (newList []) (fun acc s₃=>wpAny (model X.prog X.w) X.A (newFunctionEnv scope X.env.globals (closOf X.env.cells scope.names []) [] X.env.qual none .none (some X.env)) (fun cenv s₄ =>
      codeAny (model X.prog X.w) X.A (.compStart (.ListComp elt [⟨tg,iter,ifs,0⟩] scope cpos) 0 (.ref it) acc { cenv with scope:=relabel scope X.env }) (RR acc cenv.locals) s₄) E s₃) E s2:=by
  have hck':=hck
  unfold compOk at hck'
  simp only [Bool.and_eq_true] at hck'
  obtain ⟨⟨⟨⟨⟨c1,c2⟩,c3⟩,c4⟩,c5⟩,c6⟩:=hck'
  have hkind : scope.kind = .function:=by simpa using c1
  have hcell : ∀ y ∈ scope.names,y.2 ≠ .cell:=fun y hy=>by simpa using List.all_eq_true.mp c2 y hy
  have hlt : ∀ b ∈ fp,b < s2.heap.objs.size:=fun b hb=>by
    obtain ⟨o,e,_⟩:=T.obj _ _ st2 b hb
    exact Heap.lt_size e
  refine wpAny_newObj_type (wpAny_newFunctionEnv hcell (by intro y hy; simp at hy) (fun h₁ hns₁ hsb₁=>?_) hkind)
  dsimp only at hns₁ hsb₁ ⊢
  generalize hH2 : s2.heap.push { cls:=.type "list",dict:=none,data:=.seq ([] : List Value).toArray } = HH at hns₁ hsb₁ ⊢
  have hC : HH.objs.size = s2.heap.objs.size + 1:=by rw [← hH2,Heap.size_push]
  generalize hCn : HH.objs.size = C at hns₁ hsb₁ hC ⊢
  generalize hDn : s2.heap.objs.size = D at hC hlt ⊢
  have hDC : D ≠ C:=by omega
  have old : ∀ b o,s2.heap.get? b = some o → h₁.get? b = some o:=fun b o e=>hsb₁.extBut b o (neL (by have:=get_lt e; omega)) (Heap.get?_push_of_some _ (hH2 ▸ Heap.get?_push_of_some _ e))
  have hD₁ : h₁.get? D = some (lstObj [] 0):=hsb₁.extBut _ _ hDC (Heap.get?_push_of_some _ (hH2 ▸ hDn ▸ Heap.get?_push_size _ rfl))
  have nsE : h₁.Ns C fun _=>none:=hns₁
  have I3:=I2.comp (own:=own) (cap:=cap) (scope:=scope) (C:=C) (h3:=h₁) hfs hck f2 (by rw [hDn]; exact hlt) (by rw [hDn]; omega) nsE old (s2.toks + ([] : List (Str × Value)).length)
  generalize hY : cxComp X scope (compN X.N own cap) C s2 H2 fp = Y at I3
  have eP : Y.prog = X.prog:=by rw [← hY]; rfl
  have eW : Y.w = X.w:=by rw [← hY]; rfl
  have eK : Y.K = X.K:=by rw [← hY]; rfl
  have eA : Y.A = X.A:=by rw [← hY]; rfl
  have eC : Y.calm = true:=by rw [← hY]; exact hc
  have eL : Y.env.locals = C:=by rw [← hY]; rfl
  have eX : Y.xe = fun _ _=>False:=by rw [← hY]; rfl
  have eE : Y.env = compEnvC scope (closOf X.env.cells scope.names []) C X.env:=by rw [← hY]; rfl
  have eF : Y.fs = frs X.stack:=by rw [← hY]; rfl
  have eS : Y.s₀ = s2:=by rw [← hY]; rfl
  have eN : Y.pn = []:=by rw [← hY]; rfl
  have eEx : Y.ex = fp:=by rw [← hY]; rfl
  have hg' : PG Y tg (g C s2 H2 fp):=hY ▸ hg C s2 H2 fp
  have hf' : PF Y ifs (tf C s2 H2 fp):=hY ▸ hf C s2 H2 fp
  have he' : PE Y elt (te C s2 H2 fp):=hY ▸ he C s2 H2 fp
  have hDs : D = s2.heap.objs.size:=hDn.symm
  have fpN : ∀ b ∈ fp,b ≠ D:=fun b hb=>neL (hlt b hb)
  have cellD : ∀ x c,Y.env.cells.lookup x = some c → c ≠ D:=fun x c e z=>by
    rw [eE] at e
    have q:=closOf_sub scope.names [] (fun _ _ q=>by cases q) x c e
    obtain ⟨v,o,ho,_⟩:=I2.cell x c q
    exact neL (by have:=get_lt ho; omega) z
  have DnF : D ∉ Y.fs:=fun z=>by
    rw [eF] at z
    obtain ⟨_,o,ho,_⟩:=I2.stack.mem z
    have:=get_lt ho
    omega
  have HD2 : H2 D = none:=I2.hok.fresh (by omega)
  have pinD : ∀ {σ' : St} {H' : Hp} {s' : Shared} {pl : List (Addr × Obj)} {its : List Value} {k : Nat},Inv Y pl σ' H' s' → H' D = none → s'.heap.get? D = some (lstObj its k) → Inv Y [(D,lstObj its k)] σ' H' s':=fun {σ' H' s' pl its k} J hn e =>
    J.pins_of fun p hp=>by
      have ep : p = (D,lstObj its k):=by simpa using hp
      subst ep
      exact ⟨e,hn,by rw [eL]; exact hDC,DnF,fun v z=>by cases z⟩
  have fpOk : ∀ {pl : List (Addr × Obj)} {H' : Hp},(∀ b ∈ fp,H' b = none) → (∀ p ∈ pl,∀ b ∈ fp,p.1 ≠ b) → ∀ b ∈ fp,FpOk Y pl H' b:=fun {pl H'} hn hp b hb=>by
    obtain ⟨f0,f1,f2',f3,f4,f5⟩:=f2 b hb
    refine ⟨hn b hb,by rw [eL]; exact neL (Nat.lt_of_lt_of_le (hlt b hb) (by rw [hC]; exact Nat.le_succ _)),fun z=>?_,.inl (by rw [eEx]; exact hb),fun x c e=>?_,fun p hp'=>?_⟩
    · rw [eF] at z
      rcases List.mem_cons.mp (I2.stkSub b z) with e | e
      · exact f1 e
      · exact f2' e
    · rw [eE] at e
      exact f4 x c (closOf_sub scope.names [] (fun _ _ q=>by cases q) x c e)
    · rw [eN] at hp'
      exact hp p (by simpa using hp') b hb
  have loop : ∀ s₃ : Shared,s₃ = { s2 with heap:=h₁,toks:=s2.toks + ([] : List (Str × Value)).length } →
      codeAny (model X.prog X.w) X.A (.compLoop (.ListComp elt [⟨tg,iter,ifs,0⟩] scope cpos) 0 (.ref it) (.ref D) (compEnvC scope (closOf X.env.cells scope.names []) C X.env)) (RR (.ref D) C) s₃:=by
    rintro s₃ rfl
    obtain ⟨m0,w0⟩:=w0
    refine codeAny_compLoop_any (fun n s'=>∃ (i : Nat) (ys : List V) (its : List Value) (k : Nat) (H' : Hp),Inv Y [(D,lstObj its k)] (capσ own cap σ) H' s' ∧ tn i s'.heap ∧ (∀ b ∈ fp,H' b = none) ∧ Vals ys its ∧ W i n ys H') ?_ m0
      ⟨0,[],[],0,H2,pinD I3 HD2 hD₁,T.keep _ _ _ st2 fun b _ o e=>old b o e,fun b hb=>(f2 b hb).1,.nil,w0⟩
    rintro n s3 ⟨i,ys,its,k,H3,J3,st3,fr3,vy,w3⟩
    have pD : ∀ p ∈ [(D,lstObj its k)],∀ b ∈ fp,p.1 ≠ b:=fun p hp b hb=>by
      have ep : p = (D,lstObj its k):=by simpa using hp
      subst ep
      exact Ne.symm (fpN b hb)
    have HD3 : H3 D = none:=(J3.pin (D,lstObj its k) (by rw [eN]; simp)).2.1
    have item:=T.item Y eP eW eK eC i [(D,lstObj its k)] s3 (capσ own cap σ) H3 (fun _ _=>False) J3 (fpOk fr3 pD) st3
    have done:=T.done Y eP eW eK eC i [(D,lstObj its k)] s3 (capσ own cap σ) H3 (fun _ _=>False) J3 (fpOk fr3 pD) st3
    rw [eA] at item done
    rcases turn i n ys H3 w3 with ⟨stop,hyl,qn⟩ | ⟨go,hyl,step⟩
    · refine thn (done stop) fun r s4 ⟨hr,J4⟩=>?_
      subst hr
      show RR (.ref D) C (.ok .next) s4
      have hu : Un (frs X.stack) fp H2 H3 s2.heap s4.heap:=by have q:=J4.base; rw [← hY] at q; exact q
      have hok4 : HOk X.prog X.w H3 s4.heap:=by have q:=J4.hok; rw [eP,eW] at q; exact q
      have I4 : Inv X pins σ H3 s4:=I2.call' (ch:=fp) (by have q:=J4.os; rw [eS] at q; exact q) hu hok4 J4.bare fun b hb=>by
        obtain ⟨f0,f1,f2',f3,f4,f5⟩:=f2 b hb
        exact ⟨f3,f1,f4,f5⟩
      obtain ⟨m,hm,_⟩:=J4.loc
      rw [eL] at hm
      obtain ⟨oC,es,ep,hoC,hdC,hrC⟩:=id hm
      have HC3 : H3 C = none:=by have q:=J4.free; rw [eL] at q; exact q
      have CnF : ∀ b,s2.heap.objs.size ≤ b → b ∉ X.fs:=fun b hb=>I2.nofs hb
      have eD4:=(J4.pin (D,lstObj its k) (by rw [eN]; simp)).1
      have pinNe : ∀ b,s2.heap.objs.size ≤ b → ∀ p ∈ X.pn ++ pins,p.1 ≠ b:=fun b hb p hp z=>by
        exact neL (by have:=get_lt (I2.pin p hp).1; exact Nat.lt_of_lt_of_le this hb) z
      have cellNe : ∀ b,s2.heap.objs.size ≤ b → ∀ x c,X.env.cells.lookup x = some c → c ≠ b:=fun b hb x c e z=>by
        obtain ⟨v,o,ho,_⟩:=I2.cell x c e
        exact neL (Nat.lt_of_lt_of_le (get_lt ho) hb) z
      have locNe : ∀ b,s2.heap.objs.size ≤ b → b ≠ X.env.locals:=fun b hb=>neG (Nat.lt_of_lt_of_le I2.lt hb)
      have I5 : Inv X (pins ++ [(C,oC)]) σ H3 s4:=I4.pins_of fun p hp=>by
        rcases List.mem_append.mp hp with z | z
        · exact I4.pin p (List.mem_append_right _ z)
        · have ep' : p = (C,oC):=by simpa using z
          subst ep'
          exact ⟨hoC,HC3,locNe C (by omega),CnF C (by omega),fun v z=>by rw [hdC] at z; cases z⟩
      have hyl' : ys.length ≤ sizeLine:=hyl
      have I6 : Inv X (pins ++ [(C,oC)]) σ (upd H3 D (.lst ys)) s4:=I5.track' HD3 (locNe D (by omega)) (by have q : Array.size X.s₀.heap.objs ≤ Array.size s2.heap.objs:=I2.sz; cases e : X.s₀.heap.get? D with | none=>rfl | some o=>exact absurd (get_lt e) (by omega)) (cellNe D (by omega)) (fun p hp=>by
        rcases List.mem_append.mp hp with z | z
        · exact pinNe D (by omega) p (List.mem_append_left _ z)
        · rcases List.mem_append.mp z with z | z
          · exact pinNe D (by omega) p (List.mem_append_right _ z)
          · have ep' : p = (C,oC):=by simpa using z
            subst ep'
            exact Ne.symm hDC) ⟨hyl',its,k,vy,eD4⟩
      exact hR D C s4 H3 ys oC m I6 HD3 hm (Nat.le_trans I2.sz (by omega)) (pinNe C (by omega)) (qn D HD3)
    · refine thn (item go) fun r s4 ⟨u,hr,h4⟩=>?_
      subst hr
      refine thn h4 fun _ s5 ⟨x,H5,J5,r5,y5,st5,fr5⟩=>?_
      have J5':=J5.pinned (fpOk fr5 pD) (T.obj _ _ st5)
      have hg2:=hg' _ s5 (capσ own cap σ) H5 x u _ J5' r5 (gk C s2 H2 fp x (capσ own cap σ) H5 _ (fun σ6 H6=>(tf C s2 H2 fp σ6 H6 fun b H3=>if b = true then te C s2 H2 fp σ6 H3 fun v H4=>∃ m',m' < n ∧ W (i + 1) m' (ys ++ [v]) H4 else ∃ m',m' < n ∧ W (i + 1) m' ys H3) ∧ σ6.length = (capσ own cap σ).length ∧ ∀ j,own.length ≤ j → σ6[j]? = (capσ own cap σ)[j]?) (step x H5 y5 C s2 H2 fp) fun σ6 H6 a b c=>⟨a,b,c⟩)
      rw [eP,eW,eA,eX,eE] at hg2
      refine thn hg2 fun _ s6 ⟨σ6,H6,J6,q6,l6,k6⟩=>?_
      have hf2:=hf' _ s6 σ6 H6 _ J6 q6
      rw [eP,eW,eA,eX,eE] at hf2
      refine thn hf2 fun ok s7 ⟨H7,J7,q7⟩=>?_
      have weakσ : ∀ {pl : List (Addr × Obj)} {H' : Hp} {s' : Shared},Inv Y pl σ6 H' s' → Inv Y pl (capσ own cap σ) H' s':=fun {pl H' s'} J=>J.weak l6.symm fun j v e=>by
        by_cases hj : j < own.length
        · unfold capσ at e
          rw [List.getElem?_append_left (by simpa using hj),List.getElem?_map] at e
          cases q : own[j]? with
          | none=>rw [q] at e; cases e
          | some y=>rw [q] at e; cases e
        · rw [k6 j (by omega)]; exact e
      have again : ∀ {H' : Hp} {s' : Shared} {pl : List (Addr × Obj)} {its' : List Value} {k' : Nat},Inv Y (pl ++ pinsAt fp s5.heap) σ6 H' s' → H' D = none → s'.heap.get? D = some (lstObj its' k') →
          Inv Y [(D,lstObj its' k')] (capσ own cap σ) H' s' ∧ tn (i + 1) s'.heap ∧ ∀ b ∈ fp,H' b = none:=fun {H' s' pl its' k'} J hn e=>by
        refine ⟨pinD (weakσ J) hn e,T.keep _ _ _ st5 fun b hb o e=>(J.pin (b,o) (List.mem_append_right _ (List.mem_append_right _ (mem_pinsAt hb e)))).1,fun b hb=>?_⟩
        obtain ⟨o,e,d⟩:=T.obj _ _ st5 b hb
        exact (J.pin (b,o) (List.mem_append_right _ (List.mem_append_right _ (mem_pinsAt hb e)))).2.1
      have getD : ∀ {H' : Hp} {s' : Shared},Inv Y ([(D,lstObj its k)] ++ pinsAt fp s5.heap) σ6 H' s' → s'.heap.get? D = some (lstObj its k) ∧ H' D = none:=fun {H' s'} J=>by
        have q:=J.pin (D,lstObj its k) (by rw [eN]; simp)
        exact ⟨q.1,q.2.1⟩
      cases ok with
      | false =>
        rw [if_neg Bool.false_ne_true] at q7 ⊢
        obtain ⟨m',hm',w7⟩:=q7
        obtain ⟨g1,g2⟩:=getD J7
        obtain ⟨a1,a2,a3⟩:=again J7 g2 g1
        exact ⟨m',hm',i + 1,ys,its,k,H7,a1,a2,a3,vy,w7⟩
      | true =>
        rw [if_pos rfl] at q7 ⊢
        have he2:=he' _ s7 σ6 H7 _ J7 q7
        rw [eP,eW,eA,eX,eE] at he2
        refine thn he2 fun y8 s8 ⟨v8,H8,J8,r8,m',hm',w8⟩=>?_
        obtain ⟨g1,g2⟩:=getD J8
        have hsz : its.toArray.size ≤ sizeLine:=by
          have:=vy.length
          rw [List.size_toArray]
          omega
        refine wpAny_list_append_plain (items:=its.toArray) ⟨k,g1⟩ (fun h9 hl9 hs9=>?_) hsz
        obtain ⟨k9,hk9⟩:=hl9
        have hk9' : h9.get? D = some (lstObj (its ++ [y8]) k9):=by rw [hk9]; simp [lstObj]
        have J9 : Inv Y ([] ++ pinsAt fp s5.heap) σ6 H8 { s8 with heap:=h9 }:=by
          have J8' : Inv Y ([] ++ pinsAt fp s5.heap) σ6 H8 s8:=J8.pins_of fun p hp=>J8.pin p (List.mem_append_right _ (List.mem_append_right _ (by simpa using hp)))
          refine J8'.turned (it:=D) (t':=s8.toks) (fun b o hb e=>hs9.extBut b o hb e) g2 (by rw [eL]; exact hDC) (.inr (by rw [eS]; omega)) cellD fun p hp=>?_
          rw [eN] at hp
          have hp' : p ∈ pinsAt fp s5.heap:=by simpa using hp
          obtain ⟨hb,_⟩:=of_pinsAt hp'
          exact fpN p.1 hb
        obtain ⟨a1,a2,a3⟩:=again J9 g2 hk9'
        exact ⟨m',hm',i + 1,ys ++ [v8],its ++ [y8],k9,H8,a1,a2,a3,vy.append (.cons r8 .nil),w8⟩
  refine codeAny_compStart_list (loop _ rfl) ?_
  exact T.self _ 0 _ _ _ (T.keep _ _ _ st2 fun b _ o e=>old b o e) (loop _ rfl)
theorem pe_comp {fs : Scope} (own : List Str) (cap : List Nat) (hc : X.calm = true) (hfs : X.env.scope = fs) (hck : compOk fs scope X.N own cap = true) (hi : PI X tg iter wi)
    (hg : ∀ C s₀ H₀ ex,PG (cxComp X scope (compN X.N own cap) C s₀ H₀ ex) tg (g C s₀ H₀ ex)) (gk : ∀ C s₀ H₀ ex,GK own.length (g C s₀ H₀ ex)) (hf : ∀ C s₀ H₀ ex,PF (cxComp X scope (compN X.N own cap) C s₀ H₀ ex) ifs (tf C s₀ H₀ ex)) (he : ∀ C s₀ H₀ ex,PE (cxComp X scope (compN X.N own cap) C s₀ H₀ ex) elt (te C s₀ H₀ ex))
    (hs : ∀ x,foldedSetIterable iter X.env x = pure x:=by intro _; rfl) : PE X (.ListComp elt [⟨tg,iter,ifs,0⟩] scope cpos) (tComp own cap wi g tf te):=by
  intro pins s σ H Q I h
  have hck':=hck
  subst hfs
  unfold compOk at hck'
  simp only [Bool.and_eq_true] at hck'
  obtain ⟨⟨⟨⟨⟨c1,c2⟩,c3⟩,c4⟩,c5⟩,c6⟩:=hck'
  have hkind : scope.kind = .function:=by simpa using c1
  have hnames : ∀ y ∈ scope.names,y.2 = .local → scope.names.lookup y.1 = some .local:=fun y hy hk=>by
    have z:=List.all_eq_true.mp c3 y hy
    rw [hk] at z
    simpa using z
  have hfree : ∀ y ∈ scope.names,y.2 = .free → ∃ a,X.env.cells.lookup y.1 = some a:=fun y hy hk=>by
    have z:=List.all_eq_true.mp c4 y hy
    rw [hk] at z
    exact I.ok.has y.1 (by simpa [Env.kindOf] using z)
  rw [eval_ListComp]
  refine wpAny_comprehension_free (use:=none) rfl hs (closureFor_of hfree) hkind hnames (thn (hi pins s σ H _ I h) fun xv s1 h1=>thn h1 fun itv s2 h2=>?_)
  obtain ⟨it,fp,tn,J,H2,e,I2,T,st2,f2,W,w0,turn⟩:=h2
  subst e
  refine comp_run (Q:=Q) (RR:=fun acc C=>compPost (model X.prog X.w) X.A X.xe none (EP X pins σ Q) acc C) hc rfl hck hg gk hf he I2 T st2 f2 W w0 turn ?_
  intro D C s4 H3 ys oC m J4 hn hm hC0 hCp hq
  refine ⟨m,hm,fun h' hs'=>?_⟩
  obtain ⟨p1,p2,p3,p4,p5⟩:=J4.pin (C,oC) (List.mem_append_right _ (List.mem_append_right _ (by simp)))
  have J5 : Inv X pins σ (upd H3 D (.lst ys)) s4:=J4.unpinned
  have J6 : Inv X pins σ (upd H3 D (.lst ys)) { s4 with heap:=h' }:=J5.turned (it:=C) (t':=s4.toks) (fun b o hb e=>hs'.extBut b o hb e) p2 p3 (.inr hC0) (fun x c e z=>by
    obtain ⟨v,o,ho,hd⟩:=J5.cell x c e
    rw [z,p1] at ho
    cases ho
    exact p5 v hd) hCp
  exact ⟨.ref D,_,J6,rfl,hq⟩
theorem ps_setC {fs : Scope} {i : Nat} {x : Str} {pos' pos : Pos} (own : List Str) (cap : List Nat) (hc : X.calm = true) (hfs : X.env.scope = fs) (hck : compOk fs scope X.N own cap = true) (hN : X.N.Nodup) (hix : X.N[i]? = some x) (hx : X.env.scope.names.lookup x = some .local) (hi : PI X tg iter wi)
    (hg : ∀ C s₀ H₀ ex,PG (cxComp X scope (compN X.N own cap) C s₀ H₀ ex) tg (g C s₀ H₀ ex)) (gk : ∀ C s₀ H₀ ex,GK own.length (g C s₀ H₀ ex)) (hf : ∀ C s₀ H₀ ex,PF (cxComp X scope (compN X.N own cap) C s₀ H₀ ex) ifs (tf C s₀ H₀ ex)) (he : ∀ C s₀ H₀ ex,PE (cxComp X scope (compN X.N own cap) C s₀ H₀ ex) elt (te C s₀ H₀ ex))
    (hsw : swapsWith (.ListComp elt [⟨tg,iter,ifs,0⟩] scope cpos) (some (.Name x pos')) pos.line X.env = pure true:=by rfl)
    (hs : ∀ x,foldedSetIterable iter X.env x = pure x:=by intro _; rfl) : PS X (.Assign [.Name x pos'] (.ListComp elt [⟨tg,iter,ifs,0⟩] scope cpos) pos) (tAsg (tComp own cap wi g tf te) (gName i)):=by
  intro pins s σ H D I h
  have hck':=hck
  subst hfs
  unfold compOk at hck'
  simp only [Bool.and_eq_true] at hck'
  obtain ⟨⟨⟨⟨⟨c1,c2⟩,c3⟩,c4⟩,c5⟩,c6⟩:=hck'
  have hkind : scope.kind = .function:=by simpa using c1
  have hnames : ∀ y ∈ scope.names,y.2 = .local → scope.names.lookup y.1 = some .local:=fun y hy hk=>by
    have z:=List.all_eq_true.mp c3 y hy
    rw [hk] at z
    simpa using z
  have hfree : ∀ y ∈ scope.names,y.2 = .free → ∃ a,X.env.cells.lookup y.1 = some a:=fun y hy hk=>by
    have z:=List.all_eq_true.mp c4 y hy
    rw [hk] at z
    exact I.ok.has y.1 (by simpa [Env.kindOf] using z)
  rw [exec_Assign_Name_used _ _ _ _ hsw]
  refine wpAny_bind (wpAny_standAt (wpAny_bind ?_))
  show wpAny _ X.A (do let _ ← comprehension (.ListComp elt [⟨tg,iter,ifs,0⟩] scope cpos) scope X.env _ (newList []) false (eval iter X.env) (some (assign (.Name x pos') X.env))) _ _ s
  refine wpAny_bind (wpAny_mono (wpAny_comprehension_free (use:=some (assign (.Name x pos') X.env)) (Q:=fun _ s'=>SP X pins D .next s') rfl hs (closureFor_of hfree) hkind hnames (thn (hi pins s σ H _ I h) fun xv s1 h1=>thn h1 fun itv s2 h2=>?_)) (fun _ s' hq=>wpAny_pure (wpAny_pure hq)) fun _ _ e=>e)
  obtain ⟨it,fp,tn,J,H2,e,I2,T,st2,f2,W,w0,turn⟩:=h2
  subst e
  refine comp_run (Q:=fun v H'=>gName i v σ H' D.nx) (RR:=fun acc C=>compPost (model X.prog X.w) X.A X.xe (some (assign (.Name x pos') X.env)) (fun _ s'=>SP X pins D .next s') acc C) hc rfl hck hg gk hf he I2 T st2 f2 W w0 turn ?_
  intro D' C s4 H3 ys oC m J4 hn hm hC0 hCp hq
  show wpAny _ X.A (assign (.Name x pos') X.env (.ref D')) _ _ s4
  refine wpAny_assign_Name (store_ok J4 hN hix (.inl hx) (show RelV (.ref D') (.ref D') from rfl) (fun s5 J5=>?_) (.inr hx))
  obtain ⟨p1,p2,p3,p4,p5⟩:=J5.pin (C,oC) (List.mem_append_right _ (List.mem_append_right _ (by simp)))
  obtain ⟨q1,_⟩:=J4.pin (C,oC) (List.mem_append_right _ (List.mem_append_right _ (by simp)))
  refine ⟨m,?_,fun h' hs'=>?_⟩
  · obtain ⟨o,es,ep,ho,r⟩:=hm
    rw [q1] at ho
    cases ho
    exact ⟨_,es,ep,p1,r⟩
  · have J6 : Inv X pins (σ.set i (some (.ref D'))) (upd H3 D' (.lst ys)) { s5 with heap:=h' }:=J5.unpinned.turned (it:=C) (t':=s5.toks) (fun b o hb e=>hs'.extBut b o hb e) p2 p3 (.inr hC0) (fun y c e z=>by
      obtain ⟨v,o,ho,hd⟩:=J5.cell y c e
      rw [z,p1] at ho
      cases ho
      exact p5 v hd) hCp
    exact ⟨_,_,J6,hq⟩
end
end L2
namespace L2
open PySem PySem.Spec PyProof.Rows
def Bt (k : Nat) (n : Int) : Prop:=n.natAbs < 2 ^ k
theorem Bt.log {k : Nat} {n : Int} (h : Bt k n) (hk : k ≤ 9000) : n.natAbs.log2 < 9000:=by
  by_cases hz : n.natAbs = 0
  · rw [hz]; decide
  · exact Nat.lt_of_lt_of_le ((Nat.log2_lt hz).mpr h) hk
section
variable {X : Cx}
def CDivB (i j : Int) : Prop:=j ≠ 0 ∧ ∃ k,k ≤ 9000 ∧ Bt k j
theorem op_fdivB : OpR X (binaryOp .FloorDiv) (rI CDivB fun i j=>.int (i.fdiv j)):=opI fun _ _ _ _ _ _ _ ⟨h0,k,hk,hj⟩ q=>floordiv_int h0 q (.inl (PyProof.noPylong_of_log2 (hj.log hk)))
end
mutual
inductive Rep (K : PySem.W.Frag) (H : Hp) : V → PyData → Prop
  | non : Rep K H .non .none
  | bl (b : Bool) : Rep K H (.bl b) (.bool b)
  | int (i : Int) : Rep K H (.int i) (.int i)
  | str (x : Str) : Rep K H (.str x) (.str x)
  | tup {a : Addr} {xs : List V} {ds : List PyData} : SqT K H a xs → Reps K H xs ds → Rep K H (.ref a) (.tuple ds)
  | lst {a : Addr} {xs : List V} {ds : List PyData} : SqL K H a xs → Reps K H xs ds → Rep K H (.ref a) (.list ds)
inductive Reps (K : PySem.W.Frag) (H : Hp) : List V → List PyData → Prop
  | nil : Reps K H [] []
  | cons {x : V} {d : PyData} {xs : List V} {ds : List PyData} : Rep K H x d → Reps K H xs ds → Reps K H (x :: xs) (d :: ds)
end
section
variable {X : Cx} {pins : List (Addr × Obj)} {σ : St} {H : Hp} {s : Shared}
theorem Rep.reads (I : Inv X pins σ H s) {v : V} {d : PyData} (r : Rep X.K H v d) : ∀ u,RelV v u → ∃ as,Reads s.heap u d as:=by
  refine Rep.rec (motive_1:=fun v d _=>∀ u,RelV v u → ∃ as,Reads s.heap u d as) (motive_2:=fun vs ds _=>∀ us,Vals vs us → ∃ as,ReadsAll s.heap us ds as) ?_ ?_ ?_ ?_ ?_ ?_ ?_ ?_ r
  · intro u e
    cases (show u = Value.none from e)
    exact ⟨_,.none⟩
  · intro b u e
    cases (show u = Value.bool b from e)
    exact ⟨_,.bool b⟩
  · intro i u e
    obtain ⟨t,rfl⟩:=(show ∃ t,u = Value.int i t from e)
    exact ⟨_,.int i t⟩
  · intro x u e
    obtain ⟨t,rfl⟩:=(show ∃ t,u = Value.str x t from e)
    exact ⟨_,.str x t⟩
  · intro a xs ds sq _ ih u e
    cases (show u = Value.ref a from e)
    obtain ⟨its,rv,⟨o,ho,hc,n,hd⟩,_⟩:=I.tuple sq
    obtain ⟨as,q⟩:=ih its rv
    exact ⟨as,.tuple ho hc hd (by simpa using q)⟩
  · intro a xs ds sq _ ih u e
    cases (show u = Value.ref a from e)
    obtain ⟨its,rv,p,_⟩:=I.list sq
    obtain ⟨o,ho,hc,n,hd⟩:=p.isList
    obtain ⟨as,q⟩:=ih its rv
    exact ⟨a :: as,.list ho hc hd (by simpa using q)⟩
  · intro us e
    cases e
    exact ⟨_,.nil⟩
  · intro x d xs ds _ _ ih1 ih2 us e
    cases e with
    | cons r1 r2 =>
      obtain ⟨as,q1⟩:=ih1 _ r1
      obtain ⟨bs,q2⟩:=ih2 _ r2
      exact ⟨as ++ bs,.cons q1 q2⟩
def rEqD (K : PySem.W.Frag) (neg : Bool) : R2:=fun x y H Q=>∃ d e,Rep K H x d ∧ Rep K H y e ∧ d.canLay0 = true ∧ e.canLay0 = true ∧ d.depth ≤ 40 ∧ Q (.bl (if neg then !PyData.eqv d e else PyData.eqv d e)) H
theorem op_eqD (hu : X.A.units + 64 < cLine) : OpR X (compareOp .Eq) (rEqD X.K false):=by
  intro pins s σ H x y v u Q I r1 r2 h
  obtain ⟨d,e,p1,p2,c1,c2,hd,q⟩:=h
  obtain ⟨as,z1⟩:=p1.reads I v r1
  obtain ⟨bs,z2⟩:=p2.reads I u r2
  exact SeqAt.compareEq_reads z1 z2 c1 c2 (by omega) ⟨.bl _,H,I,rfl,q⟩
theorem op_neD (hu : X.A.units + 64 < cLine) : OpR X (compareOp .NotEq) (rEqD X.K true):=by
  intro pins s σ H x y v u Q I r1 r2 h
  obtain ⟨d,e,p1,p2,c1,c2,hd,q⟩:=h
  obtain ⟨as,z1⟩:=p1.reads I v r1
  obtain ⟨bs,z2⟩:=p2.reads I u r2
  exact SeqAt.compareNe_reads z1 z2 c1 c2 (by omega) ⟨.bl _,H,I,rfl,q⟩
end
section
variable {X : Cx}
theorem vals_bl : ∀ {bs : List Bool} {us : List Value},Vals (bs.map V.bl) us → ∀ (i : Nat) (v : Value),us[i]? = some v → ∃ b,bs[i]? = some b ∧ v = .bool b
  | [],_,.nil,i,v,e=>by simp at e
  | b :: bs,_,.cons r t,i,v,e=>by
    cases i with
    | zero =>
      simp at e
      subst e
      exact ⟨b,rfl,r⟩
    | succ i=>simpa using vals_bl t i v (by simpa using e)
theorem call_all (hc : X.calm = true) : CallR X (.builtin "all") (fun xs H Q=>∃ (p : Addr) (bs : List Bool),xs = [.ref p] ∧ SqL X.K H p (bs.map V.bl) ∧ Q (.bl (bs.all id)) H):=by
  intro pins s σ H vs us Q I r h
  obtain ⟨p,bs,rfl,sq,q⟩:=h
  cases r with
  | cons r0 rr =>
    cases rr
    cases (show _ = Value.ref p from r0)
    obtain ⟨its,rv,pl,_⟩:=I.list sq
    have hl:=pl.isList
    have hlt : p < s.heap.objs.size:=by obtain ⟨_,e,_⟩:=hl; exact Heap.lt_size e
    have len : its.length = bs.length:=by have:=rv.length; simpa using this.symm
    refine call_all_walk (wpAny_pyIter_list hl ⟨s.heap.objs.size,_,_,_,_,_,fun i=>(bs[i]?).getD true,rfl,Walks.list (A:=X.A.in1) (I.ok.hd hc) _ p (Nat.ne_of_lt hlt) its.toArray,⟨⟨_,Heap.get?_push_size _ rfl,rfl,rfl⟩,hl.push _⟩,fun i v s' Q' E' hP hQ=>?_,fun h' tk hk=>?_⟩)
    · obtain ⟨b,e,rfl⟩:=vals_bl rv i v (by simpa using hP)
      simp only [e,Option.getD_some] at hQ
      exact wpAny_truthy_bool hQ
    · have e : ((List.range its.toArray.size).all fun i=>(bs[i]?).getD true) = bs.all id:=by
        rw [List.size_toArray,len]
        exact LSm.range_all bs
      rw [e]
      exact ⟨.bl _,H,I.kept fun b o z=>hk b o (fun hm=>by rw [List.mem_singleton.mp hm] at z; exact Nat.lt_irrefl _ (Heap.lt_size z)) (Heap.get?_push_of_some _ z),rfl,q⟩
end
end L2
namespace L2
open PySem PySem.Spec PyProof.Rows
section
variable {prog : Program} {w : World} {A : Around} {E : Value → Shared → Prop} {s : Shared}
end
end L2
namespace L2
open PySem PySem.Spec PyProof.Rows PySem.W
structure ErrCls (K : PySem.W.Frag) (C : Addr) : Prop where
  cls : (clsIn K C).isSome = true
  ga : findIn K (.ref C) "__getattribute__" = some (some (.builtin "BaseException.__getattribute__"))
  gt : findIn K (.ref C) "__getattr__" = some none
  cl : findIn K (.ref C) "__class__" = some (some (.builtin "object.__class__"))
  get : specialIn K (.builtin "object.__class__") "__get__" = some (some (.builtin "getset_descriptor.__get__"))
  tk : takesIn K (.builtin "object.__class__") = some true
  ob : mroIn K C (.type "object") = some true
  be : mroIn K C (.type "BaseException") = some true
section
variable {prog : Program} {w : World} {A : Around} {E : Value → Shared → Prop} {s : Shared} {K : Frag} {C a t : Addr} {tb : Value}
theorem exc_inst {h : Heap} (he : h.get? a = some (excO (.ref C) t tb)) : InstAt h a (excO (.ref C) t tb) C none:=⟨he,rfl,rfl,trivial⟩
theorem exc_find (c : ErrCls K C) : findObj K C none "__class__" = some (.bind (.builtin "getset_descriptor.__get__") (.builtin "object.__class__")):=by
  obtain ⟨cd,hc⟩:=Option.isSome_iff_exists.mp c.cls
  unfold findObj
  rw [hc,Option.bind_some,c.cl,Option.bind_some]
  simp [c.get,c.tk]
theorem exc_ga {tk : Tok} {R : Result → Shared → Prop} (c : ErrCls K C) (X : K.In s.heap) (he : s.heap.get? a = some (excO (.ref C) t tb)) (k : R (.ok (.ret (.ref C))) s) :
    codeAny (model prog w) A (.call (.builtin "BaseException.__getattribute__") ⟨[.ref a,.str "__class__" tk],[]⟩) R s:=by
  obtain ⟨hh,g,d,tt,os⟩:=s
  have I:=exc_inst he
  have L0:=I.type (M:=model prog w)
  have L1:=looks_mroIn (M:=model prog w) X c.be
  have L2:=looks_find (M:=model prog w) X I (exc_find c)
  refine codeAny_call_builtin F.excAttr_ValueError.ga.plain F.entry_bexc_ga ?_
  have hk : builtinKind "BaseException.__getattribute__" = some .slot:=by decide +kernel
  have hsp : splitId "BaseException.__getattribute__" = some ("BaseException","__getattribute__"):=by decide +kernel
  have ha:=F.args_bexc_ga (.ref a) (.str "__class__" tk)
  simp only [checkBuiltinCall,hk,hsp]
  have LI : Looks (model prog w) hh (isInstance (.ref a) (.type "BaseException")) true:=L0.andThen L1
  refine wpAny_bind (LI.at ?_)
  rw [if_neg (show ¬ ((!true) = true) by decide)]
  have rest : wpAny (model prog w) A.in1 (Builtin.«object.__getattribute__» ⟨[.ref a,.str "__class__" tk],[]⟩) (fun fin s'=>match fin with | .done f=>R (.ok f) s' | .again c'=>c'.quiet = true ∧ codeAny (model prog w) A c' R s') (fun e s'=>R (.error e) s') ⟨hh,g,d,tt,os⟩:=by
    unfold Builtin.«object.__getattribute__»
    refine wpAny_bind (wpAny_of_eq (a:=(.ref a,[.str "__class__" tk])) rfl ?_)
    refine wpAny_bind (wpAny_of_eq (a:=("__class__" : Str)) rfl ?_)
    refine wpAny_bind (L0.at (wpAny_bind (L2.at ?_)))
    show wpAny (model prog w) A.in1 (holding [.builtin "object.__class__"] (call (.builtin "getset_descriptor.__get__") [.builtin "object.__class__",.ref a,.ref C]) >>= fun v=>ret v) _ _ _
    refine wpAny_bind (wpAny_holding (wpAny_call ?_))
    exact class_get (s:=⟨hh,g,d,tt,os⟩) (ox:=excO (.ref C) t tb) (od:=none) X I c.ob (wpAny_pure k)
  cases hsg : Manifest.signature? "BaseException.__getattribute__" with
  | none=>exact wpAny_pure rest
  | some sig =>
    simp only [argsOk,hsg] at ha
    have ha' : Bind.checkArgs "BaseException.__getattribute__" sig ⟨[.ref a,.str "__class__" tk],[]⟩ = pure ():=ha
    show wpAny _ _ (Bind.checkArgs "BaseException.__getattribute__" sig ⟨[.ref a,.str "__class__" tk],[]⟩) _ _ _
    rw [ha']
    exact wpAny_pure rest
theorem exc_class {Q : Option Value → Shared → Prop} (c : ErrCls K C) (X : K.In s.heap) (he : s.heap.get? a = some (excO (.ref C) t tb)) (k : Q (some (.ref C)) { s with toks:=s.toks + 1 }) : wpAny (model prog w) A (getAttr? (.ref a) "__class__") Q E s:=by
  obtain ⟨hh,g,d,tt,os⟩:=s
  have I:=exc_inst he
  have L0:=I.type (M:=model prog w)
  have L1:=looks_findIn (M:=model prog w) X c.ga
  have L2:=looks_findIn (M:=model prog w) X c.gt
  unfold getAttr? getAttrBy? getAttrBy
  refine wpAny_bind (wpAny_mkText (wpAny_bind (wpAny_attempt (wpAny_holding (wpAny_bind (L0.at (wpAny_bind (L1.at ?_))))))))
  show wpAny (model prog w) A (if (onTheHeap (.ref C) && Value.builtin "BaseException.__getattribute__" == Value.builtin "object.__getattribute__") = true then _ else _) _ _ _
  rw [if_neg (by rw [show (Value.builtin "BaseException.__getattribute__" == Value.builtin "object.__getattribute__") = false by decide +kernel,Bool.and_false]; exact Bool.false_ne_true)]
  unfold getAttrByItsOwn
  refine wpAny_bind ?_
  show wpAny (model prog w) A (typeLookup (.ref C) "__getattr__") _ _ _
  refine L2.at (wpAny_bind (wpAny_attempt (wpAny_holding ?_)))
  show wpAny (model prog w) A (boundAndCalled (.builtin "BaseException.__getattribute__") (.ref a) (.str "__class__" tt)) _ _ _
  unfold boundAndCalled
  refine wpAny_bind (wpAny_of_eq (F.excAttr_ValueError.ga.bind (.ref a)) (wpAny_call ?_))
  refine exc_ga (s:=⟨hh,g,d,tt + 1,os⟩) c X he ?_
  show wpAny (model prog w) A (handedOut (.ref C)) _ _ _
  exact wpAny_pure (wpAny_pure k)
end
end L2
namespace L2
open PySem PySem.Spec PyProof.Rows PySem.W
section
variable {K : Frag} {C a : Addr}
theorem kitx_exc (c : ErrCls K C) : KitX K (.ref a) (.ref C) (fun h=>∃ t tb,h.get? a = some (excO (.ref C) t tb)) where
  ty:=fun _ _ _ ⟨_,_,he⟩=>(exc_inst he).type
  it:=fun M h X _=>by
    obtain ⟨cd,hc⟩:=Option.isSome_iff_exists.mp c.cls
    unfold clsIn at hc
    split at hc
    next hK =>
      intro A Q E s k q
      unfold isType loadHead
      exact wpAny_bind (wpAny_loadPart (k _ _ (X _ _ hK)) (wpAny_pure q))
    next=>cases hc
  ne:=fun h tp dd its n sl X htp=>by
    obtain ⟨cd,hc⟩:=Option.isSome_iff_exists.mp c.cls
    refine Bool.eq_false_iff.mpr fun q=>?_
    cases beq_iff_eq.mp q
    unfold clsIn at hc
    split at hc
    next hK =>
      have z:=(X _ _ hK).symm.trans htp
      cases z
    next=>cases hc
  ca:=fun X ⟨_,_,he⟩ k=>exc_class c X he k
end
inductive TyX (K : PySem.W.Frag) (H : Hp) : V → Value → Prop where
  | of {x : V} {t : Value} : TyOf K H x t → TyX K H x t
  | exc {a C : Addr} : H a = some (ExcAt a (.ref C)) → ErrCls K C → TyX K H (.ref a) (.ref C)
  | tupS {a : Addr} {xs : List V} : SqT K H a xs → TyX K H (.ref a) (.type "tuple")
  | lstS {a : Addr} {xs : List V} : SqL K H a xs → TyX K H (.ref a) (.type "list")
def clsV : V → Option Value
  | .ty n=>some (.type n)
  | .ref a=>some (.ref a)
  | _=>none
def rIsi (K : PySem.W.Frag) : List V → Hp → VK → Prop:=fun xs H Q=>∃ x c cv t b,xs = [x,c] ∧ clsV c = some cv ∧ TyX K H x t ∧ kitOne K t cv = some b ∧ Q (.bl b) H
theorem call_isi {X : Cx} : CallR X (.builtin "isinstance") (rIsi X.K):=by
  intro pins s σ H vs us Q I r h
  obtain ⟨x,c,cv,t,b,rfl,hc,ty,hk,q⟩:=h
  cases r with
  | cons r0 rr =>
    cases rr with
    | cons r1 rr =>
      cases rr
      rename_i u0 u1
      have hu : u1 = cv:=by
        cases c with
        | ty n=>cases hc; exact r1
        | ref n=>cases hc; exact r1
        | _=>cases hc
      subst hu
      cases ty with
      | of ty=>exact isinst_ok I r0 ty hk fun tk=>⟨.bl b,H,I.tok tk,rfl,q⟩
      | @exc a C ha ce =>
        cases (show u0 = Value.ref a from r0)
        obtain ⟨⟨t,tb,he⟩,_⟩:=(show ObjOk X.prog X.w H s.heap a (ExcAt a (.ref C)) from I.hok a _ ha)
        exact kia_one (kitx_exc ce) I.kIn ⟨t,tb,he⟩ hk (fun z=>nomatch z) fun tk=>⟨.bl b,H,I.tok tk,rfl,q⟩
      | @tupS a xs hs =>
        cases (show u0 = Value.ref a from r0)
        obtain ⟨its,_,⟨o,h1,h2,_⟩,_⟩:=I.tuple hs
        exact kia_one kitx_tuple I.kIn ⟨o,h1,h2⟩ hk (fun z=>nomatch z) fun tk=>⟨.bl b,H,I.tok tk,rfl,q⟩
      | @lstS a xs hs =>
        cases (show u0 = Value.ref a from r0)
        obtain ⟨its,_,p,_⟩:=I.list hs
        obtain ⟨o,h1,h2,_⟩:=p.isList
        exact kia_one kitx_list I.kIn ⟨o,h1,h2⟩ hk (fun z=>nomatch z) fun tk=>⟨.bl b,H,I.tok tk,rfl,q⟩
theorem boot_isinstance : bootBuiltins "isinstance" = some (.builtin "isinstance"):=by decide +kernel
theorem pe_isiB {X : Cx} {e : Expr} {te : TE} {T : Str} {n : String} {p pos pT : Pos} (hg : Gl X "isinstance") (hm : X.mg "isinstance" = none) (he : PE X e te) (hgT : Gl X T) (hmT : X.mg T = none) (hT : bootBuiltins T = some (.type n)) (hnT : T ≠ "__name__":=by decide) (hdT : (T == ("__debug__" : Str)) = false:=by decide)
    (h1 : starEach [e,.Name T pT] X.env = (false,eval e X.env) :: starEach [.Name T pT] X.env:=by rfl) : PE X (.Call (.Name "isinstance" p) [e,.Name T pT] [] pos) (tCB (rIsi X.K) (tCons te (tCons (tC (.ty n)) tNil))) :=
  pe_callB call_isi hg hm boot_isinstance (pa_cons he (pa_cons (pe_bltn (v:=.ty n) hgT hmT hT rfl hnT hdT) pa_nil) h1) (he:=h1)
end L2
namespace L2
open PySem PySem.Spec PySem.W PyProof.Rows PySem.Calls
end L2
namespace L2
open PySem PySem.Spec PySem.W PyProof.Rows PySem.Calls
section
variable {X : Cx} {pins : List (Addr × Obj)} {σ : St} {H : Hp} {s : Shared} {h' : Heap}
theorem Inv.turns {t' : Nat} {fp : List Addr} (I : Inv X pins σ H s) (k : ∀ b o,b ∉ fp → s.heap.get? b = some o → h'.get? b = some o) (hf : ∀ b ∈ fp,FpOk X pins H b) : Inv X pins σ H { s with heap:=h',toks:=t' }:=by
  have nit : ∀ b u,H b = some u → b ∉ fp:=fun b u e z=>by rw [(hf b z).1] at e; cases e
  refine I.step (g':=s.gens) (d':=s.drawn) (ch:=fp) (fun b hb=>?_) (fun b o _ _ hc e _=>k b o hc e) (fun b o _ _ hc e _=>⟨o.slots,k b o hc e⟩) (fun _ _ _ _ n=>n)
    (fun b o hc e=>⟨o,k b o hc e⟩) (fun _ _ e=>e) (fun _ _ _ e=>e) (fun b ps e=>⟨#[],by rw [e]; simp⟩) (fun m hm=>?_) (fun b u e=>?_) I.bare
  · obtain ⟨_,f1,_,f3,f4,f5⟩:=hf b hb
    exact ⟨f3,f1,f4,f5⟩
  · obtain ⟨o,es,ep,ho,r⟩:=hm
    exact ⟨o,es,ep,k _ o (fun z=>(hf _ z).2.1 rfl) ho,r⟩
  · refine (I.hok b u e).stay (fun c v hc q=>k c v ?_ q) (fun _ q=>q) fun _ _ q=>q
    rcases hc with z | z
    · rw [z]; exact nit b u e
    · exact nit c _ z
end
end L2
namespace L2
open PySem PySem.Spec PySem.W PyProof.Rows PySem.Calls
theorem boot_enumerate : bootBuiltins "enumerate" = some (.type "enumerate"):=by decide +kernel
section
variable {X : Cx}
end
section
variable {prog : Program} {w : World} {A : Around} {E : Value → Shared → Prop} {s : Shared}
end
section
variable {X : Cx}
end
end L2
namespace L2
open PySem PySem.Spec PySem.W PyProof.Rows PySem.Calls
section
variable {X : Cx}
def two (a b : Int) : Nat → Int:=fun i=>if i = 0 then a else b
theorem two_at {a b : Int} {t u : Tok} (i : Nat) (v : Value) (h : (#[Value.int a t,Value.int b u] : Array Value)[i]? = some v) : ∃ t,v = .int (two a b i) t:=by
  match i,h with
  | 0,h=>cases h; exact ⟨t,rfl⟩
  | 1,h=>cases h; exact ⟨u,rfl⟩
  | i + 2,h=>simp at h
def rMinT (K : PySem.W.Frag) : List V → Hp → VK → Prop:=fun xs H Q=>∃ p a b,xs = [.ref p] ∧ SqT K H p [.int a,.int b] ∧ Q (.int (if b < a then b else a)) H
def rMaxT (K : PySem.W.Frag) : List V → Hp → VK → Prop:=fun xs H Q=>∃ p a b,xs = [.ref p] ∧ SqT K H p [.int a,.int b] ∧ Q (.int (if b > a then b else a)) H
theorem pair_walk {p : Addr} {a b : Int} {t u : Tok} {pins : List (Addr × Obj)} {σ : St} {H : Hp} {s : Shared} {Q : Value → Shared → Prop} {E : Value → Shared → Prop} (op : CmpOp) (f : Int → Int → Bool) (I : Inv X pins σ H s) (hc : X.calm = true) (ht : IsTup s.heap p #[.int a t,.int b u])
    (cm : ∀ P : Nat → Value → Prop,(∀ i v,P i v → ∃ t,v = .int (two a b i) t) → CmpOf X.prog X.w X.A.in1 op P (fun i j=>f (two a b i) (two a b j)))
    (q : ∀ t s',Inv X pins σ H s' → Q (.int (if f b a then b else a) t) s') :
    wpAny (model X.prog X.w) X.A.in1 (pyIter (.ref p)) (fun it s₂=>∃ I fp wr n P St bt,it = .ref I ∧ Walks X.prog X.w X.A.in1 I fp wr n P St ∧ St 0 s₂.heap ∧ (∀ b ∈ fp,b < s₂.heap.objs.size) ∧ 0 < n ∧ CmpOf X.prog X.w X.A.in1 op P bt ∧
      ∀ v h' tk,P (argBest bt (n - 1)) v → (∀ b o,b ∉ wr → s₂.heap.get? b = some o → h'.get? b = some o) → Q v { s₂ with heap:=h',toks:=tk }) E s:=by
  have hlt : p < s.heap.objs.size:=by obtain ⟨_,e,_⟩:=ht; exact Heap.lt_size e
  refine wpAny_pyIter_tuple (show s.heap.IsTuple p _ from ht) ?_
  refine ⟨_,_,_,_,_,_,_,rfl,Walks.tuple (A:=X.A.in1) (I.ok.hd hc) _ p (Nat.ne_of_lt hlt) #[.int a t,.int b u],⟨⟨_,Heap.get?_push_size _ rfl,rfl,rfl⟩,?_⟩,fun c hc=>?_,by show 0 < 2; decide,cm _ two_at,fun v h' tk hP hk=>?_⟩
  · obtain ⟨o,e,r⟩:=ht
    exact ⟨o,Heap.get?_push_of_some _ e,r⟩
  · show c < (s.heap.push _).objs.size
    rw [Heap.size_push]
    rcases List.mem_cons.mp hc with rfl | hc
    · exact Nat.lt_succ_self _
    · rw [List.mem_singleton.mp hc]; exact Nat.lt_succ_of_lt hlt
  · obtain ⟨t',rfl⟩:=two_at _ _ hP
    have e : two a b (argBest (fun i j=>f (two a b i) (two a b j)) 1) = if f b a then b else a:=by
      show two a b (if f (two a b 1) (two a b 0) then 1 else 0) = _
      show two a b (if f b a then 1 else 0) = _
      cases f b a <;> rfl
    show Q (Value.int (two a b (argBest (fun i j=>f (two a b i) (two a b j)) 1)) t') _
    rw [e]
    exact q _ _ (I.kept fun c o hc=>hk c o (fun z=>absurd (Heap.lt_size hc) (by rw [List.mem_singleton.mp z]; exact Nat.lt_irrefl _)) (Heap.get?_push_of_some _ hc))
theorem call_minT (hc : X.calm = true) : CallR X (.builtin "min") (rMinT X.K):=by
  intro pins s σ H xs us Q I r h
  obtain ⟨p,a,b,rfl,hs,q⟩:=h
  obtain ⟨u,rfl,rx⟩:=vals1 r
  cases rx
  obtain ⟨its,rv,ht,_⟩:=I.tuple hs
  cases rv with
  | cons r0 rr =>
    cases rr with
    | cons r1 rr =>
      cases rr
      obtain ⟨t0,rfl⟩:=r0
      obtain ⟨t1,rfl⟩:=r1
      refine call_min_walk (pair_walk .Lt (fun x y=>decide (x < y)) I hc ht (fun P h=>CmpOf.ints_lt (two a b) h) fun t s' I'=>⟨.int _,H,I',⟨t,rfl⟩,?_⟩)
      simpa using q
theorem call_maxT (hc : X.calm = true) : CallR X (.builtin "max") (rMaxT X.K):=by
  intro pins s σ H xs us Q I r h
  obtain ⟨p,a,b,rfl,hs,q⟩:=h
  obtain ⟨u,rfl,rx⟩:=vals1 r
  cases rx
  obtain ⟨its,rv,ht,_⟩:=I.tuple hs
  cases rv with
  | cons r0 rr =>
    cases rr with
    | cons r1 rr =>
      cases rr
      obtain ⟨t0,rfl⟩:=r0
      obtain ⟨t1,rfl⟩:=r1
      refine call_max_walk (pair_walk .Gt (fun x y=>decide (x > y)) I hc ht (fun P h=>CmpOf.ints_gt (two a b) h) fun t s' I'=>⟨.int _,H,I',⟨t,rfl⟩,?_⟩)
      simpa using q
end
end L2
namespace L2
open PySem PySem.Spec PySem.W PyProof.Rows
theorem Same.tup {K : PySem.W.Frag} {H H' : Hp} {a : Addr} {xs : List V} (e : Same H H') (h : SqT K H a xs) : SqT K H' a xs:=by
  rcases h with (z | ⟨o,z⟩) | z
  · exact .inl (.inl (e _ _ z))
  · exact .inl (.inr ⟨o,e _ _ z⟩)
  · exact .inr z
theorem same_upd {H : Hp} {p : Addr} {o : HO} (hp : H p = none) : Same H (upd H p o):=fun b u e=>by rw [upd_ne (ne_of_none e hp)]; exact e
theorem comp_any {own : List Str} {cap : List Nat} {g : Blk TG} {tf : Blk TT} {te : Blk TE} {σ : St} {Q : VK} {J : It} {H1 : Hp} (n : Nat) (Pv : Nat → List V → Hp → Prop) (h0 : Pv 0 [] H1) (hn : n < sizeLine)
    (hl : ∀ i ys H,i ≤ n → Pv i ys H → ys.length ≤ i ∧ (i < n → J.go i H) ∧ (i = n → J.stop i H))
    (turn : ∀ i ys H (N : List V → Hp → Prop),i < n → Pv i ys H → (∀ ys H,Pv (i + 1) ys H → N ys H) → ∀ x H',J.yld i H x H' → ∀ C s₀ H₀ ex,g C s₀ H₀ ex x (capσ own cap σ) H' fun σ2 H2=>tf C s₀ H₀ ex σ2 H2 fun b H3 =>
      if b = true then te C s₀ H₀ ex σ2 H3 fun v H4=>N (ys ++ [v]) H4 else N ys H3)
    (fin : ∀ ys H,Pv n ys H → ∀ p,H p = none → Q (.ref p) (upd H p (.lst ys))) : CompR own cap g tf te σ Q J H1:=by
  refine ⟨fun i m ys H=>m = n - i ∧ i ≤ n ∧ Pv i ys H,⟨n,rfl,Nat.zero_le _,h0⟩,?_⟩
  rintro i m ys H ⟨rfl,hi,hp⟩
  obtain ⟨h1,h2,h3⟩:=hl i ys H hi hp
  by_cases e : i = n
  · subst e
    exact .inl ⟨h3 rfl,by omega,fin ys H hp⟩
  · have hi' : i < n:=by omega
    refine .inr ⟨h2 hi',by omega,fun x H' y C s₀ H₀ ex=>?_⟩
    exact turn i ys H (fun ys H=>∃ m',m' < n - i ∧ (m' = n - (i + 1) ∧ i + 1 ≤ n ∧ Pv (i + 1) ys H)) hi' hp (fun ys' H'' q=>⟨n - (i + 1),by omega,rfl,by omega,q⟩) x H' y C s₀ H₀ ex
theorem comp_list {K : PySem.W.Frag} {a : Addr} {xs : List V} {own : List Str} {cap : List Nat} {g : Blk TG} {tf : Blk TT} {te : Blk TE} {σ : St} {Q : VK} {H1 : Hp} (Pv : Nat → List V → Hp → Prop) (h0 : Pv 0 [] H1) (hn : xs.length < sizeLine)
    (hl : ∀ i ys H,i ≤ xs.length → Pv i ys H → ys.length ≤ i ∧ SqL K H a xs)
    (turn : ∀ i x ys H (N : List V → Hp → Prop),xs[i]? = some x → Pv i ys H → (∀ ys H,Pv (i + 1) ys H → N ys H) → ∀ C s₀ H₀ ex,g C s₀ H₀ ex x (capσ own cap σ) H fun σ2 H2=>tf C s₀ H₀ ex σ2 H2 fun b H3 =>
      if b = true then te C s₀ H₀ ex σ2 H3 fun v H4=>N (ys ++ [v]) H4 else N ys H3)
    (fin : ∀ ys H,Pv xs.length ys H → ∀ p,H p = none → Q (.ref p) (upd H p (.lst ys))) : CompR own cap g tf te σ Q (Itl K a) H1 :=
  comp_any xs.length Pv h0 hn (fun i ys H hi hp=>⟨(hl i ys H hi hp).1,fun h=>⟨xs,_,(hl i ys H hi hp).2,List.getElem?_eq_getElem h⟩,fun e=>⟨xs,(hl i ys H hi hp).2,by omega⟩⟩)
    (fun i ys H N hi hp hN x H' y C s₀ H₀ ex=>by
      obtain ⟨rfl,y⟩:=y
      exact turn i x ys _ N (y _ (hl i ys _ (by omega) hp).2) hp hN C s₀ H₀ ex) fin
end L2
namespace L2
open PySem PySem.Spec PySem.W PyProof.Rows
theorem comp_range {own : List Str} {cap : List Nat} {g : Blk TG} {tf : Blk TT} {te : Blk TE} {σ : St} {Q : VK} {H1 : Hp} {lo : Int} {n : Nat} (Pv : Nat → List V → Hp → Prop) (h0 : Pv 0 [] H1) (hn : n < sizeLine)
    (hl : ∀ i ys H,i ≤ n → Pv i ys H → ys.length ≤ i)
    (turn : ∀ i ys H (N : List V → Hp → Prop),i < n → Pv i ys H → (∀ ys H,Pv (i + 1) ys H → N ys H) → ∀ C s₀ H₀ ex,g C s₀ H₀ ex (.int (lo + i)) (capσ own cap σ) H fun σ2 H2=>tf C s₀ H₀ ex σ2 H2 fun b H3 =>
      if b = true then te C s₀ H₀ ex σ2 H3 fun v H4=>N (ys ++ [v]) H4 else N ys H3)
    (fin : ∀ ys H,Pv n ys H → ∀ p,H p = none → Q (.ref p) (upd H p (.lst ys))) : CompR own cap g tf te σ Q (Itr lo n) H1 :=
  comp_any n Pv h0 hn (fun i ys H hi hp=>⟨hl i ys H hi hp,fun h=>h,fun e=>Nat.le_of_eq e.symm⟩)
    (fun i ys H N hi hp hN x H' y C s₀ H₀ ex=>by
      obtain ⟨rfl,rfl⟩:=y
      exact turn i ys _ N hi hp hN C s₀ H₀ ex) fin
end L2
namespace L2
open PySem PySem.Spec PySem.W PyProof.Rows PySem.Calls
section
variable {X : Cx}
end
section
variable {X : Cx}
end
end L2
namespace L2
open PySem PySem.Spec PySem.W PyProof.Rows PySem.Calls
section
variable {X : Cx}
end
end L2
namespace L2
end L2
namespace L2
open PySem PySem.Spec PyProof.Rows
section
variable {X : Cx} {o e : Expr} {es : List Expr} {ta : TE} {t : TA} {m : Str} {C C' f f' : Addr} {fd fd' : FuncData} {ps ps' : List Str} {sp sp' : Sp} {k k' : Nat} {CX : CXT} {E : XK} {apos pos : Pos}
end
end L2
namespace L2
open PySem PySem.Spec PyProof.Rows
section
variable {X : Cx}
end
end L2
namespace L2
open PySem PySem.Spec PyProof.Rows
section
variable {X : Cx}
end
end L2
namespace L2
open PySem PySem.Spec PyProof.Rows
section
variable {X : Cx}
end
end L2
namespace L2
open PySem PySem.Spec PySem.W PyProof.Rows PySem.Calls
section
variable {X : Cx}
theorem vals_strs : ∀ (l : List (Str × Tok)),Vals ((l.map (·.1)).map V.str) (strValues l)
  | []=>.nil
  | (x,t) :: r=>.cons ⟨t,rfl⟩ (vals_strs r)
theorem strs_vals : ∀ {ts : List Str} {us : List Value},Vals (ts.map V.str) us → ∃ l : List (Str × Tok),us = strValues l ∧ l.map (·.1) = ts
  | [],_,.nil=>⟨[],rfl,rfl⟩
  | x :: r,_,.cons h hr=>by
    obtain ⟨t,rfl⟩:=h
    obtain ⟨l,rfl,rfl⟩:=strs_vals hr
    exact ⟨(x,t) :: l,rfl,rfl⟩
section
open Builtin Builtin.Str
variable {prog : Program} {w : World} {A : Around} {E : Value → Shared → Prop} {s : Shared} {x y : Str} {t u : Tok} {Q : Value → Shared → Prop}
theorem split_push (hy : (y.length == 0) = false) (hq : ∀ l k,l.map (·.1) = Txt.split x y → Q (.ref s.heap.objs.size) { s with heap:=s.heap.push { cls:=.type "list",data:=.seq (strValues l).toArray },toks:=k })
    (hsz : x.length ≤ sizeLine) (hsz2 : (Txt.split x y).length ≤ sizeLine) : wpAny (model prog w) A (call (.builtin "str.split") [.str x t,.str y u]) Q E s:=by
  cases h1 : (decide (x.length < y.length) || decide (strKind x < strKind y))
  · cases hf : (occurrences x y 0 x.length (x.length + 1)).isEmpty
    · have e : Txt.split x y = partsBetween x (occurrences x y 0 x.length (x.length + 1)) y.length:=(if_neg (ne_true_of_eq_false h1)).trans (if_neg (ne_true_of_eq_false hf))
      rw [e] at hsz2
      refine call_meets F.slot_str_split (typeIs_str _ _ _) F.entry_str_split (F.args_str_split_2 _ _) (meets_str_split_sep x y t u h1 hy hf hsz hsz2) ?_
      show wants Q E _ { s with toks:=_,heap:=s.heap.push { cls:=.type "list",data:=.seq (strsFrom s.toks (partsBetween x (occurrences x y 0 x.length (x.length + 1)) y.length)).toArray } }
      rw [strsFrom_eq]
      exact hq (numbered s.toks _) _ ((numbered_texts _ _).trans e.symm)
    · exact call_meets F.slot_str_split (typeIs_str _ _ _) F.entry_str_split (F.args_str_split_2 _ _) (meets_str_split_not_found x y t u h1 hy hf) (hq [(x,t)] s.toks ((if_neg (ne_true_of_eq_false h1)).trans (if_pos hf)).symm)
  · exact call_meets F.slot_str_split (typeIs_str _ _ _) F.entry_str_split (F.args_str_split_2 _ _) (meets_str_split_cannot_occur x y t u h1) (hq [(x,t)] s.toks (if_pos h1).symm)
theorem part_push (hy : (y.length == 0) = false) (hsz : x.length ≤ sizeLine)
    (hq : ∀ ta tb tc k,Q (.ref s.heap.objs.size) { s with heap:=s.heap.push { cls:=.type "tuple",data:=.seq [.str (Txt.partition x y).1 ta,.str (Txt.partition x y).2.1 tb,.str (Txt.partition x y).2.2 tc].toArray },toks:=k }) :
    wpAny (model prog w) A (call (.builtin "str.partition") [.str x t,.str y u]) Q E s:=by
  refine call_meets F.slot_str_partition (typeIs_str _ _ _) F.entry_str_partition (F.args_str_partition_2 _ _) (meets_str_partition x y t u hy hsz) ?_
  have h':=hq
  unfold Txt.partition at h'
  revert h'
  cases occurrences x y 0 x.length 1 with
  | nil=>intro h'; exact h' _ _ _ _
  | cons i r=>intro h'; exact h' _ _ _ _
end
def rSplit : V → List V → Hp → VK → Prop:=fun x vs H Q=>∃ a b,x = .str a ∧ vs = [.str b] ∧ (b.length == 0) = false ∧ a.length ≤ sizeLine ∧ (Txt.split a b).length ≤ sizeLine ∧ ∀ l,H l = none → Q (.ref l) (upd H l (.lst ((Txt.split a b).map .str)))
theorem mt_split : MtR X "str.split" rSplit:=by
  intro pins s σ H x xs v us Q I rx rv h
  obtain ⟨a,b,rfl,rfl,hb,hz,hz2,q⟩:=h
  obtain ⟨t,rfl⟩:=rx
  obtain ⟨u,rfl,t',rfl⟩:=rv.one
  refine split_push hb (fun l k e=>?_) hz hz2
  have hf : H s.heap.objs.size = none:=I.hok.fresh (Nat.le_refl _)
  refine ⟨.ref s.heap.objs.size,upd H s.heap.objs.size (.lst ((Txt.split a b).map .str)),I.laid (t':=k) (fun b u e=>Heap.get?_push_of_some _ e) (Nat.le_refl _) ?_,rfl,q _ hf⟩
  exact ⟨by rw [List.length_map]; exact hz2,strValues l,0,by rw [← e]; exact vals_strs l,Heap.get?_push_size _ rfl⟩
def rPart : V → List V → Hp → VK → Prop:=fun x vs H Q=>∃ a b,x = .str a ∧ vs = [.str b] ∧ (b.length == 0) = false ∧ a.length ≤ sizeLine ∧ ∀ l,H l = none → Q (.ref l) (upd H l (.tup [.str (Txt.partition a b).1,.str (Txt.partition a b).2.1,.str (Txt.partition a b).2.2]))
theorem mt_partition : MtR X "str.partition" rPart:=by
  intro pins s σ H x xs v us Q I rx rv h
  obtain ⟨a,b,rfl,rfl,hb,hz,q⟩:=h
  obtain ⟨t,rfl⟩:=rx
  obtain ⟨u,rfl,t',rfl⟩:=rv.one
  refine part_push hb hz (fun ta tb tc k=>?_)
  have hf : H s.heap.objs.size = none:=I.hok.fresh (Nat.le_refl _)
  refine ⟨.ref s.heap.objs.size,upd H s.heap.objs.size (.tup _),I.laid (t':=k) (fun b u e=>Heap.get?_push_of_some _ e) (Nat.le_refl _) ?_,rfl,q _ hf⟩
  exact ⟨by show 3 ≤ sizeLine; decide,_,.cons ⟨ta,rfl⟩ (.cons ⟨tb,rfl⟩ (.cons ⟨tc,rfl⟩ .nil)),⟨_,Heap.get?_push_size _ rfl,rfl,_,rfl⟩⟩
def rJoin (K : PySem.W.Frag) : V → List V → Hp → VK → Prop:=fun x vs H Q=>∃ a l ts,x = .str a ∧ vs = [.ref l] ∧ SqL K H l (ts.map .str) ∧ JoinOk a ts = true ∧ Q (.str (Txt.join a ts)) H
theorem mt_join : MtR X "str.join" (rJoin X.K):=by
  intro pins s σ H x xs v us Q I rx rv h
  obtain ⟨a,l,ts,rfl,rfl,hq,ok,q⟩:=h
  obtain ⟨t,rfl⟩:=rx
  obtain ⟨u,rfl,ru⟩:=rv.one
  cases ru
  obtain ⟨its,r,p,hz⟩:=I.list hq
  obtain ⟨l',rfl,rfl⟩:=strs_vals r
  exact SC.join p.isList rfl ok fun t' k=>⟨.str _,H,I.tok _,⟨_,rfl⟩,q⟩
theorem call_int_text : CallR X (.type "int") (fun xs H Q=>∃ x n,xs = [.str x] ∧ PySem.intText? x = some n ∧ x.length ≤ 640 ∧ Q (.int n) H):=by
  intro pins s σ H xs us Q I r h
  obtain ⟨x,n,rfl,hn,hl,q⟩:=h
  obtain ⟨u,rfl,t,rfl⟩:=vals1 r
  exact KIN.call_text hn hl ⟨.int n,H,I.tok _,⟨_,rfl⟩,q⟩
def fmtV : V → Str → Prop
  | .int i,x=>i.natAbs.log2 < 1920 ∧ x = (toString i : String)
  | .str y,x=>y.length ≤ sizeLine ∧ x = y
  | _,_=>False
def tFmt (t : TE) : TE:=fun σ H Q=>t σ H fun v H1=>∃ x,fmtV v x ∧ Q (.str x) H1
theorem pe_fmt {e : Expr} {t : TE} {pos : Pos} (h : PE X e t) : PE X (.FormattedValue e (-1) none pos) (tFmt t):=by
  intro pins s σ H Q I q
  refine FormattedValue_plain (thn (h pins s σ H _ I q) fun v s1 ⟨x,H1,I1,r1,y,hy,q1⟩=>?_)
  cases x with
  | int i =>
    obtain ⟨t',rfl⟩:=r1
    obtain ⟨hl,rfl⟩:=hy
    exact formatField_int_small hl ⟨.str _,H1,I1.tok _,⟨_,rfl⟩,q1⟩
  | str y' =>
    obtain ⟨t',rfl⟩:=r1
    obtain ⟨hl,rfl⟩:=hy
    exact formatField_str (fun t'' tk=>⟨.str y,H1,I1.tok _,⟨_,rfl⟩,q1⟩) hl
  | _=>exact hy.elim
abbrev TJ:=Str → St → Hp → VK → Prop
def PJ (X : Cx) (es : List Expr) (t : TJ) : Prop:=∀ (pins : List (Addr × Obj)) (s : Shared) (σ : St) (H : Hp) (Q : VK) (out : Str),Inv X pins σ H s → t out σ H Q → wpAny (model X.prog X.w) X.A (joinParts out (evalEach es X.env)) (EP X pins σ Q) X.xe s
theorem pj_nil : PJ X [] (fun out _ H Q=>out.length ≤ sizeLine ∧ Q (.str out) H):=by
  intro pins s σ H Q out I ⟨h,q⟩
  exact joinParts_nilE (joinParts_nil ⟨.str out,H,I.tok _,⟨_,rfl⟩,q⟩ h)
theorem pj_cons {e : Expr} {es : List Expr} {t : TE} {tj : TJ} (h : PE X e t) (hj : PJ X es tj) : PJ X (e :: es) (fun out σ H Q=>t σ H fun v H1=>∃ y,v = .str y ∧ (out ++ y).length ≤ sizeLine ∧ tj (out ++ y) σ H1 Q):=by
  intro pins s σ H Q out I q
  refine joinParts_consE (joinParts_cons (thn (h pins s σ H _ I q) fun v s1 ⟨x,H1,I1,r1,y,e,hl,q1⟩=>?_))
  subst e
  obtain ⟨t',rfl⟩:=r1
  exact ⟨hl,hj pins s1 σ H1 Q _ I1 q1⟩
theorem pe_fstr1 {e : Expr} {t : TE} {pos : Pos} (h : PE X e t) : PE X (.JoinedStr [e] pos) t:=fun pins s σ H Q I q=>JoinedStr_one (h pins s σ H Q I q)
theorem pe_fstr {e1 e2 : Expr} {es : List Expr} {tj : TJ} {pos : Pos} (h : PJ X (e1 :: e2 :: es) tj) : PE X (.JoinedStr (e1 :: e2 :: es) pos) (fun σ H Q=>tj Str.empty σ H Q):=fun pins s σ H Q I q=>JoinedStr_many (h pins s σ H Q _ I q)
theorem ps_tryQ {body : List Stmt} {hd : ExceptHandler} {hs : List ExceptHandler} {pos : Pos} {tb : TS} (hb : ∀ (pn : List (Addr × Obj)) (xe : Value → Shared → Prop),PSs (X.tried pn xe) body tb) :
    PS X (.Try body (hd :: hs) [] [] pos) tb:=by
  intro pins s σ H D I h
  have body':=hb (X.pn ++ pins) (fun _ _=>False) [] s σ H D (I.tried _) h
  refine wpAny_Try_except (wpAny_mono body' (fun f s1 q=>?_) fun e s1 q=>q.elim)
  cases f with
  | next =>
    obtain ⟨σ1,H1,I1,q⟩:=q
    exact wpAny_execs_nil ⟨σ1,H1,I1.untried,q⟩
  | brk =>
    obtain ⟨σ1,H1,I1,q⟩:=q
    exact ⟨σ1,H1,I1.untried,q⟩
  | cont =>
    obtain ⟨σ1,H1,I1,q⟩:=q
    exact ⟨σ1,H1,I1.untried,q⟩
  | ret u =>
    obtain ⟨v,σ1,H1,I1,r,q⟩:=q
    exact ⟨v,σ1,H1,I1.untried,r,q⟩
end
end L2
namespace L2
open PySem PySem.Spec PySem.W PyProof.Rows PySem.Calls
open AutoSeq1 (wpAny_loadPart')
theorem draws_two {prog : Program} {w : World} {A : Around} (hh : A.handled = none) (it l : Addr) (hne : l ≠ it) (items : Array Value) :
    Draws prog w A it [it,l] (items.size + 2) (fun j v=>∃ i,j = i + 2 ∧ items[i]? = some v) (fun j h=>∃ i,j = i + 2 ∧ h.IsListIter it l i ∧ h.IsList l items) where
  live:=fun _ _ ⟨_,_,st,_⟩=>let ⟨o,ho,_⟩:=st; ⟨o,ho⟩
  frame:=fun _ _ _ ⟨i,e,st,hl⟩ hk=>⟨i,e,st.at fun o e=>hk it (by simp) o e,hl.at fun o e=>hk l (by simp) o e⟩
  item:=fun j s Q E hj ⟨i,e,st,hl⟩ hQ=>by
    subst e
    have hi : i < items.size:=by omega
    refine wpAny_nextOf_list_item st hl (x:=items[i]) (by simp [hi]) fun h' hit' hs'=>?_
    exact hQ _ h' s.toks ⟨i,rfl,by simp [hi]⟩ ⟨i + 1,by omega,hit',hl.extBut hs'.extBut hne⟩ hs'
  done:=fun s Q E ⟨i,e,st,hl⟩ hE=>by
    have e' : i = items.size:=by omega
    subst e'
    exact wpAny_nextOf_list_end hh st hl (by simp) hE
def IteS (K : PySem.W.Frag) (a : Addr) : It :=
  ⟨fun i H=>∃ xs x,SqL K H a xs ∧ xs[i]? = some x,fun i H x H'=>∃ p y,x = .ref p ∧ H p = none ∧ H' = upd H p (.tup [.int ((i + 2 : Nat) : Int),y]) ∧ ∀ xs,SqL K H a xs → xs[i]? = some y,fun i H=>∃ xs,SqL K H a xs ∧ xs.length = i⟩
theorem turn_enumS {P : Program} {w : World} {K : PySem.W.Frag} {elts : List Expr} {x1} {pos : Pos} (a e it : Addr) (hei : e ≠ it) (hae : a ≠ e) (hai : a ≠ it) : Turn P w K (.Tuple elts x1 pos) (IteS K a) [e,it] e (fun i h=>(∃ old,IsEnum h e it ((i + 2 : Nat) : Int) old) ∧ h.IsListIter it a i) where
  mem:=by simp
  obj:=fun i h st b hb=>by
    obtain ⟨⟨old,he⟩,hi⟩:=st
    rcases List.mem_cons.mp hb with rfl | hb
    · exact ⟨_,he,fun v z=>by
        have z' : Data.fields _ = Data.cell v:=z
        cases z'⟩
    · have e : b = it:=by simpa using hb
      subst e
      obtain ⟨o,e,c,d⟩:=hi
      exact ⟨o,e,fun v z=>by rw [d] at z; cases z⟩
  keep:=fun i h h' st k=>⟨⟨st.1.choose,k e (by simp) _ st.1.choose_spec⟩,st.2.at fun o q=>k it (by simp) o q⟩
  item:=by
    intro X hP hw hK hc i pins s σ H E I hf st hg
    subst hP hw hK
    obtain ⟨xs,x,hq,hx⟩:=hg
    obtain ⟨its,rv,p,hz⟩:=I.list hq
    obtain ⟨u,hu,ru⟩:=rv.get hx
    obtain ⟨⟨old,he⟩,hit⟩:=st
    have hlt : i < its.length:=(List.getElem?_eq_some_iff.mp hu).1
    have D:=draws_two (prog:=X.prog) (w:=X.w) (A:=X.A.in1) (I.ok.hd hc) it a hai its.toArray
    refine wpAny_pyNext_enum_itemD D (i:=i + 2) he ⟨i,rfl,hit,p.isList⟩ (by simp; omega) hei (by simp [hei,Ne.symm hae]) fun x' h' tk hx' ho hit' hT hsz hk=>?_
    obtain ⟨i',ei,hx'⟩:=hx'
    have ei' : i' = i:=by omega
    subst ei'
    have hxu : x' = u:=by
      rw [List.getElem?_toArray,hu] at hx'
      exact (Option.some.inj hx').symm
    subst hxu
    obtain ⟨j',ej,hit',_⟩:=hit'
    have ej' : j' = i' + 1:=by omega
    subst ej'
    refine ⟨_,rfl,?_⟩
    refine wpAny_letOwnedTupleGo_enum ho fun h2 he' hs'=>?_
    have helt : e < s.heap.objs.size:=Heap.lt_size he
    have hilt : it < s.heap.objs.size:=by obtain ⟨_,z,_⟩:=hit; exact Heap.lt_size z
    have k2 : ∀ b o,b ∉ [e,it] → s.heap.get? b = some o → h2.get? b = some o:=fun b o hb q=>(hs'.2 b (fun z=>hb (by simp [z]))).trans (hk b o (fun z=>hb (by simp [z])) (fun z=>hb (by simp [z])) q)
    have hpair : h2.get? s.heap.objs.size = some { cls:=.type "tuple",data:=.seq #[.int ((i' + 2 : Nat) : Int) tk,x'] }:=(hs'.2 _ (Nat.ne_of_gt helt)).trans hT
    have I1 : Inv X pins σ H { s with heap:=h2,toks:=tk + 1 }:=I.turns (fp:=[e,it]) k2 hf
    have I2 : Inv X pins σ (upd H s.heap.objs.size (.tup [.int ((i' + 2 : Nat) : Int),x])) { s with heap:=h2,toks:=tk + 1 }:=by
      obtain ⟨g0,g1,_,_,g4,g5⟩:=I.fpOk (Nat.le_refl _) (I.hok.fresh (Nat.le_refl _))
      refine I1.track' g0 g1 ?_ g4 g5 (show ObjOk X.prog X.w _ h2 _ (.tup [.int ((i' + 2 : Nat) : Int),x]) from ⟨by show 2 ≤ sizeLine; decide,[.int ((i' + 2 : Nat) : Int) tk,x'],.cons ⟨_,rfl⟩ (.cons ru .nil),⟨_,hpair,rfl,_,rfl⟩⟩)
      cases hq0 : X.s₀.heap.get? s.heap.objs.size with
      | none=>rfl
      | some o=>exact absurd (Nat.lt_of_lt_of_le (Heap.lt_size hq0) I.sz) (Nat.lt_irrefl _)
    refine ⟨.ref s.heap.objs.size,_,I2,rfl,⟨_,x,rfl,I.hok.fresh (Nat.le_refl _),rfl,fun ys hy=>by rw [I.list_inj hy hq]; exact hx⟩,⟨⟨_,by
      have q : ((i' + 2 : Nat) : Int) + 1 = ((i' + 1 + 2 : Nat) : Int):=by omega
      rw [q] at he'; exact he'⟩,hit'.at fun o y=>(hs'.2 it hei.symm).trans y⟩,fun b hb=>?_⟩
    rcases List.mem_cons.mp hb with rfl | hb
    · rw [upd_ne (Nat.ne_of_lt helt)]; exact (hf _ (by simp)).1
    · have e : b = it:=by simpa using hb
      subst e
      rw [upd_ne (Nat.ne_of_lt hilt)]; exact (hf _ (by simp)).1
  done:=by
    intro X hP hw hK hc i pins s σ H E I hf st hg
    subst hP hw hK
    obtain ⟨xs,hq,hx⟩:=hg
    obtain ⟨its,rv,p,hz⟩:=I.list hq
    obtain ⟨⟨old,he⟩,hit⟩:=st
    have hl:=rv.length
    have D:=draws_two (prog:=X.prog) (w:=X.w) (A:=X.A.in1) (I.ok.hd hc) it a hai its.toArray
    exact wpAny_pyNext_enum_endD D he ⟨i,by simp; omega,hit,p.isList⟩ fun h' eb=>⟨rfl,I.turns (fp:=[e,it]) (t':=s.toks) (fun b o hb q=>eb b o (fun z=>hb (by simp [z])) q) hf⟩
  self:=fun _ _ _ _ _ st h=>by
    obtain ⟨⟨old,he⟩,_⟩:=st
    exact wpAny_pyIter_enum he h
end L2
namespace L2
open PySem PySem.Spec PySem.W PyProof.Rows PySem.Calls
open AutoSeq1 (wpAny_loadPart')
section
variable {prog : Program} {w : World} {A : Around} {E : Value → Shared → Prop} {s : Shared}
theorem meets_enum_start (l : Addr) (items : Array Value) (n : Nat) (dct : Option Addr) (sl : Array (Option Value)) (t : Tok) :
    Meets (Builtin.«enumerate.__new__» ⟨[.type "enumerate",.ref l],[("start",.int 2 t)]⟩) (fun _ R s=>s.heap.get? l = some { cls:=.type "list",dict:=dct,data:=.seq items n,slots:=sl } ∧
      R (.ok (.ret (.ref (s.heap.push { cls:=.type "list_iterator",data:=.fields #[.ref l,.int 0 0] }).objs.size)))
        { s with heap:=(s.heap.push { cls:=.type "list_iterator",data:=.fields #[.ref l,.int 0 0] }).push { cls:=.type "enumerate",data:=.fields #[.none,.bool false,.ref s.heap.objs.size,rawInt 2,.none,.none] } }) :=
  .of_wp fun prog w A R s h=>by
    obtain ⟨hp,g,d,tk,os⟩:=s; obtain ⟨hl,h⟩:=h
    have hsub:=sub_enumerate
    have hL : Heap.IsList (Shared.heap ⟨hp,g,d,tk,os⟩) l items:=⟨_,hl,rfl,n,rfl⟩
    wp_walk using wpAny_loadPart' hl
    refine wpAny_stack_any fun st=>wpAny_pure ?_
    split
    · rename_i c _ _ _ _ _
      cases (c == Value.type "enumerate")
      · wp_walk using wpAny_loadPart' hl,wpAny_pyIter_list hL
        exact ⟨_,rfl,h⟩
      · wp_walk using wpAny_loadPart' hl,wpAny_pyIter_list hL
        exact ⟨_,rfl,h⟩
    · wp_walk using wpAny_loadPart' hl,wpAny_pyIter_list hL
      exact ⟨_,rfl,h⟩
end
end L2
namespace L2
open PySem PySem.Spec PySem.W PyProof.Rows PySem.Calls
section
variable {prog : Program} {w : World} {A : Around} {E : Value → Shared → Prop} {s : Shared}
theorem typeCall_enumS (a b : Value) : checkTypeCall "enumerate" ⟨[a],[("start",b)]⟩ = pure ():=by kernel_rfl
theorem newCall_enumS (a b : Value) : checkBuiltinCall "enumerate.__new__" ⟨[.type "enumerate",a],[("start",b)]⟩ = pure ():=by kernel_rfl
theorem args_initS (a b c : Value) : argsOk "object.__init__" ⟨[a,b],[("start",c)]⟩:=by
  unfold argsOk; rw [PySem.signature?_of (id:="object.__init__") (n:=['_','_','t','i','n','i','_','_']) (o:=['t','c','e','j','b','o']) (by kernel_rfl) F.owner_object]; kernel_rfl
theorem init_meetsK {T newId : String} {self : Value} {rest : List Value} {kw : List (Str × Value)} (hl : typeLookup (.type T) "__init__" = pure (some (.builtin "object.__init__")))
    (hm : Bind.madeBy (.type T) = pure (some newId)) (hne : (some newId != some "object.__new__") = true) (hr : rest ≠ []) :
    Meets (Builtin.«object.__init__» ⟨self :: rest,kw⟩) (fun _ R s=>s.TypeIs self T ∧ R (.ok (.ret .none)) s):=by
  refine Meets.of_wp fun prog w A R s hs=>?_
  obtain ⟨hT,hq⟩:=hs
  cases rest with
  | nil=>exact absurd rfl hr
  | cons a rest =>
    repeat (any_goals (first | assumption | wp_step))
    exact ⟨_,rfl,hq⟩
theorem callType_kw {T newId initId : String} {Bn Bi : Builtin} {args : List Value} {kw : List (Str × Value)} {S : PySem.Spec} {Q Q₁ : Value → Shared → Prop} (ft : TypeCalled T newId initId)
    (hct : checkTypeCall T ⟨args,kw⟩ = pure ()) (hcn : checkBuiltinCall newId ⟨.type T :: args,kw⟩ = pure ())
    (entryN : entryFor table newId = some Bn) (entryI : entryFor table initId = some Bi) (g : Meets (Bn ⟨.type T :: args,kw⟩) S)
    (h : S A.in1 (wants Q₁ E) s)
    (hnext : ∀ obj s₁,Q₁ obj s₁ → s₁.TypeIs obj T ∧ argsOk initId ⟨obj :: args,kw⟩ ∧ ∃ Si,Meets (Bi ⟨obj :: args,kw⟩) Si ∧ Si A.in1 (wants (fun r s₂=>r = .none ∧ Q obj s₂) E) s₁) :
    wpAny (model prog w) A (call (.type T) args kw) Q E s:=by
  obtain ⟨c,tl,hmro⟩:=ft.mro
  have hmade:=ft.made
  have hsub:=ft.sub
  refine wpAny_call (codeAny_of_tree ?_)
  show wpAny _ _ (callAny (.type T) _) _ _ _
  refine wpAny_pure ⟨Code.quiet_builtin _ (by decide +kernel),codeAny_builtin F.entry_type_call ?_⟩
  rw [Around.under_plain (weight_type_call_type T args kw) (units_type_call_type T args kw)]
  have h1:=ft.notType
  have h2:=ft.canCreate
  repeat (any_goals (first | assumption | wp_step))
  refine codeAny_mono (codeAny_call_builtin ft.plain entryN (wpAny_of_eq hcn (g prog w A.in1 _ s h))) fun r s₁ hr=>?_
  cases r with
  | error e=>exact hr
  | ok fl =>
    cases fl with
    | ret obj =>
      obtain ⟨hT,hok,Si,gi,hsi⟩:=hnext _ _ hr
      have hli:=ft.init.lookup
      have hbi:=ft.init.bind obj
      repeat (any_goals (first | assumption | wp_step))
      refine codeAny_mono (codeAny_call_builtin ft.init.plain entryI (ft.init.check _ _ _ _ _ _ _ _ hT hok (gi prog w A.in1 _ s₁ hsi))) fun r₂ s₂ hr₂=>?_
      cases r₂ with
      | error e=>exact hr₂
      | ok fl₂ =>
        cases fl₂ with
        | ret r =>
          obtain ⟨rfl,hq⟩:=hr₂
          repeat (any_goals (first | assumption | wp_step))
        | _=>exact hr₂.elim
    | _=>exact hr.elim
theorem call_enumS {l : Addr} {items : Array Value} {t : Tok} {Q : Value → Shared → Prop} (hL : s.heap.IsList l items)
    (h : ∀ h',IsEnum h' (s.heap.objs.size + 1) s.heap.objs.size 2 .none → h'.IsListIter s.heap.objs.size l 0 → h'.objs.size = s.heap.objs.size + 2 →
      (∀ b o,s.heap.get? b = some o → h'.get? b = some o) → Q (.ref (s.heap.objs.size + 1)) { s with heap:=h' }) :
    wpAny (model prog w) A (call (.type "enumerate") [.ref l] [("start",.int 2 t)]) Q E s:=by
  obtain ⟨⟨c,dct,dt,sl⟩,hl,hc,n,hd⟩:=hL
  replace hc : c = .type "list":=hc
  replace hd : dt = .seq items n:=hd
  subst hc hd
  refine callType_kw (Q₁:=fun obj s₁=>s₁.TypeIs obj "enumerate" ∧ Q obj s₁) F.called_enumerate (typeCall_enumS _ _) (newCall_enumS _ _) F.entry_enumerate_new F.entry_object_init (meets_enum_start l items n dct sl t) ⟨hl,?_⟩ fun obj _ hq =>
    ⟨hq.1,args_initS obj _ _,_,init_meetsK F.called_enumerate.init.lookup F.called_enumerate.made (by decide) (List.cons_ne_nil _ _),hq.1,rfl,hq.2⟩
  have hz : (s.heap.push { cls:=.type "list_iterator",data:=.fields #[.ref l,.int 0 0] }).objs.size = s.heap.objs.size + 1:=Heap.size_push ..
  show _ ∧ _
  rw [hz]
  have he : IsEnum ((s.heap.push { cls:=.type "list_iterator",data:=.fields #[.ref l,.int 0 0] }).push
      { cls:=.type "enumerate",data:=.fields #[.none,.bool false,.ref s.heap.objs.size,rawInt 2,.none,.none] }) (s.heap.objs.size + 1) s.heap.objs.size 2 .none:=by
    have:=Heap.get?_push_size (s.heap.push { cls:=.type "list_iterator",data:=.fields #[.ref l,.int 0 0] })
      (o:={ cls:=.type "enumerate",data:=.fields #[.none,.bool false,.ref s.heap.objs.size,rawInt 2,.none,.none] }) rfl
    rw [hz] at this; exact this
  exact ⟨⟨_,he,rfl⟩,h _ he ⟨_,Heap.get?_push_of_some _ (Heap.get?_push_size _ rfl),rfl,rfl⟩ (by rw [Heap.size_push,hz]) fun b o x=>Heap.get?_push_of_some _ (Heap.get?_push_of_some _ x)⟩
theorem callWith_typeK {M : Model} {A : Around} {E : Value → Shared → Prop} {s : Shared} {pos : Pos} {T : String} {args : List (Bool × Sem Value)} {keywords : List (Option Str × Sem Value)} {Q : Value → Shared → Prop}
    (hplain : args.any (·.1) = false) (hkw : keywords.any (·.1.isNone) = false)
    (h : wpAny M A (evalArgs (.type T) true args keywords) (fun a s₁=>wpAny M A (call (.type T) a.pos a.kw) Q E s₁) E s) :
    wpAny M A (callWith pos (.type T) [] args keywords) Q E s:=by
  unfold callWith
  refine wpAny_bind (wpAny_holding (wpAny_mono h (fun a s₁ h₁=>wpAny_bind (wpAny_standAt ?_)) fun _ _ x=>x))
  simp only [hplain,hkw,Bool.or_false]
  refine wpAny_bind (wpAny_pure ?_)
  exact wpAny_bind (wpAny_mono h₁ (fun r s₂ hr=>wpAny_bind (wpAny_holding (wpAny_point (wpAny_pure hr)))) fun _ _ x=>x)
end
section
variable {X : Cx}
def iEnumS (K : PySem.W.Frag) (ta : TA) : TI:=fun σ H R=>ta σ H fun vs H1=>∃ a,vs = [.ref a] ∧ (∃ xs,SqL K H1 a xs) ∧ R (IteS K a) H1
theorem pi_enumS {elts : List Expr} {x1} {pt : Pos} {a : Expr} {ta : TA} {p pos kp p2 : Pos} {k2 : Nat} (hg : Gl X "enumerate") (hm : X.mg "enumerate" = none) (ha : PA X [a] ta) (hs : starEach [a] X.env = [(false,eval a X.env)]:=by rfl) :
    PI X (.Tuple elts x1 pt) (.Call (.Name "enumerate" p) [a] [⟨some "start",.Constant (.int 2) k2 p2,kp⟩] pos) (iEnumS X.K ta):=by
  intro pins s σ H R I h
  have ha':=ha pos pins s σ H _ I h
  refine wpAny_Call_Name_kw (ld_blt I hg hm boot_enumerate (callWith_typeK (by rw [hs]; rfl) rfl ?_))
  rw [hs] at ha' ⊢
  refine evalArgs_kwB rfl (thn ha' fun us s1 ⟨vs,H1,I1,r1,q1⟩=>kws_cons (wpAny_Constant_int (kws_nil ?_)))
  obtain ⟨l,rfl,⟨xs,hq⟩,q⟩:=q1
  cases r1 with
  | cons r rr =>
    cases rr
    cases r
    have I1':=I1.tok (s1.toks + 1)
    obtain ⟨its,rv,p,hz⟩:=I1'.list hq
    show wpAny _ _ (call (.type "enumerate") [.ref l] [("start",.int 2 s1.toks)]) _ _ _
    refine call_enumS p.isList fun h' he hit hsz hk=>?_
    refine wpAny_pyIter_enum he ?_
    have I2 : Inv X pins σ H1 { s1 with heap:=h',toks:=s1.toks + 1 }:=I1'.kept (t':=s1.toks + 1) hk
    have hl : l < s1.heap.objs.size:=by
      obtain ⟨_,z,_⟩:=p.isList
      exact Heap.lt_size z
    refine ⟨s1.heap.objs.size + 1,[s1.heap.objs.size + 1,s1.heap.objs.size],_,_,H1,rfl,I2,turn_enumS l _ _ (Nat.succ_ne_self _) (Nat.ne_of_lt (Nat.lt_succ_of_lt hl)) (Nat.ne_of_lt hl),⟨⟨_,he⟩,hit⟩,fun b hb=>?_,q⟩
    rcases List.mem_cons.mp hb with rfl | hb
    · exact I1.fpOk (Nat.le_succ _) (I1.hok.fresh (Nat.le_succ _))
    · have e : b = s1.heap.objs.size:=by simpa using hb
      subst e
      exact I1.fpOk (Nat.le_refl _) (I1.hok.fresh (Nat.le_refl _))
end
end L2
namespace Tx
open PySem PySem.W PyProof.Rows PySem.StrLaws PySem.Builtin PySem.Builtin.Str
abbrev sg (c : Nat) : Str:=⟨#[c]⟩
abbrev ls (x : Str) : List Nat:=x.cps.toList
theorem ext {a b : Str} (h : ls a = ls b) : a = b:=PySem.Str.ext' (Array.toList_inj.mp h)
theorem ls_app (a b : Str) : ls (a ++ b) = ls a ++ ls b:=by
  show (a.cps ++ b.cps).toList = _
  rw [Array.toList_append]
theorem len_ls (a : Str) : a.length = (ls a).length:=by
  show a.cps.size = a.cps.toList.length
  simp
theorem cut_uniq {c : Nat} : ∀ {a b r s : List Nat},c ∉ a → c ∉ b → a ++ c :: r = b ++ c :: s → a = b ∧ r = s
  | [],[],r,s,_,_,e=>by simp at e; exact ⟨rfl,e⟩
  | [],y :: b,r,s,_,hb,e=>by
    simp at e
    exact absurd e.1 (fun z=>hb (by rw [z]; simp))
  | x :: a,[],r,s,ha,_,e=>by
    simp at e
    exact absurd e.1.symm (fun z=>ha (by rw [z]; simp))
  | x :: a,y :: b,r,s,ha,hb,e=>by
    simp at e
    obtain ⟨rfl,e⟩:=e
    obtain ⟨rfl,rfl⟩:=cut_uniq (fun h=>ha (by simp [h])) (fun h=>hb (by simp [h])) e
    exact ⟨rfl,rfl⟩
theorem ls_join_cons (c : Nat) (x y : Str) (r : List Str) : ls (PySem.Str.join (sg c) (x :: y :: r)) = ls x ++ c :: ls (PySem.Str.join (sg c) (y :: r)):=by
  rw [PyProof.Rows.join_cons_cons,ls_app,ls_app,List.append_assoc]
  rfl
theorem join_free {c : Nat} {x : Str} (h : c ∉ ls x) : ∀ {l : List Str},l ≠ [] → PySem.Str.join (sg c) l = x → l = [x]
  | [],hl,_=>absurd rfl hl
  | [y],_,e=>by rw [PyProof.Rows.join_one] at e; rw [e]
  | y :: z :: r,_,e=>by
    refine absurd ?_ h
    rw [← e,ls_join_cons]
    simp
theorem join_inj {c : Nat} : ∀ {l m : List Str},l ≠ [] → m ≠ [] → (∀ x ∈ l,c ∉ ls x) → (∀ x ∈ m,c ∉ ls x) → PySem.Str.join (sg c) l = PySem.Str.join (sg c) m → l = m
  | [],_,hl,_,_,_,_=>absurd rfl hl
  | [x],m,_,hm,fx,_,e=>by
    rw [PyProof.Rows.join_one] at e
    exact (join_free (fx x (by simp)) hm e.symm).symm
  | x :: y :: r,[z],hl,_,_,fm,e=>by
    rw [PyProof.Rows.join_one (sg c) z] at e
    exact join_free (fm z (by simp)) hl e
  | x :: y :: r,[],_,hm,_,_,_=>absurd rfl hm
  | x :: y :: r,z :: w :: s,_,_,fl,fm,e=>by
    have e':=congrArg ls e
    rw [ls_join_cons,ls_join_cons] at e'
    obtain ⟨h1,h2⟩:=cut_uniq (fl x (by simp)) (fm z (by simp)) e'
    have h3:=join_inj (List.cons_ne_nil y r) (List.cons_ne_nil w s) (fun q hq=>fl q (List.mem_cons_of_mem _ hq)) (fun q hq=>fm q (List.mem_cons_of_mem _ hq)) (ext h2)
    rw [ext h1,h3]
theorem split_ne (x y : Str) : Txt.split x y ≠ []:=by
  unfold Txt.split
  split
  · exact List.cons_ne_nil _ _
  · split
    · exact List.cons_ne_nil _ _
    · rw [partsBetween_eq]
      obtain ⟨p,r,e⟩:=partsFrom_ne x y.length 0 (occurrences x y 0 x.length (x.length + 1))
      rw [e]
      exact List.cons_ne_nil _ _
theorem split_join {c : Nat} {l : List Str} (hl : l ≠ []) (h : ∀ x ∈ l,c ∉ ls x) : Txt.split (PySem.Str.join (sg c) l) (sg c) = l :=
  join_inj (split_ne _ _) hl (split_free _ c) h (join_split _ _)
theorem part_cut {c : Nat} {a b : Str} (h : c ∉ ls a) : Txt.partition (a ++ sg c ++ b) (sg c) = (a,sg c,b):=by
  have hx : ls (a ++ sg c ++ b) = ls a ++ c :: ls b:=by
    rw [ls_app,ls_app,List.append_assoc]
    rfl
  have hl : (a ++ sg c ++ b).length = (ls a).length + 1 + (ls b).length:=by
    rw [len_ls,hx]
    simp
    omega
  have atA : At (a ++ sg c ++ b) (sg c) (a ++ sg c ++ b).length (ls a).length:=by
    refine ⟨by rw [hl]; show _ + 1 ≤ _; omega,?_⟩
    rw [subAt_eq]
    show ((ls (a ++ sg c ++ b)).drop _ |>.take 1) == [c]
    rw [hx]
    simp
  have noA : ∀ k,k < (ls a).length → ¬ At (a ++ sg c ++ b) (sg c) (a ++ sg c ++ b).length k:=fun k hk z=>by
    have z2:=z.2
    rw [subAt_eq] at z2
    have z3 : ((ls (a ++ sg c ++ b)).drop k).take 1 = [c]:=eq_of_beq z2
    rw [hx,List.drop_append_of_le_length (by omega)] at z3
    have hd : (ls a).drop k = (ls a)[k] :: (ls a).drop (k + 1):=List.drop_eq_getElem_cons hk
    rw [hd] at z3
    simp at z3
    exact h (by rw [← z3]; exact List.getElem_mem hk)
  unfold Txt.partition
  rcases occ_head (a ++ sg c ++ b) (sg c) 1 (Nat.le_refl _) with ⟨_,hn⟩ | ⟨i,r,e,hi,hlt⟩
  · exact absurd atA (hn _)
  · have hi' : i = (ls a).length:=by
      rcases Nat.lt_trichotomy i (ls a).length with q | q | q
      · exact absurd hi (noA i q)
      · exact q
      · exact absurd atA (hlt _ q)
    subst hi'
    rw [e]
    have e1 : strSub (a ++ sg c ++ b) 0 (ls a).length = a:=ext (by
      show ls _ = _
      rw [show ls (strSub (a ++ sg c ++ b) 0 (ls a).length) = _ from strSub_toList _ _ _]
      show ((ls (a ++ sg c ++ b)).drop 0).take _ = _
      rw [hx]
      simp)
    have e2 : strSub (a ++ sg c ++ b) ((ls a).length + (sg c).length) (a ++ sg c ++ b).length = b:=ext (by
      rw [show ls (strSub (a ++ sg c ++ b) ((ls a).length + (sg c).length) (a ++ sg c ++ b).length) = _ from strSub_toList _ _ _]
      show ((ls (a ++ sg c ++ b)).drop ((ls a).length + 1)).take _ = _
      rw [hx,hl]
      have e3 : (ls a ++ c :: ls b).drop ((ls a).length + 1) = ls b:=by
        rw [List.drop_append]
        simp
      rw [e3]
      exact List.take_of_length_le (by show _ ≤ _ - ((ls a).length + 1); omega))
    show (strSub (a ++ sg c ++ b) 0 (ls a).length,sg c,strSub (a ++ sg c ++ b) ((ls a).length + (sg c).length) (a ++ sg c ++ b).length) = _
    rw [e1,e2]
abbrev num (n : Int) : Str:=PySem.Str.ofString (toString n)
theorem num_free {n : Int} (h0 : 0 ≤ n) {k : Nat} (hk : k < 48 ∨ 57 < k) : k ∉ ls (num n):=by
  obtain ⟨m,rfl⟩:=Int.eq_ofNat_of_zero_le h0
  intro hc
  rw [show ls (num (m : Int)) = _ from KIN.signs_num m] at hc
  obtain ⟨ch,hch,e⟩:=List.mem_map.mp hc
  have r:=digit_range (Nat.isDigit_of_mem_toDigits (by decide) (by decide) hch)
  omega
theorem num_len {n : Int} (h0 : 0 ≤ n) (h1 : n ≤ 1000000000) : (num n).length ≤ 10:=KT.len_num h0 (by omega)
theorem num_read {n : Int} (h0 : 0 ≤ n) (h1 : n ≤ 1000000000) : PySem.intText? (num n) = some n:=KIN.num_reads h0 (by omega)
theorem num_small {n : Int} (h0 : 0 ≤ n) (h1 : n ≤ 1000000000) : n.natAbs.log2 < 1920:=by
  by_cases z : n.natAbs = 0
  · rw [z]; decide
  · have h31 : (2 : Nat) ^ 31 = 2147483648:=by decide
    have h32:=Nat.log2_lt (k:=31) z |>.mpr (by omega)
    omega
def hardT (a b : Int) : Str:=if b = 1 then num a else num a ++ sg 47 ++ num b
def rowT (u w a b : Int) : Str:=num u ++ sg 45 ++ num w ++ sg 32 ++ hardT a b
def wordP : Str:=⟨#[112,108,97,99,101,115]⟩
def firstT (n : Int) : Str:=wordP ++ sg 32 ++ num n
theorem app_free {k : Nat} {a b : Str} (ha : k ∉ ls a) (hb : k ∉ ls b) : k ∉ ls (a ++ b):=by
  rw [ls_app]
  intro z
  rcases List.mem_append.mp z with z | z
  · exact ha z
  · exact hb z
theorem sg_free {k c : Nat} (h : k ≠ c) : k ∉ ls (sg c):=by
  show k ∉ [c]
  simpa using h
theorem app_len (a b : Str) : (a ++ b).length = a.length + b.length:=PySem.Str.length_append a b
theorem hard_len {a b : Int} (a0 : 0 ≤ a) (aM : a ≤ 1000000000) (b0 : 0 ≤ b) (bM : b ≤ 1000000000) : (hardT a b).length ≤ 21:=by
  have h1:=num_len a0 aM
  have h2:=num_len b0 bM
  unfold hardT
  split
  · omega
  · rw [app_len,app_len]
    show _ + 1 + _ ≤ 21
    omega
theorem row_len {u w a b : Int} (u0 : 0 ≤ u) (uM : u ≤ 1000000000) (w0 : 0 ≤ w) (wM : w ≤ 1000000000) (a0 : 0 ≤ a) (aM : a ≤ 1000000000) (b0 : 0 ≤ b) (bM : b ≤ 1000000000) : (rowT u w a b).length ≤ 50:=by
  have h1:=num_len u0 uM
  have h2:=num_len w0 wM
  have h3:=hard_len a0 aM b0 bM
  unfold rowT
  rw [app_len,app_len,app_len,app_len]
  show _ + 1 + _ + 1 + _ ≤ 50
  omega
theorem first_len {n : Int} (n0 : 0 ≤ n) (nM : n ≤ 1000000000) : (firstT n).length ≤ 50:=by
  have h1:=num_len n0 nM
  unfold firstT
  rw [app_len,app_len]
  show 6 + 1 + _ ≤ 50
  omega
theorem hard_free {a b : Int} (a0 : 0 ≤ a) (b0 : 0 ≤ b) {k : Nat} (hk : k < 47) : k ∉ ls (hardT a b):=by
  unfold hardT
  split
  · exact num_free a0 (.inl (by omega))
  · exact app_free (app_free (num_free a0 (.inl (by omega))) (sg_free (by omega))) (num_free b0 (.inl (by omega)))
theorem row_free {u w a b : Int} (u0 : 0 ≤ u) (w0 : 0 ≤ w) (a0 : 0 ≤ a) (b0 : 0 ≤ b) : 10 ∉ ls (rowT u w a b) :=
  app_free (app_free (app_free (app_free (num_free u0 (.inl (by decide))) (sg_free (by decide))) (num_free w0 (.inl (by decide)))) (sg_free (by decide))) (hard_free a0 b0 (by decide))
theorem first_free {n : Int} (n0 : 0 ≤ n) : 10 ∉ ls (firstT n):=app_free (app_free (by decide) (sg_free (by decide))) (num_free n0 (.inl (by decide)))
theorem first_part {n : Int} : Txt.partition (firstT n) (sg 32) = (wordP,sg 32,num n):=part_cut (by decide)
theorem row_part {u w a b : Int} (u0 : 0 ≤ u) (w0 : 0 ≤ w) : Txt.partition (rowT u w a b) (sg 32) = (num u ++ sg 45 ++ num w,sg 32,hardT a b) :=
  part_cut (app_free (app_free (num_free u0 (.inl (by decide))) (sg_free (by decide))) (num_free w0 (.inl (by decide))))
theorem two_join (c : Nat) (a b : Str) : a ++ sg c ++ b = PySem.Str.join (sg c) [a,b]:=by
  rw [PyProof.Rows.join_cons_cons,PyProof.Rows.join_one]
end Tx
namespace L2
open PySem
theorem for_enumS {K : PySem.W.Frag} {a : Addr} {xs : List V} {g : TG} {tb : TS} {D : Ends} {σ : St} {H : Hp} (Pv : Nat → St → Hp → Prop) (h0 : Pv 0 σ H) (hl : ∀ i σ H,i ≤ xs.length → Pv i σ H → SqL K H a xs)
    (hs : ∀ i x σ H p,xs[i]? = some x → Pv i σ H → H p = none → g (.ref p) σ (upd H p (.tup [.int ((i + 2 : Nat) : Int),x])) fun σ2 H2=>tb { D with nx:=Pv (i + 1),ct:=Pv (i + 1),bk:=D.nx } σ2 H2) (hd : ∀ σ H,Pv xs.length σ H → D.nx σ H) :
    ∃ W : Nat → Nat → St → Hp → Prop,(∃ m,W 0 m σ H) ∧ ∀ i m σ H,W i m σ H →
      ((IteS K a).stop i H ∧ D.nx σ H) ∨ ((IteS K a).go i H ∧ ∃ N : St → Hp → Prop,(∀ σ' H',N σ' H' → ∃ m',m' < m ∧ W (i + 1) m' σ' H') ∧ ∀ x H',(IteS K a).yld i H x H' → g x σ H' fun σ2 H2=>tb { D with nx:=N,ct:=N,bk:=D.nx } σ2 H2):=by
  refine ⟨fun i m σ H=>m = xs.length - i ∧ i ≤ xs.length ∧ Pv i σ H,⟨xs.length,by simp,Nat.zero_le _,h0⟩,?_⟩
  rintro i m σ H ⟨rfl,hi,p⟩
  have q:=hl i σ H hi p
  by_cases hlt : i < xs.length
  · refine .inr ⟨⟨xs,xs[i],q,by simp [hlt]⟩,Pv (i + 1),fun σ' H' p'=>⟨xs.length - (i + 1),by omega,rfl,hlt,p'⟩,fun x H' y=>?_⟩
    obtain ⟨pa,y',rfl,hp,rfl,y⟩:=y
    exact hs i y' σ _ pa (y xs q) p hp
  · have e : i = xs.length:=by omega
    subst e
    exact .inl ⟨⟨xs,q,rfl⟩,hd σ H p⟩
end L2
namespace My
theorem gcd_turn (x y : Int) (hx : 0 ≤ x) (hy : 0 < y) : Nat.gcd y.natAbs (x % y).natAbs = Nat.gcd x.natAbs y.natAbs:=by
  obtain ⟨m,rfl⟩:=Int.eq_ofNat_of_zero_le hx
  obtain ⟨n,rfl⟩:=Int.eq_ofNat_of_zero_le (Int.le_of_lt hy)
  have e : ((m : Int) % (n : Int)) = ((m % n : Nat) : Int):=(Int.natCast_emod m n).symm
  rw [e]
  simp only [Int.natAbs_natCast]
  rw [Nat.gcd_comm n,← Nat.gcd_rec,Nat.gcd_comm]
end My
namespace Mp
structure Pipe where
  u : Int
  w : Int
  a : Int
  b : Int
def Adj (ps : List Pipe) (x y : Int) : Prop:=∃ p ∈ ps,(p.u = x ∧ p.w = y) ∨ (p.w = x ∧ p.u = y)
inductive Reach (ps : List Pipe) (s : Int) : Int → Prop
  | refl : Reach ps s s
  | step {x y : Int} : Reach ps s x → Adj ps x y → Reach ps s y
structure Good (n : Int) (ps : List Pipe) (s : Int) (S : List Int) : Prop where
  has : s ∈ S
  nd : S.Nodup
  rch : ∀ x ∈ S,Reach ps s x
  fit : ∀ x ∈ S,0 ≤ x ∧ x < n
end Mp
namespace Mp
def nb (ps : List Pipe) (x : Int) : List Int:=(ps.filter fun p=>decide (p.u = x)).map (·.w) ++ (ps.filter fun p=>decide (p.w = x)).map (·.u)
structure Walk (n : Int) (ps : List Pipe) (s : Int) (R W : List Int) : Prop where
  good : Good n ps s R
  sub : ∀ x ∈ W,x ∈ R
  don : ∀ x ∈ R,x ∉ W → ∀ y,Adj ps x y → y ∈ R
structure Turn (n : Int) (ps : List Pipe) (s : Int) (z : Int) (i : Nat) (R W : List Int) : Prop where
  good : Good n ps s R
  sub : ∀ x ∈ W,x ∈ R
  inn : z ∈ R
  don : ∀ x ∈ R,x ∉ W → x = z ∨ ∀ y,Adj ps x y → y ∈ R
  saw : ∀ j,j < i → ∀ y,(nb ps z)[j]? = some y → y ∈ R
end Mp
namespace K2
open PySem L2 Mp
def top (i : Nat) : Stmt:=PySem.Challenge.pw_splitstream_k10_nets_read_and_written.main.body.getD i (.Pass ⟨0,0,0,0⟩)
abbrev s_is_whole : Stmt:=top 6
theorem sc_is_whole : FnScope ["value"] ["value"] (defScope s_is_whole):=⟨rfl,rfl,rfl,by decide +kernel,rfl,by decide +kernel,by decide +kernel⟩
abbrev s_is_fraction : Stmt:=top 7
theorem sc_is_fraction : FnScope ["value"] ["value"] (defScope s_is_fraction):=⟨rfl,rfl,rfl,by decide +kernel,rfl,by decide +kernel,by decide +kernel⟩
abbrev s_common_divisor : Stmt:=top 8
theorem sc_common_divisor : FnScope ["a","b","one","other","rest"] ["a","b"] (defScope s_common_divisor):=⟨rfl,rfl,rfl,by decide +kernel,rfl,by decide +kernel,by decide +kernel⟩
abbrev s_counts_one_of : Stmt:=top 13
theorem sc_counts_one_of : FnScope ["value","many"] ["value","many"] (defScope s_counts_one_of):=⟨rfl,rfl,rfl,by decide +kernel,rfl,by decide +kernel,by decide +kernel⟩
abbrev s_is_hardness : Stmt:=top 14
theorem sc_is_hardness : FnScope ["value"] ["value"] (defScope s_is_hardness):=⟨rfl,rfl,rfl,by decide +kernel,rfl,by decide +kernel,by decide +kernel⟩
abbrev s_is_pipe : Stmt:=top 15
theorem sc_is_pipe : FnScope ["value","places"] ["value","places"] (defScope s_is_pipe):=⟨rfl,rfl,rfl,by decide +kernel,rfl,by decide +kernel,by decide +kernel⟩
abbrev s_is_net : Stmt:=top 16
theorem sc_is_net : FnScope ["places","pipes"] ["places","pipes"] (defScope s_is_net):=⟨rfl,rfl,rfl,by decide +kernel,rfl,by decide +kernel,by decide +kernel⟩
abbrev s_Net___init__ : Stmt:=inClass (top 17) 0
theorem sc_Net___init__ : FnScope ["self","places","pipes"] ["self","places","pipes"] (defScope s_Net___init__):=⟨rfl,rfl,rfl,by decide +kernel,rfl,by decide +kernel,by decide +kernel⟩
abbrev s_Net_pipes : Stmt:=inClass (top 17) 1
theorem sc_Net_pipes : FnScope ["self"] ["self"] (defScope s_Net_pipes):=⟨rfl,rfl,rfl,by decide +kernel,rfl,by decide +kernel,by decide +kernel⟩
abbrev s_first_row : Stmt:=top 19
theorem sc_first_row : FnScope ["places"] ["places"] (defScope s_first_row):=⟨rfl,rfl,rfl,by decide +kernel,rfl,by decide +kernel,by decide +kernel⟩
abbrev s_hardness_text : Stmt:=top 20
theorem sc_hardness_text : FnScope ["hardness","first","second"] ["hardness"] (defScope s_hardness_text):=⟨rfl,rfl,rfl,by decide +kernel,rfl,by decide +kernel,by decide +kernel⟩
abbrev s_pipe_row : Stmt:=top 21
theorem sc_pipe_row : FnScope ["pipe","one","other","hardness"] ["pipe"] (defScope s_pipe_row):=⟨rfl,rfl,rfl,by decide +kernel,rfl,by decide +kernel,by decide +kernel⟩
abbrev s_written : Stmt:=top 22
theorem sc_written : FnScope ["net"] ["net"] (defScope s_written):=⟨rfl,rfl,rfl,by decide +kernel,rfl,by decide +kernel,by decide +kernel⟩
abbrev s_number_in : Stmt:=top 23
theorem sc_number_in : FnScope ["text"] ["text"] (defScope s_number_in):=⟨rfl,rfl,rfl,by decide +kernel,rfl,by decide +kernel,by decide +kernel⟩
abbrev s_numbers_in : Stmt:=top 24
theorem sc_numbers_in : FnScope ["text","sign"] ["text","sign"] (defScope s_numbers_in):=⟨rfl,rfl,rfl,by decide +kernel,rfl,by decide +kernel,by decide +kernel⟩
abbrev s_places_in : Stmt:=top 25
theorem sc_places_in : FnScope ["row"] ["row"] (defScope s_places_in):=⟨rfl,rfl,rfl,by decide +kernel,rfl,by decide +kernel,by decide +kernel⟩
abbrev s_pipe_in : Stmt:=top 26
theorem sc_pipe_in : FnScope ["row","halves","places","hardness"] ["row"] (defScope s_pipe_in):=⟨rfl,rfl,rfl,by decide +kernel,rfl,by decide +kernel,by decide +kernel⟩
abbrev s_read : Stmt:=top 27
theorem sc_read : FnScope ["text","rows","places","pipes","number","row","pipe"] ["text"] (defScope s_read):=⟨rfl,rfl,rfl,by decide +kernel,rfl,by decide +kernel,by decide +kernel⟩
abbrev s__law_cell_at : Stmt:=top 29
theorem sc__law_cell_at : FnScope ["_law_script","_law_k"] ["_law_script","_law_k"] (defScope s__law_cell_at):=⟨rfl,rfl,rfl,by decide +kernel,rfl,by decide +kernel,by decide +kernel⟩
abbrev s__law_draw : Stmt:=top 30
theorem sc__law_draw : FnScope ["_law_cell","_law_k","_law_many","_law_primes","_law_blend"] ["_law_cell","_law_k","_law_many"] (defScope s__law_draw):=⟨rfl,rfl,rfl,by decide +kernel,rfl,by decide +kernel,by decide +kernel⟩
abbrev s__law_least : Stmt:=top 31
theorem sc__law_least : FnScope ["_law_a","_law_b","_law_one","_law_other"] ["_law_a","_law_b"] (defScope s__law_least):=⟨rfl,rfl,rfl,by decide +kernel,rfl,by decide +kernel,by decide +kernel⟩
abbrev s__law_told : Stmt:=top 32
theorem sc__law_told : FnScope ["_law_script","_law_first","_law_most","_law_cell","_law_other","_law_third","_law_places","_law_pipes","_law_k","_law_here","_law_there"] ["_law_script","_law_first","_law_most"] (defScope s__law_told):=⟨rfl,rfl,rfl,by decide +kernel,rfl,by decide +kernel,by decide +kernel⟩
abbrev s__law_plain : Stmt:=top 34
theorem sc__law_plain : FnScope ["_law_told_here","_law_rows","_law_here","_law_there","_law_hardness","_law_text"] ["_law_told_here"] (defScope s__law_plain):=⟨rfl,rfl,rfl,by decide +kernel,rfl,by decide +kernel,by decide +kernel⟩
abbrev s_law : Stmt:=top 35
theorem sc_law : FnScope ["_law_script","_law_places","_law_pipes","_law_hardness","_law_text","_law_found","_law_eight"] ["_law_script"] (defScope s_law):=⟨rfl,rfl,rfl,by decide +kernel,rfl,by decide +kernel,by decide +kernel⟩
theorem bt_int : bootBuiltins "int" = some (.type "int"):=by decide +kernel
theorem bt_bool : bootBuiltins "bool" = some (.type "bool"):=by decide +kernel
theorem bt_tuple : bootBuiltins "tuple" = some (.type "tuple"):=by decide +kernel
theorem bt_list : bootBuiltins "list" = some (.type "list"):=by decide +kernel
theorem bt_abs : bootBuiltins "abs" = some (.builtin "abs"):=by decide +kernel
theorem bt_len : bootBuiltins "len" = some (.builtin "len"):=by decide +kernel
theorem bt_min : bootBuiltins "min" = some (.builtin "min"):=by decide +kernel
theorem bt_max : bootBuiltins "max" = some (.builtin "max"):=by decide +kernel
theorem bt_all : bootBuiltins "all" = some (.builtin "all"):=by decide +kernel
theorem bt_str : bootBuiltins "str" = some (.type "str"):=by decide +kernel
theorem ps_never {X : Cx} {st : Stmt} : PS X st (fun _ _ _=>False):=fun _ _ _ _ _ _ h=>h.elim
structure Txt (K : PySem.W.Frag) (mg : Str → Option Value) (C : Addr) (t1 t2 t3 : Tok) : Prop where
  n_isinstance : mg "isinstance" = none
  n_int : mg "int" = none
  n_bool : mg "bool" = none
  n_abs : mg "abs" = none
  n_len : mg "len" = none
  n_tuple : mg "tuple" = none
  n_list : mg "list" = none
  n_min : mg "min" = none
  n_max : mg "max" = none
  n_range : mg "range" = none
  n_all : mg "all" = none
  n_sorted : mg "sorted" = none
  n_enumerate : mg "enumerate" = none
  n_reversed : mg "reversed" = none
  n_zip : mg "zip" = none
  n_sum : mg "sum" = none
  n_any : mg "any" = none
  n_ValueError : mg "ValueError" = none
  n_str : mg "str" = none
  m_MOST_PLACES : mg "MOST_PLACES" = some (.int 8 t1)
  m_MOST_PIPES : mg "MOST_PIPES" = some (.int 28 t2)
  m_MOST_IN_HARDNESS : mg "MOST_IN_HARDNESS" = some (.int 1000000000 t3)
  c_Net : Cls K C
  a_size : NoAttr K C "size"
  a_laid : NoAttr K C "laid"
def PipeAt (K : PySem.W.Frag) (H : Hp) (v : V) (p : Pipe) : Prop:=∃ x y,v = .ref x ∧ SqT K H x [.int p.u,.int p.w,.ref y] ∧ SqT K H y [.int p.a,.int p.b]
abbrev PipesAt (K : PySem.W.Frag) (H : Hp) : List V → List Pipe → Prop:=Paired (PipeAt K H)
structure PipeOk (n : Int) (p : Pipe) : Prop where
  u0 : 0 ≤ p.u
  un : p.u < n
  w0 : 0 ≤ p.w
  wn : p.w < n
  ne : p.u ≠ p.w
  a1 : 1 ≤ p.a
  aM : p.a ≤ 1000000000
  b1 : 1 ≤ p.b
  bM : p.b ≤ 1000000000
  gc : Int.gcd p.a p.b = 1
structure NetOk (n : Int) (ps : List Pipe) : Prop where
  n1 : 1 ≤ n
  n8 : n ≤ 8
  ok : ∀ p ∈ ps,PipeOk n p
  le : ps.length ≤ 28
def spWhole : Sp:=fun vs H Q _=>∃ i : Int,vs = [.int i] ∧ Q (.bl true) H
def spGcd : Sp:=fun vs H Q _=>∃ a b : Int,vs = [.int a,.int b] ∧ Q (.int (Int.gcd a b : Int)) H
def spFraction (K : PySem.W.Frag) : Sp:=fun vs H Q _=>∃ (y : Addr) (a b : Int),vs = [.ref y] ∧ SqT K H y [.int a,.int b] ∧ 0 < b ∧ Int.gcd a b = 1 ∧ Q (.bl true) H
def spCounts : Sp:=fun vs H Q _=>∃ i n : Int,vs = [.int i,.int n] ∧ 0 ≤ i ∧ i < n ∧ Q (.bl true) H
def spHard (K : PySem.W.Frag) : Sp:=fun vs H Q _=>∃ (y : Addr) (a b : Int),vs = [.ref y] ∧ SqT K H y [.int a,.int b] ∧ (1 ≤ a ∧ a ≤ 1000000000) ∧ (1 ≤ b ∧ b ≤ 1000000000) ∧ Int.gcd a b = 1 ∧ Q (.bl true) H
def spPipe (K : PySem.W.Frag) : Sp:=fun vs H Q _=>∃ (v : V) (n : Int) (p : Pipe),vs = [v,.int n] ∧ PipeAt K H v p ∧ PipeOk n p ∧ Q (.bl true) H
def spNet (K : PySem.W.Frag) : Sp:=fun vs H Q _=>∃ (n : Int) (l : Addr) (us : List V) (ps : List Pipe),vs = [.int n,.ref l] ∧ SqL K H l us ∧ PipesAt K H us ps ∧ NetOk n ps ∧ ∀ H',Same H H' → Q (.bl true) H'
section
variable {K : PySem.W.Frag}
theorem ty_int {H : Hp} (i : Int) : TyX K H (.int i) (.type "int"):=.of (.int i)
theorem ii : PySem.W.kitOne K (.type "int") (.type "int") = some true:=by rfl
theorem ib : PySem.W.kitOne K (.type "int") (.type "bool") = some false:=by rfl
theorem tt : PySem.W.kitOne K (.type "tuple") (.type "tuple") = some true:=by rfl
theorem ll : PySem.W.kitOne K (.type "list") (.type "list") = some true:=by rfl
end
section
variable {P : Program} {w : World} {K : PySem.W.Frag} {mg : Str → Option Value} {base : Heap} {C f fw fg ff fc fh fp : Addr} {fd fdw fdg fdf fdc fdh fdp : FuncData} {t1 t2 t3 : Tok}
theorem ok_whole (F : Fun K "is_whole" "is_whole" s_is_whole f fd) (T : Txt K mg C t1 t2 t3) : FnOk P w K mg base CX0 1 f fd ["value"] spWhole:=by
  refine F.ok sc_is_whole (fun vs H Q E h=>?_) (fun cdv A outer s H vs Q E hr h=>?_)
  · obtain ⟨i,rfl,_⟩:=h
    rfl
  · obtain ⟨i,rfl,q⟩:=h
    refine ⟨_,(pss_one (ps_ret (pe_and (pe_isiB rfl T.n_isinstance (pv 0) rfl T.n_int bt_int) (pe_one (pe_not (pe_isiB rfl T.n_isinstance (pv 0) rfl T.n_bool bt_bool)))))),?_⟩
    exact ⟨_,rfl,_,_,_,_,_,rfl,rfl,ty_int i,ii,_,rfl,iteT ⟨_,rfl,_,_,_,_,_,rfl,rfl,ty_int i,ib,_,rfl,q⟩⟩
theorem ok_gcd (F : Fun K "common_divisor" "common_divisor" s_common_divisor f fd) (T : Txt K mg C t1 t2 t3) : FnOk P w K mg base CX0 1 f fd ["a","b"] spGcd:=by
  refine F.ok sc_common_divisor (fun vs H Q E h=>?_) (fun cdv A outer s H vs Q E hr h=>?_)
  · obtain ⟨a,b,rfl,_⟩:=h
    rfl
  · obtain ⟨a,b,rfl,q⟩:=h
    refine ⟨_,(pss_cons (ps_set (i:=2) sc_common_divisor.nd rfl (Or.inl rfl) (pe_callB call_abs (by rfl) T.n_abs bt_abs (pa_cons (pv 0) pa_nil)))
      (pss_cons (ps_set (i:=3) sc_common_divisor.nd rfl (Or.inl rfl) (pe_callB call_abs (by rfl) T.n_abs bt_abs (pa_cons (pv 1) pa_nil)))
      (pss_cons (ps_while PassesOwn.never (pt_cmpR op_ne (pv 3) pe_int (nomark _)) (pss_cons (ps_set (i:=4) sc_common_divisor.nd rfl (Or.inl rfl) (pe_op op_mod (pv 2) (pv 3)))
      (pss_cons (ps_set (i:=2) sc_common_divisor.nd rfl (Or.inl rfl) (pv 3))
      (pss_one (ps_set (i:=3) sc_common_divisor.nd rfl (Or.inl rfl) (pv 4))))))
      (pss_one (ps_ret (pv 2)))))),?_⟩
    refine ⟨_,rfl,a,rfl,_,rfl,b,rfl,?_⟩
    refine while_by (fun σ H'=>∃ (x y : Int) (z : Option V),σ = [some (.int a),some (.int b),some (.int x),some (.int y),z] ∧ H' = H ∧ 0 ≤ x ∧ 0 ≤ y ∧ Nat.gcd x.natAbs y.natAbs = Int.gcd a b)
      (fun σ _=>match σ with | [_,_,_,some (.int y),_]=>y.natAbs | _=>0) ⟨_,_,none,rfl,rfl,?_,?_,?_⟩ ?_ ?_
    · split <;> omega
    · split <;> omega
    · unfold Int.gcd
      congr 1 <;> (split <;> omega)
    · rintro σ H' ⟨x,y,z,rfl,rfl,hx,hy,hg⟩
      refine ⟨_,rfl,rfl,_,rfl,?_⟩
      refine ite2 (fun h=>?_) (fun h=>?_)
      · have hy' : 0 < y:=by
          have : ¬ y = 0:=by simpa using h
          omega
        refine ⟨_,rfl,_,rfl,_,_,rfl,rfl,hy',_,rfl,_,rfl,⟨y,x % y,_,rfl,rfl,hy,Int.emod_nonneg _ (by omega),?_⟩,?_⟩
        · rw [My.gcd_turn x y hx hy',hg]
        · show (x % y).natAbs < y.natAbs
          have h1:=Int.emod_nonneg x (show y ≠ 0 by omega)
          have h2:=Int.emod_lt_of_pos x hy'
          omega
      · have hy' : y = 0:=by
          have : ¬ ¬ y = 0:=by simpa using h
          exact Classical.not_not.mp this
        subst hy'
        have e : x = (Int.gcd a b : Int):=by
          simp at hg
          omega
        subst e
        exact ⟨_,rfl,q⟩
    · rintro σ H' Q1 Q2 f ⟨v,e1,e2,k',e3,q'⟩
      exact ⟨v,e1,e2,k',e3,f _ _ q'⟩
theorem ok_fraction (F : Fun K "is_fraction" "is_fraction" s_is_fraction f fd) (T : Txt K mg C t1 t2 t3) (m_is_whole : mg "is_whole" = some (.ref fw)) (k_is_whole : PySem.W.keepIn K (.ref fw) = true) (b_is_whole : Binds K fdw ["value"] []) (G_is_whole : FnOk P w K mg base CX0 1 fw fdw ["value"] spWhole)
    (m_common_divisor : mg "common_divisor" = some (.ref fg)) (k_common_divisor : PySem.W.keepIn K (.ref fg) = true) (b_common_divisor : Binds K fdg ["a","b"] []) (G_common_divisor : FnOk P w K mg base CX0 1 fg fdg ["a","b"] spGcd) : FnOk P w K mg base CX0 2 f fd ["value"] (spFraction K):=by
  refine F.ok sc_is_fraction (fun vs H Q E h=>?_) (fun cdv A outer s H vs Q E hr h=>?_)
  · obtain ⟨y,a,b,rfl,_⟩:=h
    rfl
  · obtain ⟨y,a,b,rfl,hy,hb,hg,q⟩:=h
    refine ⟨_,(pss_cons (ps_if (PW.pt (pw_or (pt_not (pt_val (pe_isiB rfl T.n_isinstance (pv 0) rfl T.n_tuple bt_tuple))) (pw_or1 (pt_cmpR op_ne (pe_callB call_len_seq (by rfl) T.n_len bt_len (pa_cons (pv 0) pa_nil)) pe_int (nomark _))))) (pss_one (ps_ret pe_bl)) pss_nil)
      (pss_cons (ps_if (PW.pt (pw_or (pt_not (pt_val (pe_call G_is_whole (hr.mono (by decide)) rfl m_is_whole k_is_whole b_is_whole .nil pass0 (pa_cons (pe_ix ix_tup (pv 0) pe_int (fun _ _=>rfl)) pa_nil)))) (pw_or1 (pt_not (pt_val (pe_call G_is_whole (hr.mono (by decide)) rfl m_is_whole k_is_whole b_is_whole .nil pass0 (pa_cons (pe_ix ix_tup (pv 0) pe_int (fun _ _=>rfl)) pa_nil))))))) (pss_one (ps_ret pe_bl)) pss_nil)
      (pss_one (ps_ret (pe_and (pe_cmpR op_gt (pe_ix ix_tup (pv 0) pe_int (fun _ _=>rfl)) pe_int (nomark _)) (pe_one (pe_cmpR op_eq (pe_call G_common_divisor (hr.mono (by decide)) rfl m_common_divisor k_common_divisor b_common_divisor .nil pass0 (pa_cons (pe_ix ix_tup (pv 0) pe_int (fun _ _=>rfl)) (pa_cons (pe_ix ix_tup (pv 0) pe_int (fun _ _=>rfl)) pa_nil))) pe_int (nomark _)))))))),?_⟩
    refine ⟨_,rfl,_,_,_,_,_,rfl,rfl,TyX.tupS hy,tt,_,rfl,iteF ?_⟩
    refine ⟨_,rfl,y,_,rfl,.inr hy,rfl,_,rfl,iteF ?_⟩
    refine ⟨_,rfl,y,_,_,_,rfl,rfl,hy,rfl,a,rfl,_,rfl,iteF ?_⟩
    refine ⟨_,rfl,y,_,_,_,rfl,rfl,hy,rfl,b,rfl,_,rfl,iteF ?_⟩
    refine ⟨_,rfl,y,_,_,_,rfl,rfl,hy,rfl,_,_,rfl,rfl,_,rfl,?_⟩
    rw [decide_eq_true hb]
    refine iteT ?_
    refine ⟨_,rfl,y,_,_,_,rfl,rfl,hy,rfl,_,rfl,y,_,_,_,rfl,rfl,hy,rfl,a,b,rfl,rfl,?_⟩
    have e : decide (V.int (Int.gcd a b : Int) = V.int 1) = true:=decide_eq_true (by rw [hg]; rfl)
    rw [e]
    exact q
theorem ok_counts (F : Fun K "counts_one_of" "counts_one_of" s_counts_one_of f fd) (T : Txt K mg C t1 t2 t3) (m_is_whole : mg "is_whole" = some (.ref fw)) (k_is_whole : PySem.W.keepIn K (.ref fw) = true) (b_is_whole : Binds K fdw ["value"] []) (G_is_whole : FnOk P w K mg base CX0 1 fw fdw ["value"] spWhole) : FnOk P w K mg base CX0 2 f fd ["value","many"] spCounts:=by
  refine F.ok sc_counts_one_of (fun vs H Q E h=>?_) (fun cdv A outer s H vs Q E hr h=>?_)
  · obtain ⟨i,n,rfl,_⟩:=h
    rfl
  · obtain ⟨i,n,rfl,h0,hn,q⟩:=h
    refine ⟨_,(pss_one (ps_ret (pe_and (pe_call G_is_whole (hr.mono (by decide)) rfl m_is_whole k_is_whole b_is_whole .nil pass0 (pa_cons (pv 0) pa_nil)) (pe_one (pe_chain op_le op_lt pe_int (pv 0) (pv 1)))))),?_⟩
    refine ⟨_,rfl,i,rfl,_,rfl,iteT ?_⟩
    refine ⟨_,rfl,_,_,rfl,rfl,_,rfl,?_⟩
    rw [decide_eq_true h0]
    refine iteT ⟨_,rfl,_,_,rfl,rfl,?_⟩
    show Q (.bl (decide (i < n))) H
    rw [decide_eq_true hn]
    exact q
theorem ok_hard (F : Fun K "is_hardness" "is_hardness" s_is_hardness f fd) (T : Txt K mg C t1 t2 t3) (m_is_fraction : mg "is_fraction" = some (.ref ff)) (k_is_fraction : PySem.W.keepIn K (.ref ff) = true) (b_is_fraction : Binds K fdf ["value"] []) (G_is_fraction : FnOk P w K mg base CX0 2 ff fdf ["value"] (spFraction K)) : FnOk P w K mg base CX0 3 f fd ["value"] (spHard K):=by
  refine F.ok sc_is_hardness (fun vs H Q E h=>?_) (fun cdv A outer s H vs Q E hr h=>?_)
  · obtain ⟨y,a,b,rfl,_⟩:=h
    rfl
  · obtain ⟨y,a,b,rfl,hy,⟨a1,aM⟩,⟨b1,bM⟩,hg,q⟩:=h
    refine ⟨_,(pss_one (ps_ret (pe_and (pe_call G_is_fraction (hr.mono (by decide)) rfl m_is_fraction k_is_fraction b_is_fraction .nil pass0 (pa_cons (pv 0) pa_nil)) (pe_and (pe_cmpR op_ge (pe_callB (call_minT rfl) (by rfl) T.n_min bt_min (pa_cons (pv 0) pa_nil)) pe_int (nomark _)) (pe_one (pe_cmpR op_le (pe_callB (call_maxT rfl) (by rfl) T.n_max bt_max (pa_cons (pv 0) pa_nil)) (pe_glob (v:=.int 1000000000) rfl T.m_MOST_IN_HARDNESS ⟨_,rfl⟩) (nomark _))))))),?_⟩
    refine ⟨_,rfl,y,a,b,rfl,hy,by omega,hg,_,rfl,iteT ?_⟩
    refine ⟨_,rfl,y,a,b,rfl,hy,_,_,rfl,rfl,_,rfl,?_⟩
    rw [decide_eq_true (show (if b < a then b else a) ≥ 1 by split <;> omega)]
    refine iteT ?_
    refine ⟨_,rfl,y,a,b,rfl,hy,_,_,rfl,rfl,?_⟩
    show Q (.bl (decide ((if b > a then b else a) ≤ 1000000000))) H
    rw [decide_eq_true (show (if b > a then b else a) ≤ 1000000000 by split <;> omega)]
    exact q
theorem ok_pipe (F : Fun K "is_pipe" "is_pipe" s_is_pipe f fd) (T : Txt K mg C t1 t2 t3) (m_counts_one_of : mg "counts_one_of" = some (.ref fc)) (k_counts_one_of : PySem.W.keepIn K (.ref fc) = true) (b_counts_one_of : Binds K fdc ["value","many"] []) (G_counts_one_of : FnOk P w K mg base CX0 2 fc fdc ["value","many"] spCounts)
    (m_is_hardness : mg "is_hardness" = some (.ref fh)) (k_is_hardness : PySem.W.keepIn K (.ref fh) = true) (b_is_hardness : Binds K fdh ["value"] []) (G_is_hardness : FnOk P w K mg base CX0 3 fh fdh ["value"] (spHard K)) : FnOk P w K mg base CX0 4 f fd ["value","places"] (spPipe K):=by
  refine F.ok sc_is_pipe (fun vs H Q E h=>?_) (fun cdv A outer s H vs Q E hr h=>?_)
  · obtain ⟨v,n,p,rfl,_⟩:=h
    rfl
  · obtain ⟨v,n,p,rfl,⟨x,y,rfl,hx,hy⟩,ok,q⟩:=h
    refine ⟨_,(pss_cons (ps_if (PW.pt (pw_or (pt_not (pt_val (pe_isiB rfl T.n_isinstance (pv 0) rfl T.n_tuple bt_tuple))) (pw_or1 (pt_cmpR op_ne (pe_callB call_len_seq (by rfl) T.n_len bt_len (pa_cons (pv 0) pa_nil)) pe_int (nomark _))))) (pss_one (ps_ret pe_bl)) pss_nil)
      (pss_cons (ps_if (PW.pt (pw_or (pt_not (pt_val (pe_call G_counts_one_of (hr.mono (by decide)) rfl m_counts_one_of k_counts_one_of b_counts_one_of .nil pass0 (pa_cons (pe_ix ix_tup (pv 0) pe_int (fun _ _=>rfl)) (pa_cons (pv 1) pa_nil))))) (pw_or1 (pt_not (pt_val (pe_call G_counts_one_of (hr.mono (by decide)) rfl m_counts_one_of k_counts_one_of b_counts_one_of .nil pass0 (pa_cons (pe_ix ix_tup (pv 0) pe_int (fun _ _=>rfl)) (pa_cons (pv 1) pa_nil)))))))) (pss_one (ps_ret pe_bl)) pss_nil)
      (pss_one (ps_ret (pe_and (pe_cmpR op_ne (pe_ix ix_tup (pv 0) pe_int (fun _ _=>rfl)) (pe_ix ix_tup (pv 0) pe_int (fun _ _=>rfl)) (nomark _)) (pe_one (pe_call G_is_hardness (hr.mono (by decide)) rfl m_is_hardness k_is_hardness b_is_hardness .nil pass0 (pa_cons (pe_ix ix_tup (pv 0) pe_int (fun _ _=>rfl)) pa_nil)))))))),?_⟩
    refine ⟨_,rfl,_,_,_,_,_,rfl,rfl,TyX.tupS hx,tt,_,rfl,iteF ?_⟩
    refine ⟨_,rfl,x,_,rfl,.inr hx,rfl,_,rfl,iteF ?_⟩
    refine ⟨_,rfl,x,_,_,_,rfl,rfl,hx,rfl,_,rfl,p.u,n,rfl,ok.u0,ok.un,_,rfl,iteF ?_⟩
    refine ⟨_,rfl,x,_,_,_,rfl,rfl,hx,rfl,_,rfl,p.w,n,rfl,ok.w0,ok.wn,_,rfl,iteF ?_⟩
    refine ⟨_,rfl,x,_,_,_,rfl,rfl,hx,rfl,_,rfl,x,_,_,_,rfl,rfl,hx,rfl,rfl,_,rfl,?_⟩
    have e : decide (V.int p.u = V.int p.w) = false:=decide_eq_false fun z=>by injection z with z; exact ok.ne z
    rw [e]
    refine iteT ?_
    exact ⟨_,rfl,x,_,_,_,rfl,rfl,hx,rfl,y,p.a,p.b,rfl,hy,⟨ok.a1,ok.aM⟩,⟨ok.b1,ok.bM⟩,ok.gc,q⟩
end
end K2
namespace K2
open PySem L2 Mp
theorem PipeAt.same {K : PySem.W.Frag} {H H' : Hp} {v : V} {p : Pipe} (s : Same H H') (h : PipeAt K H v p) : PipeAt K H' v p:=by
  obtain ⟨x,y,rfl,hx,hy⟩:=h
  exact ⟨x,y,rfl,Same.tup s hx,Same.tup s hy⟩
theorem PipesAt.same {K : PySem.W.Frag} {H H' : Hp} (s : Same H H') : ∀ {us : List V} {ps : List Pipe},PipesAt K H us ps → PipesAt K H' us ps
  | _,_,.nil=>.nil
  | _,_,.cons a b=>.cons (a.same s) (PipesAt.same s b)
theorem PipesAt.get {K : PySem.W.Frag} {H : Hp} : ∀ {us : List V} {ps : List Pipe} {i : Nat} {v : V},PipesAt K H us ps → us[i]? = some v → ∃ p,ps[i]? = some p ∧ PipeAt K H v p
  | _,_,_,_,.nil,e=>by simp at e
  | _,_,0,_,.cons a _,e=>by simp at e; subst e; exact ⟨_,rfl,a⟩
  | _,_,i + 1,_,.cons _ b,e=>by simpa using PipesAt.get b (by simpa using e)
section
variable {P : Program} {w : World} {K : PySem.W.Frag} {mg : Str → Option Value} {base : Heap} {C f fw fg ff fc fh fp : Addr} {fd fdw fdg fdf fdc fdh fdp : FuncData} {t1 t2 t3 : Tok}
theorem ok_net (F : Fun K "is_net" "is_net" s_is_net f fd) (T : Txt K mg C t1 t2 t3) (m_is_whole : mg "is_whole" = some (.ref fw)) (k_is_whole : PySem.W.keepIn K (.ref fw) = true) (b_is_whole : Binds K fdw ["value"] []) (G_is_whole : FnOk P w K mg base CX0 1 fw fdw ["value"] spWhole)
    (m_is_pipe : mg "is_pipe" = some (.ref fp)) (k_is_pipe : PySem.W.keepIn K (.ref fp) = true) (b_is_pipe : Binds K fdp ["value","places"] []) (G_is_pipe : FnOk P w K mg base CX0 4 fp fdp ["value","places"] (spPipe K)) : FnOk P w K mg base CX0 5 f fd ["places","pipes"] (spNet K):=by
  refine F.ok sc_is_net (fun vs H Q E h=>?_) (fun cdv A outer s H vs Q E hr h=>?_)
  · obtain ⟨n,l,us,ps,rfl,_⟩:=h
    rfl
  · obtain ⟨n,l,us,ps,rfl,hl,hp,ok,q⟩:=h
    have hlen : us.length = ps.length:=Paired.length hp
    have hle:=ok.le
    refine ⟨_,(pss_cons (ps_if (PW.pt (pw_or (pt_not (pt_val (pe_call G_is_whole (hr.mono (by decide)) rfl m_is_whole k_is_whole b_is_whole .nil pass0 (pa_cons (pv 0) pa_nil)))) (pw_or1 (pt_not (pt_chain op_le op_le pe_int (pv 0) (pe_glob (v:=.int 8) rfl T.m_MOST_PLACES ⟨_,rfl⟩)))))) (pss_one (ps_ret pe_bl)) pss_nil)
      (pss_cons (ps_if (PW.pt (pw_or (pt_not (pt_val (pe_isiB rfl T.n_isinstance (pv 1) rfl T.n_list bt_list))) (pw_or1 (pt_cmpR op_gt (pe_callB call_len_seq (by rfl) T.n_len bt_len (pa_cons (pv 1) pa_nil)) (pe_glob (v:=.int 28) rfl T.m_MOST_PIPES ⟨_,rfl⟩) (nomark _))))) (pss_one (ps_ret pe_bl)) pss_nil)
      (pss_one (ps_ret (pe_callB (call_all rfl) (by rfl) T.n_all bt_all (pa_cons (pe_comp ["pipe"] [0] rfl rfl (by kernel_rfl) (pi_list (pv 1)) (fun _ _ _ _=>(pg_name (i:=0) (show (["pipe","places"] : List Str).Nodup by decide +kernel) rfl (Or.inl rfl))) (fun _ _ _ _=>gk_name) (fun _ _ _ _=>pf_nil) (fun _ _ _ _=>(pe_call G_is_pipe (hr.mono (by decide)) rfl m_is_pipe k_is_pipe b_is_pipe .nil pass0 (pa_cons (pv 0) (pa_cons (pv 1) pa_nil))))) pa_nil)))))),?_⟩
    refine ⟨_,rfl,n,rfl,_,rfl,iteF ?_⟩
    refine ⟨_,rfl,_,_,rfl,rfl,_,rfl,?_⟩
    rw [decide_eq_true ok.n1]
    refine iteT ?_
    refine ⟨_,_,rfl,rfl,_,rfl,?_⟩
    rw [decide_eq_true ok.n8]
    refine iteF ?_
    refine ⟨_,rfl,_,_,_,_,_,rfl,rfl,TyX.lstS hl,ll,_,rfl,iteF ?_⟩
    refine ⟨_,rfl,l,_,rfl,.inl hl,_,_,rfl,rfl,_,rfl,?_⟩
    rw [decide_eq_false (show ¬ ((us.length : Int) > 28) by omega)]
    refine iteF ?_
    refine ⟨_,rfl,l,rfl,⟨_,hl⟩,comp_list (K:=K) (a:=l) (xs:=us) (fun i ys H'=>H' = H ∧ ys = List.replicate i (.bl true)) ⟨rfl,rfl⟩ (small1000 (by omega)) (fun i ys H' hi ⟨e,e'⟩=>⟨by rw [e',List.length_replicate]; exact Nat.le_refl _,e ▸ hl⟩) ?_ ?_⟩
    · rintro i x ys H' N hx ⟨rfl,rfl⟩ hN C s₀ H₀ ex
      obtain ⟨p,hpi,hpp⟩:=hp.get hx
      dsimp only [tNoTest,gName]
      refine iteT ?_
      refine ⟨_,rfl,_,rfl,x,n,p,rfl,hpp,ok.ok p (List.mem_of_getElem? hpi),?_⟩
      exact hN _ _ ⟨rfl,by rw [List.replicate_succ']⟩
    · rintro ys H' ⟨rfl,rfl⟩ p hp'
      refine ⟨p,List.replicate us.length true,rfl,SqL.of (by rw [List.map_replicate]; exact upd_same),?_⟩
      have e : (List.replicate us.length true).all id = true:=by simp
      rw [e]
      exact q _ (same_upd hp')
end
end K2
namespace K2
open PySem L2 Mp
theorem sl : ¬ (("size" : Str) = "laid"):=by decide +kernel
def flds (n : Int) (L : Addr) : List (Str × V):=putF "laid" (.ref L) (putF "size" (.int n) [])
theorem flds_size (n : Int) (L : Addr) : (flds n L).lookup ("size" : Str) = some (.int n):=by
  unfold flds
  rw [lookup_putF,if_neg sl,lookup_putF,if_pos rfl]
theorem flds_laid (n : Int) (L : Addr) : (flds n L).lookup ("laid" : Str) = some (.ref L):=by
  unfold flds
  rw [lookup_putF,if_pos rfl]
theorem flds_no (n : Int) (L : Addr) {m : Str} (h1 : ¬ m = "laid") (h2 : ¬ m = "size") : (flds n L).lookup m = none:=by
  unfold flds
  rw [lookup_putF,if_neg h1,lookup_putF,if_neg h2]
  all_goals rfl
structure NetAt (K : PySem.W.Frag) (C : Addr) (H : Hp) (x L : Addr) (n : Int) (ps : List Pipe) : Prop where
  ob : ∃ dx,H x = some (.ins C dx (flds n L))
  pi : ∃ us,H L = some (.lst us) ∧ PipesAt K H us ps
theorem NetAt.same {K : PySem.W.Frag} {C : Addr} {H H' : Hp} {x L : Addr} {n : Int} {ps : List Pipe} (s : Same H H') (h : NetAt K C H x L n ps) : NetAt K C H' x L n ps:=by
  obtain ⟨⟨dx,h1⟩,us,h2,h3⟩:=h
  exact ⟨⟨dx,s _ _ h1⟩,us,s _ _ h2,PipesAt.same s h3⟩
def spInit (K : PySem.W.Frag) (C : Addr) : Sp:=fun vs H Q _=>∃ (x dx l : Addr) (n : Int) (us : List V) (ps : List Pipe),vs = [.ref x,.int n,.ref l] ∧ H x = some (.ins C dx []) ∧ SqL K H l us ∧ PipesAt K H us ps ∧ NetOk n ps ∧
  ∀ (H' : Hp) (L : Addr),H L = none → NetAt K C H' x L n ps → (∀ b o,H b = some o → b ≠ x → H' b = some o) → Q .non H'
def spPipes (K : PySem.W.Frag) (C : Addr) : Sp:=fun vs H Q _=>∃ (x L : Addr) (n : Int) (ps : List Pipe),vs = [.ref x] ∧ NetAt K C H x L n ps ∧ ∀ (r : Addr) (us : List V),H r = none → PipesAt K H us ps → Q (.ref r) (upd H r (.lst us))
section
variable {P : Program} {w : World} {K : PySem.W.Frag} {mg : Str → Option Value} {base : Heap} {C f fn fb fc : Addr} {fd fdn fdb fdc : FuncData} {t1 t2 t3 : Tok}
theorem PipeAt.ne {H : Hp} {v : V} {p : Pipe} {x : Addr} {o o' : HO} (h : PipeAt K H v p) (hx : H x = some o) (n1 : ∀ ys,o ≠ .tup ys) (n2 : ∀ ob ys,o ≠ .frz ob (.tup ys)) : PipeAt K (upd H x o') v p:=by
  obtain ⟨a,b,rfl,h1,h2⟩:=h
  have key : ∀ {c : Addr} {xs : List V},SqT K H c xs → SqT K (upd H x o') c xs:=fun {c xs} h=>by
    rcases h with (z | ⟨ob,z⟩) | z
    · exact .inl (.inl (by rw [upd_ne (ne_of z hx (fun e=>n1 _ e.symm))]; exact z))
    · exact .inl (.inr ⟨ob,by rw [upd_ne (ne_of z hx (fun e=>n2 _ _ e.symm))]; exact z⟩)
    · exact .inr z
  exact ⟨a,b,rfl,key h1,key h2⟩
theorem PipesAt.ne {H : Hp} {x : Addr} {o o' : HO} (hx : H x = some o) (n1 : ∀ ys,o ≠ .tup ys) (n2 : ∀ ob ys,o ≠ .frz ob (.tup ys)) : ∀ {us : List V} {ps : List Pipe},PipesAt K H us ps → PipesAt K (upd H x o') us ps
  | _,_,.nil=>.nil
  | _,_,.cons a b=>.cons (a.ne hx n1 n2) (PipesAt.ne hx n1 n2 b)
theorem PipesAt.snoc {H : Hp} : ∀ {us : List V} {ps : List Pipe} {v : V} {p : Pipe},PipesAt K H us ps → PipeAt K H v p → PipesAt K H (us ++ [v]) (ps ++ [p])
  | _,_,_,_,.nil,h=>.cons h .nil
  | _,_,_,_,.cons a b,h=>.cons a (PipesAt.snoc b h)
theorem SqL.ne {H : Hp} {x l : Addr} {o o' : HO} {xs : List V} (h : SqL K H l xs) (hx : H x = some o) (n1 : ∀ ys,o ≠ .lst ys) (n2 : ∀ ob ys,o ≠ .frz ob (.lst ys)) : SqL K (upd H x o') l xs:=by
  rcases h with (z | ⟨ob,z⟩) | z
  · exact .inl (.inl (by rw [upd_ne (ne_of z hx (fun e=>n1 _ e.symm))]; exact z))
  · exact .inl (.inr ⟨ob,by rw [upd_ne (ne_of z hx (fun e=>n2 _ _ e.symm))]; exact z⟩)
  · exact .inr z
theorem ok_init (F : Fun K "__init__" "Net.__init__" s_Net___init__ f fd) (T : Txt K mg C t1 t2 t3) (m_is_net : mg "is_net" = some (.ref fn)) (k_is_net : PySem.W.keepIn K (.ref fn) = true) (b_is_net : Binds K fdn ["places","pipes"] []) (G_is_net : FnOk P w K mg base CX0 5 fn fdn ["places","pipes"] (spNet K)) : FnOk P w K mg base CX0 6 f fd ["self","places","pipes"] (spInit K C):=by
  refine F.ok sc_Net___init__ (fun vs H Q E h=>?_) (fun cdv A outer s H vs Q E hr h=>?_)
  · obtain ⟨x,dx,l,n,us,ps,rfl,_⟩:=h
    rfl
  · obtain ⟨x,dx,l,n,us,ps,rfl,hx,hl,hp,ok,q⟩:=h
    have hlen : us.length = ps.length:=Paired.length hp
    have hle:=ok.le
    refine ⟨_,(pss_cons (ps_if (pt_not (pt_val (pe_call G_is_net (hr.mono (by decide)) rfl m_is_net k_is_net b_is_net .nil pass0 (pa_cons (pv 1) (pa_cons (pv 2) pa_nil))))) (pss_one ps_never) pss_nil)
      (pss_cons (ps_fld (pv 0) (pv 1) rfl)
      (pss_one (ps_fld (pv 0) (pe_comp ["one","other","hardness"] [] rfl rfl (by kernel_rfl) (pi_list (pv 2)) (fun _ _ _ _=>(pg_tup (n:=3) rfl (pgs_cons (pg_name (i:=0) (show (["one","other","hardness"] : List Str).Nodup by decide +kernel) rfl (Or.inl rfl)) (pgs_cons (pg_name (i:=1) (show (["one","other","hardness"] : List Str).Nodup by decide +kernel) rfl (Or.inl rfl)) (pgs_cons (pg_name (i:=2) (show (["one","other","hardness"] : List Str).Nodup by decide +kernel) rfl (Or.inl rfl)) pgs_nil))))) (fun _ _ _ _=>(gk_tup (gks_cons gk_name (gks_cons gk_name (gks_cons gk_name gks_nil))))) (fun _ _ _ _=>pf_nil) (fun _ _ _ _=>(pe_tup (pa_cons (pv 0) (pa_cons (pv 1) (pa_cons (pe_callTy call_tuple_of (by rfl) T.n_tuple bt_tuple (pa_cons (pv 2) pa_nil)) pa_nil)))))) rfl)))),?_⟩
    refine ⟨_,rfl,_,rfl,n,l,us,ps,rfl,hl,hp,ok,fun H1 s1=>⟨_,rfl,iteF ?_⟩⟩
    refine ⟨_,rfl,_,rfl,x,C,dx,[],rfl,s1 _ _ hx,T.c_Net,T.a_size,(by show 0 < 1000; decide),?_⟩
    have hx2 : (upd H1 x (.ins C dx (putF "size" (.int n) []))) x = some (.ins C dx (putF "size" (.int n) [])):=upd_same
    have hl2 : SqL K (upd H1 x (.ins C dx (putF "size" (.int n) []))) l us:=SqL.ne (s1.seq hl) (s1 _ _ hx) (fun _=>nofun) (fun _ _=>nofun)
    have hp2 : PipesAt K (upd H1 x (.ins C dx (putF "size" (.int n) []))) us ps:=PipesAt.ne (s1 _ _ hx) (fun _=>nofun) (fun _ _=>nofun) (PipesAt.same s1 hp)
    have s2 : ∀ b o,H b = some o → b ≠ x → (upd H1 x (.ins C dx (putF "size" (.int n) []))) b = some o:=fun b o e hb=>by rw [upd_ne hb]; exact s1 _ _ e
    generalize upd H1 x (.ins C dx (putF "size" (.int n) [])) = H2 at hx2 hl2 hp2 s2 ⊢
    refine ⟨_,rfl,l,rfl,⟨_,hl2⟩,comp_list (K:=K) (a:=l) (xs:=us) (fun i ys H'=>Same H2 H' ∧ PipesAt K H' ys (ps.take i) ∧ ys.length = i) ⟨Same.refl _,.nil,rfl⟩ (small1000 (by omega)) ?_ ?_ ?_⟩
    · rintro i ys H' hi ⟨s3,_,e⟩
      exact ⟨by omega,s3.seq hl2⟩
    · rintro i v ys H' N hv ⟨s3,h3,e3⟩ hN C' s₀ H₀ ex
      obtain ⟨p,hpi,⟨y,z,rfl,hy,hz⟩⟩:=hp2.get hv
      have ht : ps.take (i + 1) = ps.take i ++ [p]:=by rw [List.take_succ,hpi]; rfl
      refine ⟨y,_,rfl,Same.tup s3 hy,rfl,_,_,rfl,_,_,rfl,_,_,rfl,rfl,?_⟩
      dsimp only [tNoTest]
      refine iteT ?_
      refine ⟨_,rfl,_,rfl,_,rfl,z,_,rfl,.inr ⟨Same.tup s3 hz,(by show 3 ≤ sizeLine; decide),fun t ht'=>?_⟩⟩
      have s4:=same_upd (o:=.tup [.int p.u,.int p.w,.ref z]) ht'
      exact hN _ _ ⟨s3.trans s4,by rw [ht]; exact PipesAt.snoc (PipesAt.same s4 h3) ⟨t,z,rfl,SqT.of upd_same,Same.tup (s3.trans s4) hz⟩,by rw [List.length_append]; simp; omega⟩
    · rintro ys H' ⟨s3,h3,e3⟩ L hL
      rw [hlen,List.take_length] at h3
      have s4:=same_upd (o:=.lst ys) hL
      refine ⟨_,rfl,x,C,dx,_,rfl,s4 _ _ (s3 _ _ hx2),T.c_Net,T.a_laid,(by show 1 < 1000; decide),?_⟩
      have nx : L ≠ x:=(ne_of_none (s3 _ _ hx2) hL).symm
      have hLn : H L = none:=by
        cases e : H L with
        | none=>rfl
        | some o=>exact absurd hL (by rw [s3 _ _ (s2 _ _ e nx)]; exact nofun)
      refine q _ L hLn ⟨⟨dx,upd_same⟩,ys,by rw [upd_ne nx]; exact upd_same,PipesAt.ne (s4 _ _ (s3 _ _ hx2)) (fun _=>nofun) (fun _ _=>nofun) (PipesAt.same s4 h3)⟩ fun b o e hb=>?_
      rw [upd_ne hb]
      exact s4 _ _ (s3 _ _ (s2 _ _ e hb))
theorem ok_pipes (F : Fun K "pipes" "Net.pipes" s_Net_pipes f fd) (T : Txt K mg C t1 t2 t3) : FnOk P w K mg base CX0 1 f fd ["self"] (spPipes K C):=by
  refine F.ok sc_Net_pipes (fun vs H Q E h=>?_) (fun cdv A outer s H vs Q E hr h=>?_)
  · obtain ⟨x,L,n,ps,rfl,_⟩:=h
    rfl
  · obtain ⟨x,L,n,ps,rfl,⟨⟨dx,h1⟩,us,h2,h3⟩,q⟩:=h
    refine ⟨_,(pss_one (ps_ret (pe_callTy call_list_of (by rfl) T.n_list bt_list (pa_cons (pe_fld (pv 0) rfl) pa_nil)))),?_⟩
    exact ⟨_,rfl,x,C,dx,_,_,rfl,h1,T.c_Net,T.a_laid,flds_laid _ _,L,us,rfl,.inl (SqL.of h2),fun r hr'=>q r us hr' h3⟩
end
end K2
namespace K2
open PySem L2 Mp
theorem cut_drop {xs : List V} {k : Nat} (h : k ≤ xs.length) : cutV xs (some (k : Int)) none = xs.drop k:=by
  unfold cutV
  rw [HT.sIx_none,HT.sIx_nat,Nat.min_eq_left h]
  exact List.take_of_length_le (by rw [List.length_drop]; exact Nat.le_refl _)
section
variable {P : Program} {w : World} {K : PySem.W.Frag} {mg : Str → Option Value} {base : Heap} {C f fi fp fc : Addr} {fd fdi fdp fdc : FuncData} {t1 t2 t3 : Tok}
theorem made_same {H H' : Hp} {x' dx' : Addr} {n : Int} (nx : H x' = none) (ndx : H dx' = none) (kp : ∀ b o,(upd (upd H dx' (.own x')) x' (.ins C dx' [])) b = some o → b ≠ x' → H' b = some o) : Same H H':=fun b o e=>by
  refine kp b o ?_ (ne_of_none e nx)
  rw [upd_ne (ne_of_none e nx),upd_ne (ne_of_none e ndx)]
  exact e
theorem made_s0 {H : Hp} {x' dx' : Addr} (nx : H x' = none) (ndx : H dx' = none) : Same H (upd (upd H dx' (.own x')) x' (.ins C dx' [])):=fun b o e=>by
  rw [upd_ne (ne_of_none e nx),upd_ne (ne_of_none e ndx)]
  exact e
end
end K2
namespace K2
open PySem L2 Mp
def spCell (K : PySem.W.Frag) : Sp:=fun vs H Q _=>∃ (a : Addr) (ns : List Int) (k : Int),vs = [.ref a,.int k] ∧ 0 ≤ k ∧ SqL K H a (ns.map V.int) ∧ ∀ z,Q (.int z) H
def spDraw : Sp:=fun vs H Q _=>∃ c k m : Int,vs = [.int c,.int k,.int m] ∧ 0 ≤ k ∧ k < 2 ^ 60 ∧ 0 < m ∧ ∀ (r : Int) (H' : Hp),Same H H' → 0 ≤ r → r < m → Q (.int r) H'
def spLeast : Sp:=fun vs H Q _=>∃ a b : Int,vs = [.int a,.int b] ∧ 0 ≤ a ∧ 1 ≤ b ∧ (∃ k,k ≤ 9000 ∧ L2.Bt k b) ∧
  ∀ t : Addr,H t = none → Q (.ref t) (upd H t (.tup [.int (a.fdiv (Int.gcd a b : Int)),.int (b.fdiv (Int.gcd a b : Int))]))
abbrev primes : List V:=[.int 1000003,.int 1000033,.int 1000037,.int 1000039,.int 1000081,.int 1000099,.int 1000117,.int 1000121]
theorem primes_at : ∀ j : Nat,j < 8 → ∃ pr : Int,0 < pr ∧ primes[j]? = some (.int pr)
  | 0,_=>⟨_,by decide,rfl⟩
  | 1,_=>⟨_,by decide,rfl⟩
  | 2,_=>⟨_,by decide,rfl⟩
  | 3,_=>⟨_,by decide,rfl⟩
  | 4,_=>⟨_,by decide,rfl⟩
  | 5,_=>⟨_,by decide,rfl⟩
  | 6,_=>⟨_,by decide,rfl⟩
  | 7,_=>⟨_,by decide,rfl⟩
  | n + 8,h=>by omega
theorem least_of {a b : Int} (ha : 1 ≤ a) (hb : 1 ≤ b) : ∃ a' b' : Int,a.fdiv (Int.gcd a b : Int) = a' ∧ b.fdiv (Int.gcd a b : Int) = b' ∧ 1 ≤ a' ∧ a' ≤ a ∧ 1 ≤ b' ∧ b' ≤ b ∧ Int.gcd a' b' = 1 ∧ a' * b = a * b':=by
  obtain ⟨a',ea⟩:=Int.gcd_dvd_left a b
  obtain ⟨b',eb⟩:=Int.gcd_dvd_right a b
  have hg : 0 < (Int.gcd a b : Int):=by
    have:=Int.gcd_pos_of_ne_zero_left b (show a ≠ 0 by omega)
    omega
  generalize hgg : (Int.gcd a b : Int) = g at *
  have e1 : a.fdiv g = a':=by rw [ea]; exact Int.mul_fdiv_cancel_left _ (by omega)
  have e2 : b.fdiv g = b':=by rw [eb]; exact Int.mul_fdiv_cancel_left _ (by omega)
  have pos : ∀ {c c' : Int},1 ≤ c → c = g * c' → 0 < c':=fun {c c'} h e=>by
    by_cases z : 0 < c'
    · exact z
    · have:=Int.mul_le_mul_of_nonneg_left (show c' ≤ 0 by omega) (Int.le_of_lt hg)
      rw [Int.mul_zero,← e] at this
      omega
  have up : ∀ {c c' : Int},0 < c' → c = g * c' → c' ≤ c:=fun {c c'} h e=>by
    have:=Int.mul_le_mul_of_nonneg_right (show (1 : Int) ≤ g by omega) (Int.le_of_lt h)
    rw [Int.one_mul,← e] at this
    exact this
  have pa : 0 < a':=pos ha ea
  have pb : 0 < b':=pos hb eb
  refine ⟨a',b',e1,e2,by omega,?_,by omega,?_,?_,by rw [eb,show a * b' = (g * a') * b' by rw [← ea]]; grind⟩
  · exact up pa ea
  · exact up pb eb
  · have h1 : Int.gcd (g * a') (g * b') = g.natAbs * Int.gcd a' b':=Int.gcd_mul_left ..
    rw [← ea,← eb] at h1
    have h2 : Int.gcd a b = g.natAbs:=by omega
    rw [h2] at h1
    have h3 : 0 < g.natAbs:=by omega
    exact (Nat.eq_of_mul_eq_mul_left h3 (by rw [Nat.mul_one]; exact h1)).symm
theorem bt31 {b : Int} (b1 : 1 ≤ b) (bM : b ≤ 1000000000) : ∃ k,k ≤ 9000 ∧ L2.Bt k b:=by
  have hb31 : b.natAbs < 2 ^ 31:=by
    have : (2 : Nat) ^ 31 = 2147483648:=by decide
    omega
  exact ⟨31,by decide,hb31⟩
section
variable {P : Program} {w : World} {K : PySem.W.Frag} {mg : Str → Option Value} {base : Heap} {C f : Addr} {fd : FuncData} {t1 t2 t3 : Tok}
theorem ok_cell (F : Fun K "_law_cell_at" "_law_cell_at" s__law_cell_at f fd) (T : Txt K mg C t1 t2 t3) : FnOk P w K mg base CX0 1 f fd ["_law_script","_law_k"] (spCell K):=by
  refine F.ok sc__law_cell_at (fun vs H Q E h=>?_) (fun cdv A outer s H vs Q E hr h=>?_)
  · obtain ⟨a,ns,k,rfl,_⟩:=h
    rfl
  · obtain ⟨a,ns,k,rfl,k0,sq,q⟩:=h
    obtain ⟨k,rfl⟩ : ∃ m : Nat,k = m:=⟨k.toNat,by omega⟩
    refine ⟨_,(pss_cons (ps_if (pt_cmpR op_lt (pv 1) (pe_callB call_len_seq (by rfl) T.n_len bt_len (pa_cons (pv 0) pa_nil)) (nomark _)) (pss_one (ps_ret (pe_ix ix_list (pv 0) (pv 1) (fun _ _=>rfl)))) pss_nil)
      (pss_one (ps_ret pe_int))),?_⟩
    refine ⟨_,rfl,_,rfl,a,_,rfl,.inl sq,_,_,rfl,rfl,_,rfl,?_⟩
    refine ite2 (fun h=>?_) (fun h=>?_)
    · have h' : (k : Int) < ((ns.map V.int).length : Nat):=of_decide_eq_true h
      have hk : k < ns.length:=by rw [List.length_map] at h'; omega
      refine ⟨_,rfl,_,rfl,a,_,_,_,rfl,rfl,sq,atI_nat (j:=k) (v:=.int (ns.getD k 0)) ?_,q _⟩
      rw [List.getElem?_map,List.getD_eq_getElem?_getD,List.getElem?_eq_getElem hk]
      rfl
    · exact q _
theorem ok_draw (F : Fun K "_law_draw" "_law_draw" s__law_draw f fd) : FnOk P w K mg base CX0 1 f fd ["_law_cell","_law_k","_law_many"] spDraw:=by
  refine F.ok sc__law_draw (fun vs H Q E h=>?_) (fun cdv A outer s H vs Q E hr h=>?_)
  · obtain ⟨c,k,m,rfl,_⟩:=h
    rfl
  · obtain ⟨c,k,m,rfl,k0,kM,hm,q⟩:=h
    obtain ⟨k,rfl⟩ : ∃ m : Nat,k = m:=⟨k.toNat,by omega⟩
    obtain ⟨pr,hpr,hat⟩:=primes_at (k % 8) (by omega)
    refine ⟨_,(pss_cons (ps_set (i:=3) sc__law_draw.nd rfl (Or.inl rfl) (pe_tup (pa_cons pe_int (pa_cons pe_int (pa_cons pe_int (pa_cons pe_int (pa_cons pe_int (pa_cons pe_int (pa_cons pe_int (pa_cons pe_int pa_nil))))))))))
      (pss_cons (ps_set (i:=4) sc__law_draw.nd rfl (Or.inl rfl) (pe_op op_add (pe_op op_add (pe_op op_mul (pv 0) pe_int) (pe_op op_mul (pv 1) pe_int)) (pe_op op_mul (pe_op op_mod (pe_op op_fdiv (pv 0) pe_int) pe_int) pe_int)))
      (pss_one (ps_ret (pe_op op_mod (pe_op op_mod (pv 4) (pe_ix ix_tup (pv 3) (pe_op op_mod (pv 1) pe_int) (fun _ _=>rfl))) (pv 2)))))),?_⟩
    refine ⟨by show 8 ≤ sizeLine; decide,fun t ht=>?_⟩
    refine ⟨_,rfl,_,_,rfl,rfl,.inr ⟨by decide,by decide⟩,_,rfl,_,_,rfl,rfl,.inr ⟨by decide,by decide⟩,_,_,rfl,rfl,_,rfl,_,_,rfl,rfl,⟨by decide,by decide⟩,_,_,rfl,rfl,(by show (0 : Int) < 1000003; decide),_,_,rfl,rfl,.inr ⟨by decide,by decide⟩,_,_,rfl,rfl,?_⟩
    refine ⟨_,rfl,_,rfl,_,rfl,_,_,rfl,rfl,(by show (0 : Int) < 8; decide),t,_,_,.int pr,rfl,rfl,SqT.of upd_same,?_,_,_,rfl,rfl,hpr,_,rfl,_,_,rfl,rfl,hm,?_⟩
    · exact atI_nat (j:=k % 8) hat
    · exact q _ _ (same_upd ht) (Int.emod_nonneg _ (by omega)) (Int.emod_lt_of_pos _ hm)
theorem ok_least (F : Fun K "_law_least" "_law_least" s__law_least f fd) : FnOk P w K mg base CX0 1 f fd ["_law_a","_law_b"] spLeast:=by
  refine F.ok sc__law_least (fun vs H Q E h=>?_) (fun cdv A outer s H vs Q E hr h=>?_)
  · obtain ⟨a,b,rfl,_⟩:=h
    rfl
  · obtain ⟨a,b,rfl,a0,b1,⟨kb,hk,hbt⟩,q⟩:=h
    refine ⟨_,(pss_cons (ps_par (i:=2) (j:=3) rfl sc__law_least.nd rfl rfl (by decide) rfl rfl (pa_cons (pv 0) (pa_cons (pv 1) pa_nil)) rfl)
      (pss_cons (ps_while PassesOwn.never (pt_cmpR op_gt (pv 3) pe_int (nomark _)) (pss_one (ps_par (i:=2) (j:=3) rfl sc__law_least.nd rfl rfl (by decide) rfl rfl (pa_cons (pv 3) (pa_cons (pe_op op_mod (pv 2) (pv 3)) pa_nil)) rfl)))
      (pss_one (ps_ret (pe_tup (pa_cons (pe_op op_fdivB (pv 0) (pv 2)) (pa_cons (pe_op op_fdivB (pv 1) (pv 2)) pa_nil))))))),?_⟩
    refine ⟨_,rfl,_,rfl,_,_,rfl,?_⟩
    refine while_by (fun σ H'=>∃ (x y : Int),σ = [some (.int a),some (.int b),some (.int x),some (.int y)] ∧ H' = H ∧ 0 ≤ x ∧ 0 ≤ y ∧ Nat.gcd x.natAbs y.natAbs = Int.gcd a b)
      (fun σ _=>match σ with | [_,_,_,some (.int y)]=>y.natAbs | _=>0) ⟨a,b,rfl,rfl,by omega,by omega,rfl⟩ ?_ ?_
    · rintro σ H' ⟨x,y,rfl,rfl,hx,hy,hg⟩
      refine ⟨_,rfl,_,_,rfl,rfl,_,rfl,?_⟩
      refine ite2 (fun h=>?_) (fun h=>?_)
      · have hy' : 0 < y:=of_decide_eq_true h
        refine ⟨_,rfl,_,rfl,_,rfl,_,_,rfl,rfl,hy',_,_,rfl,⟨y,x % y,rfl,rfl,hy,Int.emod_nonneg _ (by omega),?_⟩,?_⟩
        · rw [My.gcd_turn x y hx hy',hg]
        · show (x % y).natAbs < y.natAbs
          have h1:=Int.emod_nonneg x (show y ≠ 0 by omega)
          have h2:=Int.emod_lt_of_pos x hy'
          omega
      · have hy' : y = 0:=by
          have : ¬ 0 < y:=fun z=>h (decide_eq_true z)
          omega
        subst hy'
        have e : x = (Int.gcd a b : Int):=by
          simp at hg
          omega
        subst e
        have hg0 : 0 < Int.gcd a b:=Int.gcd_pos_of_ne_zero_right a (show b ≠ 0 by omega)
        have hgl : (Int.gcd a b : Int) ≤ b:=Int.le_of_dvd (by omega) (Int.gcd_dvd_right a b)
        have hB : L2.CDivB a (Int.gcd a b : Int):=⟨by omega,kb,hk,Nat.lt_of_le_of_lt (by rw [Int.natAbs_natCast]; omega) hbt⟩
        have hB' : L2.CDivB b (Int.gcd a b : Int):=⟨hB.1,hB.2⟩
        refine ⟨_,rfl,_,rfl,_,_,rfl,rfl,hB,_,rfl,_,rfl,_,_,rfl,rfl,hB',by show 2 ≤ sizeLine; decide,fun t ht=>?_⟩
        exact q t ht
    · rintro σ H' Q1 Q2 f ⟨v,e1,i,j,e2,e3,k',e4,q'⟩
      exact ⟨v,e1,i,j,e2,e3,k',e4,f _ _ q'⟩
end
end K2
namespace K2
open PySem L2 Mp
structure Told (K : PySem.W.Frag) (H : Hp) (t l : Addr) (n : Nat) (ps : List Pipe) : Prop where
  tu : H t = some (.tup [.int n,.ref l])
  li : ∃ us,H l = some (.lst us) ∧ PipesAt K H us ps
  ok : NetOk n ps
def spTold (K : PySem.W.Frag) : Sp:=fun vs H Q _=>∃ (a : Addr) (ns : List Int) (i m : Int),vs = [.ref a,.int i,.int m] ∧ 0 ≤ i ∧ 0 ≤ m ∧ m ≤ 12 ∧ SqL K H a (ns.map V.int) ∧
  ∀ (H' : Hp) (t l : Addr) (n : Nat) (ps : List Pipe),Same H H' → H l = none → (ps.length : Int) ≤ m → n ≤ 5 → (∀ p ∈ ps,p.a ≤ 4 ∧ p.b ≤ 3) → Told K H' t l n ps → Q (.ref t) H'
abbrev sizes : List V:=[.int 3,.int 4,.int 2,.int 4,.int 5,.int 3,.int 1]
theorem sizes_at : ∀ j : Nat,j < 7 → ∃ pl : Nat,1 ≤ pl ∧ pl ≤ 5 ∧ sizes[j]? = some (.int pl)
  | 0,_=>⟨3,by decide,by decide,rfl⟩
  | 1,_=>⟨4,by decide,by decide,rfl⟩
  | 2,_=>⟨2,by decide,by decide,rfl⟩
  | 3,_=>⟨4,by decide,by decide,rfl⟩
  | 4,_=>⟨5,by decide,by decide,rfl⟩
  | 5,_=>⟨3,by decide,by decide,rfl⟩
  | 6,_=>⟨1,by decide,by decide,rfl⟩
  | n + 7,h=>by omega
theorem there_ne {n : Nat} {x r : Int} (h2 : 2 ≤ n) (h5 : n ≤ 5) (x0 : 0 ≤ x) (xn : x < n) (r0 : 0 ≤ r) (rn : r < (n : Int) - 1) : 0 ≤ (x + 1 + r) % (n : Int) ∧ (x + 1 + r) % (n : Int) < n ∧ x ≠ (x + 1 + r) % (n : Int):=by
  have : n = 2 ∨ n = 3 ∨ n = 4 ∨ n = 5:=by omega
  rcases this with rfl | rfl | rfl | rfl <;> omega
section
variable {P : Program} {w : World} {K : PySem.W.Frag} {mg : Str → Option Value} {base : Heap} {C f fc fr fl : Addr} {fd fdc fdr fdl : FuncData} {t1 t2 t3 : Tok}
theorem ok_told (F : Fun K "_law_told" "_law_told" s__law_told f fd) (T : Txt K mg C t1 t2 t3) (m__law_cell_at : mg "_law_cell_at" = some (.ref fc)) (k__law_cell_at : PySem.W.keepIn K (.ref fc) = true) (b__law_cell_at : Binds K fdc ["_law_script","_law_k"] []) (G__law_cell_at : FnOk P w K mg base CX0 1 fc fdc ["_law_script","_law_k"] (spCell K))
    (m__law_draw : mg "_law_draw" = some (.ref fr)) (k__law_draw : PySem.W.keepIn K (.ref fr) = true) (b__law_draw : Binds K fdr ["_law_cell","_law_k","_law_many"] []) (G__law_draw : FnOk P w K mg base CX0 1 fr fdr ["_law_cell","_law_k","_law_many"] spDraw)
    (m__law_least : mg "_law_least" = some (.ref fl)) (k__law_least : PySem.W.keepIn K (.ref fl) = true) (b__law_least : Binds K fdl ["_law_a","_law_b"] []) (G__law_least : FnOk P w K mg base CX0 1 fl fdl ["_law_a","_law_b"] spLeast) : FnOk P w K mg base CX0 2 f fd ["_law_script","_law_first","_law_most"] (spTold K):=by
  refine F.ok sc__law_told (fun vs H Q E h=>?_) (fun cdv A outer s H vs Q E hr h=>?_)
  · obtain ⟨a,ns,i,m,rfl,_⟩:=h
    rfl
  · obtain ⟨a,ns,i0,m,rfl,hi0,hm0,hm,sq,q⟩:=h
    refine ⟨_,(pss_cons (ps_set (i:=3) sc__law_told.nd rfl (Or.inl rfl) (pe_call G__law_cell_at (hr.mono (by decide)) rfl m__law_cell_at k__law_cell_at b__law_cell_at .nil pass0 (pa_cons (pv 0) (pa_cons (pv 1) pa_nil))))
      (pss_cons (ps_set (i:=4) sc__law_told.nd rfl (Or.inl rfl) (pe_call G__law_cell_at (hr.mono (by decide)) rfl m__law_cell_at k__law_cell_at b__law_cell_at .nil pass0 (pa_cons (pv 0) (pa_cons (pe_op op_add (pv 1) pe_int) pa_nil))))
      (pss_cons (ps_set (i:=5) sc__law_told.nd rfl (Or.inl rfl) (pe_call G__law_cell_at (hr.mono (by decide)) rfl m__law_cell_at k__law_cell_at b__law_cell_at .nil pass0 (pa_cons (pv 0) (pa_cons (pe_op op_add (pv 1) pe_int) pa_nil))))
      (pss_cons (ps_set (i:=6) sc__law_told.nd rfl (Or.inl rfl) (pe_ix ix_tup (pe_tup (pa_cons pe_int (pa_cons pe_int (pa_cons pe_int (pa_cons pe_int (pa_cons pe_int (pa_cons pe_int (pa_cons pe_int pa_nil)))))))) (pe_op op_mod (pv 3) pe_int) (fun _ _=>rfl)))
      (pss_cons (ps_set (i:=7) sc__law_told.nd rfl (Or.inl rfl) (pe_lst pa_nil))
      (pss_cons (ps_if (pt_cmpR op_gt (pv 6) pe_int (nomark _)) (pss_one (ps_for PassesOwn.never rfl (pi_range1 rfl T.n_range (pa_cons (pe_op op_mod (pe_op op_fdiv (pv 3) pe_int) (pe_op op_add (pv 2) pe_int)) pa_nil)) (pg_name (i:=8) sc__law_told.nd rfl (Or.inl rfl)) (pss_cons (ps_set (i:=9) sc__law_told.nd rfl (Or.inl rfl) (pe_call G__law_draw (hr.mono (by decide)) rfl m__law_draw k__law_draw b__law_draw .nil pass0 (pa_cons (pv 4) (pa_cons (pv 8) (pa_cons (pv 6) pa_nil)))))
      (pss_cons (ps_set (i:=10) sc__law_told.nd rfl (Or.inl rfl) (pe_op op_mod (pe_op op_add (pe_op op_add (pv 9) pe_int) (pe_call G__law_draw (hr.mono (by decide)) rfl m__law_draw k__law_draw b__law_draw .nil pass0 (pa_cons (pv 4) (pa_cons (pe_op op_add (pv 8) pe_int) (pa_cons (pe_op op_sub (pv 6) pe_int) pa_nil))))) (pv 6)))
      (pss_one (ps_expr (pe_bm PySem.F.plainAttrs_list PySem.F.slot_list_append PySem.F.type_list_append mt_append (pv 7) (pa_cons (pe_tup (pa_cons (pv 9) (pa_cons (pv 10) (pa_cons (pe_call G__law_least (hr.mono (by decide)) rfl m__law_least k__law_least b__law_least .nil pass0 (pa_cons (pe_op op_add pe_int (pe_call G__law_draw (hr.mono (by decide)) rfl m__law_draw k__law_draw b__law_draw .nil pass0 (pa_cons (pv 5) (pa_cons (pv 8) (pa_cons pe_int pa_nil))))) (pa_cons (pe_op op_add pe_int (pe_call G__law_draw (hr.mono (by decide)) rfl m__law_draw k__law_draw b__law_draw .nil pass0 (pa_cons (pv 5) (pa_cons (pe_op op_add (pv 8) pe_int) (pa_cons pe_int pa_nil))))) pa_nil))) pa_nil)))) pa_nil)))))))) pss_nil)
      (pss_one (ps_ret (pe_tup (pa_cons (pv 6) (pa_cons (pv 7) pa_nil))))))))))),?_⟩
    refine ⟨_,rfl,_,rfl,a,ns,i0,rfl,hi0,sq,fun c1=>?_⟩
    refine ⟨_,rfl,_,rfl,_,_,rfl,rfl,a,ns,i0 + 1,rfl,by omega,sq,fun c2=>?_⟩
    refine ⟨_,rfl,_,rfl,_,_,rfl,rfl,a,ns,i0 + 2,rfl,by omega,sq,fun c3=>?_⟩
    have h7 : 0 ≤ c1 % 7 ∧ c1 % 7 < 7:=by omega
    obtain ⟨n,n1,n5,hat⟩:=sizes_at (c1 % 7).toNat (by omega)
    refine ⟨by show 7 ≤ sizeLine; decide,fun tp htp=>⟨_,rfl,_,_,rfl,rfl,(by show (0 : Int) < 7; decide),tp,_,_,.int n,rfl,rfl,SqT.of upd_same,?_,?_⟩⟩
    · have:=atI_nat (j:=(c1 % 7).toNat) hat
      rw [Int.toNat_of_nonneg h7.1] at this
      exact this
    have s1:=same_upd (o:=.tup sizes) htp
    refine ⟨by show 0 ≤ sizeLine; decide,fun l hl=>?_⟩
    have s2:=s1.trans (same_upd (o:=.lst []) hl)
    have hlH:=s1.free hl
    have hl2 : (upd (upd H tp (.tup sizes)) l (.lst [])) l = some (.lst []):=upd_same
    show _
    generalize upd (upd H tp (.tup sizes)) l (.lst []) = H2 at s2 hl2 ⊢
    have fin : ∀ (H3 : Hp) (us : List V) (ps : List Pipe),Same H H3 → H3 l = some (.lst us) → PipesAt K H3 us ps → (ps.length : Int) ≤ m → (∀ p ∈ ps,PipeOk n p) → (∀ p ∈ ps,p.a ≤ 4 ∧ p.b ≤ 3) → ∀ t,H3 t = none → Q (.ref t) (upd H3 t (.tup [.int n,.ref l])):=fun H3 us ps s3 h3 p3 le ok smp t ht=>by
      have s4:=same_upd (o:=.tup [.int n,.ref l]) ht
      exact q _ t l n ps (s3.trans s4) hlH le n5 smp ⟨upd_same,⟨us,s4 _ _ h3,PipesAt.same s4 p3⟩,⟨by omega,by omega,ok,by omega⟩⟩
    refine ⟨_,rfl,_,_,rfl,rfl,_,rfl,?_⟩
    refine ite2 (fun h=>?_) (fun h=>?_)
    · have hn2 : (n : Int) > 1:=of_decide_eq_true h
      have hmod : 0 ≤ (c1 / 7) % (m + 1) ∧ (c1 / 7) % (m + 1) < m + 1:=⟨Int.emod_nonneg _ (by omega),Int.emod_lt_of_pos _ (by omega)⟩
      refine ⟨_,rfl,_,_,rfl,rfl,⟨by decide,by decide⟩,_,rfl,_,_,rfl,rfl,_,_,rfl,rfl,(by omega),(c1 / 7) % (m + 1),rfl,by omega,by omega,?_⟩
      refine for_range (lo:=0) (n:=((c1 / 7) % (m + 1)).toNat) (fun i σ H3=>∃ (us : List V) (ps : List Pipe) (v8 v9 v10 : Option V),σ = [some (.ref a),some (.int i0),some (.int m),some (.int c1),some (.int c2),some (.int c3),some (.int n),some (.ref l),v8,v9,v10] ∧ Same H H3 ∧ H3 l = some (.lst us) ∧ PipesAt K H3 us ps ∧ ps.length = i ∧ (∀ p ∈ ps,PipeOk n p) ∧ ∀ p ∈ ps,p.a ≤ 4 ∧ p.b ≤ 3)
        ⟨[],[],none,none,none,rfl,s2,hl2,.nil,rfl,(fun _ h=>by cases h),fun _ h=>by cases h⟩ ?_ ?_
      · rintro i σ H3 hi ⟨us,ps,v8,v9,v10,rfl,s3,h3,p3,le,ok,smp⟩
        refine ⟨_,rfl,_,rfl,_,rfl,c2,0 + (i : Int),n,rfl,by omega,by omega,by omega,fun x H4 s4 x0 xn=>?_⟩
        refine ⟨_,rfl,_,_,rfl,rfl,_,rfl,_,rfl,_,_,rfl,rfl,_,rfl,_,_,rfl,rfl,c2,0 + (i : Int) + 3,(n : Int) - 1,rfl,by omega,by omega,by omega,fun r H5 s5 r0 rn=>?_⟩
        refine ⟨_,_,rfl,rfl,_,rfl,_,_,rfl,rfl,by omega,?_⟩
        obtain ⟨y0,yn,xy⟩:=there_ne (by omega) n5 x0 xn r0 rn
        have s35:=s4.trans s5
        refine ⟨_,rfl,.inl ⟨rfl,_,SqL.of (s35 _ _ h3)⟩,_,rfl,_,rfl,_,rfl,_,rfl,c3,0 + (i : Int),4,rfl,by omega,by omega,by decide,fun r3 H6 s6 r30 r3n=>?_⟩
        refine ⟨_,_,rfl,rfl,_,rfl,_,rfl,_,_,rfl,rfl,c3,0 + (i : Int) + 5,3,rfl,by omega,by omega,by decide,fun r4 H7 s7 r40 r4n=>?_⟩
        refine ⟨_,_,rfl,rfl,1 + r3,1 + r4,rfl,by omega,by omega,bt31 (by omega) (by omega),fun th hth=>?_⟩
        obtain ⟨a',b',e1,e2,a1,aM,b1,bM,gc,_⟩:=least_of (a:=1 + r3) (b:=1 + r4) (by omega) (by omega)
        rw [e1,e2]
        refine ⟨by show 3 ≤ sizeLine; decide,fun tt htt=>?_⟩
        have s8:=same_upd (o:=.tup [.int a',.int b']) hth
        have s9:=same_upd (o:=.tup [.int x,.int ((x + 1 + r) % (n : Int)),.ref th]) htt
        have s39:=(((s35.trans s6).trans s7).trans s8).trans s9
        have hth9:=s9 _ _ (upd_same (H:=H7) (a:=th) (o:=.tup [.int a',.int b']))
        have htt9 : (upd (upd H7 th (.tup [.int a',.int b'])) tt (.tup [.int x,.int ((x + 1 + r) % (n : Int)),.ref th])) tt = some (.tup [.int x,.int ((x + 1 + r) % (n : Int)),.ref th]):=upd_same
        have hus : us.length = ps.length:=Paired.length p3
        generalize hH9 : upd (upd H7 th (.tup [.int a',.int b'])) tt (.tup [.int x,.int ((x + 1 + r) % (n : Int)),.ref th]) = H9 at s9 s39 hth9 htt9
        refine ⟨l,us,.ref tt,rfl,rfl,?_,small1000 (by omega),?_⟩
        · exact s39 _ _ h3
        show ∃ (us' : List V) (ps : List Pipe) (v8 v9 v10 : Option V),_
        refine ⟨us ++ [.ref tt],ps ++ [⟨x,(x + 1 + r) % (n : Int),a',b'⟩],_,_,_,rfl,?_,?_,?_,by rw [List.length_append]; simp; omega,?_,?_⟩
        · intro b o e
          rw [upd_ne (ne_of_none e hlH)]
          exact s39 _ _ (s3 _ _ e)
        · exact upd_same
        · exact PipesAt.ne (s39 _ _ h3) (fun _=>nofun) (fun _ _=>nofun) (PipesAt.snoc (PipesAt.same s39 p3) ⟨tt,th,rfl,SqT.of htt9,SqT.of hth9⟩)
        · intro p hp
          rcases List.mem_append.mp hp with h | h
          · exact ok p h
          · rw [List.mem_singleton.mp h]
            exact ⟨x0,xn,y0,yn,xy,a1,by show a' ≤ 1000000000; omega,b1,by show b' ≤ 1000000000; omega,gc⟩
        · intro p hp
          rcases List.mem_append.mp hp with h | h
          · exact smp p h
          · rw [List.mem_singleton.mp h]
            exact ⟨by show a' ≤ 4; omega,by show b' ≤ 3; omega⟩
      · rintro σ H3 ⟨us,ps,v8,v9,v10,rfl,s3,h3,p3,le,ok,smp⟩
        exact ⟨_,rfl,_,rfl,by show 2 ≤ sizeLine; decide,fin H3 us ps s3 h3 p3 (by omega) ok smp⟩
    · exact ⟨_,rfl,_,rfl,by show 2 ≤ sizeLine; decide,fin H2 [] [] s2 hl2 .nil (by simp; omega) (fun _ h=>by cases h) (fun _ h=>by cases h)⟩
end
end K2
namespace K2
open PySem L2 Mp Tx
abbrev rowP (p : Pipe) : Str:=rowT p.u p.w p.a p.b
def netT (n : Int) (ps : List Pipe) : Str:=PySem.Str.join (sg 10) (firstT n :: ps.map rowP)
def spFirst : Sp:=fun vs H Q _=>∃ n : Int,vs = [.int n] ∧ 0 ≤ n ∧ n ≤ 1000000000 ∧ Q (.str (firstT n)) H
def spHardT (K : PySem.W.Frag) : Sp:=fun vs H Q _=>∃ (y : Addr) (a b : Int),vs = [.ref y] ∧ SqT K H y [.int a,.int b] ∧ (1 ≤ a ∧ a ≤ 1000000000) ∧ (1 ≤ b ∧ b ≤ 1000000000) ∧ Q (.str (hardT a b)) H
def spRow (K : PySem.W.Frag) : Sp:=fun vs H Q _=>∃ (v : V) (n : Int) (p : Pipe),vs = [v] ∧ PipeAt K H v p ∧ PipeOk n p ∧ n ≤ 8 ∧ Q (.str (rowP p)) H
theorem lit_places : (("places " : String) : Str) = wordP ++ sg 32:=by decide +kernel
theorem lit_nl : (("\n" : String) : Str) = sg 10:=by decide +kernel
theorem lit_sp : ((" " : String) : Str) = sg 32:=by decide +kernel
theorem lit_mi : (("-" : String) : Str) = sg 45:=by decide +kernel
theorem lit_sl : (("/" : String) : Str) = sg 47:=by decide +kernel
theorem szL {n : Nat} (h : n ≤ 1000) : n ≤ sizeLine:=Nat.le_of_lt (small1000 (by omega))
section
variable {P : Program} {w : World} {K : PySem.W.Frag} {mg : Str → Option Value} {base : Heap} {C f : Addr} {fd : FuncData} {t1 t2 t3 : Tok}
theorem ok_firstrow (F : Fun K "first_row" "first_row" s_first_row f fd) : FnOk P w K mg base CX0 1 f fd ["places"] spFirst:=by
  refine F.ok sc_first_row (fun vs H Q E h=>?_) (fun cdv A outer s H vs Q E hr h=>?_)
  · obtain ⟨n,rfl,_⟩:=h
    rfl
  · obtain ⟨n,rfl,n0,nM,q⟩:=h
    have hl:=num_len n0 nM
    refine ⟨_,(pss_one (ps_ret (pe_fstr (pj_cons pe_str (pj_cons (pe_fmt (pv 0)) pj_nil))))),?_⟩
    refine ⟨_,rfl,?_,_,rfl,_,⟨num_small n0 nM,rfl⟩,_,rfl,?_,?_,?_⟩
    · rw [PySem.Str.empty_append,lit_places]
      decide
    · rw [PySem.Str.empty_append,lit_places]
      exact szL (Nat.le_trans (first_len n0 nM) (by decide))
    · rw [PySem.Str.empty_append,lit_places]
      exact szL (Nat.le_trans (first_len n0 nM) (by decide))
    · rw [PySem.Str.empty_append,lit_places]
      exact q
theorem ok_hardtext (F : Fun K "hardness_text" "hardness_text" s_hardness_text f fd) : FnOk P w K mg base CX0 1 f fd ["hardness"] (spHardT K):=by
  refine F.ok sc_hardness_text (fun vs H Q E h=>?_) (fun cdv A outer s H vs Q E hr h=>?_)
  · obtain ⟨y,a,b,rfl,_⟩:=h
    rfl
  · obtain ⟨y,a,b,rfl,hy,⟨a1,aM⟩,⟨b1,bM⟩,q⟩:=h
    refine ⟨_,(pss_cons (ps_set (i:=1) sc_hardness_text.nd rfl (Or.inl rfl) (pe_ix ix_tup (pv 0) pe_int (fun _ _=>rfl)))
      (pss_cons (ps_set (i:=2) sc_hardness_text.nd rfl (Or.inl rfl) (pe_ix ix_tup (pv 0) pe_int (fun _ _=>rfl)))
      (pss_one (ps_ret (pe_ifExp (pt_cmpR op_eq (pv 2) pe_int (nomark _)) (pe_fstr1 (pe_fmt (pv 1))) (pe_fstr (pj_cons (pe_fmt (pv 1)) (pj_cons pe_str (pj_cons (pe_fmt (pv 2)) pj_nil))))))))),?_⟩
    refine ⟨_,rfl,y,_,_,_,rfl,rfl,hy,rfl,?_⟩
    refine ⟨_,rfl,y,_,_,_,rfl,rfl,hy,rfl,?_⟩
    refine ⟨_,rfl,rfl,_,rfl,?_⟩
    have h1:=num_len (show 0 ≤ a by omega) aM
    have h2:=num_len (show 0 ≤ b by omega) bM
    have sa:=num_small (show 0 ≤ a by omega) aM
    have sb:=num_small (show 0 ≤ b by omega) bM
    by_cases e : b = 1
    · rw [decide_eq_true (show V.int b = V.int 1 by rw [e])]
      refine iteT ⟨_,rfl,_,⟨sa,rfl⟩,?_⟩
      have e' : hardT a b = num a:=if_pos e
      rw [e'] at q
      exact q
    · rw [decide_eq_false (show ¬ V.int b = V.int 1 from fun h=>e (by injection h))]
      have e' : hardT a b = num a ++ sg 47 ++ num b:=if_neg e
      rw [e'] at q
      have l0 : (num a ++ sg 47).length ≤ 11:=by rw [app_len]; show _ + 1 ≤ 11; omega
      have l1 : (num a ++ sg 47 ++ num b).length ≤ 21:=by rw [app_len]; omega
      refine iteF ⟨_,rfl,_,⟨sa,rfl⟩,_,rfl,?_,_,rfl,?_,_,rfl,_,⟨sb,rfl⟩,_,rfl,?_,?_,?_⟩
      all_goals rw [PySem.Str.empty_append]
      · exact szL (Nat.le_trans h1 (by decide))
      · rw [lit_sl]; exact szL (Nat.le_trans l0 (by decide))
      · rw [lit_sl]; exact szL (Nat.le_trans l1 (by decide))
      · rw [lit_sl]; exact szL (Nat.le_trans l1 (by decide))
      · rw [lit_sl]; exact q
theorem ok_row {fh : Addr} {fdh : FuncData} (F : Fun K "pipe_row" "pipe_row" s_pipe_row f fd) (m_hardness_text : mg "hardness_text" = some (.ref fh)) (k_hardness_text : PySem.W.keepIn K (.ref fh) = true) (b_hardness_text : Binds K fdh ["hardness"] []) (G_hardness_text : FnOk P w K mg base CX0 1 fh fdh ["hardness"] (spHardT K)) : FnOk P w K mg base CX0 2 f fd ["pipe"] (spRow K):=by
  refine F.ok sc_pipe_row (fun vs H Q E h=>?_) (fun cdv A outer s H vs Q E hr h=>?_)
  · obtain ⟨v,n,p,rfl,_⟩:=h
    rfl
  · obtain ⟨v,n,p,rfl,⟨x,y,rfl,hx,hy⟩,ok,n8,q⟩:=h
    have ⟨u0,un,w0,wn,_,a1,aM,b1,bM,_⟩:=ok
    refine ⟨_,(pss_cons (ps_set (i:=1) sc_pipe_row.nd rfl (Or.inl rfl) (pe_ix ix_tup (pv 0) pe_int (fun _ _=>rfl)))
      (pss_cons (ps_set (i:=2) sc_pipe_row.nd rfl (Or.inl rfl) (pe_ix ix_tup (pv 0) pe_int (fun _ _=>rfl)))
      (pss_cons (ps_set (i:=3) sc_pipe_row.nd rfl (Or.inl rfl) (pe_call G_hardness_text (hr.mono (by decide)) rfl m_hardness_text k_hardness_text b_hardness_text .nil pass0 (pa_cons (pe_ix ix_tup (pv 0) pe_int (fun _ _=>rfl)) pa_nil)))
      (pss_one (ps_ret (pe_fstr (pj_cons (pe_fmt (pv 1)) (pj_cons pe_str (pj_cons (pe_fmt (pv 2)) (pj_cons pe_str (pj_cons (pe_fmt (pv 3)) pj_nil))))))))))),?_⟩
    refine ⟨_,rfl,x,_,_,_,rfl,rfl,hx,rfl,?_⟩
    refine ⟨_,rfl,x,_,_,_,rfl,rfl,hx,rfl,?_⟩
    refine ⟨_,rfl,x,_,_,_,rfl,rfl,hx,rfl,y,p.a,p.b,rfl,hy,⟨a1,aM⟩,⟨b1,bM⟩,?_⟩
    have h1:=num_len u0 (show p.u ≤ 1000000000 by omega)
    have h2:=num_len w0 (show p.w ≤ 1000000000 by omega)
    have h3:=hard_len (show 0 ≤ p.a by omega) aM (show 0 ≤ p.b by omega) bM
    have l1 : (num p.u ++ sg 45).length ≤ 11:=by rw [app_len]; show _ + 1 ≤ 11; omega
    have l2 : (num p.u ++ sg 45 ++ num p.w).length ≤ 21:=by rw [app_len]; omega
    have l3 : (num p.u ++ sg 45 ++ num p.w ++ sg 32).length ≤ 22:=by rw [app_len]; show _ + 1 ≤ 22; omega
    have l4 : (num p.u ++ sg 45 ++ num p.w ++ sg 32 ++ hardT p.a p.b).length ≤ 43:=by rw [app_len]; omega
    refine ⟨_,rfl,_,⟨num_small u0 (by omega),rfl⟩,_,rfl,?_,_,rfl,?_,_,rfl,_,⟨num_small w0 (by omega),rfl⟩,_,rfl,?_,_,rfl,?_,_,rfl,_,⟨szL (Nat.le_trans h3 (by decide)),rfl⟩,_,rfl,?_,?_,?_⟩
    all_goals rw [PySem.Str.empty_append]
    · exact szL (Nat.le_trans h1 (by decide))
    all_goals rw [lit_mi]
    · exact szL (Nat.le_trans l1 (by decide))
    · exact szL (Nat.le_trans l2 (by decide))
    all_goals rw [lit_sp]
    · exact szL (Nat.le_trans l3 (by decide))
    · exact szL (Nat.le_trans l4 (by decide))
    · exact szL (Nat.le_trans l4 (by decide))
    · exact q
end
end K2
namespace K2
open PySem L2 Mp Tx
theorem NetOk.rows {n : Int} {ps : List Pipe} (ok : NetOk n ps) : (∀ x ∈ firstT n :: ps.map rowP,x.length ≤ 50 ∧ 10 ∉ ls x):=by
  have n1:=ok.n1
  have n8:=ok.n8
  intro x hx
  rcases List.mem_cons.mp hx with rfl | hx
  · exact ⟨first_len (by omega) (by omega),first_free (by omega)⟩
  · obtain ⟨p,hp,rfl⟩:=List.mem_map.mp hx
    obtain ⟨u0,un,w0,wn,_,a1,aM,b1,bM,_⟩:=ok.ok p hp
    exact ⟨row_len u0 (by omega) w0 (by omega) (by omega) aM (by omega) bM,row_free u0 w0 (by omega) (by omega)⟩
theorem NetOk.join {n : Int} {ps : List Pipe} (ok : NetOk n ps) : JoinOk (sg 10) (firstT n :: ps.map rowP) = true:=by
  unfold JoinOk
  have hl:=ok.le
  rw [StrLaws.joinFits (B:=50) (fun y hy=>(ok.rows y hy).1) (by show (List.length _) * 50 + (List.length _) * 1 ≤ 16777216; rw [List.length_cons,List.length_map]; omega)]
  rfl
theorem txt_join (ts : List Str) : Txt.join (sg 10) ts = PySem.Str.join (sg 10) ts:=StrLaws.glued_eq_join _ _
theorem sum_le {B : Nat} : ∀ {l : List Nat},(∀ x ∈ l,x ≤ B) → l.sum ≤ l.length * B
  | [],_=>by simp
  | x :: r,h=>by
    have h1:=h x (by simp)
    have h2:=sum_le (l:=r) (fun y hy=>h y (by simp [hy]))
    rw [List.sum_cons,List.length_cons,Nat.add_mul]
    omega
theorem NetOk.text {n : Int} {ps : List Pipe} (ok : NetOk n ps) : (netT n ps).length ≤ sizeLine:=by
  have h1:=StrLaws.join_length_le (sg 10) (firstT n :: ps.map rowP)
  have h2:=sum_le (B:=50) (l:=(firstT n :: ps.map rowP).map (·.length)) (fun x hx=>by
    obtain ⟨y,hy,rfl⟩:=List.mem_map.mp hx
    exact (ok.rows y hy).1)
  have hl:=ok.le
  rw [List.length_map] at h2
  have h3 : (firstT n :: ps.map rowP).length = ps.length + 1:=by simp
  rw [h3] at h1 h2
  have h4 : (sg 10).length = 1:=rfl
  rw [h4] at h1
  have h5 : sizeLine = 16777216:=by decide
  unfold netT
  omega
theorem NetOk.split {n : Int} {ps : List Pipe} (ok : NetOk n ps) : Txt.split (netT n ps) (sg 10) = firstT n :: ps.map rowP:=split_join (List.cons_ne_nil _ _) fun x hx=>(ok.rows x hx).2
def spWritten (K : PySem.W.Frag) (C : Addr) : Sp:=fun vs H Q _=>∃ (x L : Addr) (n : Int) (ps : List Pipe),vs = [.ref x] ∧ NetAt K C H x L n ps ∧ NetOk n ps ∧ ∀ H',Same H H' → Q (.str (netT n ps)) H'
def spNum : Sp:=fun vs H Q _=>∃ n : Int,vs = [.str (num n)] ∧ 0 ≤ n ∧ n ≤ 1000000000 ∧ Q (.int n) H
def spNums : Sp:=fun vs H Q _=>∃ (c : Nat) (ns : List Int),vs = [.str (PySem.Str.join (sg c) (ns.map num)),.str (sg c)] ∧ ns ≠ [] ∧ ns.length ≤ 2 ∧ (∀ n ∈ ns,0 ≤ n ∧ n ≤ 1000000000) ∧ c < 48 ∧
  ∀ (H' : Hp) (l : Addr),Same H H' → H l = none → H' l = some (.lst (ns.map .int)) → Q (.ref l) H'
def spPlacesIn : Sp:=fun vs H Q _=>∃ n : Int,vs = [.str (firstT n)] ∧ 0 ≤ n ∧ n ≤ 1000000000 ∧ ∀ H',Same H H' → Q (.int n) H'
def spPipeIn (K : PySem.W.Frag) : Sp:=fun vs H Q _=>∃ (n : Int) (p : Pipe),vs = [.str (rowP p)] ∧ PipeOk n p ∧ n ≤ 8 ∧ ∀ (H' : Hp) (v : V),Same H H' → PipeAt K H' v p → Q v H'
section
variable {P : Program} {w : World} {K : PySem.W.Frag} {mg : Str → Option Value} {base : Heap} {C f : Addr} {fd : FuncData} {t1 t2 t3 : Tok}
theorem ok_written {fr fp fo : Addr} {fdr fdp fdo : FuncData} (F : Fun K "written" "written" s_written f fd) (T : Txt K mg C t1 t2 t3) (m_first_row : mg "first_row" = some (.ref fr)) (k_first_row : PySem.W.keepIn K (.ref fr) = true) (b_first_row : Binds K fdr ["places"] []) (G_first_row : FnOk P w K mg base CX0 1 fr fdr ["places"] spFirst)
    (m_pipe_row : mg "pipe_row" = some (.ref fo)) (k_pipe_row : PySem.W.keepIn K (.ref fo) = true) (b_pipe_row : Binds K fdo ["pipe"] []) (G_pipe_row : FnOk P w K mg base CX0 2 fo fdo ["pipe"] (spRow K))
    (t_pipes : Meth K C "pipes" fp) (b_pipes : Binds K fdp ["self"] []) (G_pipes : FnOk P w K mg base CX0 1 fp fdp ["self"] (spPipes K C)) : FnOk P w K mg base CX0 4 f fd ["net"] (spWritten K C):=by
  refine F.ok sc_written (fun vs H Q E h=>?_) (fun cdv A outer s H vs Q E hr h=>?_)
  · obtain ⟨x,L,n,ps,rfl,_⟩:=h
    rfl
  · obtain ⟨x,L,n,ps,rfl,net,ok,q⟩:=h
    obtain ⟨⟨dx,h1⟩,_⟩:=id net
    have hle:=ok.le
    have n1:=ok.n1
    have n8:=ok.n8
    refine ⟨_,(pss_one (ps_ret (pe_bm PySem.F.plainAttrs_str PySem.F.slot_str_join PySem.F.type_str_join mt_join pe_str (pa_cons (pe_op op_cat (pe_lst (pa_cons (pe_call G_first_row (hr.mono (by decide)) rfl m_first_row k_first_row b_first_row .nil pass0 (pa_cons (pe_fld (pv 0) rfl) pa_nil)) pa_nil)) (pe_comp ["pipe"] [] rfl rfl (by kernel_rfl) (pi_list (pe_meth0 (pv 0) T.c_Net t_pipes G_pipes (hr.mono (by decide)) b_pipes .nil pass0)) (fun _ _ _ _=>(pg_name (i:=0) (show (["pipe"] : List Str).Nodup by decide +kernel) rfl (Or.inl rfl))) (fun _ _ _ _=>gk_name) (fun _ _ _ _=>pf_nil) (fun _ _ _ _=>(pe_call G_pipe_row (hr.mono (by decide)) rfl m_pipe_row k_pipe_row b_pipe_row .nil pass0 (pa_cons (pv 0) pa_nil))))) pa_nil)))),?_⟩
    refine ⟨rfl,_,rfl,x,C,dx,_,_,rfl,h1,T.c_Net,T.a_size,flds_size _ _,n,rfl,by omega,by omega,by show 1 ≤ sizeLine; decide,fun l1 hl1=>?_⟩
    have s1:=same_upd (o:=.lst [.str (firstT n)]) hl1
    have e1 : (upd H l1 (.lst [.str (firstT n)])) l1 = some (.lst [.str (firstT n)]):=upd_same
    generalize upd H l1 (.lst [.str (firstT n)]) = H1 at s1 e1 ⊢
    refine ⟨_,rfl,x,dx,_,rfl,s1 _ _ h1,flds_no _ _ (by decide +kernel) (by decide +kernel),x,L,n,ps,rfl,net.same s1,fun r us hr1 pa=>?_⟩
    have s2:=same_upd (o:=.lst us) hr1
    have hus : us.length = ps.length:=Paired.length pa
    have hr2 : (upd H1 r (.lst us)) r = some (.lst us):=upd_same
    have pa2:=PipesAt.same s2 pa
    generalize upd H1 r (.lst us) = H2 at s2 hr2 pa2 ⊢
    refine ⟨r,rfl,⟨_,SqL.of hr2⟩,comp_list (K:=K) (a:=r) (xs:=us) (fun i ys H'=>H' = H2 ∧ ys = (ps.take i).map (fun p=>V.str (rowP p))) ⟨rfl,rfl⟩ (small1000 (by omega)) ?_ ?_ ?_⟩
    · rintro i ys H' hi ⟨rfl,rfl⟩
      exact ⟨by rw [List.length_map,List.length_take]; omega,SqL.of hr2⟩
    · rintro i v ys H' N hv ⟨rfl,rfl⟩ hN C' s₀ H₀ ex
      obtain ⟨p,hpi,hp⟩:=pa2.get hv
      dsimp only [tNoTest,gName]
      refine iteT ?_
      refine ⟨_,rfl,v,n,p,rfl,hp,ok.ok p (List.mem_of_getElem? hpi),n8,?_⟩
      refine hN _ _ ⟨rfl,?_⟩
      rw [List.take_succ,hpi]
      simp
    · rintro ys H' ⟨rfl,rfl⟩ l2 hl2
      have s3:=same_upd (o:=.lst ((ps.take us.length).map (fun p=>V.str (rowP p)))) hl2
      have e3 : (upd H' l2 (.lst ((ps.take us.length).map (fun p=>V.str (rowP p))))) l2 = some (.lst (ps.map (fun p=>V.str (rowP p)))):=by rw [hus,List.take_length]; exact upd_same
      generalize upd H' l2 (.lst ((ps.take us.length).map (fun p=>V.str (rowP p)))) = H3 at s3 e3 ⊢
      refine ⟨l1,l2,_,_,rfl,rfl,(s2.trans s3) _ _ e1,e3,szL (by rw [List.length_map]; simp; omega),fun l3 hl3=>?_⟩
      have s4:=same_upd (o:=.lst ([.str (firstT n)] ++ ps.map (fun p=>V.str (rowP p)))) hl3
      refine ⟨_,l3,firstT n :: ps.map rowP,rfl,rfl,SqL.of ?_,?_,?_⟩
      · rw [upd_same]
        simp [List.map_map]
      · rw [lit_nl]
        exact ok.join
      · rw [lit_nl,txt_join]
        exact q _ (((s1.trans s2).trans s3).trans s4)
theorem ok_number (F : Fun K "number_in" "number_in" s_number_in f fd) (T : Txt K mg C t1 t2 t3) : FnOk P w K mg base CX0 1 f fd ["text"] spNum:=by
  refine F.ok sc_number_in (fun vs H Q E h=>?_) (fun cdv A outer s H vs Q E hr h=>?_)
  · obtain ⟨n,rfl,_⟩:=h
    rfl
  · obtain ⟨n,rfl,n0,nM,q⟩:=h
    refine ⟨_,(pss_one (ps_tryQ (fun pn xe=>(pss_one (ps_ret (pe_callTy call_int_text (by rfl) T.n_int bt_int (pa_cons (pv 0) pa_nil))))))),?_⟩
    exact ⟨_,rfl,_,n,rfl,num_read n0 nM,Nat.le_trans (num_len n0 nM) (by decide),q⟩
theorem ok_numbers {fn : Addr} {fdn : FuncData} (F : Fun K "numbers_in" "numbers_in" s_numbers_in f fd) (m_number_in : mg "number_in" = some (.ref fn)) (k_number_in : PySem.W.keepIn K (.ref fn) = true) (b_number_in : Binds K fdn ["text"] []) (G_number_in : FnOk P w K mg base CX0 1 fn fdn ["text"] spNum) : FnOk P w K mg base CX0 3 f fd ["text","sign"] spNums:=by
  refine F.ok sc_numbers_in (fun vs H Q E h=>?_) (fun cdv A outer s H vs Q E hr h=>?_)
  · obtain ⟨c,ns,rfl,_⟩:=h
    rfl
  · obtain ⟨c,ns,rfl,ne,l2,hn,hc,q⟩:=h
    have hs : Txt.split (PySem.Str.join (sg c) (ns.map num)) (sg c) = ns.map num:=split_join (by simpa using ne) fun x hx=>by
      obtain ⟨n,hm,rfl⟩:=List.mem_map.mp hx
      exact num_free (hn n hm).1 (.inl hc)
    have hlen : (PySem.Str.join (sg c) (ns.map num)).length ≤ 1000:=by
      have h1:=StrLaws.join_length_le (sg c) (ns.map num)
      have h2:=sum_le (B:=10) (l:=(ns.map num).map (·.length)) (fun x hx=>by
        obtain ⟨y,hy,rfl⟩:=List.mem_map.mp hx
        obtain ⟨n,hm,rfl⟩:=List.mem_map.mp hy
        exact num_len (hn n hm).1 (hn n hm).2)
      have h4 : (sg c).length = 1:=rfl
      rw [h4] at h1
      rw [List.length_map,List.length_map] at h2
      rw [List.length_map] at h1
      omega
    refine ⟨_,(pss_one (ps_ret (pe_comp ["piece"] [] rfl rfl (by kernel_rfl) (pi_list (pe_bm PySem.F.plainAttrs_str PySem.F.slot_str_split PySem.F.type_str_split mt_split (pv 0) (pa_cons (pv 1) pa_nil))) (fun _ _ _ _=>(pg_name (i:=0) (show (["piece"] : List Str).Nodup by decide +kernel) rfl (Or.inl rfl))) (fun _ _ _ _=>gk_name) (fun _ _ _ _=>pf_nil) (fun _ _ _ _=>(pe_call G_number_in (hr.mono (by decide)) rfl m_number_in k_number_in b_number_in .nil pass0 (pa_cons (pv 0) pa_nil)))))),?_⟩
    refine ⟨_,rfl,rfl,_,rfl,_,_,rfl,rfl,rfl,szL hlen,by rw [hs,List.length_map]; exact szL (by omega),fun l hl=>?_⟩
    rw [hs]
    have s1:=same_upd (o:=.lst ((ns.map num).map V.str)) hl
    have e1 : (upd H l (.lst ((ns.map num).map V.str))) l = some (.lst ((ns.map num).map V.str)):=upd_same
    have hlen2 : ((ns.map num).map V.str).length = ns.length:=by rw [List.length_map,List.length_map]
    generalize upd H l (.lst ((ns.map num).map V.str)) = H1 at s1 e1 ⊢
    refine ⟨l,rfl,⟨_,SqL.of e1⟩,comp_list (K:=K) (a:=l) (xs:=(ns.map num).map V.str) (fun i ys H'=>H' = H1 ∧ ys = (ns.take i).map V.int) ⟨rfl,rfl⟩ (small1000 (by omega)) ?_ ?_ ?_⟩
    · rintro i ys H' hi ⟨rfl,rfl⟩
      exact ⟨by rw [List.length_map,List.length_take]; omega,SqL.of e1⟩
    · rintro i v ys H' N hv ⟨rfl,rfl⟩ hN C' s₀ H₀ ex
      rw [List.getElem?_map,List.getElem?_map] at hv
      cases hni : ns[i]? with
      | none=>rw [hni] at hv; cases hv
      | some n =>
        rw [hni] at hv
        have hv' : V.str (num n) = v:=Option.some.inj hv
        subst hv'
        have hb:=hn n (List.mem_of_getElem? hni)
        dsimp only [tNoTest,gName]
        refine iteT ?_
        refine ⟨_,rfl,n,rfl,hb.1,hb.2,?_⟩
        refine hN _ _ ⟨rfl,?_⟩
        rw [List.take_succ,hni]
        simp
    · rintro ys H' ⟨rfl,rfl⟩ l2' hl2
      refine q _ l2' (s1.trans (same_upd hl2)) (s1.free hl2) ?_
      rw [upd_same,hlen2,List.take_length]
theorem ok_placesin {fn : Addr} {fdn : FuncData} (F : Fun K "places_in" "places_in" s_places_in f fd) (m_number_in : mg "number_in" = some (.ref fn)) (k_number_in : PySem.W.keepIn K (.ref fn) = true) (b_number_in : Binds K fdn ["text"] []) (G_number_in : FnOk P w K mg base CX0 1 fn fdn ["text"] spNum) : FnOk P w K mg base CX0 3 f fd ["row"] spPlacesIn:=by
  refine F.ok sc_places_in (fun vs H Q E h=>?_) (fun cdv A outer s H vs Q E hr h=>?_)
  · obtain ⟨n,rfl,_⟩:=h
    rfl
  · obtain ⟨n,rfl,n0,nM,q⟩:=h
    refine ⟨_,(pss_one (ps_ret (pe_call G_number_in (hr.mono (by decide)) rfl m_number_in k_number_in b_number_in .nil pass0 (pa_cons (pe_ix ix_tup (pe_bm PySem.F.plainAttrs_str PySem.F.slot_str_partition PySem.F.type_str_partition mt_partition (pv 0) (pa_cons pe_str pa_nil)) pe_int (fun _ _=>rfl)) pa_nil)))),?_⟩
    refine ⟨_,rfl,rfl,_,_,rfl,rfl,by rw [lit_sp]; rfl,szL (Nat.le_trans (first_len n0 nM) (by decide)),fun l hl=>?_⟩
    rw [lit_sp,first_part]
    exact ⟨l,_,_,_,rfl,rfl,SqT.of upd_same,rfl,n,rfl,n0,nM,q _ (same_upd hl)⟩
theorem ok_pipein {fn : Addr} {fdn : FuncData} (F : Fun K "pipe_in" "pipe_in" s_pipe_in f fd) (T : Txt K mg C t1 t2 t3) (m_numbers_in : mg "numbers_in" = some (.ref fn)) (k_numbers_in : PySem.W.keepIn K (.ref fn) = true) (b_numbers_in : Binds K fdn ["text","sign"] []) (G_numbers_in : FnOk P w K mg base CX0 3 fn fdn ["text","sign"] spNums) : FnOk P w K mg base CX0 5 f fd ["row"] (spPipeIn K):=by
  refine F.ok sc_pipe_in (fun vs H Q E h=>?_) (fun cdv A outer s H vs Q E hr h=>?_)
  · obtain ⟨n,p,rfl,_⟩:=h
    rfl
  · obtain ⟨n,p,rfl,ok,n8,q⟩:=h
    obtain ⟨u0,un,w0,wn,_,a1,aM,b1,bM,_⟩:=id ok
    refine ⟨_,(pss_cons (ps_set (i:=1) sc_pipe_in.nd rfl (Or.inl rfl) (pe_bm PySem.F.plainAttrs_str PySem.F.slot_str_partition PySem.F.type_str_partition mt_partition (pv 0) (pa_cons pe_str pa_nil)))
      (pss_cons (ps_set (i:=2) sc_pipe_in.nd rfl (Or.inl rfl) (pe_call G_numbers_in (hr.mono (by decide)) rfl m_numbers_in k_numbers_in b_numbers_in .nil pass0 (pa_cons (pe_ix ix_tup (pv 1) pe_int (fun _ _=>rfl)) (pa_cons pe_str pa_nil))))
      (pss_cons (ps_set (i:=3) sc_pipe_in.nd rfl (Or.inl rfl) (pe_call G_numbers_in (hr.mono (by decide)) rfl m_numbers_in k_numbers_in b_numbers_in .nil pass0 (pa_cons (pe_ix ix_tup (pv 1) pe_int (fun _ _=>rfl)) (pa_cons pe_str pa_nil))))
      (pss_cons (ps_if (pt_cmpR op_eq (pe_callB call_len_seq (by rfl) T.n_len bt_len (pa_cons (pv 3) pa_nil)) pe_int (nomark _)) (pss_one (ps_set (i:=3) sc_pipe_in.nd rfl (Or.inl rfl) (pe_op op_cat (pv 3) (pe_lst (pa_cons pe_int pa_nil))))) pss_nil)
      (pss_one (ps_ret (pe_callTy call_tuple_of (by rfl) T.n_tuple bt_tuple (pa_cons (pe_op op_cat (pv 2) (pe_lst (pa_cons (pe_callTy call_tuple_of (by rfl) T.n_tuple bt_tuple (pa_cons (pv 3) pa_nil)) pa_nil))) pa_nil)))))))),?_⟩
    refine ⟨_,rfl,rfl,_,_,rfl,rfl,by rw [lit_sp]; rfl,szL (Nat.le_trans (row_len u0 (by omega) w0 (by omega) (by omega) aM (by omega) bM) (by decide)),fun l hl=>?_⟩
    rw [lit_sp,row_part u0 w0]
    have s1:=same_upd (o:=.tup [.str (num p.u ++ sg 45 ++ num p.w),.str (sg 32),.str (hardT p.a p.b)]) hl
    have e1 : (upd H l (.tup [.str (num p.u ++ sg 45 ++ num p.w),.str (sg 32),.str (hardT p.a p.b)])) l = some (.tup [.str (num p.u ++ sg 45 ++ num p.w),.str (sg 32),.str (hardT p.a p.b)]):=upd_same
    show _
    generalize upd H l (.tup [.str (num p.u ++ sg 45 ++ num p.w),.str (sg 32),.str (hardT p.a p.b)]) = H1 at s1 e1 ⊢
    refine ⟨_,rfl,l,_,_,_,rfl,rfl,SqT.of e1,rfl,45,[p.u,p.w],by rw [lit_mi,two_join]; rfl,List.cons_ne_nil _ _,Nat.le_refl _,?_,by decide,fun H2 l2 s2 f2 e2=>?_⟩
    · intro m hm
      rcases List.mem_cons.mp hm with rfl | hm
      · omega
      · have:=List.mem_singleton.mp hm
        omega
    replace e2 : H2 l2 = some (.lst [.int p.u,.int p.w]):=e2
    by_cases eb : p.b = 1
    · have eh : hardT p.a p.b = num p.a:=if_pos eb
      refine ⟨_,rfl,l,_,_,_,rfl,rfl,SqT.of (s2 _ _ e1),rfl,47,[p.a],by rw [lit_sl,eh]; rfl,List.cons_ne_nil _ _,by show 1 ≤ 2; decide,?_,by decide,fun H3 l3 s3 f3 e3=>?_⟩
      · intro m hm
        have:=List.mem_singleton.mp hm
        omega
      refine ⟨_,rfl,l3,_,rfl,.inl (SqL.of e3),rfl,_,rfl,iteT ?_⟩
      refine ⟨_,rfl,by show 1 ≤ sizeLine; decide,fun l4 hl4=>?_⟩
      have s4:=same_upd (o:=.lst [.int 1]) hl4
      have e4 : (upd H3 l4 (.lst [.int 1])) l4 = some (.lst [.int 1]):=upd_same
      generalize upd H3 l4 (.lst [.int 1]) = H4 at s4 e4 ⊢
      refine ⟨l3,l4,_,_,rfl,rfl,s4 _ _ e3,e4,by show 2 ≤ sizeLine; decide,fun l5 hl5=>?_⟩
      have s5:=same_upd (o:=.lst ([p.a].map V.int ++ [.int 1])) hl5
      have e5 : (upd H4 l5 (.lst ([p.a].map V.int ++ [.int 1]))) l5 = some (.lst [.int p.a,.int p.b]):=by rw [eb]; exact upd_same
      show _
      generalize upd H4 l5 (.lst ([p.a].map V.int ++ [.int 1])) = H5 at s5 e5 ⊢
      have s35:=(s3.trans s4).trans s5
      refine ⟨_,rfl,_,rfl,l5,_,rfl,.inl ⟨SqL.of e5,fun t ht=>?_⟩⟩
      have s7:=same_upd (o:=.tup [.int p.a,.int p.b]) ht
      have e7 : (upd H5 t (.tup [.int p.a,.int p.b])) t = some (.tup [.int p.a,.int p.b]):=upd_same
      show _
      generalize upd H5 t (.tup [.int p.a,.int p.b]) = H7 at s7 e7 ⊢
      refine ⟨by show 1 ≤ sizeLine; decide,fun l6 hl6=>?_⟩
      have s8:=same_upd (o:=.lst [.ref t]) hl6
      have e8 : (upd H7 l6 (.lst [.ref t])) l6 = some (.lst [.ref t]):=upd_same
      generalize upd H7 l6 (.lst [.ref t]) = H8 at s8 e8 ⊢
      refine ⟨l2,l6,_,_,rfl,rfl,(s7.trans s8) _ _ (s35 _ _ e2),e8,by show 3 ≤ sizeLine; decide,fun l7 hl7=>?_⟩
      have s9:=same_upd (o:=.lst ([.int p.u,.int p.w] ++ [.ref t])) hl7
      have e9 : (upd H8 l7 (.lst ([.int p.u,.int p.w] ++ [.ref t]))) l7 = some (.lst [.int p.u,.int p.w,.ref t]):=upd_same
      generalize upd H8 l7 (.lst ([.int p.u,.int p.w] ++ [.ref t])) = H9 at s9 e9 ⊢
      refine ⟨l7,_,rfl,.inl ⟨SqL.of e9,fun r hr'=>?_⟩⟩
      have s10:=same_upd (o:=.tup [.int p.u,.int p.w,.ref t]) hr'
      exact q _ _ ((s1.trans s2).trans ((s35.trans (s7.trans s8)).trans (s9.trans s10))) ⟨r,t,rfl,SqT.of upd_same,SqT.of ((s8.trans (s9.trans s10)) _ _ e7)⟩
    · have eh : hardT p.a p.b = num p.a ++ sg 47 ++ num p.b:=if_neg eb
      refine ⟨_,rfl,l,_,_,_,rfl,rfl,SqT.of (s2 _ _ e1),rfl,47,[p.a,p.b],by rw [lit_sl,eh,two_join]; rfl,List.cons_ne_nil _ _,Nat.le_refl _,?_,by decide,fun H3 l3 s3 f3 e3=>?_⟩
      · intro m hm
        rcases List.mem_cons.mp hm with rfl | hm
        · omega
        · have:=List.mem_singleton.mp hm
          omega
      replace e3 : H3 l3 = some (.lst [.int p.a,.int p.b]):=e3
      refine ⟨_,rfl,l3,_,rfl,.inl (SqL.of e3),rfl,_,rfl,iteF ?_⟩
      refine ⟨_,rfl,_,rfl,l3,_,rfl,.inl ⟨SqL.of e3,fun t ht=>?_⟩⟩
      have s7:=same_upd (o:=.tup [.int p.a,.int p.b]) ht
      have e7 : (upd H3 t (.tup [.int p.a,.int p.b])) t = some (.tup [.int p.a,.int p.b]):=upd_same
      show _
      generalize upd H3 t (.tup [.int p.a,.int p.b]) = H7 at s7 e7 ⊢
      refine ⟨by show 1 ≤ sizeLine; decide,fun l6 hl6=>?_⟩
      have s8:=same_upd (o:=.lst [.ref t]) hl6
      have e8 : (upd H7 l6 (.lst [.ref t])) l6 = some (.lst [.ref t]):=upd_same
      generalize upd H7 l6 (.lst [.ref t]) = H8 at s8 e8 ⊢
      refine ⟨l2,l6,_,_,rfl,rfl,(s7.trans s8) _ _ (s3 _ _ e2),e8,by show 3 ≤ sizeLine; decide,fun l7 hl7=>?_⟩
      have s9:=same_upd (o:=.lst ([.int p.u,.int p.w] ++ [.ref t])) hl7
      have e9 : (upd H8 l7 (.lst ([.int p.u,.int p.w] ++ [.ref t]))) l7 = some (.lst [.int p.u,.int p.w,.ref t]):=upd_same
      generalize upd H8 l7 (.lst ([.int p.u,.int p.w] ++ [.ref t])) = H9 at s9 e9 ⊢
      refine ⟨l7,_,rfl,.inl ⟨SqL.of e9,fun r hr'=>?_⟩⟩
      have s10:=same_upd (o:=.tup [.int p.u,.int p.w,.ref t]) hr'
      exact q _ _ ((s1.trans s2).trans ((s3.trans (s7.trans s8)).trans (s9.trans s10))) ⟨r,t,rfl,SqT.of upd_same,SqT.of ((s8.trans (s9.trans s10)) _ _ e7)⟩
end
end K2
namespace K2
open PySem L2 Mp Tx
def spRead (K : PySem.W.Frag) (C : Addr) : Sp:=fun vs H Q _=>∃ (n : Int) (ps : List Pipe),vs = [.str (netT n ps)] ∧ NetOk n ps ∧ ∀ (H' : Hp) (x L : Addr),Same H H' → H x = none → H L = none → NetAt K C H' x L n ps → Q (.ref x) H'
def spPlain (K : PySem.W.Frag) : Sp:=fun vs H Q _=>∃ (t l : Addr) (n : Int) (us : List V) (ps : List Pipe),vs = [.ref t] ∧ SqT K H t [.int n,.ref l] ∧ SqL K H l us ∧ PipesAt K H us ps ∧ NetOk n ps ∧ ∀ H',Same H H' → Q (.str (netT n ps)) H'
section
variable {P : Program} {w : World} {K : PySem.W.Frag} {mg : Str → Option Value} {base : Heap} {C f : Addr} {fd : FuncData} {t1 t2 t3 : Tok}
theorem ok_read {fi f1 f2 f3 f4 f5 : Addr} {fdi fd1 fd2 fd3 fd4 fd5 : FuncData} (F : Fun K "read" "read" s_read f fd) (T : Txt K mg C t1 t2 t3) (M_Net : Mk K C fi) (m_Net : mg "Net" = some (.ref C)) (b_Net : Binds K fdi ["self","places","pipes"] []) (G_Net : FnOk P w K mg base CX0 6 fi fdi ["self","places","pipes"] (spInit K C))
    (m_is_net : mg "is_net" = some (.ref f1)) (k_is_net : PySem.W.keepIn K (.ref f1) = true) (b_is_net : Binds K fd1 ["places","pipes"] []) (G_is_net : FnOk P w K mg base CX0 5 f1 fd1 ["places","pipes"] (spNet K))
    (m_first_row : mg "first_row" = some (.ref f2)) (k_first_row : PySem.W.keepIn K (.ref f2) = true) (b_first_row : Binds K fd2 ["places"] []) (G_first_row : FnOk P w K mg base CX0 1 f2 fd2 ["places"] spFirst)
    (m_pipe_row : mg "pipe_row" = some (.ref f3)) (k_pipe_row : PySem.W.keepIn K (.ref f3) = true) (b_pipe_row : Binds K fd3 ["pipe"] []) (G_pipe_row : FnOk P w K mg base CX0 2 f3 fd3 ["pipe"] (spRow K))
    (m_places_in : mg "places_in" = some (.ref f4)) (k_places_in : PySem.W.keepIn K (.ref f4) = true) (b_places_in : Binds K fd4 ["row"] []) (G_places_in : FnOk P w K mg base CX0 3 f4 fd4 ["row"] spPlacesIn)
    (m_pipe_in : mg "pipe_in" = some (.ref f5)) (k_pipe_in : PySem.W.keepIn K (.ref f5) = true) (b_pipe_in : Binds K fd5 ["row"] []) (G_pipe_in : FnOk P w K mg base CX0 5 f5 fd5 ["row"] (spPipeIn K)) : FnOk P w K mg base CX0 9 f fd ["text"] (spRead K C):=by
  refine F.ok sc_read (fun vs H Q E h=>?_) (fun cdv A outer s H vs Q E hr h=>?_)
  · obtain ⟨n,ps,rfl,_⟩:=h
    rfl
  · obtain ⟨n,ps,rfl,ok,q⟩:=h
    have hle:=ok.le
    have n1:=ok.n1
    have n8:=ok.n8
    refine ⟨_,(pss_cons (ps_set (i:=1) sc_read.nd rfl (Or.inl rfl) (pe_bm PySem.F.plainAttrs_str PySem.F.slot_str_split PySem.F.type_str_split mt_split (pv 0) (pa_cons pe_str pa_nil)))
      (pss_cons (ps_set (i:=2) sc_read.nd rfl (Or.inl rfl) (pe_call G_places_in (hr.mono (by decide)) rfl m_places_in k_places_in b_places_in .nil pass0 (pa_cons (pe_ix ix_list (pv 1) pe_int (fun _ _=>rfl)) pa_nil)))
      (pss_cons (ps_if (PW.pt (pw_or (pt_not (pt_val (pe_call G_is_net (hr.mono (by decide)) rfl m_is_net k_is_net b_is_net .nil pass0 (pa_cons (pv 2) (pa_cons (pe_lst pa_nil) pa_nil))))) (pw_or1 (pt_cmpR op_ne (pe_call G_first_row (hr.mono (by decide)) rfl m_first_row k_first_row b_first_row .nil pass0 (pa_cons (pv 2) pa_nil)) (pe_ix ix_list (pv 1) pe_int (fun _ _=>rfl)) (nomark _))))) (pss_one ps_never) pss_nil)
      (pss_cons (ps_set (i:=3) sc_read.nd rfl (Or.inl rfl) (pe_lst pa_nil))
      (pss_cons (ps_for PassesOwn.never rfl (pi_enumS rfl T.n_enumerate (pa_cons (pe_slice sl_list (pv 1) (po_some pe_int) po_none) pa_nil)) (pg_tup (n:=2) rfl (pgs_cons (pg_name (i:=4) sc_read.nd rfl (Or.inl rfl)) (pgs_cons (pg_name (i:=5) sc_read.nd rfl (Or.inl rfl)) pgs_nil))) (pss_cons (ps_set (i:=6) sc_read.nd rfl (Or.inl rfl) (pe_call G_pipe_in (hr.mono (by decide)) rfl m_pipe_in k_pipe_in b_pipe_in .nil pass0 (pa_cons (pv 5) pa_nil)))
      (pss_cons (ps_expr (pe_bm PySem.F.plainAttrs_list PySem.F.slot_list_append PySem.F.type_list_append mt_append (pv 3) (pa_cons (pv 6) pa_nil)))
      (pss_one (ps_if (PW.pt (pw_or (pt_not (pt_val (pe_call G_is_net (hr.mono (by decide)) rfl m_is_net k_is_net b_is_net .nil pass0 (pa_cons (pv 2) (pa_cons (pv 3) pa_nil))))) (pw_or1 (pt_cmpR op_ne (pe_call G_pipe_row (hr.mono (by decide)) rfl m_pipe_row k_pipe_row b_pipe_row .nil pass0 (pa_cons (pv 6) pa_nil)) (pv 5) (nomark _))))) (pss_one ps_never) pss_nil)))))
      (pss_one (ps_ret (pe_make M_Net G_Net (hr.mono (by decide)) rfl m_Net b_Net .nil pass0 (pa_cons (pv 2) (pa_cons (pv 3) pa_nil)))))))))),?_⟩
    refine ⟨_,rfl,rfl,_,_,rfl,rfl,by rw [lit_nl]; rfl,ok.text,by rw [lit_nl,ok.split]; exact szL (by rw [List.length_cons,List.length_map]; omega),fun l hl=>?_⟩
    rw [lit_nl,ok.split]
    have s1:=same_upd (o:=.lst ((firstT n :: ps.map rowP).map V.str)) hl
    have e1 : (upd H l (.lst ((firstT n :: ps.map rowP).map V.str))) l = some (.lst ((firstT n :: ps.map rowP).map V.str)):=upd_same
    show _
    generalize upd H l (.lst ((firstT n :: ps.map rowP).map V.str)) = H1 at s1 e1 ⊢
    replace e1 : H1 l = some (.lst (V.str (firstT n) :: (ps.map rowP).map V.str)):=e1
    have at0 : atI (V.str (firstT n) :: (ps.map rowP).map V.str) 0 = some (V.str (firstT n)):=atI_nat (j:=0) rfl
    refine ⟨_,rfl,l,_,_,_,rfl,rfl,SqL.of e1,at0,n,rfl,by omega,by omega,fun H2 s2=>?_⟩
    refine ⟨_,rfl,by show 0 ≤ sizeLine; decide,fun le hle'=>?_⟩
    have s3:=same_upd (o:=.lst []) hle'
    have e3 : (upd H2 le (.lst [])) le = some (.lst []):=upd_same
    generalize upd H2 le (.lst []) = H3 at s3 e3 ⊢
    refine ⟨n,le,[],[],rfl,SqL.of e3,.nil,⟨n1,n8,(fun _ h=>nomatch h),Nat.zero_le _⟩,fun H4 s4=>⟨_,rfl,iteF ?_⟩⟩
    have s14:=(s2.trans s3).trans s4
    refine ⟨_,rfl,n,rfl,by omega,by omega,_,rfl,l,_,_,_,rfl,rfl,SqL.of (s14 _ _ e1),at0,rfl,_,rfl,?_⟩
    rw [decide_eq_true rfl]
    refine iteF ?_
    refine ⟨by show 0 ≤ sizeLine; decide,fun lp hlp=>?_⟩
    have s5:=same_upd (o:=.lst []) hlp
    have e5 : (upd H4 lp (.lst [])) lp = some (.lst []):=upd_same
    have hlpH : H lp = none:=(s1.trans s14).free hlp
    have s05:=(s1.trans s14).trans s5
    have e1':=(s14.trans s5) _ _ e1
    generalize upd H4 lp (.lst []) = H5 at s5 e5 s05 e1' ⊢
    refine ⟨_,rfl,_,rfl,l,_,rfl,SqL.of e1',fun p2 hp2=>?_⟩
    have hcut : cutV (V.str (firstT n) :: (ps.map rowP).map V.str) (some (1 : Int)) none = (ps.map rowP).map V.str:=cut_drop (k:=1) (by simp)
    rw [hcut]
    have s6:=same_upd (o:=.lst ((ps.map rowP).map V.str)) hp2
    have e6 : (upd H5 p2 (.lst ((ps.map rowP).map V.str))) p2 = some (.lst ((ps.map rowP).map V.str)):=upd_same
    have np : p2 ≠ lp:=(ne_of_none e5 hp2).symm
    have e56:=s6 _ _ e5
    have s06:=s05.trans s6
    generalize upd H5 p2 (.lst ((ps.map rowP).map V.str)) = H6 at s6 e6 e56 s06 ⊢
    have hlen : ((ps.map rowP).map V.str).length = ps.length:=by rw [List.length_map,List.length_map]
    refine ⟨p2,rfl,⟨_,SqL.of e6⟩,?_⟩
    refine for_enumS (K:=K) (a:=p2) (xs:=(ps.map rowP).map V.str) (fun i σ H7=>∃ (us : List V) (v4 v5 v6 : Option V),σ = [some (.str (netT n ps)),some (.ref l),some (.int n),some (.ref lp),v4,v5,v6] ∧ Same H H7 ∧ H7 lp = some (.lst us) ∧ PipesAt K H7 us (ps.take i) ∧ H7 p2 = some (.lst ((ps.map rowP).map V.str)))
      ⟨[],none,none,none,rfl,s06,e56,.nil,e6⟩ ?_ ?_ ?_
    · rintro i σ H7 _ ⟨us,v4,v5,v6,rfl,_,_,_,h⟩
      exact SqL.of h
    · rintro i x σ H7 p hx ⟨us,v4,v5,v6,rfl,s7,e7,pa7,r7⟩ hp
      rw [List.getElem?_map,List.getElem?_map] at hx
      cases hpi : ps[i]? with
      | none=>rw [hpi] at hx; cases hx
      | some pp =>
        rw [hpi] at hx
        have hx' : V.str (rowP pp) = x:=Option.some.inj hx
        subst hx'
        have okp:=ok.ok pp (List.mem_of_getElem? hpi)
        have hus : us.length = (ps.take i).length:=Paired.length pa7
        have ht : ps.take (i + 1) = ps.take i ++ [pp]:=by rw [List.take_succ,hpi]; rfl
        have s8:=same_upd (o:=.tup [.int ((i + 2 : Nat) : Int),.str (rowP pp)]) hp
        have e8 : (upd H7 p (.tup [.int ((i + 2 : Nat) : Int),.str (rowP pp)])) p = some (.tup [.int ((i + 2 : Nat) : Int),.str (rowP pp)]):=upd_same
        generalize upd H7 p (.tup [.int ((i + 2 : Nat) : Int),.str (rowP pp)]) = H8 at s8 e8 ⊢
        refine ⟨p,_,rfl,SqT.of e8,rfl,_,_,rfl,_,_,rfl,rfl,?_⟩
        refine ⟨_,rfl,n,pp,rfl,okp,n8,fun H9 v s9 hv=>?_⟩
        have s79:=s8.trans s9
        have e9:=s79 _ _ e7
        refine ⟨_,rfl,.inl ⟨rfl,_,SqL.of e9⟩,_,rfl,lp,us,v,rfl,rfl,e9,small1000 (by rw [hus,List.length_take]; omega),?_⟩
        have eA : (upd H9 lp (.lst (us ++ [v]))) lp = some (.lst (us ++ [v])):=upd_same
        have paA : PipesAt K (upd H9 lp (.lst (us ++ [v]))) (us ++ [v]) (ps.take (i + 1)):=by
          rw [ht]
          exact PipesAt.ne e9 (fun _=>nofun) (fun _ _=>nofun) (PipesAt.snoc (PipesAt.same s79 pa7) hv)
        have rA : (upd H9 lp (.lst (us ++ [v]))) p2 = some (.lst ((ps.map rowP).map V.str)):=by rw [upd_ne np]; exact s79 _ _ r7
        have sA : Same H (upd H9 lp (.lst (us ++ [v]))):=fun b o e=>by
          rw [upd_ne (ne_of_none e hlpH)]
          exact (s7.trans s79) _ _ e
        have vA : PipeAt K (upd H9 lp (.lst (us ++ [v]))) v pp:=hv.ne e9 (fun _=>nofun) (fun _ _=>nofun)
        show _
        generalize upd H9 lp (.lst (us ++ [v])) = HA at eA paA rA sA vA ⊢
        have ok' : NetOk n (ps.take (i + 1)):=⟨n1,n8,fun p hp=>ok.ok p (List.mem_of_mem_take hp),by rw [List.length_take]; omega⟩
        refine ⟨_,rfl,_,rfl,n,lp,us ++ [v],ps.take (i + 1),rfl,SqL.of eA,paA,ok',fun HB sB=>⟨_,rfl,iteF ?_⟩⟩
        refine ⟨_,rfl,v,n,pp,rfl,vA.same sB,okp,n8,_,rfl,rfl,_,rfl,?_⟩
        rw [decide_eq_true rfl]
        refine iteF ?_
        exact ⟨us ++ [v],_,_,_,rfl,sA.trans sB,sB _ _ eA,PipesAt.same sB paA,sB _ _ rA⟩
    · rintro σ H7 ⟨us,v4,v5,v6,rfl,s7,e7,pa7,r7⟩
      rw [hlen,List.take_length] at pa7
      refine ⟨_,rfl,_,rfl,?_⟩
      intro x' dx' nx ndx nex
      have s0:=made_s0 (C:=C) nx ndx
      refine ⟨x',dx',lp,n,_,_,rfl,upd_same,SqL.of (s0 _ _ e7),PipesAt.same s0 pa7,ok,fun H' L' hL net' kp=>⟨rfl,?_⟩⟩
      exact q _ x' L' (s7.trans (made_same (n:=n) nx ndx kp)) (s7.free nx) (s7.free (s0.free hL)) net'
theorem ok_plain (F : Fun K "_law_plain" "_law_plain" s__law_plain f fd) (T : Txt K mg C t1 t2 t3) : FnOk P w K mg base CX0 1 f fd ["_law_told_here"] (spPlain K):=by
  refine F.ok sc__law_plain (fun vs H Q E h=>?_) (fun cdv A outer s H vs Q E hr h=>?_)
  · obtain ⟨t,l,n,us,ps,rfl,_⟩:=h
    rfl
  · obtain ⟨t,l,n,us,ps,rfl,ht,hl,hp,ok,q⟩:=h
    have hle:=ok.le
    have n1:=ok.n1
    have n8:=ok.n8
    have hus : us.length = ps.length:=Paired.length hp
    refine ⟨_,(pss_cons (ps_set (i:=1) sc__law_plain.nd rfl (Or.inl rfl) (pe_lst (pa_cons (pe_op op_add_str pe_str (pe_callTy call_str_int (by rfl) T.n_str bt_str (pa_cons (pe_ix ix_tup (pv 0) pe_int (fun _ _=>rfl)) pa_nil))) pa_nil)))
      (pss_cons (ps_for PassesOwn.never rfl (pi_list (pe_ix ix_tup (pv 0) pe_int (fun _ _=>rfl))) (pg_tup (n:=3) rfl (pgs_cons (pg_name (i:=2) sc__law_plain.nd rfl (Or.inl rfl)) (pgs_cons (pg_name (i:=3) sc__law_plain.nd rfl (Or.inl rfl)) (pgs_cons (pg_name (i:=4) sc__law_plain.nd rfl (Or.inl rfl)) pgs_nil)))) (pss_cons (ps_set (i:=5) sc__law_plain.nd rfl (Or.inl rfl) (pe_callTy call_str_int (by rfl) T.n_str bt_str (pa_cons (pe_ix ix_tup (pv 4) pe_int (fun _ _=>rfl)) pa_nil)))
      (pss_cons (ps_if (pt_cmpR op_gt (pe_ix ix_tup (pv 4) pe_int (fun _ _=>rfl)) pe_int (nomark _)) (pss_one (ps_set (i:=5) sc__law_plain.nd rfl (Or.inl rfl) (pe_op op_add_str (pe_op op_add_str (pv 5) pe_str) (pe_callTy call_str_int (by rfl) T.n_str bt_str (pa_cons (pe_ix ix_tup (pv 4) pe_int (fun _ _=>rfl)) pa_nil))))) pss_nil)
      (pss_one (ps_expr (pe_bm PySem.F.plainAttrs_list PySem.F.slot_list_append PySem.F.type_list_append mt_append (pv 1) (pa_cons (pe_op op_add_str (pe_op op_add_str (pe_op op_add_str (pe_op op_add_str (pe_callTy call_str_int (by rfl) T.n_str bt_str (pa_cons (pv 2) pa_nil)) pe_str) (pe_callTy call_str_int (by rfl) T.n_str bt_str (pa_cons (pv 3) pa_nil))) pe_str) (pv 5)) pa_nil)))))))
      (pss_one (ps_ret (pe_bm PySem.F.plainAttrs_str PySem.F.slot_str_join PySem.F.type_str_join mt_join pe_str (pa_cons (pv 1) pa_nil)))))),?_⟩
    refine ⟨_,rfl,t,_,_,_,rfl,rfl,ht,rfl,n,rfl,num_small (by omega) (by omega),_,_,rfl,rfl,?_,?_⟩
    · rw [lit_places,← app_len]
      exact szL (Nat.le_trans (first_len (n:=n) (by omega) (by omega)) (by decide))
    rw [lit_places]
    refine ⟨by show 1 ≤ sizeLine; decide,fun l1 hl1=>?_⟩
    have s1:=same_upd (o:=.lst [.str (firstT n)]) hl1
    have e1 : (upd H l1 (.lst [.str (firstT n)])) l1 = some (.lst [.str (firstT n)]):=upd_same
    have f1 : firstT n = wordP ++ sg 32 ++ num n:=rfl
    rw [← f1]
    generalize upd H l1 (.lst [.str (firstT n)]) = H1 at s1 e1 ⊢
    refine ⟨_,rfl,t,_,_,_,rfl,rfl,Same.tup s1 ht,rfl,l,rfl,⟨_,s1.seq hl⟩,?_⟩
    have hl1H : H l1 = none:=hl1
    refine for_list (K:=K) (a:=l) (xs:=us) (fun i σ H2=>∃ (v2 v3 v4 v5 : Option V),σ = [some (.ref t),some (.ref l1),v2,v3,v4,v5] ∧ Same H H2 ∧ H2 l1 = some (.lst ((firstT n :: (ps.take i).map rowP).map V.str))) ⟨none,none,none,none,rfl,s1,e1⟩ ?_ ?_ ?_
    · rintro i σ H2 _ ⟨v2,v3,v4,v5,rfl,s2,_⟩
      exact s2.seq hl
    · rintro i x σ H2 hx ⟨v2,v3,v4,v5,rfl,s2,e2⟩
      obtain ⟨p,hpi,⟨x,y,rfl,hx3,hy⟩⟩:=hp.get hx
      obtain ⟨u0,un,w0,wn,_,a1,aM,b1,bM,_⟩:=ok.ok p (List.mem_of_getElem? hpi)
      have ht : ps.take (i + 1) = ps.take i ++ [p]:=by rw [List.take_succ,hpi]; rfl
      have g1:=num_len u0 (show p.u ≤ 1000000000 by omega)
      have g2:=num_len w0 (show p.w ≤ 1000000000 by omega)
      have g3:=hard_len (show 0 ≤ p.a by omega) aM (show 0 ≤ p.b by omega) bM
      have g4:=num_len (show 0 ≤ p.a by omega) aM
      have g5:=num_len (show 0 ≤ p.b by omega) bM
      have l1' : (num p.u ++ sg 45).length ≤ 11:=by rw [app_len]; show _ + 1 ≤ 11; omega
      have l2' : (num p.u ++ sg 45 ++ num p.w).length ≤ 21:=by rw [app_len]; omega
      have l3' : (num p.u ++ sg 45 ++ num p.w ++ sg 32).length ≤ 22:=by rw [app_len]; show _ + 1 ≤ 22; omega
      have l4' : (num p.u ++ sg 45 ++ num p.w ++ sg 32 ++ hardT p.a p.b).length ≤ 43:=by rw [app_len]; omega
      refine ⟨x,_,rfl,Same.tup s2 hx3,rfl,_,_,rfl,_,_,rfl,_,_,rfl,rfl,?_⟩
      refine ⟨_,rfl,y,_,_,_,rfl,rfl,Same.tup s2 hy,rfl,p.a,rfl,num_small (by omega) aM,?_⟩
      refine ⟨_,rfl,y,_,_,_,rfl,rfl,Same.tup s2 hy,rfl,_,_,rfl,rfl,_,rfl,?_⟩
      have fin : ∀ v5 : Option V,∃ (w2 w3 w4 w5 : Option V),[some (V.ref t),some (.ref l1),some (.int p.u),some (.int p.w),some (.ref y),v5] = [some (.ref t),some (.ref l1),w2,w3,w4,w5] ∧ Same H (upd H2 l1 (.lst ((firstT n :: (ps.take i).map rowP).map V.str ++ [V.str (num p.u ++ sg 45 ++ num p.w ++ sg 32 ++ hardT p.a p.b)]))) ∧ (upd H2 l1 (.lst ((firstT n :: (ps.take i).map rowP).map V.str ++ [V.str (num p.u ++ sg 45 ++ num p.w ++ sg 32 ++ hardT p.a p.b)]))) l1 = some (.lst ((firstT n :: (ps.take (i + 1)).map rowP).map V.str)):=fun v5=>by
        refine ⟨_,_,_,_,rfl,fun b o e=>?_,?_⟩
        · rw [upd_ne (ne_of_none e hl1H)]
          exact s2 _ _ e
        · rw [upd_same,ht]
          simp [rowT]
      by_cases eb : p.b > 1
      · have eh : hardT p.a p.b = num p.a ++ sg 47 ++ num p.b:=if_neg (by omega)
        rw [decide_eq_true eb]
        refine iteT ?_
        refine ⟨_,rfl,_,_,rfl,rfl,by rw [lit_sl]; exact szL (Nat.le_trans (Nat.add_le_add_right g4 1) (by decide)),_,rfl,y,_,_,_,rfl,rfl,Same.tup s2 hy,rfl,p.b,rfl,num_small (by omega) bM,_,_,rfl,rfl,by rw [lit_sl,app_len]; exact szL (Nat.le_trans (Nat.add_le_add (Nat.add_le_add_right g4 1) g5) (by decide)),?_⟩
        refine ⟨_,rfl,.inl ⟨rfl,_,SqL.of e2⟩,_,rfl,p.u,rfl,num_small u0 (by omega),_,_,rfl,rfl,by rw [lit_mi,← app_len]; exact szL (Nat.le_trans l1' (by decide)),_,rfl,p.w,rfl,num_small w0 (by omega),_,_,rfl,rfl,by rw [lit_mi,← app_len]; exact szL (Nat.le_trans l2' (by decide)),_,_,rfl,rfl,by rw [lit_mi,lit_sp,← app_len]; exact szL (Nat.le_trans l3' (by decide)),_,rfl,_,_,rfl,rfl,by rw [lit_mi,lit_sp,lit_sl,← eh,← app_len]; exact szL (Nat.le_trans l4' (by decide)),l1,_,_,rfl,rfl,e2,small1000 (by rw [List.length_map,List.length_cons,List.length_map,List.length_take]; omega),?_⟩
        rw [lit_mi,lit_sp,lit_sl,← eh]
        exact fin _
      · have eh : hardT p.a p.b = PySem.Str.ofString (toString p.a):=if_pos (by omega)
        rw [decide_eq_false eb]
        refine iteF ?_
        refine ⟨_,rfl,.inl ⟨rfl,_,SqL.of e2⟩,_,rfl,p.u,rfl,num_small u0 (by omega),_,_,rfl,rfl,by rw [lit_mi,← app_len]; exact szL (Nat.le_trans l1' (by decide)),_,rfl,p.w,rfl,num_small w0 (by omega),_,_,rfl,rfl,by rw [lit_mi,← app_len]; exact szL (Nat.le_trans l2' (by decide)),_,_,rfl,rfl,by rw [lit_mi,lit_sp,← app_len]; exact szL (Nat.le_trans l3' (by decide)),_,rfl,_,_,rfl,rfl,by rw [lit_mi,lit_sp,← eh,← app_len]; exact szL (Nat.le_trans l4' (by decide)),l1,_,_,rfl,rfl,e2,small1000 (by rw [List.length_map,List.length_cons,List.length_map,List.length_take]; omega),?_⟩
        rw [lit_mi,lit_sp,← eh]
        exact fin _
    · rintro σ H2 ⟨v2,v3,v4,v5,rfl,s2,e2⟩
      rw [hus,List.take_length] at e2
      refine ⟨rfl,_,rfl,_,l1,_,rfl,rfl,SqL.of e2,?_,?_⟩
      · rw [lit_nl]
        exact ok.join
      · rw [lit_nl,txt_join]
        exact q _ s2
end
end K2
namespace K2
open PySem L2 Mp Tx
theorem PipeAt.rep {K : PySem.W.Frag} {H : Hp} {v : V} {p : Pipe} (h : PipeAt K H v p) : Rep K H v (.tuple [.int p.u,.int p.w,.tuple [.int p.a,.int p.b]]):=by
  obtain ⟨x,y,rfl,hx,hy⟩:=h
  exact .tup hx (.cons (.int _) (.cons (.int _) (.cons (.tup hy (.cons (.int _) (.cons (.int _) .nil))) .nil)))
def pipesD (ps : List Pipe) : List PyData:=ps.map fun p=>.tuple [.int p.u,.int p.w,.tuple [.int p.a,.int p.b]]
theorem PipesAt.reps {K : PySem.W.Frag} {H : Hp} : ∀ {us : List V} {ps : List Pipe},PipesAt K H us ps → Reps K H us (pipesD ps)
  | _,_,.nil=>.nil
  | _,_,.cons a b=>.cons a.rep (PipesAt.reps b)
theorem pipesD_lay : ∀ ps : List Pipe,(PyData.list (pipesD ps)).canLay0 = true
  | []=>rfl
  | p :: ps=>pipesD_lay ps
theorem pipesD_depth (ps : List Pipe) : (PyData.list (pipesD ps)).depth ≤ 40:=by
  have key : ∀ ps : List Pipe,PyData.depthAll (pipesD ps) ≤ 2:=by
    intro ps
    induction ps with
    | nil=>show 0 ≤ 2; decide
    | cons p r ih =>
      show max _ (PyData.depthAll (pipesD r)) ≤ 2
      exact Nat.max_le.mpr ⟨by show 2 ≤ 2; decide,ih⟩
  show PyData.depthAll (pipesD ps) + 1 ≤ 40
  have:=key ps
  omega
theorem pipesD_eq : ∀ ps : List Pipe,PyData.eqvAll (pipesD ps) (pipesD ps) = true
  | []=>rfl
  | p :: ps=>by
    show (((p.u == p.u) && ((p.w == p.w) && ((((p.a == p.a) && ((p.b == p.b) && true))) && true))) && PyData.eqvAll (pipesD ps) (pipesD ps)) = true
    rw [pipesD_eq ps]
    simp
theorem rNe_pipes {K : PySem.W.Frag} {H : Hp} {a b : Addr} {us vs : List V} {ps : List Pipe} {Q : V → Hp → Prop} (ha : H a = some (.lst us)) (hb : H b = some (.lst vs)) (pa : PipesAt K H us ps) (pb : PipesAt K H vs ps) (k : Q (.bl false) H) : rEqD K true (.ref a) (.ref b) H Q :=
  ⟨_,_,.lst (SqL.of ha) pa.reps,.lst (SqL.of hb) pb.reps,pipesD_lay ps,pipesD_lay ps,pipesD_depth ps,by
    rw [if_pos rfl]
    have : PyData.eqv (.list (pipesD ps)) (.list (pipesD ps)) = true:=pipesD_eq ps
    rw [this]
    exact k⟩
theorem rEq_pipes {K : PySem.W.Frag} {H : Hp} {a b : Addr} {us vs : List V} {ps : List Pipe} {Q : V → Hp → Prop} (ha : H a = some (.lst us)) (hb : H b = some (.lst vs)) (pa : PipesAt K H us ps) (pb : PipesAt K H vs ps) (k : Q (.bl true) H) : rEqD K false (.ref a) (.ref b) H Q :=
  ⟨_,_,.lst (SqL.of ha) pa.reps,.lst (SqL.of hb) pb.reps,pipesD_lay ps,pipesD_lay ps,pipesD_depth ps,by
    rw [if_neg Bool.false_ne_true]
    have : PyData.eqv (.list (pipesD ps)) (.list (pipesD ps)) = true:=pipesD_eq ps
    rw [this]
    exact k⟩
theorem ixN_nat {n j : Nat} (h : j < n) : ixN n (j : Int) = some j:=by
  unfold ixN
  rw [if_pos (by omega),if_pos (by omega)]
  rfl
def eightU (i : Nat) : Int:=(i : Int) % 8
def eightW (i : Nat) : Int:=((i : Int) + 1 + (i : Int) / 8) % 8
theorem eight_ok {i : Nat} (h : i < 28) {a b : Int} (a1 : 1 ≤ a) (aM : a ≤ 1000000000) (b1 : 1 ≤ b) (bM : b ≤ 1000000000) (gc : Int.gcd a b = 1) : PipeOk 8 ⟨eightU i,eightW i,a,b⟩:=by
  refine ⟨?_,?_,?_,?_,?_,a1,aM,b1,bM,gc⟩ <;> (dsimp only [eightU,eightW] <;> omega)
end K2
namespace K2
open PySem L2 Mp Tx
section
structure Calls2 (P : Program) (w : World) (K : PySem.W.Frag) (mg : Str → Option Value) (base : Heap) (C fx0 fx1 fx2 fx3 fx4 fx5 fx6 fx7 : Addr) (fdx0 fdx1 fdx2 fdx3 fdx4 fdx5 fdx6 fdx7 : FuncData) : Prop where
  m__law_told : mg "_law_told" = some (.ref fx0)
  k__law_told : PySem.W.keepIn K (.ref fx0) = true
  b__law_told : Binds K fdx0 ["_law_script","_law_first","_law_most"] []
  G__law_told : FnOk P w K mg base CX0 2 fx0 fdx0 ["_law_script","_law_first","_law_most"] (spTold K)
  m__law_least : mg "_law_least" = some (.ref fx1)
  k__law_least : PySem.W.keepIn K (.ref fx1) = true
  b__law_least : Binds K fdx1 ["_law_a","_law_b"] []
  G__law_least : FnOk P w K mg base CX0 1 fx1 fdx1 ["_law_a","_law_b"] spLeast
  m__law_cell_at : mg "_law_cell_at" = some (.ref fx2)
  k__law_cell_at : PySem.W.keepIn K (.ref fx2) = true
  b__law_cell_at : Binds K fdx2 ["_law_script","_law_k"] []
  G__law_cell_at : FnOk P w K mg base CX0 1 fx2 fdx2 ["_law_script","_law_k"] (spCell K)
  m__law_plain : mg "_law_plain" = some (.ref fx3)
  k__law_plain : PySem.W.keepIn K (.ref fx3) = true
  b__law_plain : Binds K fdx3 ["_law_told_here"] []
  G__law_plain : FnOk P w K mg base CX0 1 fx3 fdx3 ["_law_told_here"] (spPlain K)
  m_written : mg "written" = some (.ref fx4)
  k_written : PySem.W.keepIn K (.ref fx4) = true
  b_written : Binds K fdx4 ["net"] []
  G_written : FnOk P w K mg base CX0 4 fx4 fdx4 ["net"] (spWritten K C)
  M_Net : Mk K C fx5
  m_Net : mg "Net" = some (.ref C)
  b_Net : Binds K fdx5 ["self","places","pipes"] []
  G_Net : FnOk P w K mg base CX0 6 fx5 fdx5 ["self","places","pipes"] (spInit K C)
  m_read : mg "read" = some (.ref fx6)
  k_read : PySem.W.keepIn K (.ref fx6) = true
  b_read : Binds K fdx6 ["text"] []
  G_read : FnOk P w K mg base CX0 9 fx6 fdx6 ["text"] (spRead K C)
  t_pipes : Meth K C "pipes" fx7
  b_pipes : Binds K fdx7 ["self"] []
  G_pipes : FnOk P w K mg base CX0 1 fx7 fdx7 ["self"] (spPipes K C)
variable {P : Program} {w : World} {K : PySem.W.Frag} {mg : Str → Option Value} {base : Heap} {f C fx0 fx1 fx2 fx3 fx4 fx5 fx6 fx7 : Addr} {fd fdx0 fdx1 fdx2 fdx3 fdx4 fdx5 fdx6 fdx7 : FuncData} {t1 t2 t3 : Tok}
set_option maxHeartbeats 40000000 in
noncomputable def der_law {cdv : Value} {A : Around} {outer : List Env} {s : Shared} {H : Hp} {E : XK} (hr : Room 10 (A.deeper (PyProof.Rows.envOfC "law" (defScope s_law) s.heap.objs.size f cdv))) (T : Txt K mg C t1 t2 t3) (cs : Calls2 P w K mg base C fx0 fx1 fx2 fx3 fx4 fx5 fx6 fx7 fdx0 fdx1 fdx2 fdx3 fdx4 fdx5 fdx6 fdx7) :
    (t : TS) ×' PSs (cxOf CX0 P w K mg base ["_law_script","_law_places","_law_pipes","_law_hardness","_law_text","_law_found","_law_eight"] "law" (defScope s_law) f cdv A outer s H E).nox (defBody s_law) t:=by
  have m__law_told:=cs.m__law_told
  have k__law_told:=cs.k__law_told
  have b__law_told:=cs.b__law_told
  have G__law_told:=cs.G__law_told
  have m__law_least:=cs.m__law_least
  have k__law_least:=cs.k__law_least
  have b__law_least:=cs.b__law_least
  have G__law_least:=cs.G__law_least
  have m__law_cell_at:=cs.m__law_cell_at
  have k__law_cell_at:=cs.k__law_cell_at
  have b__law_cell_at:=cs.b__law_cell_at
  have G__law_cell_at:=cs.G__law_cell_at
  have m__law_plain:=cs.m__law_plain
  have k__law_plain:=cs.k__law_plain
  have b__law_plain:=cs.b__law_plain
  have G__law_plain:=cs.G__law_plain
  have m_written:=cs.m_written
  have k_written:=cs.k_written
  have b_written:=cs.b_written
  have G_written:=cs.G_written
  have M_Net:=cs.M_Net
  have m_Net:=cs.m_Net
  have b_Net:=cs.b_Net
  have G_Net:=cs.G_Net
  have m_read:=cs.m_read
  have k_read:=cs.k_read
  have b_read:=cs.b_read
  have G_read:=cs.G_read
  have t_pipes:=cs.t_pipes
  have b_pipes:=cs.b_pipes
  have G_pipes:=cs.G_pipes
  exact ⟨_,(pss_cons (ps_asg (pe_call G__law_told (hr.mono (by decide)) rfl m__law_told k__law_told b__law_told .nil pass0 (pa_cons (pv 0) (pa_cons pe_int (pa_cons pe_int pa_nil)))) (pg_tup (n:=2) rfl (pgs_cons (pg_name (i:=1) sc_law.nd rfl (Or.inl rfl)) (pgs_cons (pg_name (i:=2) sc_law.nd rfl (Or.inl rfl)) pgs_nil))))
      (pss_cons (ps_if (pt_cmpR (op_neD hr.units) (pv 2) (pe_lst pa_nil) (nomark _)) (pss_cons (ps_set (i:=3) sc_law.nd rfl (Or.inl rfl) (pe_call G__law_least (hr.mono (by decide)) rfl m__law_least k__law_least b__law_least .nil pass0 (pa_cons (pe_op op_add pe_int (pe_op op_mod (pe_call G__law_cell_at (hr.mono (by decide)) rfl m__law_cell_at k__law_cell_at b__law_cell_at .nil pass0 (pa_cons (pv 0) (pa_cons pe_int pa_nil))) pe_int)) (pa_cons (pe_op op_add pe_int (pe_op op_mod (pe_call G__law_cell_at (hr.mono (by decide)) rfl m__law_cell_at k__law_cell_at b__law_cell_at .nil pass0 (pa_cons (pv 0) (pa_cons pe_int pa_nil))) pe_int)) pa_nil))))
      (pss_one (ps_asg (pe_tup (pa_cons (pe_ix ix_tup (pe_ix ix_list (pv 2) pe_int (fun _ _=>rfl)) pe_int (fun _ _=>rfl)) (pa_cons (pe_ix ix_tup (pe_ix ix_list (pv 2) pe_int (fun _ _=>rfl)) pe_int (fun _ _=>rfl)) (pa_cons (pv 3) pa_nil)))) (pg_sub (pv 2) pe_int set_list)))) pss_nil)
      (pss_cons (ps_set (i:=4) sc_law.nd rfl (Or.inl rfl) (pe_call G__law_plain (hr.mono (by decide)) rfl m__law_plain k__law_plain b__law_plain .nil pass0 (pa_cons (pe_tup (pa_cons (pv 1) (pa_cons (pv 2) pa_nil))) pa_nil)))
      (pss_cons (ps_if (pt_cmpR op_ne (pe_call G_written (hr.mono (by decide)) rfl m_written k_written b_written .nil pass0 (pa_cons (pe_make M_Net G_Net (hr.mono (by decide)) rfl m_Net b_Net .nil pass0 (pa_cons (pv 1) (pa_cons (pv 2) pa_nil))) pa_nil)) (pv 4) (nomark _)) (pss_one (ps_ret pe_bl)) pss_nil)
      (pss_cons (ps_set (i:=5) sc_law.nd rfl (Or.inl rfl) (pe_call G_read (hr.mono (by decide)) rfl m_read k_read b_read .nil pass0 (pa_cons (pv 4) pa_nil)))
      (pss_cons (ps_if (PW.pt (pw_or (pt_cmpR op_ne (pe_fld (pv 5) rfl) (pv 1) (nomark _)) (pw_or (pt_cmpR (op_neD hr.units) (pe_meth0 (pv 5) T.c_Net t_pipes G_pipes (hr.mono (by decide)) b_pipes .nil pass0) (pv 2) (nomark _)) (pw_or1 (pt_cmpR op_ne (pe_call G_written (hr.mono (by decide)) rfl m_written k_written b_written .nil pass0 (pa_cons (pv 5) pa_nil)) (pv 4) (nomark _)))))) (pss_one (ps_ret pe_bl)) pss_nil)
      (pss_cons (ps_setC (i:=6) ["_law_k"] [] rfl rfl (by kernel_rfl) sc_law.nd rfl rfl (pi_range1 rfl T.n_range (pa_cons pe_int pa_nil)) (fun _ _ _ _=>(pg_name (i:=0) (show (["_law_k"] : List Str).Nodup by decide +kernel) rfl (Or.inl rfl))) (fun _ _ _ _=>gk_name) (fun _ _ _ _=>pf_nil) (fun _ _ _ _=>(pe_tup (pa_cons (pe_op op_mod (pv 0) pe_int) (pa_cons (pe_op op_mod (pe_op op_add (pe_op op_add (pv 0) pe_int) (pe_op op_fdiv (pv 0) pe_int)) pe_int) (pa_cons (pe_call G__law_least (hr.mono (by decide)) rfl m__law_least k__law_least b__law_least .nil pass0 (pa_cons pe_int (pa_cons (pe_op op_add pe_int (pv 0)) pa_nil))) pa_nil))))))
      (pss_one (ps_ret (pe_cmpR (op_eqD hr.units) (pe_meth0 (pe_call G_read (hr.mono (by decide)) rfl m_read k_read b_read .nil pass0 (pa_cons (pe_call G__law_plain (hr.mono (by decide)) rfl m__law_plain k__law_plain b__law_plain .nil pass0 (pa_cons (pe_tup (pa_cons pe_int (pa_cons (pv 6) pa_nil))) pa_nil)) pa_nil)) T.c_Net t_pipes G_pipes (hr.mono (by decide)) b_pipes .nil pass0) (pv 6) (nomark _)))))))))))⟩
end
end K2
namespace K2
open PySem L2 Mp Tx
def spLaw (K : PySem.W.Frag) : Sp:=fun vs H Q _=>∃ (a : Addr) (ns : List Int),vs = [.ref a] ∧ SqL K H a (ns.map V.int) ∧ ns.length ≤ 63 ∧ ∀ H',Q (.bl true) H'
section
variable {P : Program} {w : World} {K : PySem.W.Frag} {mg : Str → Option Value} {base : Heap} {f C fx0 fx1 fx2 fx3 fx4 fx5 fx6 fx7 : Addr} {fd fdx0 fdx1 fdx2 fdx3 fdx4 fdx5 fdx6 fdx7 : FuncData} {t1 t2 t3 : Tok}
theorem ok_law (F : Fun K "law" "law" s_law f fd) (T : Txt K mg C t1 t2 t3) (cs : Calls2 P w K mg base C fx0 fx1 fx2 fx3 fx4 fx5 fx6 fx7 fdx0 fdx1 fdx2 fdx3 fdx4 fdx5 fdx6 fdx7) : FnOk P w K mg base CX0 11 f fd ["_law_script"] (spLaw K):=by
  refine F.ok sc_law (fun vs H Q E h=>?_) (fun cdv A outer s H vs Q E hr h=>?_)
  · obtain ⟨a,ns,rfl,_⟩:=h
    rfl
  · obtain ⟨a,ns,rfl,sq,hlen,k⟩:=h
    refine ⟨_,(der_law hr T cs).2,?_⟩
    refine ⟨_,rfl,a,ns,0,12,rfl,by decide,by decide,by decide,sq,fun H1 t l n ps s1 hlH le12 n5 smp told=>?_⟩
    obtain ⟨ht,⟨us,hl,hp⟩,ok⟩:=id told
    have n8:=ok.n8
    have n1:=ok.n1
    refine ⟨t,_,rfl,SqT.of ht,rfl,_,_,rfl,_,_,rfl,rfl,?_⟩
    refine ⟨_,rfl,by show 0 ≤ sizeLine; decide,fun e0 he0=>?_⟩
    have sE:=same_upd (o:=.lst []) he0
    have eE : (upd H1 e0 (.lst [])) e0 = some (.lst []):=upd_same
    have hl2:=sE _ _ hl
    have hp2:=PipesAt.same sE hp
    have s02:=s1.trans sE
    generalize upd H1 e0 (.lst []) = H2 at sE eE hl2 hp2 s02 ⊢
    refine ⟨_,_,.lst (SqL.of hl2) hp2.reps,.lst (SqL.of eE) .nil,pipesD_lay ps,rfl,pipesD_depth ps,_,rfl,?_⟩
    cases ps with
    | nil =>
      have e1 : PyData.eqv (.list (pipesD [])) (.list []) = true:=rfl
      rw [if_pos rfl,e1]
      refine iteF ?_
      have e2:=hl2
      have pa2:=hp2
      have ok2:=ok
      generalize hps2 : ([] : List Pipe) = ps2 at pa2 ok2
      generalize us = us2 at e2 pa2
      refine ⟨_,rfl,_,rfl,by show 2 ≤ sizeLine; decide,fun t2 ht2=>?_⟩
      have s3:=same_upd (o:=.tup [.int (n : Int),.ref l]) ht2
      have e3 : (upd H2 t2 (.tup [.int (n : Int),.ref l])) t2 = some (.tup [.int (n : Int),.ref l]):=upd_same
      generalize upd H2 t2 (.tup [.int (n : Int),.ref l]) = H3 at s3 e3 ⊢
      refine ⟨t2,l,n,us2,ps2,rfl,SqT.of e3,SqL.of (s3 _ _ e2),PipesAt.same s3 pa2,ok2,fun H4 s4=>?_⟩
      have s24:=s3.trans s4
      refine ⟨_,rfl,_,rfl,?_⟩
      intro x dx nx ndx nex
      have s0:=made_s0 (C:=C) nx ndx
      refine ⟨x,dx,l,n,us2,ps2,rfl,upd_same,SqL.of (s0 _ _ (s24 _ _ e2)),PipesAt.same s0 (PipesAt.same s24 pa2),ok2,fun H5 L hL net kp=>⟨rfl,?_⟩⟩
      have s5:=made_same (n:=(n : Int)) nx ndx kp
      refine ⟨x,L,n,ps2,rfl,net,ok2,fun H6 s6=>⟨_,rfl,rfl,_,rfl,?_⟩⟩
      rw [decide_eq_true rfl]
      refine iteF ?_
      refine ⟨_,rfl,n,ps2,rfl,ok2,fun H7 y L7 s7 hy hL7 net7=>?_⟩
      have s27:=((s24.trans s5).trans s6).trans s7
      obtain ⟨⟨dy,g1⟩,_⟩:=id net7
      refine ⟨_,rfl,y,C,dy,_,_,rfl,g1,T.c_Net,T.a_size,flds_size _ _,_,rfl,rfl,_,rfl,?_⟩
      rw [decide_eq_true rfl]
      refine iteF ?_
      refine ⟨_,rfl,y,dy,_,rfl,g1,flds_no _ _ (by decide +kernel) (by decide +kernel),y,L7,n,ps2,rfl,net7,fun r ur hr1 pa=>?_⟩
      have s8:=same_upd (o:=.lst ur) hr1
      have e8 : (upd H7 r (.lst ur)) r = some (.lst ur):=upd_same
      have net8:=net7.same s8
      have pa8:=PipesAt.same s8 pa
      generalize upd H7 r (.lst ur) = H8 at s8 e8 net8 pa8 ⊢
      have s28:=s27.trans s8
      refine ⟨_,rfl,rNe_pipes e8 (s28 _ _ e2) pa8 (PipesAt.same s28 pa2) ⟨_,rfl,iteF ?_⟩⟩
      refine ⟨_,rfl,y,L7,n,ps2,rfl,net8,ok2,fun H9 s9=>⟨_,rfl,rfl,_,rfl,?_⟩⟩
      rw [decide_eq_true rfl]
      refine iteF ?_
      refine ⟨28,rfl,by decide,by decide,?_⟩
      refine comp_range (n:=28) (fun i ys H'=>∃ qs : List Pipe,qs.length = i ∧ (∀ p ∈ qs,PipeOk 8 p) ∧ Same H9 H' ∧ PipesAt K H' ys qs) ⟨[],rfl,(fun _ h=>nomatch h),Same.refl _,.nil⟩ (small1000 (by decide)) ?_ ?_ ?_
      · rintro i ys H' hi ⟨qs,hq,_,_,hY⟩
        rw [Paired.length hY,hq]
        exact Nat.le_refl _
      · rintro i ys H' N hi ⟨qs,hq,okq,sq',hY⟩ hN C' s₀ H₀ ex
        dsimp only [tNoTest,gName]
        refine iteT ?_
        refine ⟨_,rfl,_,_,rfl,rfl,(by show (0 : Int) < 8; decide),_,rfl,_,_,rfl,rfl,_,rfl,_,_,rfl,rfl,⟨by decide,by decide⟩,_,_,rfl,rfl,_,_,rfl,rfl,(by show (0 : Int) < 8; decide),_,rfl,_,_,rfl,rfl,1000000000,1 + (0 + (i : Int)),rfl,by decide,by omega,bt31 (by omega) (by omega),fun th hth=>?_⟩
        obtain ⟨a',b',q1,q2,a1,aM,b1,bM,gc,_⟩:=least_of (a:=1000000000) (b:=1 + (0 + (i : Int))) (by decide) (by omega)
        rw [q1,q2]
        refine ⟨by show 3 ≤ sizeLine; decide,fun tt htt=>?_⟩
        have sa:=same_upd (o:=.tup [.int a',.int b']) hth
        have sb:=same_upd (o:=.tup [.int ((0 + (i : Int)) % 8),.int ((0 + (i : Int) + 1 + (0 + (i : Int)) / 8) % 8),.ref th]) htt
        refine hN _ _ ⟨qs ++ [⟨(0 + (i : Int)) % 8,(0 + (i : Int) + 1 + (0 + (i : Int)) / 8) % 8,a',b'⟩],by rw [List.length_append,hq]; rfl,fun p hp=>?_,(sq'.trans sa).trans sb,PipesAt.snoc (PipesAt.same (sa.trans sb) hY) ⟨tt,th,rfl,SqT.of upd_same,SqT.of (sb _ _ upd_same)⟩⟩
        rcases List.mem_append.mp hp with hp | hp
        · exact okq p hp
        · rw [List.mem_singleton.mp hp,Int.zero_add]
          exact eight_ok hi a1 aM b1 (by omega) gc
      · rintro ys H' ⟨qs,hq,okq,sq',hY⟩ pe hpe
        have sc:=same_upd (o:=.lst ys) hpe
        have ec : (upd H' pe (.lst ys)) pe = some (.lst ys):=upd_same
        have hY2:=PipesAt.same sc hY
        generalize upd H' pe (.lst ys) = HA at sc ec hY2 ⊢
        have ok8 : NetOk 8 qs:=⟨by decide,by decide,okq,by omega⟩
        refine ⟨_,rfl,by show 2 ≤ sizeLine; decide,fun t3 ht3=>?_⟩
        have sd:=same_upd (o:=.tup [.int 8,.ref pe]) ht3
        have ed : (upd HA t3 (.tup [.int 8,.ref pe])) t3 = some (.tup [.int 8,.ref pe]):=upd_same
        generalize upd HA t3 (.tup [.int 8,.ref pe]) = HB at sd ed ⊢
        refine ⟨t3,pe,8,ys,qs,rfl,SqT.of ed,SqL.of (sd _ _ ec),PipesAt.same sd hY2,ok8,fun HC sC=>⟨8,qs,rfl,ok8,fun HD z LD sD hz hLD netD=>?_⟩⟩
        obtain ⟨⟨dz,g2⟩,_⟩:=id netD
        refine ⟨z,dz,_,rfl,g2,flds_no _ _ (by decide +kernel) (by decide +kernel),z,LD,8,qs,rfl,netD,fun r2 ur2 hr2 pa3=>?_⟩
        have sf:=same_upd (o:=.lst ur2) hr2
        have sAF:=((sd.trans sC).trans sD).trans sf
        exact ⟨_,rfl,rEq_pipes upd_same (sAF _ _ ec) (PipesAt.same sf pa3) (PipesAt.same sAF hY2) (k _)⟩
    | cons p0 pr =>
      have e1 : PyData.eqv (.list (pipesD (p0 :: pr))) (.list []) = false:=rfl
      rw [if_pos rfl,e1]
      refine iteT ?_
      cases hp2 with
      | cons hu hur =>
      rename_i u0 ur0
      obtain ⟨x3,y3,rfl,hx3,hy3⟩:=id hu
      have pok:=ok.ok p0 (by simp)
      have at0 : atI (V.ref x3 :: ur0) 0 = some (.ref x3):=atI_nat (j:=0) rfl
      refine ⟨_,rfl,a,ns,3,rfl,by decide,s02.seq sq,fun c3=>⟨_,_,rfl,rfl,(by show (0 : Int) < 1000000000; decide),_,_,rfl,rfl,_,rfl,a,ns,4,rfl,by decide,s02.seq sq,fun c4=>⟨_,_,rfl,rfl,(by show (0 : Int) < 1000000000; decide),_,_,rfl,rfl,1 + c3 % 1000000000,1 + c4 % 1000000000,rfl,by omega,by omega,bt31 (by omega) (by omega),fun th hth=>?_⟩⟩⟩
      obtain ⟨a',b',q1,q2,a1,aM,b1,bM,gc,_⟩:=least_of (a:=1 + c3 % 1000000000) (b:=1 + c4 % 1000000000) (by omega) (by omega)
      rw [q1,q2]
      have sa:=same_upd (o:=.tup [.int a',.int b']) hth
      have ea : (upd H2 th (.tup [.int a',.int b'])) th = some (.tup [.int a',.int b']):=upd_same
      generalize upd H2 th (.tup [.int a',.int b']) = H2a at sa ea ⊢
      refine ⟨_,rfl,l,_,_,_,rfl,rfl,SqL.of (sa _ _ hl2),at0,x3,_,_,_,rfl,rfl,Same.tup sa hx3,rfl,_,rfl,l,_,_,_,rfl,rfl,SqL.of (sa _ _ hl2),at0,x3,_,_,_,rfl,rfl,Same.tup sa hx3,rfl,_,rfl,by show 3 ≤ sizeLine; decide,fun tt htt=>?_⟩
      have sb:=same_upd (o:=.tup [.int p0.u,.int p0.w,.ref th]) htt
      have eb : (upd H2a tt (.tup [.int p0.u,.int p0.w,.ref th])) tt = some (.tup [.int p0.u,.int p0.w,.ref th]):=upd_same
      generalize upd H2a tt (.tup [.int p0.u,.int p0.w,.ref th]) = H2b at sb eb ⊢
      have sab:=sa.trans sb
      refine ⟨_,rfl,l,_,0,0,rfl,rfl,sab _ _ hl2,ixN_nat (j:=0) (by rw [List.length_cons]; omega),?_⟩
      have e2 : (upd H2b l (.lst ((V.ref x3 :: ur0).set 0 (.ref tt)))) l = some (.lst (.ref tt :: ur0)):=upd_same
      have pa2 : PipesAt K (upd H2b l (.lst ((V.ref x3 :: ur0).set 0 (.ref tt)))) (.ref tt :: ur0) (⟨p0.u,p0.w,a',b'⟩ :: pr) :=
        PipesAt.ne (sab _ _ hl2) (fun _=>nofun) (fun _ _=>nofun) (.cons ⟨tt,th,rfl,SqT.of eb,SqT.of (sb _ _ ea)⟩ (PipesAt.same sab hur))
      have ok2 : NetOk n (⟨p0.u,p0.w,a',b'⟩ :: pr):=⟨ok.n1,ok.n8,fun p hp=>by
        rcases List.mem_cons.mp hp with rfl | hp
        · exact ⟨pok.u0,pok.un,pok.w0,pok.wn,pok.ne,a1,by dsimp only; omega,b1,by dsimp only; omega,gc⟩
        · exact ok.ok p (by simp [hp]),by have:=ok.le; rw [List.length_cons] at this ⊢; exact this⟩
      have s02' : Same H (upd H2b l (.lst ((V.ref x3 :: ur0).set 0 (.ref tt)))):=fun b o e=>by
        rw [upd_ne (ne_of_none e hlH)]
        exact (s02.trans sab) _ _ e
      clear hl2 sa ea sb eb sab hx3 hy3 hu hur
      show _
      generalize upd H2b l (.lst ((V.ref x3 :: ur0).set 0 (.ref tt))) = H2 at e2 pa2 s02' ⊢
      generalize V.ref tt :: ur0 = us2 at e2 pa2
      generalize (⟨p0.u,p0.w,a',b'⟩ : Pipe) :: pr = ps2 at ok2 pa2
      refine ⟨_,rfl,_,rfl,by show 2 ≤ sizeLine; decide,fun t2 ht2=>?_⟩
      have s3:=same_upd (o:=.tup [.int (n : Int),.ref l]) ht2
      have e3 : (upd H2 t2 (.tup [.int (n : Int),.ref l])) t2 = some (.tup [.int (n : Int),.ref l]):=upd_same
      generalize upd H2 t2 (.tup [.int (n : Int),.ref l]) = H3 at s3 e3 ⊢
      refine ⟨t2,l,n,us2,ps2,rfl,SqT.of e3,SqL.of (s3 _ _ e2),PipesAt.same s3 pa2,ok2,fun H4 s4=>?_⟩
      have s24:=s3.trans s4
      refine ⟨_,rfl,_,rfl,?_⟩
      intro x dx nx ndx nex
      have s0:=made_s0 (C:=C) nx ndx
      refine ⟨x,dx,l,n,us2,ps2,rfl,upd_same,SqL.of (s0 _ _ (s24 _ _ e2)),PipesAt.same s0 (PipesAt.same s24 pa2),ok2,fun H5 L hL net kp=>⟨rfl,?_⟩⟩
      have s5:=made_same (n:=(n : Int)) nx ndx kp
      refine ⟨x,L,n,ps2,rfl,net,ok2,fun H6 s6=>⟨_,rfl,rfl,_,rfl,?_⟩⟩
      rw [decide_eq_true rfl]
      refine iteF ?_
      refine ⟨_,rfl,n,ps2,rfl,ok2,fun H7 y L7 s7 hy hL7 net7=>?_⟩
      have s27:=((s24.trans s5).trans s6).trans s7
      obtain ⟨⟨dy,g1⟩,_⟩:=id net7
      refine ⟨_,rfl,y,C,dy,_,_,rfl,g1,T.c_Net,T.a_size,flds_size _ _,_,rfl,rfl,_,rfl,?_⟩
      rw [decide_eq_true rfl]
      refine iteF ?_
      refine ⟨_,rfl,y,dy,_,rfl,g1,flds_no _ _ (by decide +kernel) (by decide +kernel),y,L7,n,ps2,rfl,net7,fun r ur hr1 pa=>?_⟩
      have s8:=same_upd (o:=.lst ur) hr1
      have e8 : (upd H7 r (.lst ur)) r = some (.lst ur):=upd_same
      have net8:=net7.same s8
      have pa8:=PipesAt.same s8 pa
      generalize upd H7 r (.lst ur) = H8 at s8 e8 net8 pa8 ⊢
      have s28:=s27.trans s8
      refine ⟨_,rfl,rNe_pipes e8 (s28 _ _ e2) pa8 (PipesAt.same s28 pa2) ⟨_,rfl,iteF ?_⟩⟩
      refine ⟨_,rfl,y,L7,n,ps2,rfl,net8,ok2,fun H9 s9=>⟨_,rfl,rfl,_,rfl,?_⟩⟩
      rw [decide_eq_true rfl]
      refine iteF ?_
      refine ⟨28,rfl,by decide,by decide,?_⟩
      refine comp_range (n:=28) (fun i ys H'=>∃ qs : List Pipe,qs.length = i ∧ (∀ p ∈ qs,PipeOk 8 p) ∧ Same H9 H' ∧ PipesAt K H' ys qs) ⟨[],rfl,(fun _ h=>nomatch h),Same.refl _,.nil⟩ (small1000 (by decide)) ?_ ?_ ?_
      · rintro i ys H' hi ⟨qs,hq,_,_,hY⟩
        rw [Paired.length hY,hq]
        exact Nat.le_refl _
      · rintro i ys H' N hi ⟨qs,hq,okq,sq',hY⟩ hN C' s₀ H₀ ex
        dsimp only [tNoTest,gName]
        refine iteT ?_
        refine ⟨_,rfl,_,_,rfl,rfl,(by show (0 : Int) < 8; decide),_,rfl,_,_,rfl,rfl,_,rfl,_,_,rfl,rfl,⟨by decide,by decide⟩,_,_,rfl,rfl,_,_,rfl,rfl,(by show (0 : Int) < 8; decide),_,rfl,_,_,rfl,rfl,1000000000,1 + (0 + (i : Int)),rfl,by decide,by omega,bt31 (by omega) (by omega),fun th hth=>?_⟩
        obtain ⟨a',b',q1,q2,a1,aM,b1,bM,gc,_⟩:=least_of (a:=1000000000) (b:=1 + (0 + (i : Int))) (by decide) (by omega)
        rw [q1,q2]
        refine ⟨by show 3 ≤ sizeLine; decide,fun tt htt=>?_⟩
        have sa:=same_upd (o:=.tup [.int a',.int b']) hth
        have sb:=same_upd (o:=.tup [.int ((0 + (i : Int)) % 8),.int ((0 + (i : Int) + 1 + (0 + (i : Int)) / 8) % 8),.ref th]) htt
        refine hN _ _ ⟨qs ++ [⟨(0 + (i : Int)) % 8,(0 + (i : Int) + 1 + (0 + (i : Int)) / 8) % 8,a',b'⟩],by rw [List.length_append,hq]; rfl,fun p hp=>?_,(sq'.trans sa).trans sb,PipesAt.snoc (PipesAt.same (sa.trans sb) hY) ⟨tt,th,rfl,SqT.of upd_same,SqT.of (sb _ _ upd_same)⟩⟩
        rcases List.mem_append.mp hp with hp | hp
        · exact okq p hp
        · rw [List.mem_singleton.mp hp,Int.zero_add]
          exact eight_ok hi a1 aM b1 (by omega) gc
      · rintro ys H' ⟨qs,hq,okq,sq',hY⟩ pe hpe
        have sc:=same_upd (o:=.lst ys) hpe
        have ec : (upd H' pe (.lst ys)) pe = some (.lst ys):=upd_same
        have hY2:=PipesAt.same sc hY
        generalize upd H' pe (.lst ys) = HA at sc ec hY2 ⊢
        have ok8 : NetOk 8 qs:=⟨by decide,by decide,okq,by omega⟩
        refine ⟨_,rfl,by show 2 ≤ sizeLine; decide,fun t3 ht3=>?_⟩
        have sd:=same_upd (o:=.tup [.int 8,.ref pe]) ht3
        have ed : (upd HA t3 (.tup [.int 8,.ref pe])) t3 = some (.tup [.int 8,.ref pe]):=upd_same
        generalize upd HA t3 (.tup [.int 8,.ref pe]) = HB at sd ed ⊢
        refine ⟨t3,pe,8,ys,qs,rfl,SqT.of ed,SqL.of (sd _ _ ec),PipesAt.same sd hY2,ok8,fun HC sC=>⟨8,qs,rfl,ok8,fun HD z LD sD hz hLD netD=>?_⟩⟩
        obtain ⟨⟨dz,g2⟩,_⟩:=id netD
        refine ⟨z,dz,_,rfl,g2,flds_no _ _ (by decide +kernel) (by decide +kernel),z,LD,8,qs,rfl,netD,fun r2 ur2 hr2 pa3=>?_⟩
        have sf:=same_upd (o:=.lst ur2) hr2
        have sAF:=((sd.trans sC).trans sD).trans sf
        exact ⟨_,rfl,rEq_pipes upd_same (sAF _ _ ec) (PipesAt.same sf pa3) (PipesAt.same sAF hY2) (k _)⟩
end
end K2
namespace K2
open PySem L2 PyProof.Rows Mp Tx
theorem all_mk {l : PySem.W.OpenLaw} {w : World} {K : PySem.W.Frag} {h : Heap} {mg : Str → Option Value} {fa C g0 g1 g2 g3 g4 g5 g6 g7 g8 g9 g10 g11 g12 g13 g14 g15 g16 g17 g18 g19 g20 g21 g22 g23 : Addr} {t1 t2 t3 : Tok} (X : K.In h) (G : h.Ns mainGlobals mg) (hfa : mg "law" = some (.ref fa))
    {od0 an0 od1 an1 od2 an2 od3 an3 od4 an4 od5 an5 od6 an6 od7 an7 od8 an8 od9 an9 od10 an10 od11 an11 od12 an12 od13 an13 od14 an14 od15 an15 od16 an16 od17 an17 od18 an18 od19 an19 od20 an20 od21 an21 od22 an22 od23 an23 : Option Addr} {sl0 sl1 sl2 sl3 sl4 sl5 sl6 sl7 sl8 sl9 sl10 sl11 sl12 sl13 sl14 sl15 sl16 sl17 sl18 sl19 sl20 sl21 sl22 sl23 : Array (Option Value)} {oc0 kV0 dc0 pm0 cd0 ct0 oc1 kV1 dc1 pm1 cd1 ct1 oc2 kV2 dc2 pm2 cd2 ct2 oc3 kV3 dc3 pm3 cd3 ct3 oc4 kV4 dc4 pm4 cd4 ct4 oc5 kV5 dc5 pm5 cd5 ct5 oc6 kV6 dc6 pm6 cd6 ct6 oc7 kV7 dc7 pm7 cd7 ct7 oc8 kV8 dc8 pm8 cd8 ct8 oc9 kV9 dc9 pm9 cd9 ct9 oc10 kV10 dc10 pm10 cd10 ct10 oc11 kV11 dc11 pm11 cd11 ct11 oc12 kV12 dc12 pm12 cd12 ct12 oc13 kV13 dc13 pm13 cd13 ct13 oc14 kV14 dc14 pm14 cd14 ct14 oc15 kV15 dc15 pm15 cd15 ct15 oc16 kV16 dc16 pm16 cd16 ct16 oc17 kV17 dc17 pm17 cd17 ct17 oc18 kV18 dc18 pm18 cd18 ct18 oc19 kV19 dc19 pm19 cd19 ct19 oc20 kV20 dc20 pm20 cd20 ct20 oc21 kV21 dc21 pm21 cd21 ct21 oc22 kV22 dc22 pm22 cd22 ct22 oc23 kV23 dc23 pm23 cd23 ct23 : Value}
    (z128_Net : PySem.W.nsIn K mainGlobals "Net" = some (some (.ref C)))
    (z0_a : PySem.W.nsIn K mainGlobals "is_whole" = some (some (.ref g0)))
    (z1_l : K.lookup g0 = some ⟨oc0,od0,.func (PySem.W.fnOf "is_whole" "is_whole" (defArgs s_is_whole) (defBody s_is_whole) (defScope s_is_whole) .none kV0 dc0 pm0 an0 cd0 ct0),sl0⟩)
    (z2_o : PySem.W.codeIn K cd0 "is_whole" = true)
    (z3_k : PySem.W.keepIn K (.ref g0) = true)
    (z4_a : PySem.W.nsIn K mainGlobals "common_divisor" = some (some (.ref g1)))
    (z5_l : K.lookup g1 = some ⟨oc1,od1,.func (PySem.W.fnOf "common_divisor" "common_divisor" (defArgs s_common_divisor) (defBody s_common_divisor) (defScope s_common_divisor) .none kV1 dc1 pm1 an1 cd1 ct1),sl1⟩)
    (z6_o : PySem.W.codeIn K cd1 "common_divisor" = true)
    (z7_k : PySem.W.keepIn K (.ref g1) = true)
    (z8_a : PySem.W.nsIn K mainGlobals "is_fraction" = some (some (.ref g2)))
    (z9_l : K.lookup g2 = some ⟨oc2,od2,.func (PySem.W.fnOf "is_fraction" "is_fraction" (defArgs s_is_fraction) (defBody s_is_fraction) (defScope s_is_fraction) .none kV2 dc2 pm2 an2 cd2 ct2),sl2⟩)
    (z10_o : PySem.W.codeIn K cd2 "is_fraction" = true)
    (z11_k : PySem.W.keepIn K (.ref g2) = true)
    (z12_a : PySem.W.nsIn K mainGlobals "counts_one_of" = some (some (.ref g3)))
    (z13_l : K.lookup g3 = some ⟨oc3,od3,.func (PySem.W.fnOf "counts_one_of" "counts_one_of" (defArgs s_counts_one_of) (defBody s_counts_one_of) (defScope s_counts_one_of) .none kV3 dc3 pm3 an3 cd3 ct3),sl3⟩)
    (z14_o : PySem.W.codeIn K cd3 "counts_one_of" = true)
    (z15_k : PySem.W.keepIn K (.ref g3) = true)
    (z16_a : PySem.W.nsIn K mainGlobals "is_hardness" = some (some (.ref g4)))
    (z17_l : K.lookup g4 = some ⟨oc4,od4,.func (PySem.W.fnOf "is_hardness" "is_hardness" (defArgs s_is_hardness) (defBody s_is_hardness) (defScope s_is_hardness) .none kV4 dc4 pm4 an4 cd4 ct4),sl4⟩)
    (z18_o : PySem.W.codeIn K cd4 "is_hardness" = true)
    (z19_k : PySem.W.keepIn K (.ref g4) = true)
    (z20_a : PySem.W.nsIn K mainGlobals "is_pipe" = some (some (.ref g5)))
    (z21_l : K.lookup g5 = some ⟨oc5,od5,.func (PySem.W.fnOf "is_pipe" "is_pipe" (defArgs s_is_pipe) (defBody s_is_pipe) (defScope s_is_pipe) .none kV5 dc5 pm5 an5 cd5 ct5),sl5⟩)
    (z22_o : PySem.W.codeIn K cd5 "is_pipe" = true)
    (z23_k : PySem.W.keepIn K (.ref g5) = true)
    (z24_a : PySem.W.nsIn K mainGlobals "is_net" = some (some (.ref g6)))
    (z25_l : K.lookup g6 = some ⟨oc6,od6,.func (PySem.W.fnOf "is_net" "is_net" (defArgs s_is_net) (defBody s_is_net) (defScope s_is_net) .none kV6 dc6 pm6 an6 cd6 ct6),sl6⟩)
    (z26_o : PySem.W.codeIn K cd6 "is_net" = true)
    (z27_k : PySem.W.keepIn K (.ref g6) = true)
    (z28_a : PySem.W.findIn K (.ref C) "__init__" = some (some (.ref g7)))
    (z29_i : PySem.W.isFn K (.ref g7) = true)
    (z30_l : K.lookup g7 = some ⟨oc7,od7,.func (PySem.W.fnOf "__init__" "Net.__init__" (defArgs s_Net___init__) (defBody s_Net___init__) (defScope s_Net___init__) .none kV7 dc7 pm7 an7 cd7 ct7),sl7⟩)
    (z31_o : PySem.W.codeIn K cd7 "Net.__init__" = true)
    (z32_k : PySem.W.keepIn K (.ref g7) = true)
    (z33_a : PySem.W.findIn K (.ref C) "pipes" = some (some (.ref g8)))
    (z34_i : PySem.W.isFn K (.ref g8) = true)
    (z35_l : K.lookup g8 = some ⟨oc8,od8,.func (PySem.W.fnOf "pipes" "Net.pipes" (defArgs s_Net_pipes) (defBody s_Net_pipes) (defScope s_Net_pipes) .none kV8 dc8 pm8 an8 cd8 ct8),sl8⟩)
    (z36_o : PySem.W.codeIn K cd8 "Net.pipes" = true)
    (z37_k : PySem.W.keepIn K (.ref g8) = true)
    (z38_a : PySem.W.nsIn K mainGlobals "_law_cell_at" = some (some (.ref g9)))
    (z39_l : K.lookup g9 = some ⟨oc9,od9,.func (PySem.W.fnOf "_law_cell_at" "_law_cell_at" (defArgs s__law_cell_at) (defBody s__law_cell_at) (defScope s__law_cell_at) .none kV9 dc9 pm9 an9 cd9 ct9),sl9⟩)
    (z40_o : PySem.W.codeIn K cd9 "_law_cell_at" = true)
    (z41_k : PySem.W.keepIn K (.ref g9) = true)
    (z42_a : PySem.W.nsIn K mainGlobals "_law_draw" = some (some (.ref g10)))
    (z43_l : K.lookup g10 = some ⟨oc10,od10,.func (PySem.W.fnOf "_law_draw" "_law_draw" (defArgs s__law_draw) (defBody s__law_draw) (defScope s__law_draw) .none kV10 dc10 pm10 an10 cd10 ct10),sl10⟩)
    (z44_o : PySem.W.codeIn K cd10 "_law_draw" = true)
    (z45_k : PySem.W.keepIn K (.ref g10) = true)
    (z46_a : PySem.W.nsIn K mainGlobals "_law_least" = some (some (.ref g11)))
    (z47_l : K.lookup g11 = some ⟨oc11,od11,.func (PySem.W.fnOf "_law_least" "_law_least" (defArgs s__law_least) (defBody s__law_least) (defScope s__law_least) .none kV11 dc11 pm11 an11 cd11 ct11),sl11⟩)
    (z48_o : PySem.W.codeIn K cd11 "_law_least" = true)
    (z49_k : PySem.W.keepIn K (.ref g11) = true)
    (z50_a : PySem.W.nsIn K mainGlobals "_law_told" = some (some (.ref g12)))
    (z51_l : K.lookup g12 = some ⟨oc12,od12,.func (PySem.W.fnOf "_law_told" "_law_told" (defArgs s__law_told) (defBody s__law_told) (defScope s__law_told) .none kV12 dc12 pm12 an12 cd12 ct12),sl12⟩)
    (z52_o : PySem.W.codeIn K cd12 "_law_told" = true)
    (z53_k : PySem.W.keepIn K (.ref g12) = true)
    (z54_a : PySem.W.nsIn K mainGlobals "first_row" = some (some (.ref g13)))
    (z55_l : K.lookup g13 = some ⟨oc13,od13,.func (PySem.W.fnOf "first_row" "first_row" (defArgs s_first_row) (defBody s_first_row) (defScope s_first_row) .none kV13 dc13 pm13 an13 cd13 ct13),sl13⟩)
    (z56_o : PySem.W.codeIn K cd13 "first_row" = true)
    (z57_k : PySem.W.keepIn K (.ref g13) = true)
    (z58_a : PySem.W.nsIn K mainGlobals "hardness_text" = some (some (.ref g14)))
    (z59_l : K.lookup g14 = some ⟨oc14,od14,.func (PySem.W.fnOf "hardness_text" "hardness_text" (defArgs s_hardness_text) (defBody s_hardness_text) (defScope s_hardness_text) .none kV14 dc14 pm14 an14 cd14 ct14),sl14⟩)
    (z60_o : PySem.W.codeIn K cd14 "hardness_text" = true)
    (z61_k : PySem.W.keepIn K (.ref g14) = true)
    (z62_a : PySem.W.nsIn K mainGlobals "pipe_row" = some (some (.ref g15)))
    (z63_l : K.lookup g15 = some ⟨oc15,od15,.func (PySem.W.fnOf "pipe_row" "pipe_row" (defArgs s_pipe_row) (defBody s_pipe_row) (defScope s_pipe_row) .none kV15 dc15 pm15 an15 cd15 ct15),sl15⟩)
    (z64_o : PySem.W.codeIn K cd15 "pipe_row" = true)
    (z65_k : PySem.W.keepIn K (.ref g15) = true)
    (z66_a : PySem.W.nsIn K mainGlobals "written" = some (some (.ref g16)))
    (z67_l : K.lookup g16 = some ⟨oc16,od16,.func (PySem.W.fnOf "written" "written" (defArgs s_written) (defBody s_written) (defScope s_written) .none kV16 dc16 pm16 an16 cd16 ct16),sl16⟩)
    (z68_o : PySem.W.codeIn K cd16 "written" = true)
    (z69_k : PySem.W.keepIn K (.ref g16) = true)
    (z70_a : PySem.W.nsIn K mainGlobals "number_in" = some (some (.ref g17)))
    (z71_l : K.lookup g17 = some ⟨oc17,od17,.func (PySem.W.fnOf "number_in" "number_in" (defArgs s_number_in) (defBody s_number_in) (defScope s_number_in) .none kV17 dc17 pm17 an17 cd17 ct17),sl17⟩)
    (z72_o : PySem.W.codeIn K cd17 "number_in" = true)
    (z73_k : PySem.W.keepIn K (.ref g17) = true)
    (z74_a : PySem.W.nsIn K mainGlobals "numbers_in" = some (some (.ref g18)))
    (z75_l : K.lookup g18 = some ⟨oc18,od18,.func (PySem.W.fnOf "numbers_in" "numbers_in" (defArgs s_numbers_in) (defBody s_numbers_in) (defScope s_numbers_in) .none kV18 dc18 pm18 an18 cd18 ct18),sl18⟩)
    (z76_o : PySem.W.codeIn K cd18 "numbers_in" = true)
    (z77_k : PySem.W.keepIn K (.ref g18) = true)
    (z78_a : PySem.W.nsIn K mainGlobals "places_in" = some (some (.ref g19)))
    (z79_l : K.lookup g19 = some ⟨oc19,od19,.func (PySem.W.fnOf "places_in" "places_in" (defArgs s_places_in) (defBody s_places_in) (defScope s_places_in) .none kV19 dc19 pm19 an19 cd19 ct19),sl19⟩)
    (z80_o : PySem.W.codeIn K cd19 "places_in" = true)
    (z81_k : PySem.W.keepIn K (.ref g19) = true)
    (z82_a : PySem.W.nsIn K mainGlobals "pipe_in" = some (some (.ref g20)))
    (z83_l : K.lookup g20 = some ⟨oc20,od20,.func (PySem.W.fnOf "pipe_in" "pipe_in" (defArgs s_pipe_in) (defBody s_pipe_in) (defScope s_pipe_in) .none kV20 dc20 pm20 an20 cd20 ct20),sl20⟩)
    (z84_o : PySem.W.codeIn K cd20 "pipe_in" = true)
    (z85_k : PySem.W.keepIn K (.ref g20) = true)
    (z86_a : PySem.W.nsIn K mainGlobals "read" = some (some (.ref g21)))
    (z87_l : K.lookup g21 = some ⟨oc21,od21,.func (PySem.W.fnOf "read" "read" (defArgs s_read) (defBody s_read) (defScope s_read) .none kV21 dc21 pm21 an21 cd21 ct21),sl21⟩)
    (z88_o : PySem.W.codeIn K cd21 "read" = true)
    (z89_k : PySem.W.keepIn K (.ref g21) = true)
    (z90_a : PySem.W.nsIn K mainGlobals "_law_plain" = some (some (.ref g22)))
    (z91_l : K.lookup g22 = some ⟨oc22,od22,.func (PySem.W.fnOf "_law_plain" "_law_plain" (defArgs s__law_plain) (defBody s__law_plain) (defScope s__law_plain) .none kV22 dc22 pm22 an22 cd22 ct22),sl22⟩)
    (z92_o : PySem.W.codeIn K cd22 "_law_plain" = true)
    (z93_k : PySem.W.keepIn K (.ref g22) = true)
    (z94_a : PySem.W.nsIn K mainGlobals "law" = some (some (.ref g23)))
    (z95_l : K.lookup g23 = some ⟨oc23,od23,.func (PySem.W.fnOf "law" "law" (defArgs s_law) (defBody s_law) (defScope s_law) .none kV23 dc23 pm23 an23 cd23 ct23),sl23⟩)
    (z96_o : PySem.W.codeIn K cd23 "law" = true)
    (z97_k : PySem.W.keepIn K (.ref g23) = true)
    (z98_isinstance : PySem.W.nsIn K mainGlobals "isinstance" = some none)
    (z99_int : PySem.W.nsIn K mainGlobals "int" = some none)
    (z100_bool : PySem.W.nsIn K mainGlobals "bool" = some none)
    (z101_abs : PySem.W.nsIn K mainGlobals "abs" = some none)
    (z102_len : PySem.W.nsIn K mainGlobals "len" = some none)
    (z103_tuple : PySem.W.nsIn K mainGlobals "tuple" = some none)
    (z104_list : PySem.W.nsIn K mainGlobals "list" = some none)
    (z105_min : PySem.W.nsIn K mainGlobals "min" = some none)
    (z106_max : PySem.W.nsIn K mainGlobals "max" = some none)
    (z107_range : PySem.W.nsIn K mainGlobals "range" = some none)
    (z108_all : PySem.W.nsIn K mainGlobals "all" = some none)
    (z109_sorted : PySem.W.nsIn K mainGlobals "sorted" = some none)
    (z110_enumerate : PySem.W.nsIn K mainGlobals "enumerate" = some none)
    (z111_reversed : PySem.W.nsIn K mainGlobals "reversed" = some none)
    (z112_zip : PySem.W.nsIn K mainGlobals "zip" = some none)
    (z113_sum : PySem.W.nsIn K mainGlobals "sum" = some none)
    (z114_any : PySem.W.nsIn K mainGlobals "any" = some none)
    (z115_ValueError : PySem.W.nsIn K mainGlobals "ValueError" = some none)
    (z116_str : PySem.W.nsIn K mainGlobals "str" = some none)
    (z117_MOST_PLACES : PySem.W.nsIn K mainGlobals "MOST_PLACES" = some (some (.int 8 t1)))
    (z118_MOST_PIPES : PySem.W.nsIn K mainGlobals "MOST_PIPES" = some (some (.int 28 t2)))
    (z119_MOST_IN_HARDNESS : PySem.W.nsIn K mainGlobals "MOST_IN_HARDNESS" = some (some (.int 1000000000 t3)))
    (z120_pg : PySem.W.plainGet K C Str.empty = true)
    (z121_hd : PySem.W.hasDictIn K C = true)
    (z122_po : PySem.W.plainOver K C = true)
    (z123_sa : PySem.W.findIn K (.ref C) "__setattr__" = some (some (.builtin "object.__setattr__")))
    (z124_nsize : PySem.W.findIn K (.ref C) "size" = some none)
    (z125_nlaid : PySem.W.findIn K (.ref C) "laid" = some none)
    (z126_mk : PySem.W.makesIn K C = true)
    (z127_kc : PySem.W.keepIn K (.ref C) = true) :
    ∃ fd : FuncData,(∀ (s : Shared) (v : Value),BindsTo s fd ⟨[v],[]⟩ [("_law_script",v)]) ∧ ∀ base : Heap,K.In base → base.Ns mainGlobals mg → FnOk l.prog w K mg base CX0 11 fa fd ["_law_script"] (spLaw K):=by
  have e:=hfa.symm.trans (PySem.W.mg_of X G z94_a)
  cases e
  have F0:=fun_mk (st:=s_is_whole) z1_l z2_o z3_k
  have b0:=F0.binds (ps:=["value"]) fun _ _ _ _ _ _ us hl=>match us,hl with | [_],_=>rfl
  have m0:=PySem.W.mg_of X G z0_a
  have F1:=fun_mk (st:=s_common_divisor) z5_l z6_o z7_k
  have b1:=F1.binds (ps:=["a","b"]) fun _ _ _ _ _ _ us hl=>match us,hl with | [_,_],_=>rfl
  have m1:=PySem.W.mg_of X G z4_a
  have F2:=fun_mk (st:=s_is_fraction) z9_l z10_o z11_k
  have b2:=F2.binds (ps:=["value"]) fun _ _ _ _ _ _ us hl=>match us,hl with | [_],_=>rfl
  have m2:=PySem.W.mg_of X G z8_a
  have F3:=fun_mk (st:=s_counts_one_of) z13_l z14_o z15_k
  have b3:=F3.binds (ps:=["value","many"]) fun _ _ _ _ _ _ us hl=>match us,hl with | [_,_],_=>rfl
  have m3:=PySem.W.mg_of X G z12_a
  have F4:=fun_mk (st:=s_is_hardness) z17_l z18_o z19_k
  have b4:=F4.binds (ps:=["value"]) fun _ _ _ _ _ _ us hl=>match us,hl with | [_],_=>rfl
  have m4:=PySem.W.mg_of X G z16_a
  have F5:=fun_mk (st:=s_is_pipe) z21_l z22_o z23_k
  have b5:=F5.binds (ps:=["value","places"]) fun _ _ _ _ _ _ us hl=>match us,hl with | [_,_],_=>rfl
  have m5:=PySem.W.mg_of X G z20_a
  have F6:=fun_mk (st:=s_is_net) z25_l z26_o z27_k
  have b6:=F6.binds (ps:=["places","pipes"]) fun _ _ _ _ _ _ us hl=>match us,hl with | [_,_],_=>rfl
  have m6:=PySem.W.mg_of X G z24_a
  have F7:=fun_mk (st:=s_Net___init__) z30_l z31_o z32_k
  have b7:=F7.binds (ps:=["self","places","pipes"]) fun _ _ _ _ _ _ us hl=>match us,hl with | [_,_,_],_=>rfl
  have F8:=fun_mk (st:=s_Net_pipes) z35_l z36_o z37_k
  have b8:=F8.binds (ps:=["self"]) fun _ _ _ _ _ _ us hl=>match us,hl with | [_],_=>rfl
  have Tm8 : Meth K C "pipes" g8:=⟨z33_a,z34_i,z37_k⟩
  have F9:=fun_mk (st:=s__law_cell_at) z39_l z40_o z41_k
  have b9:=F9.binds (ps:=["_law_script","_law_k"]) fun _ _ _ _ _ _ us hl=>match us,hl with | [_,_],_=>rfl
  have m9:=PySem.W.mg_of X G z38_a
  have F10:=fun_mk (st:=s__law_draw) z43_l z44_o z45_k
  have b10:=F10.binds (ps:=["_law_cell","_law_k","_law_many"]) fun _ _ _ _ _ _ us hl=>match us,hl with | [_,_,_],_=>rfl
  have m10:=PySem.W.mg_of X G z42_a
  have F11:=fun_mk (st:=s__law_least) z47_l z48_o z49_k
  have b11:=F11.binds (ps:=["_law_a","_law_b"]) fun _ _ _ _ _ _ us hl=>match us,hl with | [_,_],_=>rfl
  have m11:=PySem.W.mg_of X G z46_a
  have F12:=fun_mk (st:=s__law_told) z51_l z52_o z53_k
  have b12:=F12.binds (ps:=["_law_script","_law_first","_law_most"]) fun _ _ _ _ _ _ us hl=>match us,hl with | [_,_,_],_=>rfl
  have m12:=PySem.W.mg_of X G z50_a
  have F13:=fun_mk (st:=s_first_row) z55_l z56_o z57_k
  have b13:=F13.binds (ps:=["places"]) fun _ _ _ _ _ _ us hl=>match us,hl with | [_],_=>rfl
  have m13:=PySem.W.mg_of X G z54_a
  have F14:=fun_mk (st:=s_hardness_text) z59_l z60_o z61_k
  have b14:=F14.binds (ps:=["hardness"]) fun _ _ _ _ _ _ us hl=>match us,hl with | [_],_=>rfl
  have m14:=PySem.W.mg_of X G z58_a
  have F15:=fun_mk (st:=s_pipe_row) z63_l z64_o z65_k
  have b15:=F15.binds (ps:=["pipe"]) fun _ _ _ _ _ _ us hl=>match us,hl with | [_],_=>rfl
  have m15:=PySem.W.mg_of X G z62_a
  have F16:=fun_mk (st:=s_written) z67_l z68_o z69_k
  have b16:=F16.binds (ps:=["net"]) fun _ _ _ _ _ _ us hl=>match us,hl with | [_],_=>rfl
  have m16:=PySem.W.mg_of X G z66_a
  have F17:=fun_mk (st:=s_number_in) z71_l z72_o z73_k
  have b17:=F17.binds (ps:=["text"]) fun _ _ _ _ _ _ us hl=>match us,hl with | [_],_=>rfl
  have m17:=PySem.W.mg_of X G z70_a
  have F18:=fun_mk (st:=s_numbers_in) z75_l z76_o z77_k
  have b18:=F18.binds (ps:=["text","sign"]) fun _ _ _ _ _ _ us hl=>match us,hl with | [_,_],_=>rfl
  have m18:=PySem.W.mg_of X G z74_a
  have F19:=fun_mk (st:=s_places_in) z79_l z80_o z81_k
  have b19:=F19.binds (ps:=["row"]) fun _ _ _ _ _ _ us hl=>match us,hl with | [_],_=>rfl
  have m19:=PySem.W.mg_of X G z78_a
  have F20:=fun_mk (st:=s_pipe_in) z83_l z84_o z85_k
  have b20:=F20.binds (ps:=["row"]) fun _ _ _ _ _ _ us hl=>match us,hl with | [_],_=>rfl
  have m20:=PySem.W.mg_of X G z82_a
  have F21:=fun_mk (st:=s_read) z87_l z88_o z89_k
  have b21:=F21.binds (ps:=["text"]) fun _ _ _ _ _ _ us hl=>match us,hl with | [_],_=>rfl
  have m21:=PySem.W.mg_of X G z86_a
  have F22:=fun_mk (st:=s__law_plain) z91_l z92_o z93_k
  have b22:=F22.binds (ps:=["_law_told_here"]) fun _ _ _ _ _ _ us hl=>match us,hl with | [_],_=>rfl
  have m22:=PySem.W.mg_of X G z90_a
  have F23:=fun_mk (st:=s_law) z95_l z96_o z97_k
  have m23:=PySem.W.mg_of X G z94_a
  have T0 : Txt K mg C t1 t2 t3:=⟨PySem.W.mg_none_of X G z98_isinstance,PySem.W.mg_none_of X G z99_int,PySem.W.mg_none_of X G z100_bool,PySem.W.mg_none_of X G z101_abs,PySem.W.mg_none_of X G z102_len,PySem.W.mg_none_of X G z103_tuple,PySem.W.mg_none_of X G z104_list,PySem.W.mg_none_of X G z105_min,PySem.W.mg_none_of X G z106_max,PySem.W.mg_none_of X G z107_range,PySem.W.mg_none_of X G z108_all,PySem.W.mg_none_of X G z109_sorted,PySem.W.mg_none_of X G z110_enumerate,PySem.W.mg_none_of X G z111_reversed,PySem.W.mg_none_of X G z112_zip,PySem.W.mg_none_of X G z113_sum,PySem.W.mg_none_of X G z114_any,PySem.W.mg_none_of X G z115_ValueError,PySem.W.mg_none_of X G z116_str,PySem.W.mg_of X G z117_MOST_PLACES,PySem.W.mg_of X G z118_MOST_PIPES,PySem.W.mg_of X G z119_MOST_IN_HARDNESS,⟨z120_pg,z121_hd,z122_po,z123_sa⟩,z124_nsize,z125_nlaid⟩
  have M_Net : Mk K C g7:=⟨z126_mk,z28_a,z29_i,z127_kc⟩
  have m_Net : mg "Net" = some (.ref C):=PySem.W.mg_of X G z128_Net
  refine ⟨PySem.W.fnOf "law" "law" (defArgs s_law) (defBody s_law) (defScope s_law) .none kV23 dc23 pm23 an23 cd23 ct23,fun s v=>.of_eq rfl,fun base _ _=>?_⟩
  have G0:=ok_whole (P:=l.prog) (w:=w) (mg:=mg) (base:=base) F0 T0
  have G1:=ok_gcd (P:=l.prog) (w:=w) (mg:=mg) (base:=base) F1 T0
  have G2:=ok_fraction (P:=l.prog) (w:=w) (mg:=mg) (base:=base) F2 T0 m0 z3_k b0 G0 m1 z7_k b1 G1
  have G3:=ok_counts (P:=l.prog) (w:=w) (mg:=mg) (base:=base) F3 T0 m0 z3_k b0 G0
  have G4:=ok_hard (P:=l.prog) (w:=w) (mg:=mg) (base:=base) F4 T0 m2 z11_k b2 G2
  have G5:=ok_pipe (P:=l.prog) (w:=w) (mg:=mg) (base:=base) F5 T0 m3 z15_k b3 G3 m4 z19_k b4 G4
  have G6:=ok_net (P:=l.prog) (w:=w) (mg:=mg) (base:=base) F6 T0 m0 z3_k b0 G0 m5 z23_k b5 G5
  have G7:=ok_init (P:=l.prog) (w:=w) (mg:=mg) (base:=base) F7 T0 m6 z27_k b6 G6
  have G8:=ok_pipes (P:=l.prog) (w:=w) (mg:=mg) (base:=base) F8 T0
  have G9:=ok_cell (P:=l.prog) (w:=w) (mg:=mg) (base:=base) F9 T0
  have G10:=ok_draw (P:=l.prog) (w:=w) (mg:=mg) (base:=base) F10
  have G11:=ok_least (P:=l.prog) (w:=w) (mg:=mg) (base:=base) F11
  have G12:=ok_told (P:=l.prog) (w:=w) (mg:=mg) (base:=base) F12 T0 m9 z41_k b9 G9 m10 z45_k b10 G10 m11 z49_k b11 G11
  have G13:=ok_firstrow (P:=l.prog) (w:=w) (mg:=mg) (base:=base) F13
  have G14:=ok_hardtext (P:=l.prog) (w:=w) (mg:=mg) (base:=base) F14
  have G15:=ok_row (P:=l.prog) (w:=w) (mg:=mg) (base:=base) F15 m14 z61_k b14 G14
  have G16:=ok_written (P:=l.prog) (w:=w) (mg:=mg) (base:=base) F16 T0 m13 z57_k b13 G13 m15 z65_k b15 G15 Tm8 b8 G8
  have G17:=ok_number (P:=l.prog) (w:=w) (mg:=mg) (base:=base) F17 T0
  have G18:=ok_numbers (P:=l.prog) (w:=w) (mg:=mg) (base:=base) F18 m17 z73_k b17 G17
  have G19:=ok_placesin (P:=l.prog) (w:=w) (mg:=mg) (base:=base) F19 m17 z73_k b17 G17
  have G20:=ok_pipein (P:=l.prog) (w:=w) (mg:=mg) (base:=base) F20 T0 m18 z77_k b18 G18
  have G21:=ok_read (P:=l.prog) (w:=w) (mg:=mg) (base:=base) F21 T0 M_Net m_Net b7 G7 m6 z27_k b6 G6 m13 z57_k b13 G13 m15 z65_k b15 G15 m19 z81_k b19 G19 m20 z85_k b20 G20
  have G22:=ok_plain (P:=l.prog) (w:=w) (mg:=mg) (base:=base) F22 T0
  exact ok_law F23 T0 ⟨m12,z53_k,b12,G12,m11,z49_k,b11,G11,m9,z41_k,b9,G9,m22,z93_k,b22,G22,m16,z69_k,b16,G16,M_Net,m_Net,b7,G7,m21,z89_k,b21,G21,Tm8,b8,G8⟩
theorem walk {l : PySem.W.OpenLaw} {q : Program} {loose : List Str} {XP : (Str → Option Value) → Heap → Prop} {YP : World → Heap → Prop} {d : DefRec} {K : Params → PySem.W.Frag} (hn : l.most = some 63) (hdf : d.params.defaults = [])
    (hY : ∀ (w : World) (h : Heap),YP w h → (K w.params).In h)
    (F : ∀ (w : World) (mg : Str → Option Value) (fa : Addr) (h : Heap),(K w.params).In h → h.Ns mainGlobals mg → mg d.name = some (.ref fa) →
      ∃ fd : FuncData,(∀ (s : Shared) (u : Value),BindsTo s fd ⟨[u],[]⟩ [("_law_script",u)]) ∧ ∀ base : Heap,(K w.params).In base → base.Ns mainGlobals mg → FnOk l.prog w (K w.params) mg base CX0 11 fa fd ["_law_script"] (spLaw (K w.params))) :
    PySem.W.WalkO q loose XP YP l.row.toRowW d [] (fun f vs=>PySem.call f vs) :=
  L2.walk_of (n:=63) (k:=11) (x:="_law_script") (CX:=fun _=>CX0) (sp:=fun w=>spLaw (K w.params)) hn (by decide) hdf ⟨rfl,by decide,by decide⟩ hY F (fun _ _ a ns hl _ hS=>⟨a,ns,rfl,hS,hl,fun _=>rfl⟩) fun _ _ _ _ _ z=>z
end K2
namespace Hd
open PySem PySem.W PySem.Calls PyProof.Rows L2
section
lay_quick PySem.Challenge.pw_splitstream_k10_nets_read_and_written
noncomputable abbrev Q : Program:=PySem.W.Fast.tw17669994084139160283
theorem Q_eq : PySem.Challenge.pw_splitstream_k10_nets_read_and_written = Q:=PySem.W.Fast.te17669994084139160283
def nth : List Stmt → Nat → Stmt
  | [],_=>.Pass ⟨0,0,0,0⟩
  | s :: _,0=>s
  | _ :: l,n + 1=>nth l n
noncomputable abbrev q (i : Nat) : Stmt:=nth Q.main.body i
noncomputable def S0 : Str:=⟨#[60,109,111,100,117,108,101,62]⟩
noncomputable def S1 : Str:=⟨#[47,99,108,97,105,109,47,99,117,116,46,112,121]⟩
noncomputable def S2 : Str:=⟨#[95,95,109,97,105,110,95,95]⟩
noncomputable def S3 : Str:=⟨#[95,95,110,97,109,101,95,95]⟩
noncomputable def S4 : Str:=⟨#[115,112,108,105,116,115,116,114,101,97,109,46,110,101,116,115]⟩
noncomputable def S5 : Str:=⟨#[95,95,100,111,99,95,95]⟩
noncomputable def S6 : Str:=⟨#[95,95,112,97,99,107,97,103,101,95,95]⟩
noncomputable def S7 : Str:=⟨#[95,95,108,111,97,100,101,114,95,95]⟩
noncomputable def S8 : Str:=⟨#[95,95,115,112,101,99,95,95]⟩
noncomputable def S9 : Str:=⟨#[95,95,97,110,110,111,116,97,116,105,111,110,115,95,95]⟩
noncomputable def S10 : Str:=⟨#[95,95,98,117,105,108,116,105,110,115,95,95]⟩
noncomputable def S11 : Str:=⟨#[95,95,102,105,108,101,95,95]⟩
noncomputable def S12 : Str:=⟨#[95,95,99,97,99,104,101,100,95,95]⟩
noncomputable def S13 : Str:=⟨#[95,119,97,108,108]⟩
noncomputable def S14 : Str:=⟨#[78,101,116,69,114,114,111,114]⟩
noncomputable def S15 : Str:=⟨#[66,97,100,78,101,116]⟩
noncomputable def S16 : Str:=⟨#[66,97,100,82,111,119]⟩
noncomputable def S17 : Str:=⟨#[105,115,95,119,104,111,108,101]⟩
noncomputable def S18 : Str:=⟨#[105,115,95,102,114,97,99,116,105,111,110]⟩
noncomputable def S19 : Str:=⟨#[99,111,109,109,111,110,95,100,105,118,105,115,111,114]⟩
noncomputable def S20 : Str:=⟨#[77,79,83,84,95,80,76,65,67,69,83]⟩
noncomputable def S21 : Str:=⟨#[107]⟩
noncomputable def S22 : Str:=⟨#[95,95,109,111,100,117,108,101,95,95]⟩
noncomputable def S23 : Str:=⟨#[115,112,108,105,116,115,116,114,101,97,109,46,101,114,114,111,114,115]⟩
noncomputable def S24 : Str:=⟨#[95,95,113,117,97,108,110,97,109,101,95,95]⟩
noncomputable def S25 : Str:=⟨#[95,95,102,105,114,115,116,108,105,110,101,110,111,95,95]⟩
noncomputable def S26 : Str:=⟨#[95,95,115,116,97,116,105,99,95,97,116,116,114,105,98,117,116,101,115,95,95]⟩
noncomputable def S27 : Str:=⟨#[95,95,119,101,97,107,114,101,102,95,95]⟩
noncomputable def S28 : Str:=⟨#[95,95,105,110,105,116,95,95]⟩
noncomputable def S29 : Str:=⟨#[115,101,108,102]⟩
noncomputable def S30 : Str:=⟨#[114,111,119]⟩
noncomputable def S31 : Str:=⟨#[66,97,100,82,111,119,46,95,95,105,110,105,116,95,95]⟩
noncomputable def S32 : Str:=⟨#[118,97,108,117,101]⟩
noncomputable def S33 : Str:=⟨#[115,112,108,105,116,115,116,114,101,97,109,46,102,114,97,99,116,105,111,110,115]⟩
noncomputable def S34 : Str:=⟨#[97]⟩
noncomputable def S35 : Str:=⟨#[98]⟩
noncomputable def S36 : Str:=⟨#[111,110,101]⟩
noncomputable def S37 : Str:=⟨#[111,116,104,101,114]⟩
noncomputable def S38 : Str:=⟨#[114,101,115,116]⟩
noncomputable def S39 : Str:=⟨#[108,97,119,95,115,112,108,105,116,115,116,114,101,97,109,95,107,49,48,95,110,101,116,115,95,114,101,97,100,95,97,110,100,95,119,114,105,116,116,101,110]⟩
noncomputable def S40 : Str:=⟨#[77,79,83,84,95,80,73,80,69,83]⟩
noncomputable def S41 : Str:=⟨#[77,79,83,84,95,73,78,95,72,65,82,68,78,69,83,83]⟩
noncomputable def S42 : Str:=⟨#[99,111,117,110,116,115,95,111,110,101,95,111,102]⟩
noncomputable def S43 : Str:=⟨#[105,115,95,104,97,114,100,110,101,115,115]⟩
noncomputable def S44 : Str:=⟨#[105,115,95,112,105,112,101]⟩
noncomputable def S45 : Str:=⟨#[105,115,95,110,101,116]⟩
noncomputable def S46 : Str:=⟨#[78,101,116]⟩
noncomputable def S47 : Str:=⟨#[102,105,114,115,116,95,114,111,119]⟩
noncomputable def S48 : Str:=⟨#[104,97,114,100,110,101,115,115,95,116,101,120,116]⟩
noncomputable def S49 : Str:=⟨#[112,105,112,101,95,114,111,119]⟩
noncomputable def S50 : Str:=⟨#[119,114,105,116,116,101,110]⟩
noncomputable def S51 : Str:=⟨#[110,117,109,98,101,114,95,105,110]⟩
noncomputable def S52 : Str:=⟨#[110,117,109,98,101,114,115,95,105,110]⟩
noncomputable def S53 : Str:=⟨#[112,108,97,99,101,115,95,105,110]⟩
noncomputable def S54 : Str:=⟨#[112,105,112,101,95,105,110]⟩
noncomputable def S55 : Str:=⟨#[114,101,97,100]⟩
noncomputable def S56 : Str:=⟨#[95,108,97,119,95,99,101,108,108,95,97,116]⟩
noncomputable def S57 : Str:=⟨#[95,108,97,119,95,100,114,97,119]⟩
noncomputable def S58 : Str:=⟨#[109,97,110,121]⟩
noncomputable def S59 : Str:=⟨#[112,108,97,99,101,115]⟩
noncomputable def S60 : Str:=⟨#[112,105,112,101,115]⟩
noncomputable def S61 : Str:=⟨#[112,97,114,116]⟩
noncomputable def S62 : Str:=⟨#[112,97,114,116,115]⟩
noncomputable def S63 : Str:=⟨#[78,101,116,46,95,95,105,110,105,116,95,95]⟩
noncomputable def S64 : Str:=⟨#[78,101,116,46,112,105,112,101,115]⟩
noncomputable def S65 : Str:=⟨#[97,116]⟩
noncomputable def S66 : Str:=⟨#[78,101,116,46,112,97,114,116]⟩
noncomputable def S67 : Str:=⟨#[78,101,116,46,112,97,114,116,115]⟩
noncomputable def S68 : Str:=⟨#[108,97,105,100]⟩
noncomputable def S69 : Str:=⟨#[115,105,122,101]⟩
noncomputable def S70 : Str:=⟨#[95,95,100,105,99,116,95,95]⟩
noncomputable def S71 : Str:=⟨#[115,112,108,105,116,115,116,114,101,97,109,46,110,111,116,101,115]⟩
noncomputable def S72 : Str:=⟨#[104,97,114,100,110,101,115,115]⟩
noncomputable def S73 : Str:=⟨#[102,105,114,115,116]⟩
noncomputable def S74 : Str:=⟨#[115,101,99,111,110,100]⟩
noncomputable def S75 : Str:=⟨#[112,105,112,101]⟩
noncomputable def S76 : Str:=⟨#[116,101,120,116]⟩
noncomputable def S77 : Str:=⟨#[104,97,108,118,101,115]⟩
noncomputable def S78 : Str:=⟨#[114,111,119,115]⟩
noncomputable def S79 : Str:=⟨#[110,117,109,98,101,114]⟩
noncomputable def S80 : Str:=⟨#[95,108,97,119,95,115,99,114,105,112,116]⟩
noncomputable def S81 : Str:=⟨#[95,108,97,119,95,107]⟩
noncomputable def S82 : Str:=⟨#[95,108,97,119,95,99,101,108,108]⟩
noncomputable def S83 : Str:=⟨#[95,108,97,119,95,109,97,110,121]⟩
noncomputable def S84 : Str:=⟨#[95,108,97,119,95,112,114,105,109,101,115]⟩
noncomputable def S85 : Str:=⟨#[95,108,97,119,95,98,108,101,110,100]⟩
noncomputable def S86 : Str:=⟨#[95,108,97,119,95,108,101,97,115,116]⟩
noncomputable def S87 : Str:=⟨#[95,108,97,119,95,116,111,108,100]⟩
noncomputable def S88 : Str:=⟨#[95,108,97,119,95,112,97,114,116]⟩
noncomputable def S89 : Str:=⟨#[95,108,97,119,95,112,108,97,105,110]⟩
noncomputable def S90 : Str:=⟨#[108,97,119]⟩
noncomputable def S91 : Str:=⟨#[95,108,97,119,95,97]⟩
noncomputable def S92 : Str:=⟨#[95,108,97,119,95,98]⟩
noncomputable def S93 : Str:=⟨#[95,108,97,119,95,111,110,101]⟩
noncomputable def S94 : Str:=⟨#[95,108,97,119,95,111,116,104,101,114]⟩
noncomputable def S95 : Str:=⟨#[95,108,97,119,95,102,105,114,115,116]⟩
noncomputable def S96 : Str:=⟨#[95,108,97,119,95,109,111,115,116]⟩
noncomputable def S97 : Str:=⟨#[95,108,97,119,95,116,104,105,114,100]⟩
noncomputable def S98 : Str:=⟨#[95,108,97,119,95,112,108,97,99,101,115]⟩
noncomputable def S99 : Str:=⟨#[95,108,97,119,95,112,105,112,101,115]⟩
noncomputable def S100 : Str:=⟨#[95,108,97,119,95,104,101,114,101]⟩
noncomputable def S101 : Str:=⟨#[95,108,97,119,95,116,104,101,114,101]⟩
noncomputable def S102 : Str:=⟨#[95,108,97,119,95,116,111,108,100,95,104,101,114,101]⟩
noncomputable def S103 : Str:=⟨#[95,108,97,119,95,97,116]⟩
noncomputable def S104 : Str:=⟨#[95,108,97,119,95,102,111,117,110,100]⟩
noncomputable def S105 : Str:=⟨#[95,108,97,119,95,116,117,114,110]⟩
noncomputable def S106 : Str:=⟨#[95,108,97,119,95,104,97,114,100,110,101,115,115]⟩
noncomputable def S107 : Str:=⟨#[95,108,97,119,95,114,111,119,115]⟩
noncomputable def S108 : Str:=⟨#[95,108,97,119,95,116,101,120,116]⟩
noncomputable abbrev e (P : Params) (s : Str) (n : Nat) (v : Value) : DictEntry:=.mk (PyData.keyHash P s) (.str s n) v
noncomputable abbrev Z (_ : Params) : BT:=.nil
noncomputable abbrev L (o : Params → Obj) (P : Params) : BT:=.node (o P) .nil .nil
noncomputable abbrev N (o : Params → Obj) (a b : Params → BT) (P : Params) : BT:=.node (o P) (a P) (b P)
noncomputable abbrev x0 : String:=SL.s2766695959194262286x5
noncomputable abbrev x1 : String:=SL.s5856160107412720595x4
noncomputable abbrev x2 : String:=SL.s658472552662922059x5
noncomputable abbrev x3 : String:=SL.s14018661285674007319x4
noncomputable abbrev x4 : String:=SL.s7097527257260152453x26
noncomputable abbrev x5 : String:=SL.s7174869446012820540x8
noncomputable abbrev x6 : String:=SL.s6070975301684473832x10
noncomputable abbrev x7 : String:=SL.s11030030927630378310x26
noncomputable abbrev x8 : String:=SL.s10062305145149207511x16
noncomputable abbrev x9 : String:=SL.s17162191345867700912x4
noncomputable abbrev x10 : String:=SL.s5946037652744460706x9
noncomputable abbrev x11 : String:=SL.s4278001404047624695x13
noncomputable abbrev x12 : String:=SL.s2742458400755230247x6
noncomputable abbrev x13 : String:=SL.s4209523147560561109x18
noncomputable abbrev x14 : String:=SL.s14755015743595814543x17
noncomputable abbrev x15 : String:=SL.s10220274742760427390x26
noncomputable abbrev x16 : String:=SL.s4290257624100764138x5
noncomputable abbrev x17 : String:=SL.s4860613602091757760x24
noncomputable abbrev x18 : String:=SL.s11443829558043349243x14
noncomputable abbrev x19 : String:=SL.s6511155373996960695x17
noncomputable abbrev x20 : String:=SL.s12411053484034534018x21
noncomputable abbrev yc (a:Str) (i:Nat) (b:Str) (j k l m n r:Nat) (c:Bool) (s:Nat) (v:Value) (x y z:Nat):Obj:=.mk (.type x1) none (.fields #[.str a i,.str b j,.str S1 k,.int l 0,.int m 0,.int 0 0,.int 0 0,.int n 0,.ref r,.bool c,.int 181 0,.ref s,.none,.none,.none,v,.int x 0,.int y 0,.str S1 z]) #[]
noncomputable abbrev yf (a b:Str) (s:Stmt) (k:Nat) (m:Value) (r:Nat):Obj:=.mk (.type x5) none (.func (.mk a b (defArgs s) (.stmts (defBody s)) (defScope s) k [] .none .none .none m none (.ref r) .none 0)) #[]
noncomputable abbrev yg (a b:Str) (s:Stmt):Obj:=.mk .none none (.func (.mk a b (defArgs s) (.stmts (defBody s)) (defScope s) 0 [] .none .none .none .none none .none .none 0)) #[]
noncomputable abbrev ys (x:String) (a:Array Value):Obj:=.mk (.type x) none (.seq a 0) #[]
noncomputable abbrev yv (a:Array Value):Obj:=.mk .none none (.fields a) #[]
noncomputable abbrev J:=Params→Obj
noncomputable def o0:J:=fun P=>(ys x0 #[])
noncomputable def o1:J:=fun P=>(yv #[])
noncomputable def o2:J:=fun P=>(yc S0 182 S0 183 184 1 0 0 11 .false 12 .none 185 1 186)
noncomputable def o3:J:=fun P=>(.mk (.type x2) none .plain #[(some (.ref 13)),(some (.ref 3)),(some (.ref 3)),none,(some (.str S2 164)),none,(some (.ref 0))])
noncomputable def h_a (P : Params) : Heap:=⟨#[boot_o_0 P,boot_o_1 P,boot_o_2 P,boot_o_3 P,boot_o_4 P,boot_o_5 P,boot_o_6 P,boot_o_7 P,boot_o_8 P,boot_o_9 P,boot_o_10 P,o0 P,o1 P,o2 P,o3 P],{}⟩
noncomputable def t_b : Params → BT:=(N boot_o_0 (N boot_o_1 (N boot_o_3 (L boot_o_7) (L o0)) (N boot_o_5 (L boot_o_9) (L o2))) (N boot_o_2 (N boot_o_4 (L boot_o_8) (L o1)) (N boot_o_6 (L boot_o_10) (L o3))))
noncomputable def o4:J:=fun P=>(.mk (.type x3) none (.dict #[(e P S3 165 (.str S4 282)),(e P S5 166 .none),(e P S6 167 .none),(e P S7 168 (.builtin x4)),(e P S8 169 .none),(e P S9 170 (.ref 6)),(e P S10 171 (.ref 4)),(e P S11 173 (.str S1 172)),(e P S12 174 .none),(e P S13 193 (.ref 21)),(e P S14 213 (.ref 31)),(e P S15 229 (.ref 44)),(e P S16 254 (.ref 63)),(e P S17 263 (.ref 72)),(e P S18 270 (.ref 79)),(e P S19 281 (.ref 86)),(e P S20 285 (.int 8 284))] 17) #[])
noncomputable def o5:J:=fun P=>(yv #[(.int 1 0),(.int 0 0),(.ref 20),(.int 5 0),(.int 0 0),(.ref 27),(.int 7 0),(.int 0 0),(.ref 40),(.int 9 0),(.int 0 0),(.ref 52),(.int 15 0),(.int 0 0),(.ref 71),(.int 17 0),(.int 0 0),(.ref 78),(.int 23 0),(.int 0 0),(.ref 85)])
noncomputable def o6:J:=fun P=>(ys x0 #[(.str S21 190)])
noncomputable def o7:J:=fun P=>(yg S13 S13 (q 0))
noncomputable def o8:J:=fun P=>(.mk (.type x1) none (.fields #[(.str S13 187),(.str S13 188),(.str S1 189),(.int 1 0),(.int 1 0),(.int 0 0),(.int 0 0),(.int 3 0),(.ref 15),(.bool .true),(.int 181 0),(.ref 16),.none,(.ref 17),(.ref 18),(.ref 19),(.int 191 0),(.int 1 0),(.str S1 192)]) #[])
noncomputable def o9:J:=fun P=>(yf S13 S13 (q 0) 3 (.str S2 164) 20)
noncomputable def o10:J:=fun P=>(ys x0 #[(.type x6)])
noncomputable def o11:J:=fun P=>(.mk (.type x7) none (.fields #[(.builtin x8),(.type x9)]) #[])
noncomputable def o12:J:=fun P=>(.mk (.type x3) none (.dict #[(e P S22 203 (.str S23 194)),(e P S24 205 (.str S14 204)),(e P S25 207 (.int 5 206)),(e P S26 208 (.ref 29))] 4) #[])
noncomputable def o13:J:=fun P=>(yc S14 198 S14 199 200 5 0 0 25 .false 26 .none 201 5 202)
noncomputable def o14:J:=fun P=>(.mk (.type x2) none .plain #[(some (.ref 27)),(some (.ref 3)),(some (.ref 24)),none,(some (.str S23 194)),none,(some (.ref 0))])
noncomputable def o15:J:=fun P=>(.mk (.type x3) none (.dict #[(e P S22 203 (.str S23 194)),(e P S25 207 (.int 5 206)),(e P S26 208 (.ref 29)),(e P S27 210 (.ref 32)),(e P S5 211 .none)] 3) #[])
noncomputable def o16:J:=fun P=>(.mk (.type x9) none (.cls (.mk S14 [(.type x6)] [(.ref 31),(.type x6),(.type x10),(.type x11),(.type x12)] 30 S14 .true [] [(.ref 44),(.ref 63)] .false none .false)) #[(some (.ref 22)),none,(some (.str S14 196)),(some (.str S14 204)),(some (.builtin x13)),(some (.bool .true))])
noncomputable def o17:J:=fun P=>(.mk (.type x14) none (.fields #[(.str S27 209),(.ref 31),(.builtin x15),.none]) #[])
noncomputable def o18:J:=fun P=>(.mk (.type x16) none (.fields #[(.ref 31),(.ref 31),(.ref 31)]) #[])
noncomputable def o19:J:=fun P=>(.mk (.type x7) none (.fields #[(.builtin x17),(.ref 31)]) #[])
noncomputable def o20:J:=fun P=>(ys x0 #[(.ref 31)])
noncomputable def o21:J:=fun P=>(.mk (.type x3) none (.dict #[(e P S22 221 (.str S23 194)),(e P S24 223 (.str S15 222)),(e P S25 225 (.int 7 224)),(e P S26 226 (.ref 42))] 4) #[])
noncomputable def o22:J:=fun P=>(yc S15 216 S15 217 218 7 0 0 38 .false 39 .none 219 7 220)
noncomputable def o23:J:=fun P=>(.mk (.type x2) none .plain #[(some (.ref 40)),(some (.ref 3)),(some (.ref 37)),none,(some (.str S23 194)),none,(some (.ref 0))])
noncomputable def o24:J:=fun P=>(.mk (.type x3) none (.dict #[(e P S22 221 (.str S23 194)),(e P S25 225 (.int 7 224)),(e P S26 226 (.ref 42)),(e P S5 227 .none)] 2) #[])
noncomputable def o25:J:=fun P=>(.mk (.type x9) none (.cls (.mk S15 [(.ref 31)] [(.ref 44),(.ref 31),(.type x6),(.type x10),(.type x11),(.type x12)] 43 S15 .true [] [] .false none .false)) #[(some (.ref 35)),none,(some (.str S15 214)),(some (.str S15 222)),(some (.builtin x13)),(some (.bool .true))])
noncomputable def o26:J:=fun P=>(.mk (.type x16) none (.fields #[(.ref 44),(.ref 44),(.ref 44)]) #[])
noncomputable def o27:J:=fun P=>(.mk (.type x7) none (.fields #[(.builtin x17),(.ref 44)]) #[])
noncomputable def o28:J:=fun P=>(.mk (.type x3) none (.dict #[(e P S22 237 (.str S23 194)),(e P S24 239 (.str S16 238)),(e P S25 241 (.int 9 240)),(e P S28 249 (.ref 60)),(e P S26 251 (.ref 61))] 5) #[])
noncomputable def o29:J:=fun P=>(yv #[(.int 11 0),(.int 4 0),(.ref 59)])
noncomputable def o30:J:=fun P=>(yc S16 232 S16 233 234 9 0 0 50 .false 51 .none 235 9 236)
noncomputable def o31:J:=fun P=>(.mk (.type x2) none .plain #[(some (.ref 52)),(some (.ref 3)),(some (.ref 49)),none,(some (.str S23 194)),none,(some (.ref 0))])
noncomputable def o32:J:=fun P=>(ys x0 #[(.str S29 245),(.str S30 246)])
noncomputable def o33:J:=fun P=>(yg S28 S31 (inClass (q 4) 0))
noncomputable def o34:J:=fun P=>(.mk (.type x1) none (.fields #[(.str S28 242),(.str S31 243),(.str S1 244),(.int 11 0),(.int 2 0),(.int 0 0),(.int 0 0),(.int 3 0),(.ref 54),(.bool .true),(.int 181 0),(.ref 55),.none,(.ref 56),(.ref 57),(.ref 58),(.int 247 0),(.int 11 0),(.str S1 248)]) #[])
noncomputable def o35:J:=fun P=>(yf S28 S31 (inClass (q 4) 0) 3 (.str S23 194) 59)
noncomputable def o36:J:=fun P=>(ys x0 #[(.str S30 250)])
noncomputable def o37:J:=fun P=>(.mk (.type x3) none (.dict #[(e P S22 237 (.str S23 194)),(e P S25 241 (.int 9 240)),(e P S28 249 (.ref 60)),(e P S26 251 (.ref 61)),(e P S5 252 .none)] 2) #[])
noncomputable def o38:J:=fun P=>(.mk (.type x9) none (.cls (.mk S16 [(.ref 31)] [(.ref 63),(.ref 31),(.type x6),(.type x10),(.type x11),(.type x12)] 62 S16 .true [] [] .false none .false)) #[(some (.ref 47)),none,(some (.str S16 230)),(some (.str S16 238)),(some (.builtin x13)),(some (.bool .true))])
noncomputable def o39:J:=fun P=>(.mk (.type x16) none (.fields #[(.ref 63),(.ref 63),(.ref 63)]) #[])
noncomputable def o40:J:=fun P=>(.mk (.type x7) none (.fields #[(.builtin x17),(.ref 63)]) #[])
noncomputable def o41:J:=fun P=>(ys x0 #[(.str S32 260)])
noncomputable def o42:J:=fun P=>(yg S17 S17 (q 6))
noncomputable def o43:J:=fun P=>(.mk (.type x1) none (.fields #[(.str S17 257),(.str S17 258),(.str S1 259),(.int 15 0),(.int 1 0),(.int 0 0),(.int 0 0),(.int 3 0),(.ref 66),(.bool .true),(.int 181 0),(.ref 67),.none,(.ref 68),(.ref 69),(.ref 70),(.int 261 0),(.int 15 0),(.str S1 262)]) #[])
noncomputable def o44:J:=fun P=>(yf S17 S17 (q 6) 3 (.str S33 255) 71)
noncomputable def o45:J:=fun P=>(ys x0 #[(.str S32 267)])
noncomputable def o46:J:=fun P=>(yg S18 S18 (q 7))
noncomputable def o47:J:=fun P=>(.mk (.type x1) none (.fields #[(.str S18 264),(.str S18 265),(.str S1 266),(.int 17 0),(.int 1 0),(.int 0 0),(.int 0 0),(.int 3 0),(.ref 73),(.bool .true),(.int 181 0),(.ref 74),.none,(.ref 75),(.ref 76),(.ref 77),(.int 268 0),(.int 17 0),(.str S1 269)]) #[])
noncomputable def o48:J:=fun P=>(yf S18 S18 (q 7) 3 (.str S33 255) 78)
noncomputable def o49:J:=fun P=>(ys x0 #[(.str S34 274),(.str S35 275),(.str S36 276),(.str S37 277),(.str S38 278)])
noncomputable def o50:J:=fun P=>(yg S19 S19 (q 8))
noncomputable def o51:J:=fun P=>(.mk (.type x1) none (.fields #[(.str S19 271),(.str S19 272),(.str S1 273),(.int 23 0),(.int 2 0),(.int 0 0),(.int 0 0),(.int 3 0),(.ref 80),(.bool .true),(.int 181 0),(.ref 81),.none,(.ref 82),(.ref 83),(.ref 84),(.int 279 0),(.int 23 0),(.str S1 280)]) #[])
noncomputable def o52:J:=fun P=>(yf S19 S19 (q 8) 3 (.str S33 255) 85)
noncomputable def t_0 : Params → BT:=(N boot_o_0 (N boot_o_1 (N o4 (N boot_o_7 (N o0 (N o16 (L o38) Z) (N o20 (L o48) Z)) (N o11 (N o1 (L o43) Z) (L o1))) (N o0 (N o7 (N o20 (L o1) Z) (N o29 (L o0) Z)) (N o13 (N o24 (L o45) Z) (L o34)))) (N boot_o_5 (N boot_o_9 (N o6 (N o18 (L o40) Z) (N o28 (L o1) Z)) (N o0 (N o23 (L o0) Z) (L o0))) (N o2 (N o9 (N o21 (L o0) Z) (N o31 (L o51) Z)) (N o0 (N o26 (L o46) Z) (L o36))))) (N boot_o_2 (N boot_o_4 (N boot_o_8 (N o1 (N o17 (L o39) Z) (N o11 (L o0) Z)) (N o12 (N o22 (L o44) Z) (L o32))) (N o5 (N o8 (N o11 (L o41) Z) (N o30 (L o50) Z)) (N o14 (N o25 (L o0) Z) (L o35)))) (N boot_o_6 (N boot_o_10 (N o0 (N o19 (L o0) Z) (N o0 (L o49) Z)) (N o1 (N o0 (L o1) Z) (L o33))) (N o3 (N o10 (N o0 (L o42) Z) (N o0 (L o52) Z)) (N o15 (N o27 (L o47) Z) (L o37))))))
noncomputable def o53:J:=fun P=>(.mk (.type x3) none (.dict #[(e P S3 165 (.str S39 446)),(e P S5 166 .none),(e P S6 167 .none),(e P S7 168 (.builtin x4)),(e P S8 169 .none),(e P S9 170 (.ref 6)),(e P S10 171 (.ref 4)),(e P S11 173 (.str S1 172)),(e P S12 174 .none),(e P S13 193 (.ref 21)),(e P S14 213 (.ref 31)),(e P S15 229 (.ref 44)),(e P S16 254 (.ref 63)),(e P S17 263 (.ref 72)),(e P S18 270 (.ref 79)),(e P S19 281 (.ref 86)),(e P S20 285 (.int 8 284)),(e P S40 287 (.int 28 286)),(e P S41 289 (.int 1000000000 288)),(e P S42 297 (.ref 93)),(e P S43 304 (.ref 100)),(e P S44 312 (.ref 107)),(e P S45 318 (.ref 112)),(e P S46 368 (.ref 148)),(e P S47 377 (.ref 159)),(e P S48 386 (.ref 166)),(e P S49 396 (.ref 173)),(e P S50 402 (.ref 178)),(e P S51 409 (.ref 185)),(e P S52 415 (.ref 190)),(e P S53 422 (.ref 197)),(e P S54 432 (.ref 204)),(e P S55 445 (.ref 211)),(e P S56 455 (.ref 218)),(e P S57 466 (.ref 225))] 35) #[])
noncomputable def o54:J:=fun P=>(yv #[(.int 1 0),(.int 0 0),(.ref 20),(.int 5 0),(.int 0 0),(.ref 27),(.int 7 0),(.int 0 0),(.ref 40),(.int 9 0),(.int 0 0),(.ref 52),(.int 15 0),(.int 0 0),(.ref 71),(.int 17 0),(.int 0 0),(.ref 78),(.int 23 0),(.int 0 0),(.ref 85),(.int 35 0),(.int 0 0),(.ref 92),(.int 37 0),(.int 0 0),(.ref 99),(.int 39 0),(.int 0 0),(.ref 106),(.int 45 0),(.int 0 0),(.ref 111),(.int 51 0),(.int 0 0),(.ref 118),(.int 68 0),(.int 0 0),(.ref 158),(.int 70 0),(.int 0 0),(.ref 165),(.int 74 0),(.int 0 0),(.ref 172),(.int 79 0),(.int 0 0),(.ref 177),(.int 81 0),(.int 0 0),(.ref 184),(.int 86 0),(.int 0 0),(.ref 189),(.int 88 0),(.int 0 0),(.ref 196),(.int 90 0),(.int 0 0),(.ref 203),(.int 97 0),(.int 0 0),(.ref 210),(.int 110 0),(.int 0 0),(.ref 217),(.int 114 0),(.int 0 0),(.ref 224)])
noncomputable def o55:J:=fun P=>(ys x0 #[(.str S32 293),(.str S58 294)])
noncomputable def o56:J:=fun P=>(yg S42 S42 (q 13))
noncomputable def o57:J:=fun P=>(.mk (.type x1) none (.fields #[(.str S42 290),(.str S42 291),(.str S1 292),(.int 35 0),(.int 2 0),(.int 0 0),(.int 0 0),(.int 3 0),(.ref 87),(.bool .true),(.int 181 0),(.ref 88),.none,(.ref 89),(.ref 90),(.ref 91),(.int 295 0),(.int 35 0),(.str S1 296)]) #[])
noncomputable def o58:J:=fun P=>(yf S42 S42 (q 13) 3 (.str S4 282) 92)
noncomputable def o59:J:=fun P=>(ys x0 #[(.str S32 301)])
noncomputable def o60:J:=fun P=>(yg S43 S43 (q 14))
noncomputable def o61:J:=fun P=>(.mk (.type x1) none (.fields #[(.str S43 298),(.str S43 299),(.str S1 300),(.int 37 0),(.int 1 0),(.int 0 0),(.int 0 0),(.int 3 0),(.ref 94),(.bool .true),(.int 181 0),(.ref 95),.none,(.ref 96),(.ref 97),(.ref 98),(.int 302 0),(.int 37 0),(.str S1 303)]) #[])
noncomputable def o62:J:=fun P=>(yf S43 S43 (q 14) 3 (.str S4 282) 99)
noncomputable def o63:J:=fun P=>(ys x0 #[(.str S32 308),(.str S59 309)])
noncomputable def o64:J:=fun P=>(yg S44 S44 (q 15))
noncomputable def o65:J:=fun P=>(.mk (.type x1) none (.fields #[(.str S44 305),(.str S44 306),(.str S1 307),(.int 39 0),(.int 2 0),(.int 0 0),(.int 0 0),(.int 3 0),(.ref 101),(.bool .true),(.int 181 0),(.ref 102),.none,(.ref 103),(.ref 104),(.ref 105),(.int 310 0),(.int 39 0),(.str S1 311)]) #[])
noncomputable def o66:J:=fun P=>(yf S44 S44 (q 15) 3 (.str S4 282) 106)
noncomputable def o67:J:=fun P=>(yg S45 S45 (q 16))
noncomputable def o68:J:=fun P=>(yc S45 313 S45 314 315 45 2 3 108 .true 109 (.ref 110) 316 45 317)
noncomputable def o69:J:=fun P=>(yf S45 S45 (q 16) 3 (.str S4 282) 111)
noncomputable def o70:J:=fun P=>(.mk (.type x3) none (.dict #[(e P S22 326 (.str S4 282)),(e P S24 328 (.str S46 327)),(e P S25 330 (.int 51 329)),(e P S28 336 (.ref 124)),(e P S60 343 (.ref 131)),(e P S61 351 (.ref 138)),(e P S62 358 (.ref 145)),(e P S26 361 (.ref 146))] 8) #[])
noncomputable def o71:J:=fun P=>(yv #[(.int 53 0),(.int 4 0),(.ref 123),(.int 59 0),(.int 4 0),(.ref 130),(.int 62 0),(.int 4 0),(.ref 137),(.int 65 0),(.int 4 0),(.ref 144)])
noncomputable def o72:J:=fun P=>(yc S46 321 S46 322 323 51 0 0 116 .false 117 .none 324 51 325)
noncomputable def o73:J:=fun P=>(.mk (.type x2) none .plain #[(some (.ref 118)),(some (.ref 3)),(some (.ref 115)),none,(some (.str S4 282)),none,(some (.ref 0))])
noncomputable def o74:J:=fun P=>(yg S28 S63 (inClass (q 17) 0))
noncomputable def o75:J:=fun P=>(yc S28 331 S63 332 333 53 3 3 120 .true 121 (.ref 122) 334 53 335)
noncomputable def o76:J:=fun P=>(yf S28 S63 (inClass (q 17) 0) 3 (.str S4 282) 123)
noncomputable def o77:J:=fun P=>(ys x0 #[(.str S29 340)])
noncomputable def o78:J:=fun P=>(yg S60 S64 (inClass (q 17) 1))
noncomputable def o79:J:=fun P=>(.mk (.type x1) none (.fields #[(.str S60 337),(.str S64 338),(.str S1 339),(.int 59 0),(.int 1 0),(.int 0 0),(.int 0 0),(.int 3 0),(.ref 125),(.bool .true),(.int 181 0),(.ref 126),.none,(.ref 127),(.ref 128),(.ref 129),(.int 341 0),(.int 59 0),(.str S1 342)]) #[])
noncomputable def o80:J:=fun P=>(yf S60 S64 (inClass (q 17) 1) 3 (.str S4 282) 130)
noncomputable def o81:J:=fun P=>(ys x0 #[(.str S29 347),(.str S65 348)])
noncomputable def o82:J:=fun P=>(yg S61 S66 (inClass (q 17) 2))
noncomputable def o83:J:=fun P=>(.mk (.type x1) none (.fields #[(.str S61 344),(.str S66 345),(.str S1 346),(.int 62 0),(.int 2 0),(.int 0 0),(.int 0 0),(.int 3 0),(.ref 132),(.bool .true),(.int 181 0),(.ref 133),.none,(.ref 134),(.ref 135),(.ref 136),(.int 349 0),(.int 62 0),(.str S1 350)]) #[])
noncomputable def o84:J:=fun P=>(yf S61 S66 (inClass (q 17) 2) 3 (.str S4 282) 137)
noncomputable def o85:J:=fun P=>(ys x0 #[(.str S29 355)])
noncomputable def o86:J:=fun P=>(yg S62 S67 (inClass (q 17) 3))
noncomputable def o87:J:=fun P=>(.mk (.type x1) none (.fields #[(.str S62 352),(.str S67 353),(.str S1 354),(.int 65 0),(.int 1 0),(.int 0 0),(.int 0 0),(.int 3 0),(.ref 139),(.bool .true),(.int 181 0),(.ref 140),.none,(.ref 141),(.ref 142),(.ref 143),(.int 356 0),(.int 65 0),(.str S1 357)]) #[])
noncomputable def o88:J:=fun P=>(yf S62 S67 (inClass (q 17) 3) 3 (.str S4 282) 144)
noncomputable def o89:J:=fun P=>(ys x0 #[(.str S68 359),(.str S69 360)])
noncomputable def o90:J:=fun P=>(.mk (.type x3) none (.dict #[(e P S22 326 (.str S4 282)),(e P S25 330 (.int 51 329)),(e P S28 336 (.ref 124)),(e P S60 343 (.ref 131)),(e P S61 351 (.ref 138)),(e P S62 358 (.ref 145)),(e P S26 361 (.ref 146)),(e P S70 363 (.ref 149)),(e P S27 365 (.ref 150)),(e P S5 366 .none)] 4) #[])
noncomputable def o91:J:=fun P=>(.mk (.type x9) none (.cls (.mk S46 [(.type x12)] [(.ref 148),(.type x12)] 147 S46 .true [] [] .false none .false)) #[none,none,(some (.str S46 319)),(some (.str S46 327)),(some (.builtin x18)),(some (.bool .true))])
noncomputable def o92:J:=fun P=>(.mk (.type x14) none (.fields #[(.str S70 362),(.ref 148),(.builtin x19),(.builtin x20)]) #[])
noncomputable def o93:J:=fun P=>(.mk (.type x14) none (.fields #[(.str S27 364),(.ref 148),(.builtin x15),.none]) #[])
noncomputable def o94:J:=fun P=>(.mk (.type x16) none (.fields #[(.ref 148),(.ref 148),(.ref 148)]) #[])
noncomputable def o95:J:=fun P=>(.mk (.type x7) none (.fields #[(.builtin x17),(.ref 148)]) #[])
noncomputable def o96:J:=fun P=>(ys x0 #[(.str S59 374)])
noncomputable def o97:J:=fun P=>(yg S47 S47 (q 19))
noncomputable def o98:J:=fun P=>(.mk (.type x1) none (.fields #[(.str S47 371),(.str S47 372),(.str S1 373),(.int 68 0),(.int 1 0),(.int 0 0),(.int 0 0),(.int 3 0),(.ref 153),(.bool .true),(.int 181 0),(.ref 154),.none,(.ref 155),(.ref 156),(.ref 157),(.int 375 0),(.int 68 0),(.str S1 376)]) #[])
noncomputable def o99:J:=fun P=>(yf S47 S47 (q 19) 3 (.str S71 369) 158)
noncomputable def o100:J:=fun P=>(ys x0 #[(.str S72 381),(.str S73 382),(.str S74 383)])
noncomputable def o101:J:=fun P=>(yg S48 S48 (q 20))
noncomputable def o102:J:=fun P=>(.mk (.type x1) none (.fields #[(.str S48 378),(.str S48 379),(.str S1 380),(.int 70 0),(.int 1 0),(.int 0 0),(.int 0 0),(.int 3 0),(.ref 160),(.bool .true),(.int 181 0),(.ref 161),.none,(.ref 162),(.ref 163),(.ref 164),(.int 384 0),(.int 70 0),(.str S1 385)]) #[])
noncomputable def o103:J:=fun P=>(yf S48 S48 (q 20) 3 (.str S71 369) 165)
noncomputable def o104:J:=fun P=>(ys x0 #[(.str S75 390),(.str S36 391),(.str S37 392),(.str S72 393)])
noncomputable def o105:J:=fun P=>(yg S49 S49 (q 21))
noncomputable def o106:J:=fun P=>(.mk (.type x1) none (.fields #[(.str S49 387),(.str S49 388),(.str S1 389),(.int 74 0),(.int 1 0),(.int 0 0),(.int 0 0),(.int 3 0),(.ref 167),(.bool .true),(.int 181 0),(.ref 168),.none,(.ref 169),(.ref 170),(.ref 171),(.int 394 0),(.int 74 0),(.str S1 395)]) #[])
noncomputable def o107:J:=fun P=>(yf S49 S49 (q 21) 3 (.str S71 369) 172)
noncomputable def o108:J:=fun P=>(yg S50 S50 (q 22))
noncomputable def o109:J:=fun P=>(yc S50 397 S50 398 399 79 1 3 174 .true 175 (.ref 176) 400 79 401)
noncomputable def o110:J:=fun P=>(yf S50 S50 (q 22) 3 (.str S71 369) 177)
noncomputable def o111:J:=fun P=>(ys x0 #[(.str S76 406)])
noncomputable def o112:J:=fun P=>(yg S51 S51 (q 23))
noncomputable def o113:J:=fun P=>(.mk (.type x1) none (.fields #[(.str S51 403),(.str S51 404),(.str S1 405),(.int 81 0),(.int 1 0),(.int 0 0),(.int 0 0),(.int 3 0),(.ref 179),(.bool .true),(.int 181 0),(.ref 180),.none,(.ref 181),(.ref 182),(.ref 183),(.int 407 0),(.int 81 0),(.str S1 408)]) #[])
noncomputable def o114:J:=fun P=>(yf S51 S51 (q 23) 3 (.str S71 369) 184)
noncomputable def o115:J:=fun P=>(yg S52 S52 (q 24))
noncomputable def o116:J:=fun P=>(yc S52 410 S52 411 412 86 2 3 186 .true 187 (.ref 188) 413 86 414)
noncomputable def o117:J:=fun P=>(yf S52 S52 (q 24) 3 (.str S71 369) 189)
noncomputable def o118:J:=fun P=>(ys x0 #[(.str S30 419)])
noncomputable def o119:J:=fun P=>(yg S53 S53 (q 25))
noncomputable def o120:J:=fun P=>(.mk (.type x1) none (.fields #[(.str S53 416),(.str S53 417),(.str S1 418),(.int 88 0),(.int 1 0),(.int 0 0),(.int 0 0),(.int 3 0),(.ref 191),(.bool .true),(.int 181 0),(.ref 192),.none,(.ref 193),(.ref 194),(.ref 195),(.int 420 0),(.int 88 0),(.str S1 421)]) #[])
noncomputable def o121:J:=fun P=>(yf S53 S53 (q 25) 3 (.str S71 369) 196)
noncomputable def o122:J:=fun P=>(ys x0 #[(.str S30 426),(.str S77 427),(.str S59 428),(.str S72 429)])
noncomputable def o123:J:=fun P=>(yg S54 S54 (q 26))
noncomputable def o124:J:=fun P=>(.mk (.type x1) none (.fields #[(.str S54 423),(.str S54 424),(.str S1 425),(.int 90 0),(.int 1 0),(.int 0 0),(.int 0 0),(.int 3 0),(.ref 198),(.bool .true),(.int 181 0),(.ref 199),.none,(.ref 200),(.ref 201),(.ref 202),(.int 430 0),(.int 90 0),(.str S1 431)]) #[])
noncomputable def o125:J:=fun P=>(yf S54 S54 (q 26) 3 (.str S71 369) 203)
noncomputable def o126:J:=fun P=>(ys x0 #[(.str S76 436),(.str S78 437),(.str S59 438),(.str S60 439),(.str S79 440),(.str S30 441),(.str S75 442)])
noncomputable def o127:J:=fun P=>(yg S55 S55 (q 27))
noncomputable def o128:J:=fun P=>(.mk (.type x1) none (.fields #[(.str S55 433),(.str S55 434),(.str S1 435),(.int 97 0),(.int 1 0),(.int 0 0),(.int 0 0),(.int 3 0),(.ref 205),(.bool .true),(.int 181 0),(.ref 206),.none,(.ref 207),(.ref 208),(.ref 209),(.int 443 0),(.int 97 0),(.str S1 444)]) #[])
noncomputable def o129:J:=fun P=>(yf S55 S55 (q 27) 3 (.str S71 369) 210)
noncomputable def o130:J:=fun P=>(ys x0 #[(.str S80 451),(.str S81 452)])
noncomputable def o131:J:=fun P=>(yg S56 S56 (q 29))
noncomputable def o132:J:=fun P=>(.mk (.type x1) none (.fields #[(.str S56 448),(.str S56 449),(.str S1 450),(.int 110 0),(.int 2 0),(.int 0 0),(.int 0 0),(.int 3 0),(.ref 212),(.bool .true),(.int 181 0),(.ref 213),.none,(.ref 214),(.ref 215),(.ref 216),(.int 453 0),(.int 110 0),(.str S1 454)]) #[])
noncomputable def o133:J:=fun P=>(yf S56 S56 (q 29) 3 (.str S39 446) 217)
noncomputable def o134:J:=fun P=>(ys x0 #[(.str S82 459),(.str S81 460),(.str S83 461),(.str S84 462),(.str S85 463)])
noncomputable def o135:J:=fun P=>(yg S57 S57 (q 30))
noncomputable def o136:J:=fun P=>(.mk (.type x1) none (.fields #[(.str S57 456),(.str S57 457),(.str S1 458),(.int 114 0),(.int 3 0),(.int 0 0),(.int 0 0),(.int 3 0),(.ref 219),(.bool .true),(.int 181 0),(.ref 220),.none,(.ref 221),(.ref 222),(.ref 223),(.int 464 0),(.int 114 0),(.str S1 465)]) #[])
noncomputable def o137:J:=fun P=>(yf S57 S57 (q 30) 3 (.str S39 446) 224)
noncomputable def t_1 : Params → BT:=(N boot_o_0 (N boot_o_1 (N o53 (N boot_o_7 (N o0 (N o16 (N o38 (L o77) (L o0)) (N o1 (L o99) (L o135))) (N o20 (N o48 (L o86) (L o126)) (N o68 (L o1) Z))) (N o11 (N o1 (N o43 (L o0) (L o1)) (N o63 (L o0) Z)) (N o1 (N o0 (L o94) (L o0)) (N o73 (L o112) Z)))) (N o0 (N o7 (N o20 (N o1 (L o80) (L o119)) (N o61 (L o0) Z)) (N o29 (N o0 (L o90) (L o129)) (N o70 (L o0) Z))) (N o13 (N o24 (N o45 (L o0) (L o124)) (N o66 (L o105) Z)) (N o34 (N o56 (L o96) (L o0)) (N o75 (L o1) Z))))) (N boot_o_5 (N boot_o_9 (N o6 (N o18 (N o40 (L o78) (L o118)) (N o0 (L o1) (L o137))) (N o28 (N o1 (L o88) (L o127)) (N o0 (L o109) Z))) (N o0 (N o23 (N o0 (L o83) (L o0)) (N o64 (L o104) Z)) (N o0 (N o55 (L o0) (L o132)) (N o1 (L o114) Z)))) (N o2 (N o9 (N o21 (N o0 (L o1) (L o121)) (N o0 (L o102) Z)) (N o31 (N o51 (L o92) (L o1)) (N o71 (L o111) Z))) (N o0 (N o26 (N o46 (L o85) (L o0)) (N o1 (L o107) Z)) (N o36 (N o58 (L o97) (L o134)) (N o0 (L o116) Z)))))) (N boot_o_2 (N boot_o_4 (N boot_o_8 (N o1 (N o17 (N o39 (L o0) (L o1)) (N o59 (L o0) (L o136))) (N o11 (N o0 (L o87) (L o0)) (N o69 (L o108) Z))) (N o12 (N o22 (N o44 (L o82) (L o122)) (N o0 (L o1) Z)) (N o32 (N o1 (L o95) (L o131)) (N o0 (L o113) Z)))) (N o54 (N o8 (N o11 (N o41 (L o0) (L o120)) (N o62 (L o101) Z)) (N o30 (N o50 (L o91) (L o0)) (N o0 (L o1) Z))) (N o14 (N o25 (N o0 (L o1) (L o125)) (N o0 (L o106) Z)) (N o35 (N o57 (L o0) (L o1)) (N o76 (L o115) Z))))) (N boot_o_6 (N boot_o_10 (N o0 (N o19 (N o0 (L o79) (L o0)) (N o60 (L o100) Z)) (N o0 (N o49 (L o89) (L o128)) (N o11 (L o110) Z))) (N o1 (N o0 (N o1 (L o84) (L o123)) (N o65 (L o0) Z)) (N o33 (N o0 (L o1) (L o133)) (N o74 (L o0) Z)))) (N o3 (N o10 (N o0 (N o42 (L o81) (L o0)) (N o1 (L o103) Z)) (N o0 (N o52 (L o93) (L o130)) (N o72 (L o0) Z))) (N o15 (N o27 (N o47 (L o0) (L o1)) (N o67 (L o0) Z)) (N o37 (N o0 (L o98) (L o0)) (N o1 (L o117) Z)))))))
noncomputable def o138:J:=fun P=>(.mk (.type x3) none (.dict #[(e P S3 165 (.str S39 446)),(e P S5 166 .none),(e P S6 167 .none),(e P S7 168 (.builtin x4)),(e P S8 169 .none),(e P S9 170 (.ref 6)),(e P S10 171 (.ref 4)),(e P S11 173 (.str S1 172)),(e P S12 174 .none),(e P S13 193 (.ref 21)),(e P S14 213 (.ref 31)),(e P S15 229 (.ref 44)),(e P S16 254 (.ref 63)),(e P S17 263 (.ref 72)),(e P S18 270 (.ref 79)),(e P S19 281 (.ref 86)),(e P S20 285 (.int 8 284)),(e P S40 287 (.int 28 286)),(e P S41 289 (.int 1000000000 288)),(e P S42 297 (.ref 93)),(e P S43 304 (.ref 100)),(e P S44 312 (.ref 107)),(e P S45 318 (.ref 112)),(e P S46 368 (.ref 148)),(e P S47 377 (.ref 159)),(e P S48 386 (.ref 166)),(e P S49 396 (.ref 173)),(e P S50 402 (.ref 178)),(e P S51 409 (.ref 185)),(e P S52 415 (.ref 190)),(e P S53 422 (.ref 197)),(e P S54 432 (.ref 204)),(e P S55 445 (.ref 211)),(e P S56 455 (.ref 218)),(e P S57 466 (.ref 225)),(e P S86 476 (.ref 232)),(e P S87 493 (.ref 239)),(e P S88 506 (.ref 246)),(e P S89 518 (.ref 253)),(e P S90 524 (.ref 258))] 40) #[])
noncomputable def o139:J:=fun P=>(yv #[(.int 1 0),(.int 0 0),(.ref 20),(.int 5 0),(.int 0 0),(.ref 27),(.int 7 0),(.int 0 0),(.ref 40),(.int 9 0),(.int 0 0),(.ref 52),(.int 15 0),(.int 0 0),(.ref 71),(.int 17 0),(.int 0 0),(.ref 78),(.int 23 0),(.int 0 0),(.ref 85),(.int 35 0),(.int 0 0),(.ref 92),(.int 37 0),(.int 0 0),(.ref 99),(.int 39 0),(.int 0 0),(.ref 106),(.int 45 0),(.int 0 0),(.ref 111),(.int 51 0),(.int 0 0),(.ref 118),(.int 68 0),(.int 0 0),(.ref 158),(.int 70 0),(.int 0 0),(.ref 165),(.int 74 0),(.int 0 0),(.ref 172),(.int 79 0),(.int 0 0),(.ref 177),(.int 81 0),(.int 0 0),(.ref 184),(.int 86 0),(.int 0 0),(.ref 189),(.int 88 0),(.int 0 0),(.ref 196),(.int 90 0),(.int 0 0),(.ref 203),(.int 97 0),(.int 0 0),(.ref 210),(.int 110 0),(.int 0 0),(.ref 217),(.int 114 0),(.int 0 0),(.ref 224),(.int 118 0),(.int 0 0),(.ref 231),(.int 123 0),(.int 0 0),(.ref 238),(.int 135 0),(.int 0 0),(.ref 245),(.int 142 0),(.int 0 0),(.ref 252),(.int 150 0),(.int 0 0),(.ref 257)])
noncomputable def o140:J:=fun P=>(ys x0 #[(.str S91 470),(.str S92 471),(.str S93 472),(.str S94 473)])
noncomputable def o141:J:=fun P=>(yg S86 S86 (q 31))
noncomputable def o142:J:=fun P=>(.mk (.type x1) none (.fields #[(.str S86 467),(.str S86 468),(.str S1 469),(.int 118 0),(.int 2 0),(.int 0 0),(.int 0 0),(.int 3 0),(.ref 226),(.bool .true),(.int 181 0),(.ref 227),.none,(.ref 228),(.ref 229),(.ref 230),(.int 474 0),(.int 118 0),(.str S1 475)]) #[])
noncomputable def o143:J:=fun P=>(yf S86 S86 (q 31) 3 (.str S39 446) 231)
noncomputable def o144:J:=fun P=>(ys x0 #[(.str S80 480),(.str S95 481),(.str S96 482),(.str S82 483),(.str S94 484),(.str S97 485),(.str S98 486),(.str S99 487),(.str S81 488),(.str S100 489),(.str S101 490)])
noncomputable def o145:J:=fun P=>(yg S87 S87 (q 32))
noncomputable def o146:J:=fun P=>(.mk (.type x1) none (.fields #[(.str S87 477),(.str S87 478),(.str S1 479),(.int 123 0),(.int 3 0),(.int 0 0),(.int 0 0),(.int 3 0),(.ref 233),(.bool .true),(.int 181 0),(.ref 234),.none,(.ref 235),(.ref 236),(.ref 237),(.int 491 0),(.int 123 0),(.str S1 492)]) #[])
noncomputable def o147:J:=fun P=>(yf S87 S87 (q 32) 3 (.str S39 446) 238)
noncomputable def o148:J:=fun P=>(ys x0 #[(.str S102 497),(.str S103 498),(.str S104 499),(.str S105 500),(.str S100 501),(.str S101 502),(.str S106 503)])
noncomputable def o149:J:=fun P=>(yg S88 S88 (q 33))
noncomputable def o150:J:=fun P=>(.mk (.type x1) none (.fields #[(.str S88 494),(.str S88 495),(.str S1 496),(.int 135 0),(.int 2 0),(.int 0 0),(.int 0 0),(.int 3 0),(.ref 240),(.bool .true),(.int 181 0),(.ref 241),.none,(.ref 242),(.ref 243),(.ref 244),(.int 504 0),(.int 135 0),(.str S1 505)]) #[])
noncomputable def o151:J:=fun P=>(yf S88 S88 (q 33) 3 (.str S39 446) 245)
noncomputable def o152:J:=fun P=>(ys x0 #[(.str S102 510),(.str S107 511),(.str S100 512),(.str S101 513),(.str S106 514),(.str S108 515)])
noncomputable def o153:J:=fun P=>(yg S89 S89 (q 34))
noncomputable def o154:J:=fun P=>(.mk (.type x1) none (.fields #[(.str S89 507),(.str S89 508),(.str S1 509),(.int 142 0),(.int 1 0),(.int 0 0),(.int 0 0),(.int 3 0),(.ref 247),(.bool .true),(.int 181 0),(.ref 248),.none,(.ref 249),(.ref 250),(.ref 251),(.int 516 0),(.int 142 0),(.str S1 517)]) #[])
noncomputable def o155:J:=fun P=>(yf S89 S89 (q 34) 3 (.str S39 446) 252)
noncomputable def o156:J:=fun P=>(yg S90 S90 (q 35))
noncomputable def o157:J:=fun P=>(yc S90 519 S90 520 521 150 1 3 254 .true 255 (.ref 256) 522 150 523)
noncomputable def o158:J:=fun P=>(yf S90 S90 (q 35) 3 (.str S39 446) 257)
noncomputable def t_2 : Params → BT:=(N boot_o_0 (N boot_o_1 (N o138 (N boot_o_7 (N o0 (N o16 (N o38 (N o77 (L o1) Z) (L o0)) (N o1 (L o99) (L o135))) (N o20 (N o48 (L o86) (L o126)) (N o68 (L o1) (L o147)))) (N o11 (N o1 (N o43 (L o0) (L o1)) (N o63 (L o0) (L o142))) (N o1 (N o0 (L o94) (L o0)) (N o73 (L o112) (L o0))))) (N o0 (N o7 (N o20 (N o1 (L o80) (L o119)) (N o61 (L o0) (L o1))) (N o29 (N o0 (L o90) (L o129)) (N o70 (L o0) (L o0)))) (N o13 (N o24 (N o45 (L o0) (L o124)) (N o66 (L o105) (L o144))) (N o34 (N o56 (L o96) (L o0)) (N o75 (L o1) (L o153)))))) (N boot_o_5 (N boot_o_9 (N o6 (N o18 (N o40 (N o78 (L o157) Z) (L o118)) (N o0 (L o1) (L o137))) (N o28 (N o1 (L o88) (L o127)) (N o0 (L o109) (L o1)))) (N o0 (N o23 (N o0 (L o83) (L o0)) (N o64 (L o104) (L o0))) (N o0 (N o55 (L o0) (L o132)) (N o1 (L o114) (L o152))))) (N o2 (N o9 (N o21 (N o0 (L o1) (L o121)) (N o0 (L o102) (L o0))) (N o31 (N o51 (L o92) (L o1)) (N o71 (L o111) (L o150)))) (N o0 (N o26 (N o46 (L o85) (L o0)) (N o1 (L o107) (L o145))) (N o36 (N o58 (L o97) (L o134)) (N o0 (L o116) (L o155))))))) (N boot_o_2 (N boot_o_4 (N boot_o_8 (N o1 (N o17 (N o39 (N o0 (L o156) Z) (L o1)) (N o59 (L o0) (L o136))) (N o11 (N o0 (L o87) (L o0)) (N o69 (L o108) (L o0)))) (N o12 (N o22 (N o44 (L o82) (L o122)) (N o0 (L o1) (L o143))) (N o32 (N o1 (L o95) (L o131)) (N o0 (L o113) (L o1))))) (N o139 (N o8 (N o11 (N o41 (L o0) (L o120)) (N o62 (L o101) (L o140))) (N o30 (N o50 (L o91) (L o0)) (N o0 (L o1) (L o149)))) (N o14 (N o25 (N o0 (L o1) (L o125)) (N o0 (L o106) (L o0))) (N o35 (N o57 (L o0) (L o1)) (N o76 (L o115) (L o154)))))) (N boot_o_6 (N boot_o_10 (N o0 (N o19 (N o0 (N o79 (L o158) Z) (L o0)) (N o60 (L o100) (L o0))) (N o0 (N o49 (L o89) (L o128)) (N o11 (L o110) (L o148)))) (N o1 (N o0 (N o1 (L o84) (L o123)) (N o65 (L o0) (L o1))) (N o33 (N o0 (L o1) (L o133)) (N o74 (L o0) (L o0))))) (N o3 (N o10 (N o0 (N o42 (L o81) (L o0)) (N o1 (L o103) (L o141))) (N o0 (N o52 (L o93) (L o130)) (N o72 (L o0) (L o151)))) (N o15 (N o27 (N o47 (L o0) (L o1)) (N o67 (L o0) (L o146))) (N o37 (N o0 (L o98) (L o0)) (N o1 (L o117) (L o0))))))))
noncomputable def h_z (P : Params) : Heap:=⟨#[boot_o_0 P,boot_o_1 P,boot_o_2 P,o138 P,boot_o_4 P,boot_o_5 P,boot_o_6 P,boot_o_7 P,boot_o_8 P,boot_o_9 P,boot_o_10 P,o0 P,o139 P,o2 P,o3 P,o0 P,o1 P,o6 P,o0 P,o7 P,o8 P,o9 P,o10 P,o11 P,o12 P,o0 P,o1 P,o13 P,o14 P,o0 P,o15 P,o16 P,o17 P,o18 P,o19 P,o20 P,o11 P,o21 P,o0 P,o1 P,o22 P,o23 P,o0 P,o24 P,o25 P,o26 P,o27 P,o20 P,o11 P,o28 P,o0 P,o29 P,o30 P,o31 P,o0 P,o1 P,o32 P,o0 P,o33 P,o34 P,o35 P,o36 P,o37 P,o38 P,o39 P,o40 P,o0 P,o1 P,o41 P,o0 P,o42 P,o43 P,o44 P,o0 P,o1 P,o45 P,o0 P,o46 P,o47 P,o48 P,o0 P,o1 P,o49 P,o0 P,o50 P,o51 P,o52 P,o0 P,o1 P,o55 P,o0 P,o56 P,o57 P,o58 P,o0 P,o1 P,o59 P,o0 P,o60 P,o61 P,o62 P,o0 P,o1 P,o63 P,o0 P,o64 P,o65 P,o66 P,o0 P,o1 P,o67 P,o68 P,o69 P,o0 P,o11 P,o70 P,o0 P,o71 P,o72 P,o73 P,o0 P,o1 P,o74 P,o75 P,o76 P,o0 P,o1 P,o77 P,o0 P,o78 P,o79 P,o80 P,o0 P,o1 P,o81 P,o0 P,o82 P,o83 P,o84 P,o0 P,o1 P,o85 P,o0 P,o86 P,o87 P,o88 P,o89 P,o90 P,o91 P,o92 P,o93 P,o94 P,o95 P,o0 P,o1 P,o96 P,o0 P,o97 P,o98 P,o99 P,o0 P,o1 P,o100 P,o0 P,o101 P,o102 P,o103 P,o0 P,o1 P,o104 P,o0 P,o105 P,o106 P,o107 P,o0 P,o1 P,o108 P,o109 P,o110 P,o0 P,o1 P,o111 P,o0 P,o112 P,o113 P,o114 P,o0 P,o1 P,o115 P,o116 P,o117 P,o0 P,o1 P,o118 P,o0 P,o119 P,o120 P,o121 P,o0 P,o1 P,o122 P,o0 P,o123 P,o124 P,o125 P,o0 P,o1 P,o126 P,o0 P,o127 P,o128 P,o129 P,o0 P,o1 P,o130 P,o0 P,o131 P,o132 P,o133 P,o0 P,o1 P,o134 P,o0 P,o135 P,o136 P,o137 P,o0 P,o1 P,o140 P,o0 P,o141 P,o142 P,o143 P,o0 P,o1 P,o144 P,o0 P,o145 P,o146 P,o147 P,o0 P,o1 P,o148 P,o0 P,o149 P,o150 P,o151 P,o0 P,o1 P,o152 P,o0 P,o153 P,o154 P,o155 P,o0 P,o1 P,o156 P,o157 P,o158 P],{}⟩
noncomputable abbrev env : Env:={ scope:=Q.main.scope,locals:=mainNs,globals:=mainNs,cells:=[],code:=(.ref 13),frame:=some 14 }
noncomputable abbrev bd : List Stmt:=behindTheImports Q
noncomputable abbrev cE : Code:=.body bd env
noncomputable abbrev fr : Frame:=topFrame ⟨0,0,0,0⟩
noncomputable abbrev ann : Option Value:=(some (.ref 6))
noncomputable abbrev at_ (T : BT) (n k : Nat) (os : OsState) : SharedT:=⟨T,n,{},#[],{},k,os⟩
theorem l_pre (w : World) : (fun os=>topGo treeTable Q w 11 ann 12 ⟨boot_heap w.params,#[],boot_drawn,boot_toks,os⟩ (topStub Q)) = fun os=>some (⟨h_a w.params,#[],{},187,os⟩,(⟨denote treeTable cE,cE,⟨0,0,0,0⟩,[fr]⟩ : Thread)):=by
  rw [PySem.W.Fast.te14364793385576792824,PySem.W.Fast.te15667345088766844465,PySem.W.Fast.te11892475500146522536]; kernel_rfl
theorem l_block (w : World) : (fun os=>segRun treeTable Q w 11 ann 1 1 ⟨h_a w.params,#[],{},187,os⟩ (blockOf bd env cE ⟨0,0,0,0⟩ [fr])) = fun os=>some (Flow.next,(at_ (t_b w.params) 15 187 os).abs,cE,⟨0,0,0,0⟩):=by
  rw [PySem.W.Fast.te14364793385576792824,PySem.W.Fast.te14374325043358763698]; kernel_rfl
noncomputable abbrev sts_0 : List Stmt:=q 0 :: q 1 :: q 2 :: q 3 :: q 4 :: q 5 :: q 6 :: q 7 :: q 8 :: q 9 :: q 10 :: []
theorem l_0 (w : World) : (fun os=>segRunT treeTable Q w 11 ann 1 801 (at_ (t_b w.params) 15 187 os) (piecesOf sts_0 env cE ⟨0,0,0,0⟩ [fr])) = fun os=>some (Flow.next,at_ (t_0 w.params) 87 286 os,cE,⟨32,0,32,11⟩):=by
  rw [PySem.W.Fast.te14364793385576792824,PySem.W.Fast.te10110043849684766642]; kernel_rfl
noncomputable abbrev sts_1 : List Stmt:=q 11 :: q 12 :: q 13 :: q 14 :: q 15 :: q 16 :: q 17 :: q 18 :: q 19 :: q 20 :: q 21 :: q 22 :: q 23 :: q 24 :: q 25 :: q 26 :: q 27 :: q 28 :: q 29 :: q 30 :: []
theorem l_1 (w : World) : (fun os=>segRunT treeTable Q w 11 ann 1 797 (at_ (t_0 w.params) 87 286 os) (piecesOf sts_1 env cE ⟨32,0,32,11⟩ [fr])) = fun os=>some (Flow.next,at_ (t_1 w.params) 226 467 os,cE,⟨114,0,117,59⟩):=by
  rw [PySem.W.Fast.te14364793385576792824,PySem.W.Fast.te10110043849684766642]; kernel_rfl
noncomputable abbrev sts_2 : List Stmt:=q 31 :: q 32 :: q 33 :: q 34 :: q 35 :: []
theorem l_2 (w : World) : (fun os=>segRunT treeTable Q w 11 ann 1 167 (at_ (t_1 w.params) 226 467 os) (piecesOf sts_2 env cE ⟨114,0,117,59⟩ [fr])) = fun os=>some (Flow.next,at_ (t_2 w.params) 259 525 os,cE,⟨150,0,162,66⟩):=by
  rw [PySem.W.Fast.te14364793385576792824,PySem.W.Fast.te10110043849684766642]; kernel_rfl
theorem l_fin (w : World) : (fun os=>topRun treeTable Q w 11 ann 2 (at_ (t_2 w.params) 259 525 os).abs (⟨doneF .next,cE,⟨150,0,162,66⟩,[fr]⟩ : Thread)) = fun os=>some ⟨h_z w.params,#[],{},525,os⟩:=by
  rw [PySem.W.Fast.te14364793385576792824,PySem.W.Fast.te14082659384304107361]; kernel_rfl
end
end Hd
namespace Hd
open PySem PySem.W PySem.Calls PyProof.Rows L2
section
theorem bd_eq : bd = (sts_0 ++ (sts_1 ++ (sts_2 ++ []))):=by kernel_rfl
theorem run1 (w : World) (os : OsState) : topRun treeTable Q w 11 ann (801 + (797 + (167 + 2))) (at_ (t_b w.params) 15 187 os).abs (restOf (sts_0 ++ (sts_1 ++ (sts_2 ++ []))) env cE ⟨0,0,0,0⟩ [fr]) = some ⟨h_z w.params,#[],{},525,os⟩ :=
  (piece_app (segRun_of (congrFun (l_0 w) os)) (piece_app (segRun_of (congrFun (l_1 w) os)) (piece_app (segRun_of (congrFun (l_2 w) os)) (piece_nil (congrFun (l_fin w) os)))))
theorem run (w : World) (os : OsState) : topRun treeTable Q w 11 ann (12 + (1 + (801 + (797 + (167 + 2))))) ⟨boot_heap w.params,#[],boot_drawn,boot_toks,os⟩ (topStub Q) = some ⟨h_z w.params,#[],{},525,os⟩ :=
  go_top (congrFun (l_pre w) os) (piece_block (congrFun (l_block w) os) ((congrArg (fun b=>topRun treeTable Q w 11 ann (801 + (797 + (167 + 2))) (at_ (t_b w.params) 15 187 os).abs (restOf b env cE ⟨0,0,0,0⟩ [fr])) bd_eq).trans (run1 w os)))
theorem S_an : Str.ofString "__annotations__" = ⟨#[95,95,97,110,110,111,116,97,116,105,111,110,115,95,95]⟩:=PySem.W.Fast.ofString_ofList ['_','_','a','n','n','o','t','a','t','i','o','n','s','_','_']
theorem size (w : World) : ((boot_heap w.params).isNs mainGlobals && (#[] : Array GenState).size == 0,(boot_heap w.params).objs.size,(boot_heap w.params).nsMap mainGlobals "__annotations__") = (true,11,ann):=by
  rw [PySem.W.Fast.te8920871248978507458,S_an]; kernel_rfl
noncomputable abbrev vw (R : Program) : Program:={ R with main:={ R.main with body:=[nth R.main.body 0,nth R.main.body 2,nth R.main.body 3,nth R.main.body 4,nth R.main.body 6,nth R.main.body 7,nth R.main.body 8,nth R.main.body 10,nth R.main.body 11,nth R.main.body 12,nth R.main.body 13,nth R.main.body 14,nth R.main.body 15,nth R.main.body 16,nth R.main.body 17,nth R.main.body 19,nth R.main.body 20,nth R.main.body 21,nth R.main.body 22,nth R.main.body 23,nth R.main.body 24,nth R.main.body 25,nth R.main.body 26,nth R.main.body 27,nth R.main.body 29,nth R.main.body 30,nth R.main.body 31,nth R.main.body 32,nth R.main.body 33,nth R.main.body 34,nth R.main.body 35] } }
noncomputable def K (P : Params) : Frag:=(nat_lit 2,boot_o_2 P) :: (nat_lit 3,o138 P) :: (nat_lit 15,o0 P) :: (nat_lit 17,o6 P) :: (nat_lit 18,o0 P) :: (nat_lit 20,o8 P) :: (nat_lit 21,o9 P) :: (nat_lit 22,o10 P) :: (nat_lit 29,o0 P) :: (nat_lit 30,o15 P) :: (nat_lit 31,o16 P) :: (nat_lit 32,o17 P) :: (nat_lit 35,o20 P) :: (nat_lit 42,o0 P) :: (nat_lit 43,o24 P) :: (nat_lit 44,o25 P) :: (nat_lit 47,o20 P) :: (nat_lit 54,o0 P) :: (nat_lit 56,o32 P) :: (nat_lit 57,o0 P) :: (nat_lit 59,o34 P) :: (nat_lit 60,o35 P) :: (nat_lit 61,o36 P) :: (nat_lit 62,o37 P) :: (nat_lit 63,o38 P) :: (nat_lit 66,o0 P) :: (nat_lit 68,o41 P) :: (nat_lit 69,o0 P) :: (nat_lit 71,o43 P) :: (nat_lit 72,o44 P) :: (nat_lit 73,o0 P) :: (nat_lit 75,o45 P) :: (nat_lit 76,o0 P) :: (nat_lit 78,o47 P) :: (nat_lit 79,o48 P) :: (nat_lit 80,o0 P) :: (nat_lit 82,o49 P) :: (nat_lit 83,o0 P) :: (nat_lit 85,o51 P) :: (nat_lit 86,o52 P) :: (nat_lit 87,o0 P) :: (nat_lit 89,o55 P) :: (nat_lit 90,o0 P) :: (nat_lit 92,o57 P) :: (nat_lit 93,o58 P) :: (nat_lit 94,o0 P) :: (nat_lit 96,o59 P) :: (nat_lit 97,o0 P) :: (nat_lit 99,o61 P) :: (nat_lit 100,o62 P) :: (nat_lit 101,o0 P) :: (nat_lit 103,o63 P) :: (nat_lit 104,o0 P) :: (nat_lit 106,o65 P) :: (nat_lit 107,o66 P) :: (nat_lit 108,o0 P) :: (nat_lit 111,o68 P) :: (nat_lit 112,o69 P) :: (nat_lit 120,o0 P) :: (nat_lit 123,o75 P) :: (nat_lit 124,o76 P) :: (nat_lit 125,o0 P) :: (nat_lit 127,o77 P) :: (nat_lit 128,o0 P) :: (nat_lit 130,o79 P) :: (nat_lit 131,o80 P) :: (nat_lit 132,o0 P) :: (nat_lit 134,o81 P) :: (nat_lit 135,o0 P) :: (nat_lit 137,o83 P) :: (nat_lit 138,o84 P) :: (nat_lit 139,o0 P) :: (nat_lit 141,o85 P) :: (nat_lit 142,o0 P) :: (nat_lit 144,o87 P) :: (nat_lit 145,o88 P) :: (nat_lit 146,o89 P) :: (nat_lit 147,o90 P) :: (nat_lit 148,o91 P) :: (nat_lit 149,o92 P) :: (nat_lit 150,o93 P) :: (nat_lit 153,o0 P) :: (nat_lit 155,o96 P) :: (nat_lit 156,o0 P) :: (nat_lit 158,o98 P) :: (nat_lit 159,o99 P) :: (nat_lit 160,o0 P) :: (nat_lit 162,o100 P) :: (nat_lit 163,o0 P) :: (nat_lit 165,o102 P) :: (nat_lit 166,o103 P) :: (nat_lit 167,o0 P) :: (nat_lit 169,o104 P) :: (nat_lit 170,o0 P) :: (nat_lit 172,o106 P) :: (nat_lit 173,o107 P) :: (nat_lit 174,o0 P) :: (nat_lit 177,o109 P) :: (nat_lit 178,o110 P) :: (nat_lit 179,o0 P) :: (nat_lit 181,o111 P) :: (nat_lit 182,o0 P) :: (nat_lit 184,o113 P) :: (nat_lit 185,o114 P) :: (nat_lit 186,o0 P) :: (nat_lit 189,o116 P) :: (nat_lit 190,o117 P) :: (nat_lit 191,o0 P) :: (nat_lit 193,o118 P) :: (nat_lit 194,o0 P) :: (nat_lit 196,o120 P) :: (nat_lit 197,o121 P) :: (nat_lit 198,o0 P) :: (nat_lit 200,o122 P) :: (nat_lit 201,o0 P) :: (nat_lit 203,o124 P) :: (nat_lit 204,o125 P) :: (nat_lit 205,o0 P) :: (nat_lit 207,o126 P) :: (nat_lit 208,o0 P) :: (nat_lit 210,o128 P) :: (nat_lit 211,o129 P) :: (nat_lit 212,o0 P) :: (nat_lit 214,o130 P) :: (nat_lit 215,o0 P) :: (nat_lit 217,o132 P) :: (nat_lit 218,o133 P) :: (nat_lit 219,o0 P) :: (nat_lit 221,o134 P) :: (nat_lit 222,o0 P) :: (nat_lit 224,o136 P) :: (nat_lit 225,o137 P) :: (nat_lit 226,o0 P) :: (nat_lit 228,o140 P) :: (nat_lit 229,o0 P) :: (nat_lit 231,o142 P) :: (nat_lit 232,o143 P) :: (nat_lit 233,o0 P) :: (nat_lit 235,o144 P) :: (nat_lit 236,o0 P) :: (nat_lit 238,o146 P) :: (nat_lit 239,o147 P) :: (nat_lit 247,o0 P) :: (nat_lit 249,o152 P) :: (nat_lit 250,o0 P) :: (nat_lit 252,o154 P) :: (nat_lit 253,o155 P) :: (nat_lit 254,o0 P) :: (nat_lit 257,o157 P) :: (nat_lit 258,o158 P) :: []
noncomputable abbrev as : List Addr:=[2,3,15,17,18,20,21,22,29,30,31,32,35,42,43,44,47,54,56,57,59,60,61,62,63,66,68,69,71,72,73,75,76,78,79,80,82,83,85,86,87,89,90,92,93,94,96,97,99,100,101,103,104,106,107,108,111,112,120,123,124,125,127,128,130,131,132,134,135,137,138,139,141,142,144,145,146,147,148,149,150,153,155,156,158,159,160,162,163,165,166,167,169,170,172,173,174,177,178,179,181,182,184,185,186,189,190,191,193,194,196,197,198,200,201,203,204,205,207,208,210,211,212,214,215,217,218,219,221,222,224,225,226,228,229,231,232,233,235,236,238,239,247,249,250,252,253,254,257,258]
theorem as_eq (P : Params) : as = (K P).map (·.1):=by kernel_rfl
noncomputable abbrev sz (w : World) (os : OsState) : Shared:=⟨h_z w.params,#[],{},525,os⟩
noncomputable abbrev Xt (R : Program) (s : Shared) : Bool:=xlAt (vw R) [] s && recOk (RowW.records (OpenRow.toRowW PySem.Challenge.rw_splitstream_k10_nets_read_and_written.row)) s
theorem k0 (w : World) (os : OsState) : (staticsOk (importedModules Q.main.body) (boot_heap w.params) (h_z w.params) && namesBound Q (h_z w.params) && gensDone (sz w os) && laidKept (boot_heap w.params) (h_z w.params)) = true:=by
  rw [PySem.W.Fast.te5923862056798008813]; kernel_rfl
theorem k1 (w : World) (os : OsState) : (seen ((recsOf (vw Q)).map (·.name)) (ownsOf (vw Q)) [] { (sz w os) with gens:=#[] }) = expectedOf (vw Q):=by
  rw [PySem.W.Fast.te5160383126252970620,PySem.W.Fast.te3399658132070893891,PySem.W.Fast.te5991557255702980513]; kernel_rfl
theorem k2 (w : World) (os : OsState) : ((sz w os).heap.bltView) = bltViewBooted:=by
  kernel_rfl
theorem k3 (w : World) (os : OsState) : ((sz w os).heap.keysOk (looseW (vw Q) []) ((recsOf (vw Q)).map (·.name)) ((litsOf (vw Q)).map (·.1)) ((clssOf (vw Q) (looseW (vw Q) [])).map (·.name)) && (sz w os).heap.accountedOkI (importedModules Q.main.body) && (sz w os).heap.isNs mainGlobals && (sz w os).heap.isNs builtinsNs && tablesOk (vw Q) (sz w os).heap && Xt Q (sz w os) && (if true then (sz w os).gens.size == 0 else !leftWithCleanup (sz w os).gens)) = true:=by
  rw [PySem.W.Fast.te10880121769531294198,PySem.W.Fast.te821141287760084731,PySem.W.Fast.te3399658132070893891,PySem.W.Fast.te7409074990110511671,PySem.W.Fast.te13664370479719496447,PySem.W.Fast.te14722251495701143533,PySem.W.Fast.te5923862056798008813,PySem.W.Fast.te10994771534591457954]; kernel_rfl
theorem k4 (w : World) (os : OsState) : (tabsOk (vw Q) (sz w os)) = true:=by
  rw [PySem.W.Fast.te479339242167458305]; kernel_rfl
theorem k5 (w : World) (os : OsState) : (pinSeenD (vw Q) (drecsOf (vw Q)) (sz w os)) = pinGoodD (drecsOf (vw Q)):=by
  rw [PySem.W.Fast.te16090120013241838585,PySem.W.Fast.te3247288618530077131]; kernel_rfl
theorem k6 (w : World) (os : OsState) : (plainSeenE (vw Q) (looseW (vw Q) []) (sz w os)) = plainGoodE (vw Q) (looseW (vw Q) []):=by
  rw [PySem.W.Fast.te2386780881361962483,PySem.W.Fast.te821141287760084731]; kernel_rfl
theorem k7 (w : World) (os : OsState) : (plainSeenD (vw Q) [] (sz w os)) = plainGoodD (vw Q) []:=by
  rw [PySem.W.Fast.te11698064438423848299]; kernel_rfl
theorem k8 (w : World) (os : OsState) : (wideSeen (vw Q) (sz w os)) = wideGood (vw Q):=by
  rw [PySem.W.Fast.te7317090234206586261]; kernel_rfl
theorem k9 (w : World) (os : OsState) : (clsSeenW (vw Q) [] (sz w os)) = clsGoodW (vw Q) []:=by
  rw [PySem.W.Fast.te7369524293546568484]; kernel_rfl
theorem kY (w : World) (os : OsState) : as.map (sz w os).heap.get? = (K w.params).map fun p=>some p.2:=by kernel_rfl
noncomputable abbrev Yf (s : Shared) : List (Option Obj):=as.map s.heap.get?
noncomputable abbrev Ya (w : World) : List (Option Obj):=(K w.params).map fun p=>some p.2
theorem kS (w : World) (os : OsState) : openSeen (vw Q) [] (importedModules Q.main.body) (Xt Q) true (sz w os) = openGood (vw Q) [] :=
  looks_pair (k1 w os) (looks_pair (k2 w os) (looks_pair (k3 w os) (looks_pair (k4 w os) (looks_pair (k5 w os) (looks_pair (k6 w os) (looks_pair (k7 w os) (looks_pair (k8 w os) (k9 w os))))))))
theorem left_Q : LeftO Q (vw Q) [] (Xt Q) Yf Ya 3650 :=
  LeftO.of_pieces (boot_open (by kernel_rfl) (by decide) fun s=>by kernel_rfl) size run (by decide) fun w=>funext fun os=>looks_pair (k0 w os) (looks_pair (kS w os) (kY w os))
theorem left : LeftO PySem.Challenge.rw_splitstream_k10_nets_read_and_written.row.prog (vw PySem.Challenge.pw_splitstream_k10_nets_read_and_written) [] (Xt PySem.Challenge.pw_splitstream_k10_nets_read_and_written) Yf Ya 3650:=by
  show LeftO PySem.Challenge.pw_splitstream_k10_nets_read_and_written (vw PySem.Challenge.pw_splitstream_k10_nets_read_and_written) [] (Xt PySem.Challenge.pw_splitstream_k10_nets_read_and_written) Yf Ya 3650
  rw [Q_eq]; exact left_Q
end
end Hd
namespace Hd
open PySem PySem.W PySem.Calls PyProof.Rows L2
section
theorem nth_getD : ∀ (l : List Stmt) (i : Nat),l.getD i (.Pass ⟨0,0,0,0⟩) = nth l i
  | [],_=>rfl
  | _ :: _,0=>rfl
  | _ :: l,i + 1=>nth_getD l i
theorem top_q (i : Nat) : K2.top i = q i:=by
  unfold K2.top; rw [Q_eq]; exact nth_getD _ i
theorem ES13 : Str.ofString "_wall" = S13:=PySem.W.Fast.ofString_ofList ['_','w','a','l','l']
theorem lk__wall (P : Params) : (K P).lookup 21 = some ⟨(.type x5),none,.func (fnOf "_wall" "_wall" (defArgs (K2.top 0)) (defBody (K2.top 0)) (defScope (K2.top 0)) .none .none .none (.str S2 164) none (.ref 20) .none),#[]⟩:=by
  rw [top_q,ES13]; kernel_rfl
theorem ES28 : Str.ofString "__init__" = S28:=PySem.W.Fast.ofString_ofList ['_','_','i','n','i','t','_','_']
theorem ES31 : Str.ofString "BadRow.__init__" = S31:=PySem.W.Fast.ofString_ofList ['B','a','d','R','o','w','.','_','_','i','n','i','t','_','_']
theorem lk_BadRow___init__ (P : Params) : (K P).lookup 60 = some ⟨(.type x5),none,.func (fnOf "__init__" "BadRow.__init__" (defArgs (inClass (K2.top 4) 0)) (defBody (inClass (K2.top 4) 0)) (defScope (inClass (K2.top 4) 0)) .none .none .none (.str S23 194) none (.ref 59) .none),#[]⟩:=by
  rw [top_q,ES28,ES31]; kernel_rfl
theorem ES17 : Str.ofString "is_whole" = S17:=PySem.W.Fast.ofString_ofList ['i','s','_','w','h','o','l','e']
theorem lk_is_whole (P : Params) : (K P).lookup 72 = some ⟨(.type x5),none,.func (fnOf "is_whole" "is_whole" (defArgs (K2.top 6)) (defBody (K2.top 6)) (defScope (K2.top 6)) .none .none .none (.str S33 255) none (.ref 71) .none),#[]⟩:=by
  rw [top_q,ES17]; kernel_rfl
theorem ES18 : Str.ofString "is_fraction" = S18:=PySem.W.Fast.ofString_ofList ['i','s','_','f','r','a','c','t','i','o','n']
theorem lk_is_fraction (P : Params) : (K P).lookup 79 = some ⟨(.type x5),none,.func (fnOf "is_fraction" "is_fraction" (defArgs (K2.top 7)) (defBody (K2.top 7)) (defScope (K2.top 7)) .none .none .none (.str S33 255) none (.ref 78) .none),#[]⟩:=by
  rw [top_q,ES18]; kernel_rfl
theorem ES19 : Str.ofString "common_divisor" = S19:=PySem.W.Fast.ofString_ofList ['c','o','m','m','o','n','_','d','i','v','i','s','o','r']
theorem lk_common_divisor (P : Params) : (K P).lookup 86 = some ⟨(.type x5),none,.func (fnOf "common_divisor" "common_divisor" (defArgs (K2.top 8)) (defBody (K2.top 8)) (defScope (K2.top 8)) .none .none .none (.str S33 255) none (.ref 85) .none),#[]⟩:=by
  rw [top_q,ES19]; kernel_rfl
theorem ES42 : Str.ofString "counts_one_of" = S42:=PySem.W.Fast.ofString_ofList ['c','o','u','n','t','s','_','o','n','e','_','o','f']
theorem lk_counts_one_of (P : Params) : (K P).lookup 93 = some ⟨(.type x5),none,.func (fnOf "counts_one_of" "counts_one_of" (defArgs (K2.top 13)) (defBody (K2.top 13)) (defScope (K2.top 13)) .none .none .none (.str S4 282) none (.ref 92) .none),#[]⟩:=by
  rw [top_q,ES42]; kernel_rfl
theorem ES43 : Str.ofString "is_hardness" = S43:=PySem.W.Fast.ofString_ofList ['i','s','_','h','a','r','d','n','e','s','s']
theorem lk_is_hardness (P : Params) : (K P).lookup 100 = some ⟨(.type x5),none,.func (fnOf "is_hardness" "is_hardness" (defArgs (K2.top 14)) (defBody (K2.top 14)) (defScope (K2.top 14)) .none .none .none (.str S4 282) none (.ref 99) .none),#[]⟩:=by
  rw [top_q,ES43]; kernel_rfl
theorem ES44 : Str.ofString "is_pipe" = S44:=PySem.W.Fast.ofString_ofList ['i','s','_','p','i','p','e']
theorem lk_is_pipe (P : Params) : (K P).lookup 107 = some ⟨(.type x5),none,.func (fnOf "is_pipe" "is_pipe" (defArgs (K2.top 15)) (defBody (K2.top 15)) (defScope (K2.top 15)) .none .none .none (.str S4 282) none (.ref 106) .none),#[]⟩:=by
  rw [top_q,ES44]; kernel_rfl
theorem ES45 : Str.ofString "is_net" = S45:=PySem.W.Fast.ofString_ofList ['i','s','_','n','e','t']
theorem lk_is_net (P : Params) : (K P).lookup 112 = some ⟨(.type x5),none,.func (fnOf "is_net" "is_net" (defArgs (K2.top 16)) (defBody (K2.top 16)) (defScope (K2.top 16)) .none .none .none (.str S4 282) none (.ref 111) .none),#[]⟩:=by
  rw [top_q,ES45]; kernel_rfl
theorem ES63 : Str.ofString "Net.__init__" = S63:=PySem.W.Fast.ofString_ofList ['N','e','t','.','_','_','i','n','i','t','_','_']
theorem lk_Net___init__ (P : Params) : (K P).lookup 124 = some ⟨(.type x5),none,.func (fnOf "__init__" "Net.__init__" (defArgs (inClass (K2.top 17) 0)) (defBody (inClass (K2.top 17) 0)) (defScope (inClass (K2.top 17) 0)) .none .none .none (.str S4 282) none (.ref 123) .none),#[]⟩:=by
  rw [top_q,ES28,ES63]; kernel_rfl
theorem ES60 : Str.ofString "pipes" = S60:=PySem.W.Fast.ofString_ofList ['p','i','p','e','s']
theorem ES64 : Str.ofString "Net.pipes" = S64:=PySem.W.Fast.ofString_ofList ['N','e','t','.','p','i','p','e','s']
theorem lk_Net_pipes (P : Params) : (K P).lookup 131 = some ⟨(.type x5),none,.func (fnOf "pipes" "Net.pipes" (defArgs (inClass (K2.top 17) 1)) (defBody (inClass (K2.top 17) 1)) (defScope (inClass (K2.top 17) 1)) .none .none .none (.str S4 282) none (.ref 130) .none),#[]⟩:=by
  rw [top_q,ES60,ES64]; kernel_rfl
theorem ES61 : Str.ofString "part" = S61:=PySem.W.Fast.ofString_ofList ['p','a','r','t']
theorem ES66 : Str.ofString "Net.part" = S66:=PySem.W.Fast.ofString_ofList ['N','e','t','.','p','a','r','t']
theorem lk_Net_part (P : Params) : (K P).lookup 138 = some ⟨(.type x5),none,.func (fnOf "part" "Net.part" (defArgs (inClass (K2.top 17) 2)) (defBody (inClass (K2.top 17) 2)) (defScope (inClass (K2.top 17) 2)) .none .none .none (.str S4 282) none (.ref 137) .none),#[]⟩:=by
  rw [top_q,ES61,ES66]; kernel_rfl
theorem ES62 : Str.ofString "parts" = S62:=PySem.W.Fast.ofString_ofList ['p','a','r','t','s']
theorem ES67 : Str.ofString "Net.parts" = S67:=PySem.W.Fast.ofString_ofList ['N','e','t','.','p','a','r','t','s']
theorem lk_Net_parts (P : Params) : (K P).lookup 145 = some ⟨(.type x5),none,.func (fnOf "parts" "Net.parts" (defArgs (inClass (K2.top 17) 3)) (defBody (inClass (K2.top 17) 3)) (defScope (inClass (K2.top 17) 3)) .none .none .none (.str S4 282) none (.ref 144) .none),#[]⟩:=by
  rw [top_q,ES62,ES67]; kernel_rfl
theorem ES47 : Str.ofString "first_row" = S47:=PySem.W.Fast.ofString_ofList ['f','i','r','s','t','_','r','o','w']
theorem lk_first_row (P : Params) : (K P).lookup 159 = some ⟨(.type x5),none,.func (fnOf "first_row" "first_row" (defArgs (K2.top 19)) (defBody (K2.top 19)) (defScope (K2.top 19)) .none .none .none (.str S71 369) none (.ref 158) .none),#[]⟩:=by
  rw [top_q,ES47]; kernel_rfl
theorem ES48 : Str.ofString "hardness_text" = S48:=PySem.W.Fast.ofString_ofList ['h','a','r','d','n','e','s','s','_','t','e','x','t']
theorem lk_hardness_text (P : Params) : (K P).lookup 166 = some ⟨(.type x5),none,.func (fnOf "hardness_text" "hardness_text" (defArgs (K2.top 20)) (defBody (K2.top 20)) (defScope (K2.top 20)) .none .none .none (.str S71 369) none (.ref 165) .none),#[]⟩:=by
  rw [top_q,ES48]; kernel_rfl
theorem ES49 : Str.ofString "pipe_row" = S49:=PySem.W.Fast.ofString_ofList ['p','i','p','e','_','r','o','w']
theorem lk_pipe_row (P : Params) : (K P).lookup 173 = some ⟨(.type x5),none,.func (fnOf "pipe_row" "pipe_row" (defArgs (K2.top 21)) (defBody (K2.top 21)) (defScope (K2.top 21)) .none .none .none (.str S71 369) none (.ref 172) .none),#[]⟩:=by
  rw [top_q,ES49]; kernel_rfl
theorem ES50 : Str.ofString "written" = S50:=PySem.W.Fast.ofString_ofList ['w','r','i','t','t','e','n']
theorem lk_written (P : Params) : (K P).lookup 178 = some ⟨(.type x5),none,.func (fnOf "written" "written" (defArgs (K2.top 22)) (defBody (K2.top 22)) (defScope (K2.top 22)) .none .none .none (.str S71 369) none (.ref 177) .none),#[]⟩:=by
  rw [top_q,ES50]; kernel_rfl
theorem ES51 : Str.ofString "number_in" = S51:=PySem.W.Fast.ofString_ofList ['n','u','m','b','e','r','_','i','n']
theorem lk_number_in (P : Params) : (K P).lookup 185 = some ⟨(.type x5),none,.func (fnOf "number_in" "number_in" (defArgs (K2.top 23)) (defBody (K2.top 23)) (defScope (K2.top 23)) .none .none .none (.str S71 369) none (.ref 184) .none),#[]⟩:=by
  rw [top_q,ES51]; kernel_rfl
theorem ES52 : Str.ofString "numbers_in" = S52:=PySem.W.Fast.ofString_ofList ['n','u','m','b','e','r','s','_','i','n']
theorem lk_numbers_in (P : Params) : (K P).lookup 190 = some ⟨(.type x5),none,.func (fnOf "numbers_in" "numbers_in" (defArgs (K2.top 24)) (defBody (K2.top 24)) (defScope (K2.top 24)) .none .none .none (.str S71 369) none (.ref 189) .none),#[]⟩:=by
  rw [top_q,ES52]; kernel_rfl
theorem ES53 : Str.ofString "places_in" = S53:=PySem.W.Fast.ofString_ofList ['p','l','a','c','e','s','_','i','n']
theorem lk_places_in (P : Params) : (K P).lookup 197 = some ⟨(.type x5),none,.func (fnOf "places_in" "places_in" (defArgs (K2.top 25)) (defBody (K2.top 25)) (defScope (K2.top 25)) .none .none .none (.str S71 369) none (.ref 196) .none),#[]⟩:=by
  rw [top_q,ES53]; kernel_rfl
theorem ES54 : Str.ofString "pipe_in" = S54:=PySem.W.Fast.ofString_ofList ['p','i','p','e','_','i','n']
theorem lk_pipe_in (P : Params) : (K P).lookup 204 = some ⟨(.type x5),none,.func (fnOf "pipe_in" "pipe_in" (defArgs (K2.top 26)) (defBody (K2.top 26)) (defScope (K2.top 26)) .none .none .none (.str S71 369) none (.ref 203) .none),#[]⟩:=by
  rw [top_q,ES54]; kernel_rfl
theorem ES55 : Str.ofString "read" = S55:=PySem.W.Fast.ofString_ofList ['r','e','a','d']
theorem lk_read (P : Params) : (K P).lookup 211 = some ⟨(.type x5),none,.func (fnOf "read" "read" (defArgs (K2.top 27)) (defBody (K2.top 27)) (defScope (K2.top 27)) .none .none .none (.str S71 369) none (.ref 210) .none),#[]⟩:=by
  rw [top_q,ES55]; kernel_rfl
theorem ES56 : Str.ofString "_law_cell_at" = S56:=PySem.W.Fast.ofString_ofList ['_','l','a','w','_','c','e','l','l','_','a','t']
theorem lk__law_cell_at (P : Params) : (K P).lookup 218 = some ⟨(.type x5),none,.func (fnOf "_law_cell_at" "_law_cell_at" (defArgs (K2.top 29)) (defBody (K2.top 29)) (defScope (K2.top 29)) .none .none .none (.str S39 446) none (.ref 217) .none),#[]⟩:=by
  rw [top_q,ES56]; kernel_rfl
theorem ES57 : Str.ofString "_law_draw" = S57:=PySem.W.Fast.ofString_ofList ['_','l','a','w','_','d','r','a','w']
theorem lk__law_draw (P : Params) : (K P).lookup 225 = some ⟨(.type x5),none,.func (fnOf "_law_draw" "_law_draw" (defArgs (K2.top 30)) (defBody (K2.top 30)) (defScope (K2.top 30)) .none .none .none (.str S39 446) none (.ref 224) .none),#[]⟩:=by
  rw [top_q,ES57]; kernel_rfl
theorem ES86 : Str.ofString "_law_least" = S86:=PySem.W.Fast.ofString_ofList ['_','l','a','w','_','l','e','a','s','t']
theorem lk__law_least (P : Params) : (K P).lookup 232 = some ⟨(.type x5),none,.func (fnOf "_law_least" "_law_least" (defArgs (K2.top 31)) (defBody (K2.top 31)) (defScope (K2.top 31)) .none .none .none (.str S39 446) none (.ref 231) .none),#[]⟩:=by
  rw [top_q,ES86]; kernel_rfl
theorem ES87 : Str.ofString "_law_told" = S87:=PySem.W.Fast.ofString_ofList ['_','l','a','w','_','t','o','l','d']
theorem lk__law_told (P : Params) : (K P).lookup 239 = some ⟨(.type x5),none,.func (fnOf "_law_told" "_law_told" (defArgs (K2.top 32)) (defBody (K2.top 32)) (defScope (K2.top 32)) .none .none .none (.str S39 446) none (.ref 238) .none),#[]⟩:=by
  rw [top_q,ES87]; kernel_rfl
theorem ES89 : Str.ofString "_law_plain" = S89:=PySem.W.Fast.ofString_ofList ['_','l','a','w','_','p','l','a','i','n']
theorem lk__law_plain (P : Params) : (K P).lookup 253 = some ⟨(.type x5),none,.func (fnOf "_law_plain" "_law_plain" (defArgs (K2.top 34)) (defBody (K2.top 34)) (defScope (K2.top 34)) .none .none .none (.str S39 446) none (.ref 252) .none),#[]⟩:=by
  rw [top_q,ES89]; kernel_rfl
theorem ES90 : Str.ofString "law" = S90:=PySem.W.Fast.ofString_ofList ['l','a','w']
theorem lk_law (P : Params) : (K P).lookup 258 = some ⟨(.type x5),none,.func (fnOf "law" "law" (defArgs (K2.top 35)) (defBody (K2.top 35)) (defScope (K2.top 35)) .none .none .none (.str S39 446) none (.ref 257) .none),#[]⟩:=by
  rw [top_q,ES90]; kernel_rfl
end
end Hd
open PySem PySem.W PyProof.Rows
set_option maxRecDepth 100000 in
set_option maxHeartbeats 0 in
theorem PySem.Challenge.cw_splitstream_k10_nets_read_and_written_holds : PySem.Challenge.rw_splitstream_k10_nets_read_and_written.Holds := by
  w_on; o_law
  refine PySem.W.holds_open (q:=Hd.vw PySem.Challenge.pw_splitstream_k10_nets_read_and_written) (loose:=[]) (Xt:=Hd.Xt PySem.Challenge.pw_splitstream_k10_nets_read_and_written) (XP:=XL (Hd.vw PySem.Challenge.pw_splitstream_k10_nets_read_and_written) []) (Yf:=Hd.Yf) (Ya:=Hd.Ya) (YP:=InK Hd.K) (N:=3650) Hd.left (InK.of Hd.as_eq) InK.keeps (fun s e=>xl_of s (Bool.and_eq_true_iff.mp e).1) XL.keeps (by rfl) (by rfl) (by rfl) (fun s e=>recFacts_of (Bool.and_eq_true_iff.mp e).2) (by rfl) (by first | assumption | decide +kernel) (by decide +kernel) ⟨rfl,rfl,rfl,rfl,rfl,by decide +kernel⟩ ?hw ?hc
  (case hw=>w_witness2)
  k_fill
  refine K2.walk (l:=PySem.Challenge.rw_splitstream_k10_nets_read_and_written) rfl rfl (fun w h Y=>Y) ?F
  case F =>
    intro w mg fa h KX G hmg
    refine' K2.all_mk KX G hmg ?z128_Net ?z0_a ?z1_l ?z2_o ?z3_k ?z4_a ?z5_l ?z6_o ?z7_k ?z8_a ?z9_l ?z10_o ?z11_k ?z12_a ?z13_l ?z14_o ?z15_k ?z16_a ?z17_l ?z18_o ?z19_k ?z20_a ?z21_l ?z22_o ?z23_k ?z24_a ?z25_l ?z26_o ?z27_k ?z28_a ?z29_i ?z30_l ?z31_o ?z32_k ?z33_a ?z34_i ?z35_l ?z36_o ?z37_k ?z38_a ?z39_l ?z40_o ?z41_k ?z42_a ?z43_l ?z44_o ?z45_k ?z46_a ?z47_l ?z48_o ?z49_k ?z50_a ?z51_l ?z52_o ?z53_k ?z54_a ?z55_l ?z56_o ?z57_k ?z58_a ?z59_l ?z60_o ?z61_k ?z62_a ?z63_l ?z64_o ?z65_k ?z66_a ?z67_l ?z68_o ?z69_k ?z70_a ?z71_l ?z72_o ?z73_k ?z74_a ?z75_l ?z76_o ?z77_k ?z78_a ?z79_l ?z80_o ?z81_k ?z82_a ?z83_l ?z84_o ?z85_k ?z86_a ?z87_l ?z88_o ?z89_k ?z90_a ?z91_l ?z92_o ?z93_k ?z94_a ?z95_l ?z96_o ?z97_k ?z98_isinstance ?z99_int ?z100_bool ?z101_abs ?z102_len ?z103_tuple ?z104_list ?z105_min ?z106_max ?z107_range ?z108_all ?z109_sorted ?z110_enumerate ?z111_reversed ?z112_zip ?z113_sum ?z114_any ?z115_ValueError ?z116_str ?z117_MOST_PLACES ?z118_MOST_PIPES ?z119_MOST_IN_HARDNESS ?z120_pg ?z121_hd ?z122_po ?z123_sa ?z124_nsize ?z125_nlaid ?z126_mk ?z127_kc
    (case z128_Net=>k_is)
    (case z0_a=>k_is)
    (case z1_l=>exact Hd.lk_is_whole _)
    (case z2_o=>k_is)
    (case z3_k=>k_is)
    (case z4_a=>k_is)
    (case z5_l=>exact Hd.lk_common_divisor _)
    (case z6_o=>k_is)
    (case z7_k=>k_is)
    (case z8_a=>k_is)
    (case z9_l=>exact Hd.lk_is_fraction _)
    (case z10_o=>k_is)
    (case z11_k=>k_is)
    (case z12_a=>k_is)
    (case z13_l=>exact Hd.lk_counts_one_of _)
    (case z14_o=>k_is)
    (case z15_k=>k_is)
    (case z16_a=>k_is)
    (case z17_l=>exact Hd.lk_is_hardness _)
    (case z18_o=>k_is)
    (case z19_k=>k_is)
    (case z20_a=>k_is)
    (case z21_l=>exact Hd.lk_is_pipe _)
    (case z22_o=>k_is)
    (case z23_k=>k_is)
    (case z24_a=>k_is)
    (case z25_l=>exact Hd.lk_is_net _)
    (case z26_o=>k_is)
    (case z27_k=>k_is)
    (case z28_a=>k_is)
    (case z29_i=>k_is)
    (case z30_l=>exact Hd.lk_Net___init__ _)
    (case z31_o=>k_is)
    (case z32_k=>k_is)
    (case z33_a=>k_is)
    (case z34_i=>k_is)
    (case z35_l=>exact Hd.lk_Net_pipes _)
    (case z36_o=>k_is)
    (case z37_k=>k_is)
    (case z38_a=>k_is)
    (case z39_l=>exact Hd.lk__law_cell_at _)
    (case z40_o=>k_is)
    (case z41_k=>k_is)
    (case z42_a=>k_is)
    (case z43_l=>exact Hd.lk__law_draw _)
    (case z44_o=>k_is)
    (case z45_k=>k_is)
    (case z46_a=>k_is)
    (case z47_l=>exact Hd.lk__law_least _)
    (case z48_o=>k_is)
    (case z49_k=>k_is)
    (case z50_a=>k_is)
    (case z51_l=>exact Hd.lk__law_told _)
    (case z52_o=>k_is)
    (case z53_k=>k_is)
    (case z54_a=>k_is)
    (case z55_l=>exact Hd.lk_first_row _)
    (case z56_o=>k_is)
    (case z57_k=>k_is)
    (case z58_a=>k_is)
    (case z59_l=>exact Hd.lk_hardness_text _)
    (case z60_o=>k_is)
    (case z61_k=>k_is)
    (case z62_a=>k_is)
    (case z63_l=>exact Hd.lk_pipe_row _)
    (case z64_o=>k_is)
    (case z65_k=>k_is)
    (case z66_a=>k_is)
    (case z67_l=>exact Hd.lk_written _)
    (case z68_o=>k_is)
    (case z69_k=>k_is)
    (case z70_a=>k_is)
    (case z71_l=>exact Hd.lk_number_in _)
    (case z72_o=>k_is)
    (case z73_k=>k_is)
    (case z74_a=>k_is)
    (case z75_l=>exact Hd.lk_numbers_in _)
    (case z76_o=>k_is)
    (case z77_k=>k_is)
    (case z78_a=>k_is)
    (case z79_l=>exact Hd.lk_places_in _)
    (case z80_o=>k_is)
    (case z81_k=>k_is)
    (case z82_a=>k_is)
    (case z83_l=>exact Hd.lk_pipe_in _)
    (case z84_o=>k_is)
    (case z85_k=>k_is)
    (case z86_a=>k_is)
    (case z87_l=>exact Hd.lk_read _)
    (case z88_o=>k_is)
    (case z89_k=>k_is)
    (case z90_a=>k_is)
    (case z91_l=>exact Hd.lk__law_plain _)
    (case z92_o=>k_is)
    (case z93_k=>k_is)
    (case z94_a=>k_is)
    (case z95_l=>exact Hd.lk_law _)
    (case z96_o=>k_is)
    (case z97_k=>k_is)
    (case z98_isinstance=>k_is)
    (case z99_int=>k_is)
    (case z100_bool=>k_is)
    (case z101_abs=>k_is)
    (case z102_len=>k_is)
    (case z103_tuple=>k_is)
    (case z104_list=>k_is)
    (case z105_min=>k_is)
    (case z106_max=>k_is)
    (case z107_range=>k_is)
    (case z108_all=>k_is)
    (case z109_sorted=>k_is)
    (case z110_enumerate=>k_is)
    (case z111_reversed=>k_is)
    (case z112_zip=>k_is)
    (case z113_sum=>k_is)
    (case z114_any=>k_is)
    (case z115_ValueError=>k_is)
    (case z116_str=>k_is)
    (case z117_MOST_PLACES=>k_is)
    (case z118_MOST_PIPES=>k_is)
    (case z119_MOST_IN_HARDNESS=>k_is)
    (case z120_pg=>k_is)
    (case z121_hd=>k_is)
    (case z122_po=>k_is)
    (case z123_sa=>k_is)
    (case z124_nsize=>k_is)
    (case z125_nlaid=>k_is)
    (case z126_mk=>k_is)
    (case z127_kc=>k_is)
