import PyProof.Rows.All
import Wide.All
import OpenK.AllK
import Wide.FinOn
import Lean
import PyProof.EqAt
import PyProof.EqKinds
import PyProof.TupleCall
import PySem.Challenge.RW_splitstream_k12_refused
set_option Elab.async false
set_option linter.all false
set_option maxRecDepth 100000
set_option maxHeartbeats 4000000
set_option exponentiation.threshold 10000
namespace L2
open PySem PySem.Spec PyProof.Rows
abbrev Key:=Sum Int Str
def keyIs : Key → Value → Bool
  | .inl k,v=>Value.isInt k v
  | .inr x,v=>Value.isStrOf x v
def keyH (w : World) : Key → Int
  | .inl k=>hashInt k
  | .inr x=>hashStr w x
theorem keyIs_shape : ∀ {k : Key} {v : Value},keyIs k v = true → (∃ i t,k = Sum.inl i ∧ v = Value.int i t) ∨ (∃ x t,k = Sum.inr x ∧ v = Value.str x t)
  | .inl i,v,h=>by
    obtain ⟨t,e⟩:=Value.isInt_shape (k:=i) (v:=v) h
    exact .inl ⟨i,t,rfl,e⟩
  | .inr x,v,h=>by
    obtain ⟨t,e⟩:=Value.isStrOf_shape (x:=x) (v:=v) h
    exact .inr ⟨x,t,rfl,e⟩
theorem key_ll (a b : Int) : decide ((Sum.inl a : Key) = Sum.inl b) = (a == b):=by
  by_cases e : a = b
  · subst e; simp
  · have h : ¬ (Sum.inl a : Key) = Sum.inl b:=fun q=>e (Sum.inl.inj q)
    rw [decide_eq_false h]
    exact (beq_eq_false_iff_ne.mpr e).symm
theorem key_rr (a b : Str) : decide ((Sum.inr a : Key) = Sum.inr b) = decide (a = b):=by
  by_cases e : a = b
  · subst e; simp
  · have h : ¬ (Sum.inr a : Key) = Sum.inr b:=fun q=>e (Sum.inr.inj q)
    rw [decide_eq_false h,decide_eq_false e]
theorem key_lr (a : Int) (b : Str) : decide ((Sum.inl a : Key) = Sum.inr b) = false:=decide_eq_false (fun q=>nomatch q)
theorem key_rl (a : Str) (b : Int) : decide ((Sum.inr a : Key) = Sum.inl b) = false:=decide_eq_false (fun q=>nomatch q)
def mixKind (prog : Program) (w : World) : PySem.KeyKind prog w Key where
  is:=keyIs
  hash:=keyH w
  inj:=fun v a b ha hb=>by
    rcases keyIs_shape ha with ⟨i,t,rfl,rfl⟩ | ⟨x,t,rfl,rfl⟩
    · rcases keyIs_shape hb with ⟨j,u,rfl,e⟩ | ⟨y,u,rfl,e⟩
      · injection e with e1 _; rw [e1]
      · exact nomatch e
    · rcases keyIs_shape hb with ⟨j,u,rfl,e⟩ | ⟨y,u,rfl,e⟩
      · exact nomatch e
      · injection e with e1 _; rw [e1]
  byValue:=fun k v h=>by
    rcases keyIs_shape h with ⟨i,t,rfl,rfl⟩ | ⟨x,t,rfl,rfl⟩ <;> rfl
  pyHash:=fun hv h=>by
    rcases keyIs_shape hv with ⟨i,t,rfl,rfl⟩ | ⟨x,t,rfl,rfl⟩
    · exact wpAny_pyHash_int h
    · exact wpAny_pyHash_str h
  eqBool:=fun hu hv h=>by
    rcases keyIs_shape hu with ⟨i,t,rfl,rfl⟩ | ⟨x,t,rfl,rfl⟩
    · rcases keyIs_shape hv with ⟨j,u,rfl,rfl⟩ | ⟨y,u,rfl,rfl⟩
      · rw [key_ll] at h; exact wpAny_eqBool_int h
      · rw [key_lr] at h; exact SeqAt.EqAt.int_str i t y u _ _ _ _ h
    · rcases keyIs_shape hv with ⟨j,u,rfl,rfl⟩ | ⟨y,u,rfl,rfl⟩
      · rw [key_rl] at h; exact SeqAt.EqAt.str_int x t j u _ _ _ _ h
      · rw [key_rr] at h; exact wpAny_eqBool_str h
  «strs»:=fun k x t v h=>by
    rcases keyIs_shape h with ⟨i,u,rfl,e⟩ | ⟨y,u,rfl,e⟩
    · exact nomatch e
    · injection e with e1 _
      subst e1
      cases v <;> rfl
end L2
namespace L2
open PySem PySem.Spec PyProof.Rows
inductive V where
  | non | bl (b : Bool) | int (i : Int) | str (x : Str) | byt (b : Array UInt8) | flt (b : UInt64) | ref (a : Addr) | ty (n : String)
  deriving DecidableEq
def RelV : V → Value → Prop
  | .non,u=>u = Value.none
  | .bl b,u=>u = Value.bool b
  | .int i,u=>∃ t,u = Value.int i t
  | .str x,u=>∃ t,u = Value.str x t
  | .byt b,u=>∃ t,u = Value.bytes b t
  | .flt b,u=>∃ t,u = Value.float b t
  | .ref a,u=>u = Value.ref a
  | .ty n,u=>u = Value.type n
abbrev Vals : List V → List Value → Prop:=Paired RelV
theorem Vals.length {xs : List V} {us : List Value} (r : Vals xs us) : xs.length = us.length:=Paired.length r
theorem Vals.get : ∀ {xs : List V} {us : List Value} {i : Nat} {x : V},Vals xs us → xs[i]? = some x → ∃ u,us[i]? = some u ∧ RelV x u
  | _,_,_,_,.nil,e=>by simp at e
  | _,_,0,_,.cons r _,e=>by simp at e; subst e; exact ⟨_,rfl,r⟩
  | _,_,i + 1,x,.cons _ t,e=>by
    obtain ⟨u,h1,h2⟩:=Vals.get (i:=i) (x:=x) t (by simpa using e)
    exact ⟨u,by simpa using h1,h2⟩
theorem Vals.append : ∀ {xs ys : List V} {us ws : List Value},Vals xs us → Vals ys ws → Vals (xs ++ ys) (us ++ ws)
  | _,_,_,_,.nil,s=>s
  | _,_,_,_,.cons r t,s=>.cons r (Vals.append t s)
def RelO : Option V → Option Value → Prop
  | some v,some u=>RelV v u
  | none,none=>True
  | _,_=>False
def KV {κ : Type} : List (κ × V) → List (κ × Value) → Prop:=Paired fun (p : κ × V) (q : κ × Value)=>p.1 = q.1 ∧ RelV p.2 q.2
def kV : Key → V
  | .inl i=>.int i
  | .inr x=>.str x
inductive HO where
    | lst (xs : List V)
    | tup (xs : List V)
    | dK (kvs : List (Key × V)) | dT (kvs : List (List Key × V))
    | set (S : Int → Bool) (n : Nat)
    | ins (C dx : Addr) (fs : List (Str × V))
    | own (x : Addr)
    | xd (fs : List (Str × V))
    | met (f x : Addr)
    | rng (lo hi : Int)
    | frz (o : Obj) (u : HO)
    | tbl (ps : Array Value)
    | ext (φ : Heap → Prop)
abbrev Hp:=Addr → Option HO
def upd (H : Hp) (a : Addr) (o : HO) : Hp:=fun b=>if b = a then some o else H b
theorem upd_same {H : Hp} {a : Addr} {o : HO} : upd H a o a = some o:=by unfold upd; rw [if_pos rfl]
theorem upd_ne {H : Hp} {a b : Addr} {o : HO} (h : b ≠ a) : upd H a o b = H b:=by unfold upd; rw [if_neg h]
theorem ne_of {H : Hp} {a b : Addr} {o u : HO} (h : H a = some o) (h' : H b = some u) (d : o ≠ u) : a ≠ b:=by
  intro e; subst e; rw [h] at h'; exact d (Option.some.inj h')
theorem ne_of_none {H : Hp} {a b : Addr} {o : HO} (h : H a = some o) (h' : H b = none) : a ≠ b:=by
  intro e; subst e; rw [h] at h'; cases h'
section
variable (P : Program) (w : World)
def ObjOk (H : Hp) (h : Heap) (a : Addr) : HO → Prop
  | .lst xs=>xs.length ≤ sizeLine ∧ ∃ (its : List Value) (n : Nat),Vals xs its ∧ h.get? a = some { cls:=.type "list",data:=.seq its.toArray n }
  | .tup xs=>xs.length ≤ sizeLine ∧ ∃ its : List Value,Vals xs its ∧ IsTup h a its.toArray
  | .dK kvs=>kvs.length ≤ sizeLine ∧ (a == sysModules) = false ∧ ∃ vs,KV kvs vs ∧ h.DictOf (mixKind P w) a vs
  | .dT kvs=>kvs.length ≤ sizeLine ∧ (a == sysModules) = false ∧ ∃ xs : List (List Key × Addr × Value),
      Paired (fun (p : List Key × V) (q : List Key × Addr × Value)=>p.1 = q.1 ∧ H q.2.1 = some (.tup (p.1.map kV)) ∧ RelV p.2 q.2.2) kvs xs ∧
      ∃ o es ep,h.get? a = some o ∧ o.ExactDict ∧ o.data = .dict es ep ∧ es.toList = xs.map (entryOfKey (tupleKind (mixKind P w))) ∧ (xs.map (·.1)).Nodup
  | .set S n=>h.SetOf (intKind P w) a S n
  | .ins C dx fs=>H dx = some (.own a) ∧ fs.length ≤ 1000 ∧ dx ≠ a ∧ h.get? a = some (PySem.W.instObj C dx) ∧
      ∃ mA,h.Ns1 dx mA ∧ (∀ f,RelO (fs.lookup f) (mA f)) ∧ PySem.Within mA (fs.map (·.1))
  | .own _=>∃ o,h.get? a = some o
  | .xd fs=>∃ mA,h.Ns1 a mA ∧ ∀ f,RelO (fs.lookup f) (mA f)
  | .rng lo hi=>∃ t u v,h.get? a = some { cls:=.type "range",data:=.fields #[.int lo t,.int hi u,.int 1 v] }
  | .frz o u=>h.get? a = some o ∧ ObjOk H h a u
  | .tbl ps=>h.get? a = some { cls:=.none,data:=.fields ps }
  | .met f x=>h.get? a = some (PySem.W.methodObj (.ref f) (.ref x))
  | .ext φ=>φ h ∧ (∃ o,h.get? a = some o) ∧ ∀ h1 h2 : Heap,φ h1 → (∀ o,h1.get? a = some o → h2.get? a = some o) → φ h2
def HOk (H : Hp) (h : Heap) : Prop:=∀ a o,H a = some o → ObjOk P w H h a o
end
section
variable {P : Program} {w : World} {H H' : Hp} {h h' : Heap} {a : Addr} {o : HO}
theorem ObjOk.lt (x : ObjOk P w H h a o) : a < h.objs.size:=by
  cases o with
  | lst xs=>obtain ⟨_,_,_,_,e⟩:=x; exact Heap.lt_size e
  | tup xs=>obtain ⟨_,_,_,p⟩:=x; exact p.lt
  | dK kvs=>obtain ⟨_,_,_,_,o,_,_,e,_⟩:=x; exact Heap.lt_size e
  | dT kvs=>obtain ⟨_,_,_,_,o,_,_,e,_⟩:=x; exact Heap.lt_size e
  | set S n=>obtain ⟨o,_,_,_,e,_⟩:=x; exact Heap.lt_size e
  | ins C dx fs=>obtain ⟨_,_,_,e,_⟩:=x; exact Heap.lt_size e
  | own y=>obtain ⟨_,e⟩:=x; exact Heap.lt_size e
  | xd fs=>obtain ⟨_,⟨_,_,_,e,_⟩,_⟩:=x; exact Heap.lt_size e
  | rng lo hi=>obtain ⟨_,_,_,e⟩:=x; exact Heap.lt_size e
  | frz ob u=>obtain ⟨e,_⟩:=x; exact Heap.lt_size e
  | tbl ps=>exact Heap.lt_size (show h.get? a = some _ from x)
  | met f y=>exact Heap.lt_size (show h.get? a = some _ from x)
  | ext φ=>obtain ⟨_,⟨_,e⟩,_⟩:=x; exact Heap.lt_size e
theorem Paired.mapP {α β : Type} {F G : α → β → Prop} : ∀ {l₁ : List α} {l₂ : List β},Paired F l₁ l₂ → (∀ a b,F a b → G a b) → Paired G l₁ l₂
  | _,_,.nil,_=>.nil
  | _,_,.cons r t,f=>.cons (f _ _ r) (Paired.mapP t f)
theorem ObjOk.stay (x : ObjOk P w H h a o) (k : ∀ b u,(b = a ∨ H b = some (.own a)) → h.get? b = some u → h'.get? b = some u)
    (ho : ∀ b,H b = some (.own a) → H' b = some (.own a)) (ht : ∀ b xs,H b = some (.tup xs) → H' b = some (.tup xs)) : ObjOk P w H' h' a o:=by
  induction o with
  | lst xs=>obtain ⟨z,its,n,r,e⟩:=x; exact ⟨z,its,n,r,k _ _ (.inl rfl) e⟩
  | tup xs=>obtain ⟨z,its,r,ob,e,c⟩:=x; exact ⟨z,its,r,ob,k _ _ (.inl rfl) e,c⟩
  | dK kvs=>obtain ⟨z,y,vs,r,ob,es,ep,e,c⟩:=x; exact ⟨z,y,vs,r,ob,es,ep,k _ _ (.inl rfl) e,c⟩
  | dT kvs =>
    obtain ⟨z,y,xs,r,ob,es,ep,e,c⟩:=x
    exact ⟨z,y,xs,Paired.mapP r fun p q z=>⟨z.1,ht _ _ z.2.1,z.2.2⟩,ob,es,ep,k _ _ (.inl rfl) e,c⟩
  | set S n=>obtain ⟨ob,es,ep,t,e,c⟩:=x; exact ⟨ob,es,ep,t,k _ _ (.inl rfl) e,c⟩
  | ins C dx fs =>
    obtain ⟨d,z,ne,e,mA,⟨od,es,ep,e2,c⟩,r⟩:=x
    exact ⟨ho _ d,z,ne,k _ _ (.inl rfl) e,mA,⟨od,es,ep,k _ _ (.inr d) e2,c⟩,r⟩
  | own y=>obtain ⟨ob,e⟩:=x; exact ⟨ob,k _ _ (.inl rfl) e⟩
  | xd fs=>obtain ⟨mA,⟨od,es,ep,e,c⟩,r⟩:=x; exact ⟨mA,⟨od,es,ep,k _ _ (.inl rfl) e,c⟩,r⟩
  | rng lo hi=>obtain ⟨t,u,v,e⟩:=x; exact ⟨t,u,v,k _ _ (.inl rfl) e⟩
  | frz ob u ih=>obtain ⟨e,q⟩:=x; exact ⟨k _ _ (.inl rfl) e,ih q⟩
  | tbl ps =>
    have e : h.get? a = some { cls:=.none,data:=.fields ps }:=x
    show h'.get? a = some { cls:=.none,data:=.fields ps }
    exact k a _ (.inl rfl) e
  | met f y =>
    have e : h.get? a = some (PySem.W.methodObj (.ref f) (.ref y)):=x
    show h'.get? a = some (PySem.W.methodObj (.ref f) (.ref y))
    exact k a _ (.inl rfl) e
  | ext φ=>obtain ⟨p,⟨o,e⟩,st⟩:=x; exact ⟨st _ _ p fun o q=>k _ _ (.inl rfl) q,⟨o,k _ _ (.inl rfl) e⟩,st⟩
theorem HOk.lt (x : HOk P w H h) (e : H a = some o) : a < h.objs.size:=(x a o e).lt
theorem HOk.fresh (x : HOk P w H h) (e : h.objs.size ≤ a) : H a = none:=by
  cases q : H a with
  | none=>rfl
  | some u=>exact absurd (Nat.lt_of_lt_of_le (x.lt q) e) (Nat.lt_irrefl _)
theorem HOk.kept (x : HOk P w H h) (k : ∀ b u,h.get? b = some u → h'.get? b = some u) : HOk P w H h':=fun a o e =>
  (x a o e).stay (fun b u _ q=>k b u q) (fun _ q=>q) fun _ _ q=>q
theorem HOk.laid (x : HOk P w H h) (k : ∀ b u,h.get? b = some u → h'.get? b = some u) (hp : h.objs.size ≤ a) (new : ObjOk P w (upd H a o) h' a o) : HOk P w (upd H a o) h':=fun b u e=>by
  have hn:=x.fresh hp
  by_cases hb : b = a
  · subst hb; rw [upd_same] at e; cases e; exact new
  · rw [upd_ne hb] at e
    exact (x b u e).stay (fun c v _ q=>k c v q) (fun c q=>by rw [upd_ne (ne_of_none q hn)]; exact q) fun c xs q=>by rw [upd_ne (ne_of_none q hn)]; exact q
end
def Rd (H : Hp) (a : Addr) (u : HO) : Prop:=H a = some u ∨ ∃ o,H a = some (.frz o u)
theorem Rd.ok {P : Program} {w : World} {H : Hp} {h : Heap} {a : Addr} {u : HO} (r : Rd H a u) (x : HOk P w H h) : ObjOk P w H h a u:=by
  rcases r with r | ⟨o,r⟩
  · exact x a u r
  · obtain ⟨_,q⟩:=x a _ r
    exact q
def Mut : Option HO → Prop
  | some (.lst _)=>True
  | some (.dK _)=>True
  | some (.dT _)=>True
  | some (.set _ _)=>True
  | some (.ins _ _ _)=>True
  | some (.ext _)=>True
  | _=>False
section
variable {P : Program} {w : World} {H : Hp} {h h' : Heap} {x e : Addr} {o' : HO}
theorem HOk.write (ok : HOk P w H h) (mu : Mut (H x)) (he : e = x ∨ H e = some (.own x)) (k : ∀ b u,b ≠ e → h.get? b = some u → h'.get? b = some u) (heo : ∃ u,h'.get? e = some u)
    (new : ObjOk P w (upd H x o') h' x o') : HOk P w (upd H x o') h':=fun b u q=>by
  have nown : ∀ c y,H c = some (.own y) → c ≠ x:=fun c y r z=>by subst z; rw [r] at mu; exact mu
  have ntup : ∀ c xs,H c = some (.tup xs) → c ≠ x:=fun c xs r z=>by subst z; rw [r] at mu; exact mu
  by_cases hb : b = x
  · subst hb; rw [upd_same] at q; cases q; exact new
  · rw [upd_ne hb] at q
    by_cases hbe : b = e
    · have q' : H b = some (.own x):=by
        rcases he with z | z
        · exact absurd (hbe.trans z) hb
        · rw [hbe]; exact z
      rw [q] at q'; cases q'
      obtain ⟨v,hv⟩:=heo
      exact ⟨v,by rw [hbe]; exact hv⟩
    · refine (ok b u q).stay (fun c v hc r=>k c v ?_ r) (fun c r=>by rw [upd_ne (nown c b r)]; exact r) fun c xs r=>by rw [upd_ne (ntup c xs r)]; exact r
      rcases hc with rfl | hc
      · exact hbe
      · rintro rfl
        rcases he with z | z
        · exact nown c b hc z
        · rw [hc] at z; cases z; exact hb rfl
end
structure Un (fs ex : List Addr) (H H' : Hp) (h h' : Heap) : Prop where
  keep : ∀ b o,h.get? b = some o → H b = none → b ∉ fs → b ∉ ex → h'.get? b = some o
  slot : ∀ b o,h.get? b = some o → H b = none → b ∈ fs → b ∉ ex → ∃ sl,h'.get? b = some { o with slots:=sl }
  free : ∀ b o,h.get? b = some o → H b = none → b ∉ ex → H' b = none
  there : ∀ b o,h.get? b = some o → b ∉ ex → ∃ o',h'.get? b = some o'
  tups : ∀ b xs,H b = some (.tup xs) → H' b = some (.tup xs)
  frzs : ∀ b o u,H b = some (.frz o u) → H' b = some (.frz o u)
  tbls : ∀ b ps,H b = some (.tbl ps) → ∃ more,H' b = some (.tbl (ps ++ more))
section
variable {fs fs' ex ex' : List Addr} {H H1 H2 : Hp} {h h1 h2 h' : Heap} {a x e : Addr} {o : HO}
theorem Un.any (u : Un fs ex H H1 h h1) {b : Addr} {ob : Obj} (q : h.get? b = some ob) (n : H b = none) (hx : b ∉ ex) : ∃ sl,h1.get? b = some { ob with slots:=sl }:=by
  by_cases hb : b ∈ fs
  · exact u.slot b ob q n hb hx
  · exact ⟨ob.slots,u.keep b ob q n hb hx⟩
theorem Un.kept (k : ∀ b u,h.get? b = some u → h'.get? b = some u) : Un fs ex H H h h' :=
  ⟨fun b ob q _ _ _=>k b ob q,fun b ob q _ _ _=>⟨ob.slots,k b ob q⟩,fun _ _ _ n _=>n,fun b ob q _=>⟨ob,k b ob q⟩,fun _ _ q=>q,fun _ _ _ q=>q,fun _ ps q=>⟨#[],by rw [q]; simp⟩⟩
theorem Un.refl : Un fs ex H H h h:=Un.kept fun _ _ q=>q
theorem Un.laid (k : ∀ b u,h.get? b = some u → h'.get? b = some u) (hp : h.objs.size ≤ a) (hn : H a = none) : Un fs ex H (upd H a o) h h' where
  keep:=fun b u q _ _ _=>k b u q
  slot:=fun b u q _ _ _=>⟨u.slots,k b u q⟩
  free:=fun b u q n _=>by rw [upd_ne (Nat.ne_of_lt (Nat.lt_of_lt_of_le (Heap.lt_size q) hp))]; exact n
  there:=fun b u q _=>⟨u,k b u q⟩
  tups:=fun b xs q=>by rw [upd_ne (ne_of_none q hn)]; exact q
  frzs:=fun b u xs q=>by rw [upd_ne (ne_of_none q hn)]; exact q
  tbls:=fun b ps q=>⟨#[],by rw [upd_ne (ne_of_none q hn),q]; simp⟩
theorem Un.write (mu : Mut (H x)) (he : e = x ∨ H e = some (.own x)) (k : ∀ b u,b ≠ e → h.get? b = some u → h'.get? b = some u) (heo : ∃ u,h'.get? e = some u) : Un fs ex H (upd H x o) h h':=by
  have hx : ∀ b,H b = none → b ≠ x:=fun b n z=>by subst z; rw [n] at mu; exact mu
  have hb : ∀ b,H b = none → b ≠ e:=fun b n z=>by
    subst z
    rcases he with r | r
    · exact hx b n r
    · rw [n] at r; cases r
  have hm : ∀ b u,H b = some u → ¬ Mut (some u) → b ≠ x:=fun b u q nm z=>by subst z; rw [q] at mu; exact nm mu
  refine ⟨fun b u q n _ _=>k b u (hb b n) q,fun b u q n _ _=>⟨u.slots,k b u (hb b n) q⟩,fun b u q n _=>by rw [upd_ne (hx b n)]; exact n,fun b u q _=>?_,
    fun b xs q=>by rw [upd_ne (hm b _ q fun z=>z)]; exact q,fun b u xs q=>by rw [upd_ne (hm b _ q fun z=>z)]; exact q,fun b ps q=>⟨#[],by rw [upd_ne (hm b _ q fun z=>z),q]; simp⟩⟩
  by_cases hbe : b = e
  · subst hbe; exact heo
  · exact ⟨u,k b u hbe q⟩
end
def trk (h : Heap) (H : Hp) : List Addr:=(List.range h.objs.size).filter fun a=>(H a).isSome
def hidT (h : Heap) (H : Hp) : Heap:=PySem.W.hideAll h (trk h H)
theorem hidT_size (h : Heap) (H : Hp) : (hidT h H).objs.size = h.objs.size:=PySem.W.hideAll_size _ _
theorem hidT_get {h : Heap} {H : Hp} {b : Addr} {o : Obj} (e : h.get? b = some o) (n : H b = none) : (hidT h H).get? b = some o :=
  PySem.W.hideAll_get _ e fun hm=>by
    have q : (H b).isSome = true:=(List.mem_filter.mp hm).2
    rw [n] at q; simp at q
theorem of_hidT {h : Heap} {H : Hp} {b : Addr} {o : Obj} (e : (hidT h H).get? b = some o) : h.get? b = some o ∧ H b = none:=by
  have e' : h.get? b = some o:=PySem.W.of_hideAll (trk h H) e
  refine ⟨e',?_⟩
  cases q : H b with
  | none=>rfl
  | some x =>
    have hm : b ∈ trk h H:=List.mem_filter.mpr ⟨List.mem_range.mpr (Heap.lt_size e'),by simp [q]⟩
    have z : (hidT h H).get? b = none:=PySem.W.hideAll_none (trk h H) hm
    rw [z] at e; cases e
end L2
namespace L2
open PySem PySem.Spec PyProof.Rows
structure Mod (K : PySem.W.Frag) (mg : Str → Option Value) (base : Heap) : Prop where
  kin : K.In base
  glob : base.Ns mainGlobals mg
  blt : ∃ mb,base.Ns builtinsNs mb ∧ ∀ x : Str,x ≠ "__name__" → mb x = bootBuiltins x
  nolimit : base.NoLimit
structure Cx where
  prog : Program
  w : World
  K : PySem.W.Frag
  mg : Str → Option Value
  base : Heap
  A : Around
  N : List Str
  s₀ : Shared
  H₀ : Hp
  env : Env
  outer : List Env
  stack : List Env
  ex : List Addr
  fn : Str → Bool
  calm : Bool
  pn : List (Addr × Obj)
  xe : Value → Shared → Prop
def frs (l : List Env) : List Addr:=l.filterMap (·.frame)
abbrev Cx.fs (X : Cx) : List Addr:=frs X.outer
def Vis (sc : Scope) (x : Str) : Prop:=sc.names.lookup x = some .local ∨ sc.names.lookup x = some .cell ∨ sc.names.lookup x = some .free
def Loc (sc : Scope) (x : Str) : Prop:=sc.names.lookup x = some .local ∨ sc.names.lookup x = some .cell
def Look (env : Env) (h : Heap) (m : Str → Option Value) (x : Str) (u : Value) : Prop :=
  (env.kindOf x = some .local ∧ m x = some u) ∨ ((env.kindOf x = some .cell ∨ env.kindOf x = some .free) ∧ ∃ c,env.cells.lookup x = some c ∧ h.IsCell c (some u))
structure Cx.Ok (X : Cx) : Prop where
  mod : Mod X.K X.mg X.base
  kind : X.env.scope.kind = .function
  glob : X.env.globals = mainGlobals
  blt : X.env.builtins = builtinsNs
  above : X.s₀.heap.objs.size ≤ X.env.locals
  inj : ∀ x y c,X.env.cells.lookup x = some c → X.env.cells.lookup y = some c → x = y
  has : ∀ x,(X.env.kindOf x = some .cell ∨ X.env.kindOf x = some .free) → ∃ c,X.env.cells.lookup x = some c
  cab : ∀ x c,X.fn x = true → X.env.cells.lookup x = some c → X.s₀.heap.objs.size ≤ c
  hd : X.calm = true → X.A.handled = none
  frames : X.A.frames = some X.stack
  stk : X.stack = X.outer ∨ (X.stack = X.env :: X.outer ∧ X.env.frame = some X.env.locals)
  exf : ∀ b ∈ X.ex,b ≠ X.env.locals ∧ ∀ x c,X.env.cells.lookup x = some c → c ≠ b
  bs : ∀ b o,X.base.get? b = some o → X.s₀.heap.get? b = some o ∧ X.H₀ b = none
  bsz : X.base.objs.size ≤ X.s₀.heap.objs.size
  noex : ∀ b o,X.base.get? b = some o → b ∉ X.ex
  exfs : ∀ b ∈ X.ex,b ∉ X.fs
  funs : X.s₀.heap.FunFrames X.base X.outer
  frf : ∀ b ∈ X.fs,X.H₀ b = none
structure Inv (X : Cx) (pins : List (Addr × Obj)) (σ : List (Option V)) (H : Hp) (s : Shared) : Prop where
  ok : X.Ok
  os : s.os = X.s₀.os
  bare : AllBare s.gens
  base : Un X.fs X.ex X.H₀ H X.s₀.heap s.heap
  loc : ∃ m,s.heap.Ns X.env.locals m ∧ ∀ (i : Nat) (x : Str) (v : V),X.N[i]? = some x → σ[i]? = some (some v) → Vis X.env.scope x → ∃ u,RelV v u ∧ Look X.env s.heap m x u
  cell : ∀ x c,X.env.cells.lookup x = some c → ∃ v,s.heap.IsCell c v
  free : H X.env.locals = none
  freeC : ∀ x c,X.env.cells.lookup x = some c → H c = none
  pin : ∀ p ∈ X.pn ++ pins,s.heap.get? p.1 = some p.2 ∧ H p.1 = none ∧ p.1 ≠ X.env.locals ∧ p.1 ∉ X.fs ∧ ∀ v,p.2.data ≠ .cell v
  hok : HOk X.prog X.w H s.heap
  len : σ.length = X.N.length
section
variable {X : Cx} {pins : List (Addr × Obj)} {σ : List (Option V)} {H H' : Hp} {s : Shared} {h' : Heap}
theorem Cx.Ok.nofr (ok : X.Ok) {b : Addr} {o : Obj} (e : X.base.get? b = some o) : b ∉ X.fs:=fun hb=>by
  have:=(ok.funs.mem hb).1
  rw [e] at this; cases this
theorem Inv.bs (I : Inv X pins σ H s) : ∀ b o,X.base.get? b = some o → s.heap.get? b = some o ∧ H b = none:=fun b o e =>
  ⟨I.base.keep b o (I.ok.bs b o e).1 (I.ok.bs b o e).2 (I.ok.nofr e) (I.ok.noex b o e),I.base.free b o (I.ok.bs b o e).1 (I.ok.bs b o e).2 (I.ok.noex b o e)⟩
theorem Inv.bk (I : Inv X pins σ H s) : ∀ b o,X.base.get? b = some o → s.heap.get? b = some o:=fun b o e=>(I.bs b o e).1
theorem Inv.mod (I : Inv X pins σ H s) : Mod X.K X.mg X.base:=I.ok.mod
theorem Inv.kIn (I : Inv X pins σ H s) : X.K.In s.heap:=I.ok.mod.kin.keeps I.bk
theorem Inv.lt (I : Inv X pins σ H s) : X.env.locals < s.heap.objs.size:=let ⟨_,hn,_⟩:=I.loc; hn.lt
theorem Inv.sz (I : Inv X pins σ H s) : X.s₀.heap.objs.size ≤ s.heap.objs.size:=Nat.le_trans I.ok.above (Nat.le_of_lt I.lt)
theorem Inv.nofs (I : Inv X pins σ H s) {a : Addr} (h : s.heap.objs.size ≤ a) : a ∉ X.fs:=fun hb=>by
  obtain ⟨_,o,ho,_⟩:=I.ok.funs.mem hb
  exact absurd (Nat.lt_of_lt_of_le (Heap.lt_size ho) (Nat.le_trans I.sz h)) (Nat.lt_irrefl _)
theorem Inv.cne (I : Inv X pins σ H s) : ∀ x c,X.env.cells.lookup x = some c → c ≠ X.env.locals:=fun x c e z=>by
  obtain ⟨v,o,ho,hd⟩:=I.cell x c e
  obtain ⟨m,⟨o',es,ep,ho',hd',_⟩,_⟩:=I.loc
  rw [z,ho'] at ho; cases ho; rw [hd'] at hd; cases hd
theorem Inv.funs (I : Inv X pins σ H s) : s.heap.FunFrames X.base X.outer:=by
  have all : ∀ (l : List Env),(∀ b ∈ frs l,b ∈ X.fs) → X.s₀.heap.FunFrames X.base l → s.heap.FunFrames X.base l:=by
    intro l
    induction l with
    | nil=>intro _ _; trivial
    | cons env r ih =>
      intro hs hl
      obtain ⟨hk,⟨L,o,hf,hn,ho,hd⟩,hr⟩:=hl
      have hL : L ∈ X.fs:=hs L (by unfold frs; rw [List.filterMap_cons,hf]; exact List.mem_cons_self)
      obtain ⟨sl,e⟩:=I.base.slot L o ho (I.ok.frf L hL) hL fun z=>I.ok.exfs L z hL
      exact ⟨hk,⟨L,_,hf,hn,e,hd⟩,ih (fun b hb=>hs b (by unfold frs; rw [List.filterMap_cons,hf]; exact List.mem_cons_of_mem _ hb)) hr⟩
  exact all X.outer (fun _ hb=>hb) I.ok.funs
theorem Inv.stack (I : Inv X pins σ H s) : s.heap.FunFrames X.base X.stack:=by
  rcases I.ok.stk with e | ⟨e,hf⟩
  · rw [e]; exact I.funs
  · rw [e]
    obtain ⟨m,hn,_⟩:=I.loc
    refine .cons (by rw [I.ok.kind]; decide) hf hn ?_ I.funs
    exact Heap.get?_none_of_le (Nat.le_trans I.ok.bsz I.ok.above)
theorem Inv.stkSub (I : Inv X pins σ H s) : ∀ b ∈ frs X.stack,b ∈ X.env.locals :: X.fs:=fun b hb=>by
  rcases I.ok.stk with e | ⟨e,hf⟩
  · rw [e] at hb; exact List.mem_cons_of_mem _ hb
  · rw [e] at hb
    unfold frs at hb
    rw [List.filterMap_cons,hf] at hb
    exact hb
theorem Inv.stkFree (I : Inv X pins σ H s) : ∀ b ∈ frs X.stack,H b = none:=fun b hb=>by
  rcases List.mem_cons.mp (I.stkSub b hb) with e | hb
  · rw [e]; exact I.free
  · obtain ⟨_,o,ho,_⟩:=I.ok.funs.mem hb
    exact I.base.free b o ho (I.ok.frf b hb) fun z=>I.ok.exfs b z hb
theorem Inv.step {g' : Array GenState} {t' : Nat} {d' : Drawn} {ch : List Addr} (I : Inv X pins σ H s)
    (hch : ∀ b ∈ ch,(b ∈ X.ex ∨ X.s₀.heap.objs.size ≤ b) ∧ b ≠ X.env.locals ∧ (∀ x c,X.env.cells.lookup x = some c → c ≠ b) ∧ ∀ p ∈ X.pn ++ pins,p.1 ≠ b)
    (keep : ∀ b o,b ≠ X.env.locals → b ∉ X.fs → b ∉ ch → s.heap.get? b = some o → H b = none → h'.get? b = some o)
    (slot : ∀ b o,b ≠ X.env.locals → b ∈ X.fs → b ∉ ch → s.heap.get? b = some o → H b = none → ∃ sl,h'.get? b = some { o with slots:=sl }) (free : ∀ b o,b ∉ ch → s.heap.get? b = some o → H b = none → H' b = none)
    (there : ∀ b o,b ∉ ch → s.heap.get? b = some o → ∃ o',h'.get? b = some o')
    (tups : ∀ b xs,H b = some (.tup xs) → H' b = some (.tup xs)) (frzs : ∀ b o u,H b = some (.frz o u) → H' b = some (.frz o u)) (tbls : ∀ b ps,H b = some (.tbl ps) → ∃ more,H' b = some (.tbl (ps ++ more)))
    (ns : ∀ m,s.heap.Ns X.env.locals m → h'.Ns X.env.locals m) (hok : HOk X.prog X.w H' h') (hg : AllBare g') :
    Inv X pins σ H' { s with heap:=h',gens:=g',drawn:=d',toks:=t' }:=by
  have neL : ∀ b o,X.s₀.heap.get? b = some o → b ≠ X.env.locals:=fun b o e=>Nat.ne_of_lt (Nat.lt_of_lt_of_le (Heap.lt_size e) I.ok.above)
  have neC : ∀ b o,X.s₀.heap.get? b = some o → b ∉ X.ex → b ∉ ch:=fun b o e hx hb=>by
    rcases (hch b hb).1 with z | z
    · exact hx z
    · exact absurd (Nat.lt_of_lt_of_le (Heap.lt_size e) z) (Nat.lt_irrefl _)
  have cellK : ∀ x c,X.env.cells.lookup x = some c → ∀ v,s.heap.IsCell c v → h'.IsCell c v:=fun x c e v ⟨o,ho,hd⟩=>by
    have nch : c ∉ ch:=fun z=>(hch c z).2.2.1 x c e rfl
    by_cases hc : c ∈ X.fs
    · obtain ⟨sl,q⟩:=slot c o (I.cne x c e) hc nch ho (I.freeC x c e)
      exact ⟨_,q,hd⟩
    · exact ⟨o,keep c o (I.cne x c e) hc nch ho (I.freeC x c e),hd⟩
  refine ⟨I.ok,I.os,hg,⟨fun b o e n hb hx=>?_,fun b o e n hb hx=>?_,fun b o e n hx=>?_,fun b o e hx=>?_,fun b xs e=>tups b xs (I.base.tups b xs e),fun b o xs e=>frzs b o xs (I.base.frzs b o xs e),fun b ps e=>?_⟩,?_,fun x c e=>?_,?_,fun x c e=>?_,fun p hp=>?_,hok,I.len⟩
  · exact keep b o (neL b o e) hb (neC b o e hx) (I.base.keep b o e n hb hx) (I.base.free b o e n hx)
  · obtain ⟨sl,e1⟩:=I.base.slot b o e n hb hx
    obtain ⟨sl',e2⟩:=slot b _ (neL b o e) hb (neC b o e hx) e1 (I.base.free b o e n hx)
    exact ⟨sl',e2⟩
  · obtain ⟨o',e1⟩:=I.base.there b o e hx
    exact free b o' (neC b o e hx) e1 (I.base.free b o e n hx)
  · obtain ⟨o',e1⟩:=I.base.there b o e hx
    exact there b o' (neC b o e hx) e1
  · obtain ⟨m1,e1⟩:=I.base.tbls b ps e
    obtain ⟨m2,e2⟩:=tbls b _ e1
    exact ⟨m1 ++ m2,by rw [e2,Array.append_assoc]⟩
  · obtain ⟨m,hn,hl⟩:=I.loc
    refine ⟨m,ns m hn,fun i x v e1 e2 e3=>?_⟩
    obtain ⟨u,r,l⟩:=hl i x v e1 e2 e3
    refine ⟨u,r,?_⟩
    rcases l with l | ⟨k,c,e,z⟩
    · exact .inl l
    · exact .inr ⟨k,c,e,cellK x c e _ z⟩
  · obtain ⟨v,z⟩:=I.cell x c e
    exact ⟨v,cellK x c e v z⟩
  · obtain ⟨m,⟨o,_,_,ho,_⟩,_⟩:=I.loc
    exact free _ o (fun z=>(hch _ z).2.1 rfl) ho I.free
  · obtain ⟨v,o,ho,hd⟩:=I.cell x c e
    exact free c o (fun z=>(hch c z).2.2.1 x c e rfl) ho (I.freeC x c e)
  · obtain ⟨e,n,ne,nf,d⟩:=I.pin p hp
    have nch : p.1 ∉ ch:=fun z=>(hch p.1 z).2.2.2 p hp rfl
    exact ⟨keep p.1 p.2 ne nf nch e n,free p.1 p.2 nch e n,ne,nf,d⟩
theorem Inv.un {t' : Nat} (I : Inv X pins σ H s) (u : Un X.fs [] H H' s.heap h') (hok : HOk X.prog X.w H' h') : Inv X pins σ H' { s with heap:=h',toks:=t' }:=by
  obtain ⟨m,⟨o,es,ep,ho,r⟩,_⟩:=id I.loc
  obtain ⟨sl,hL⟩:=u.any ho I.free (by simp)
  exact I.step (g':=s.gens) (d':=s.drawn) (ch:=[]) (fun _ z=>nomatch z) (fun b o _ hb _ e n=>u.keep b o e n hb (by simp)) (fun b o _ hb _ e n=>u.slot b o e n hb (by simp)) (fun b o _ e n=>u.free b o e n (by simp)) (fun b o _ e=>u.there b o e (by simp)) u.tups u.frzs u.tbls (fun m' hm=>by
    obtain ⟨o',es',ep',ho',r'⟩:=hm
    rw [ho] at ho'; cases ho'
    exact ⟨_,es',ep',hL,r'⟩) hok I.bare
theorem Inv.call {g' : Array GenState} {t' : Nat} {d' : Drawn} {ch : List Addr} (I : Inv X pins σ H s) (u : Un (frs X.stack) ch H H' s.heap h') (hok : HOk X.prog X.w H' h') (hg : AllBare g')
    (hch : ∀ b ∈ ch,(b ∈ X.ex ∨ X.s₀.heap.objs.size ≤ b) ∧ b ≠ X.env.locals ∧ (∀ x c,X.env.cells.lookup x = some c → c ≠ b) ∧ ∀ p ∈ X.pn ++ pins,p.1 ≠ b) :
    Inv X pins σ H' { s with heap:=h',gens:=g',drawn:=d',toks:=t' }:=by
  obtain ⟨m,⟨o,es,ep,ho,r⟩,_⟩:=id I.loc
  obtain ⟨sl,hL⟩:=u.any ho I.free fun z=>(hch _ z).2.1 rfl
  exact I.step (ch:=ch) hch (fun b o hL hb hc e n=>u.keep b o e n (fun z=>(List.mem_cons.mp (I.stkSub b z)).elim hL hb) hc) (fun b o _ _ hc e n=>u.any e n hc) (fun b o hc e n=>u.free b o e n hc) (fun b o hc e=>u.there b o e hc) u.tups u.frzs u.tbls (fun m' hm=>by
    obtain ⟨o',es',ep',ho',r'⟩:=hm
    rw [ho] at ho'; cases ho'
    exact ⟨_,es',ep',hL,r'⟩) hok hg
theorem Inv.turned {t' : Nat} {it : Addr} (I : Inv X pins σ H s) (k : ∀ b o,b ≠ it → s.heap.get? b = some o → h'.get? b = some o) (hn : H it = none) (hL : it ≠ X.env.locals)
    (h1 : it ∈ X.ex ∨ X.s₀.heap.objs.size ≤ it) (h2 : ∀ x c,X.env.cells.lookup x = some c → c ≠ it) (h3 : ∀ p ∈ X.pn ++ pins,p.1 ≠ it) : Inv X pins σ H { s with heap:=h',toks:=t' }:=by
  have nit : ∀ b u,H b = some u → b ≠ it:=fun b u e z=>by rw [z,hn] at e; cases e
  refine I.step (g':=s.gens) (d':=s.drawn) (ch:=[it]) (fun b hb=>?_) (fun b o _ _ hc e _=>k b o (fun z=>hc (by simp [z])) e) (fun b o _ _ hc e _=>⟨o.slots,k b o (fun z=>hc (by simp [z])) e⟩) (fun _ _ _ _ n=>n)
    (fun b o hc e=>⟨o,k b o (fun z=>hc (by simp [z])) e⟩) (fun _ _ e=>e) (fun _ _ _ e=>e) (fun b ps e=>⟨#[],by rw [e]; simp⟩) (fun m hm=>?_) (fun b u e=>?_) I.bare
  · have e : b = it:=by simpa using hb
    subst e
    exact ⟨h1,hL,h2,h3⟩
  · obtain ⟨o,es,ep,ho,r⟩:=hm
    exact ⟨o,es,ep,k _ o (Ne.symm hL) ho,r⟩
  · refine (I.hok b u e).stay (fun c v hc q=>k c v ?_ q) (fun _ q=>q) fun _ _ q=>q
    rcases hc with z | z
    · rw [z]; exact nit b u e
    · exact nit c _ z
theorem Inv.tok (I : Inv X pins σ H s) (t : Nat) : Inv X pins σ H { s with toks:=t }:=I.un (h':=s.heap) (t':=t) Un.refl I.hok
theorem Inv.kept {t' : Nat} (I : Inv X pins σ H s) (k : ∀ b u,s.heap.get? b = some u → h'.get? b = some u) : Inv X pins σ H { s with heap:=h',toks:=t' }:=I.un (Un.kept k) (I.hok.kept k)
theorem Inv.laid {a : Addr} {o : HO} {t' : Nat} (I : Inv X pins σ H s) (k : ∀ b u,s.heap.get? b = some u → h'.get? b = some u) (hp : s.heap.objs.size ≤ a) (new : ObjOk X.prog X.w (upd H a o) h' a o) :
    Inv X pins σ (upd H a o) { s with heap:=h',toks:=t' }:=I.un (Un.laid k hp (I.hok.fresh hp)) (I.hok.laid k hp new)
theorem Inv.write {x e : Addr} {o : HO} {t' : Nat} (I : Inv X pins σ H s) (mu : Mut (H x)) (he : e = x ∨ H e = some (.own x)) (k : ∀ b u,b ≠ e → s.heap.get? b = some u → h'.get? b = some u) (heo : ∃ u,h'.get? e = some u)
    (new : ObjOk X.prog X.w (upd H x o) h' x o) : Inv X pins σ (upd H x o) { s with heap:=h',toks:=t' }:=I.un (Un.write mu he k heo) (I.hok.write mu he k heo new)
theorem Inv.weak {σ' : List (Option V)} (I : Inv X pins σ H s) (hl : σ'.length = σ.length) (w : ∀ (i : Nat) v,σ'[i]? = some (some v) → σ[i]? = some (some v)) : Inv X pins σ' H s :=
  ⟨I.ok,I.os,I.bare,I.base,let ⟨m,hn,hl'⟩:=I.loc; ⟨m,hn,fun i x v e1 e2 e3=>hl' i x v e1 (w i v e2) e3⟩,I.cell,I.free,I.freeC,I.pin,I.hok,hl.trans I.len⟩
theorem Inv.pins_of {pins' : List (Addr × Obj)} (I : Inv X pins σ H s) (h : ∀ p ∈ pins',s.heap.get? p.1 = some p.2 ∧ H p.1 = none ∧ p.1 ≠ X.env.locals ∧ p.1 ∉ X.fs ∧ ∀ v,p.2.data ≠ .cell v) : Inv X pins' σ H s :=
  ⟨I.ok,I.os,I.bare,I.base,I.loc,I.cell,I.free,I.freeC,fun p hp=>(List.mem_append.mp hp).elim (fun z=>I.pin p (List.mem_append_left _ z)) (h p),I.hok,I.len⟩
theorem nodup_ix {N : List Str} (hN : N.Nodup) {i j : Nat} {x : Str} (a : N[i]? = some x) (b : N[j]? = some x) : i = j:=by
  obtain ⟨h1,e1⟩:=List.getElem?_eq_some_iff.mp a
  obtain ⟨h2,e2⟩:=List.getElem?_eq_some_iff.mp b
  exact (List.getElem_inj hN).mp (e1.trans e2.symm)
theorem store_ok2 {M : Model} {A : Around} {E : Value → Shared → Prop} {i : Nat} {x : Str} {v : V} {u : Value} {Q : Unit → Shared → Prop} (I : Inv X pins σ H s) (hN : X.N.Nodup) (hi : X.N[i]? = some x) (hx : Loc X.env.scope x) (r : RelV v u)
    (h : ∀ s',Inv X pins (σ.set i (some v)) H s' → (∃ a,Heap.SameBut a s.heap s'.heap ∧ (a = X.env.locals ∨ X.env.cells.lookup x = some a)) → Q () s') (hf : X.fn x = true ∨ X.env.scope.names.lookup x = some .local:=by first | exact .inl rfl | exact .inr rfl | assumption) : wpAny M A (storeName X.env x u) Q E s:=by
  obtain ⟨m,hn,hl⟩:=id I.loc
  have hcls : (X.env.scope.kind == .class || (X.env.scope.kind == .module && X.env.locals != X.env.globals)) = false:=by rw [I.ok.kind]; rfl
  have hiσ : i < σ.length:=by rw [I.len]; exact (List.getElem?_eq_some_iff.mp hi).1
  have cne:=I.cne
  have tracked : ∀ {a : Addr} {h' : Heap},(∃ o,s.heap.get? a = some o ∧ H a = none) → Heap.SameBut a s.heap h' → HOk X.prog X.w H h':=fun {a h'} ha hs b ob e=>by
    obtain ⟨_,_,hfree⟩:=ha
    refine (I.hok b ob e).stay (fun c w' hc q=>(hs.2 c ?_).trans q) (fun _ q=>q) fun _ _ q=>q
    rintro rfl
    rcases hc with rfl | hc
    · rw [hfree] at e; cases e
    · rw [hfree] at hc; cases hc
  rcases hx with hk | hk
  · refine wpAny_storeName_local hk hn (fun h' hn' hs=>?_) hcls
    obtain ⟨oL,_,_,hoL,_⟩:=id hn
    refine h _ ⟨I.ok,I.os,I.bare,⟨fun b o e n hb hx=>?_,fun b o e n hb hx=>?_,I.base.free,fun b o e hx=>?_,I.base.tups,I.base.frzs,I.base.tbls⟩,⟨_,hn',fun j y v' e1 e2 e3=>?_⟩,fun y c e=>?_,I.free,I.freeC,fun p hp=>?_,tracked ⟨oL,hoL,I.free⟩ hs,by simpa using I.len⟩ ⟨_,hs,.inl rfl⟩
    · exact (hs.2 b (Nat.ne_of_lt (Nat.lt_of_lt_of_le (Heap.lt_size e) I.ok.above))).trans (I.base.keep b o e n hb hx)
    · obtain ⟨sl,e1⟩:=I.base.slot b o e n hb hx
      exact ⟨sl,(hs.2 b (Nat.ne_of_lt (Nat.lt_of_lt_of_le (Heap.lt_size e) I.ok.above))).trans e1⟩
    · obtain ⟨o',e1⟩:=I.base.there b o e hx
      exact ⟨o',(hs.2 b (Nat.ne_of_lt (Nat.lt_of_lt_of_le (Heap.lt_size e) I.ok.above))).trans e1⟩
    · by_cases hj : j = i
      · subst hj
        rw [hi] at e1; cases e1
        rw [List.getElem?_set_self hiσ] at e2
        cases e2
        exact ⟨u,r,.inl ⟨hk,by simp⟩⟩
      · rw [List.getElem?_set_ne (Ne.symm hj)] at e2
        obtain ⟨u',r',q⟩:=hl j y v' e1 e2 e3
        refine ⟨u',r',?_⟩
        rcases q with ⟨k,e⟩ | ⟨k,c,e,z⟩
        · refine .inl ⟨k,?_⟩
          have : y ≠ x:=fun e=>hj (nodup_ix hN e1 (e ▸ hi))
          simp [this,e]
        · exact .inr ⟨k,c,e,z.sameBut hs (cne y c e)⟩
    · obtain ⟨w',z⟩:=I.cell y c e
      exact ⟨w',z.sameBut hs (cne y c e)⟩
    · obtain ⟨e,n,ne,nf,d⟩:=I.pin p hp
      exact ⟨(hs.2 p.1 ne).trans e,n,ne,nf,d⟩
  · have hfn : X.fn x = true:=by
      rcases hf with z | z
      · exact z
      · rw [z] at hk; cases hk
    obtain ⟨c,hc⟩:=I.ok.has x (.inl hk)
    obtain ⟨w',z⟩:=I.cell x c hc
    refine wpAny_storeName_cell I.ok.kind hk hc z (fun h' hc' hs=>?_)
    obtain ⟨oc,hoc,hocd⟩:=id z
    refine h { s with heap:=h' } ⟨I.ok,I.os,I.bare,⟨fun b o e n hb hx=>?_,fun b o e n hb hx=>?_,I.base.free,fun b o e hx=>?_,I.base.tups,I.base.frzs,I.base.tbls⟩,⟨m,hn.sameBut hs (Ne.symm (cne x c hc)),fun j y v' e1 e2 e3=>?_⟩,fun y c' e=>?_,I.free,I.freeC,fun p hp=>?_,tracked ⟨oc,hoc,I.freeC x c hc⟩ hs,by simpa using I.len⟩ ⟨c,hs,.inr hc⟩
    · exact (hs.2 b (Nat.ne_of_lt (Nat.lt_of_lt_of_le (Heap.lt_size e) (I.ok.cab x c hfn hc)))).trans (I.base.keep b o e n hb hx)
    · obtain ⟨sl,e1⟩:=I.base.slot b o e n hb hx
      exact ⟨sl,(hs.2 b (Nat.ne_of_lt (Nat.lt_of_lt_of_le (Heap.lt_size e) (I.ok.cab x c hfn hc)))).trans e1⟩
    · obtain ⟨o',e1⟩:=I.base.there b o e hx
      exact ⟨o',(hs.2 b (Nat.ne_of_lt (Nat.lt_of_lt_of_le (Heap.lt_size e) (I.ok.cab x c hfn hc)))).trans e1⟩
    · by_cases hj : j = i
      · subst hj
        rw [hi] at e1; cases e1
        rw [List.getElem?_set_self hiσ] at e2
        cases e2
        exact ⟨u,r,.inr ⟨.inl hk,c,hc,hc'⟩⟩
      · rw [List.getElem?_set_ne (Ne.symm hj)] at e2
        obtain ⟨u',r',q⟩:=hl j y v' e1 e2 e3
        refine ⟨u',r',?_⟩
        rcases q with q | ⟨k,c',e,z'⟩
        · exact .inl q
        · refine .inr ⟨k,c',e,z'.sameBut hs ?_⟩
          rintro rfl
          exact hj (nodup_ix hN e1 (I.ok.inj _ _ _ e hc ▸ hi))
    · by_cases hcc : c' = c
      · subst hcc; exact ⟨_,hc'⟩
      · obtain ⟨w2,z2⟩:=I.cell y c' e
        exact ⟨w2,z2.sameBut hs hcc⟩
    · obtain ⟨e,n,ne,nf,d⟩:=I.pin p hp
      refine ⟨(hs.2 p.1 ?_).trans e,n,ne,nf,d⟩
      intro q
      rw [q,hoc] at e
      have q' : oc = p.2:=Option.some.inj e
      exact d w' (by rw [← q']; exact hocd)
theorem store_ok {M : Model} {A : Around} {E : Value → Shared → Prop} {i : Nat} {x : Str} {v : V} {u : Value} {Q : Unit → Shared → Prop} (I : Inv X pins σ H s) (hN : X.N.Nodup) (hi : X.N[i]? = some x) (hx : Loc X.env.scope x) (r : RelV v u)
    (h : ∀ s',Inv X pins (σ.set i (some v)) H s' → Q () s') (hf : X.fn x = true ∨ X.env.scope.names.lookup x = some .local:=by first | exact .inl rfl | exact .inr rfl | assumption) : wpAny M A (storeName X.env x u) Q E s :=
  store_ok2 I hN hi hx r (fun s' I' _=>h s' I') hf
theorem Inv.call' {s' : Shared} {ch : List Addr} (I : Inv X pins σ H s) (ho : s'.os = s.os) (u : Un (frs X.stack) ch H H' s.heap s'.heap) (hok : HOk X.prog X.w H' s'.heap) (hg : AllBare s'.gens)
    (hch : ∀ b ∈ ch,(b ∈ X.ex ∨ X.s₀.heap.objs.size ≤ b) ∧ b ≠ X.env.locals ∧ (∀ x c,X.env.cells.lookup x = some c → c ≠ b) ∧ ∀ p ∈ X.pn ++ pins,p.1 ≠ b) : Inv X pins σ H' s':=by
  obtain ⟨h',g',d',t',o'⟩:=s'
  have e : o' = s.os:=ho
  subst e
  exact I.call (g':=g') (t':=t') (d':=d') u hok hg hch
end
abbrev XK:=Value → Option Addr → Hp → Prop
abbrev St:=List (Option V)
abbrev VK:=V → Hp → Prop
abbrev TE:=St → Hp → VK → Prop
abbrev TT:=St → Hp → (Bool → Hp → Prop) → Prop
abbrev TA:=St → Hp → (List V → Hp → Prop) → Prop
structure Ends where
  nx : St → Hp → Prop
  rt : VK
  bk : St → Hp → Prop:=fun _ _=>False
  ct : St → Hp → Prop:=fun _ _=>False
abbrev TS:=Ends → St → Hp → Prop
def EP (X : Cx) (pins : List (Addr × Obj)) (σ : St) (Q : VK) (u : Value) (s' : Shared) : Prop:=∃ v H',Inv X pins σ H' s' ∧ RelV v u ∧ Q v H'
def TP (X : Cx) (pins : List (Addr × Obj)) (σ : St) (Q : Bool → Hp → Prop) (b : Bool) (s' : Shared) : Prop:=∃ H',Inv X pins σ H' s' ∧ Q b H'
def AP (X : Cx) (pins : List (Addr × Obj)) (σ : St) (Q : List V → Hp → Prop) (us : List Value) (s' : Shared) : Prop:=∃ vs H',Inv X pins σ H' s' ∧ Vals vs us ∧ Q vs H'
def SP (X : Cx) (pins : List (Addr × Obj)) (D : Ends) (f : Flow) (s' : Shared) : Prop :=
  match f with
  | .next=>∃ σ' H',Inv X pins σ' H' s' ∧ D.nx σ' H'
  | .brk=>∃ σ' H',Inv X pins σ' H' s' ∧ D.bk σ' H'
  | .cont=>∃ σ' H',Inv X pins σ' H' s' ∧ D.ct σ' H'
  | .ret u=>∃ v σ' H',Inv X pins σ' H' s' ∧ RelV v u ∧ D.rt v H'
def PE (X : Cx) (e : Expr) (t : TE) : Prop :=
  ∀ (pins : List (Addr × Obj)) (s : Shared) (σ : St) (H : Hp) (Q : VK),Inv X pins σ H s → t σ H Q → wpAny (model X.prog X.w) X.A (eval e X.env) (EP X pins σ Q) X.xe s
def PT (X : Cx) (e : Expr) (t : TT) : Prop :=
  ∀ (pins : List (Addr × Obj)) (s : Shared) (σ : St) (H : Hp) (Q : Bool → Hp → Prop),Inv X pins σ H s → t σ H Q → wpAny (model X.prog X.w) X.A (isTrue e X.env (eval e X.env)) (TP X pins σ Q) X.xe s
def PW (X : Cx) (e : Expr) (t : TT) : Prop :=
  ∀ (whole : Sem Value) (pins : List (Addr × Obj)) (s : Shared) (σ : St) (H : Hp) (Q : Bool → Hp → Prop),Inv X pins σ H s → t σ H Q → wpAny (model X.prog X.w) X.A (isTrue e X.env whole) (TP X pins σ Q) X.xe s
theorem PW.pt {X : Cx} {e : Expr} {t : TT} (h : PW X e t) : PT X e t:=h _
def PA (X : Cx) (es : List Expr) (t : TA) : Prop :=
  ∀ (pos : Pos) (pins : List (Addr × Obj)) (s : Shared) (σ : St) (H : Hp) (Q : List V → Hp → Prop),Inv X pins σ H s → t σ H Q → wpAny (model X.prog X.w) X.A (spliced (backTo pos (starEach es X.env))) (AP X pins σ Q) X.xe s
def PS (X : Cx) (st : Stmt) (t : TS) : Prop :=
  ∀ (pins : List (Addr × Obj)) (s : Shared) (σ : St) (H : Hp) (D : Ends),Inv X pins σ H s → t D σ H → wpAny (model X.prog X.w) X.A (exec st X.env) (SP X pins D) X.xe s
def PSs (X : Cx) (st : List Stmt) (t : TS) : Prop :=
  ∀ (pins : List (Addr × Obj)) (s : Shared) (σ : St) (H : Hp) (D : Ends),Inv X pins σ H s → t D σ H → wpAny (model X.prog X.w) X.A (execs st X.env) (SP X pins D) X.xe s
theorem thn {α : Type} {t : Sem α} {Q Q' : α → Shared → Prop} {M : Model} {A : Around} {E : Value → Shared → Prop} {s : Shared} (h : wpAny M A t Q E s) (hQ : ∀ a s,Q a s → Q' a s) : wpAny M A t Q' E s:=wpAny_mono h hQ fun _ _ x=>x
end L2
namespace L2
open PySem PySem.Spec PyProof.Rows
section
variable {X : Cx}
def tVar (i : Nat) : TE:=fun σ H Q=>∃ v,σ[i]? = some (some v) ∧ Q v H
def tC (v : V) : TE:=fun _ H Q=>Q v H
theorem pe_var {i : Nat} {x : Str} {pos : Pos} (hN : X.N[i]? = some x) (hv : Vis X.env.scope x) (hd : (x == ("__debug__" : Str)) = false:=by decide) (hcd : (x == ("__classdict__" : Str)) = false:=by decide) : PE X (.Name x pos) (tVar i):=by
  intro pins s σ H Q I h
  obtain ⟨v,e,h⟩:=h
  obtain ⟨m,hn,hl⟩:=I.loc
  obtain ⟨u,r,l⟩:=hl i x v hN e hv
  have fin : EP X pins σ Q u s:=⟨v,H,I,r,h⟩
  rcases l with ⟨hk,hm⟩ | ⟨hk,c,hc,hcell⟩
  · exact wpAny_Name (wpAny_loadName_local I.ok.kind hk hn hm fin) hd
  · rcases hk with hk | hk
    · exact wpAny_Name (wpAny_loadName_cell I.ok.kind hk hc hcell fin) hd
    · exact wpAny_Name (wpAny_loadName_free I.ok.kind hk hc hcell fin hcd) hd
theorem pe_int {i j pos} : PE X (.Constant (.int i) j pos) (tC (.int i)):=fun _ _ _ H _ I h=>wpAny_Constant_int ⟨.int i,H,I.tok _,⟨_,rfl⟩,h⟩
theorem pe_bl {b j pos} : PE X (.Constant (.bool b) j pos) (tC (.bl b)):=fun _ _ _ H _ I h=>Constant_bool ⟨.bl b,H,I,rfl,h⟩
theorem pe_non {j pos} : PE X (.Constant .none j pos) (tC .non):=fun _ _ _ H _ I h=>Constant_none ⟨.non,H,I,rfl,h⟩
theorem pe_str {x j pos} : PE X (.Constant (.str x) j pos) (tC (.str x)):=fun _ _ _ H _ I h=>Calls.Constant_str ⟨.str x,H,I.tok _,⟨_,rfl⟩,h⟩
def Gl (X : Cx) (x : Str) : Prop:=X.env.kindOf x = some .globalImplicit
theorem ld_glob {E : Value → Shared → Prop} {pins : List (Addr × Obj)} {s : Shared} {σ : St} {H : Hp} {x : Str} {u : Value} {pos : Pos} {Q : Value → Shared → Prop} (I : Inv X pins σ H s) (hg : Gl X x) (hm : X.mg x = some u) (h : Q u s)
    (hd : (x == ("__debug__" : Str)) = false:=by decide) : wpAny (model X.prog X.w) X.A (eval (.Name x pos) X.env) Q E s :=
  Calls.Name_function_global I.ok.kind hg (Calls.loadGlobal_global (by rw [I.ok.glob]; exact I.mod.glob.keeps I.bk) hm h) hd
theorem ld_blt {E : Value → Shared → Prop} {pins : List (Addr × Obj)} {s : Shared} {σ : St} {H : Hp} {x : Str} {u : Value} {pos : Pos} {Q : Value → Shared → Prop} (I : Inv X pins σ H s) (hg : Gl X x) (hm : X.mg x = none) (hv : bootBuiltins x = some u) (h : Q u s)
    (hn : x ≠ "__name__":=by decide) (hd : (x == ("__debug__" : Str)) = false:=by decide) : wpAny (model X.prog X.w) X.A (eval (.Name x pos) X.env) Q E s:=by
  obtain ⟨mb,h1,h2⟩:=I.mod.blt
  exact Calls.Name_function_global I.ok.kind hg (Calls.loadGlobal_builtin (by rw [I.ok.glob]; exact I.mod.glob.keeps I.bk) hm (by rw [I.ok.blt]; exact h1.keeps I.bk) ((h2 x hn).trans hv) h) hd
theorem pe_glob {x : Str} {v : V} {u : Value} {pos : Pos} (hg : Gl X x) (hm : X.mg x = some u) (r : RelV v u) (hd : (x == ("__debug__" : Str)) = false:=by decide) : PE X (.Name x pos) (tC v) :=
  fun _ _ _ H _ I h=>ld_glob I hg hm ⟨v,H,I,r,h⟩ hd
theorem pe_bltn {x : Str} {v : V} {u : Value} {pos : Pos} (hg : Gl X x) (hm : X.mg x = none) (hv : bootBuiltins x = some u) (r : RelV v u) (hn : x ≠ "__name__":=by decide) (hd : (x == ("__debug__" : Str)) = false:=by decide) : PE X (.Name x pos) (tC v) :=
  fun _ _ _ H _ I h=>ld_blt I hg hm hv ⟨v,H,I,r,h⟩ hn hd
variable {a b : Expr} {ta tb : TE} {pos : Pos}
def tB (t : TE) : TT:=fun σ H Q=>t σ H fun x H1=>∃ c,x = .bl c ∧ Q c H1
theorem pt_val {e : Expr} {t : TE} (h : PE X e t) (he : ∀ whole,isTrue e X.env whole = (do let v ← whole; standAt e.pos; holding [v] (truthy v)):=by intro _; rfl) : PT X e (tB t):=by
  intro pins s σ H Q I hw
  refine isTrue_plain (thn (h pins s σ H _ I hw) fun v s1 ⟨x,H1,I1,r1,q1⟩=>?_) (he _)
  obtain ⟨d,rfl,q⟩:=q1
  cases r1
  exact wpAny_truthy_bool ⟨H1,I1,q⟩
variable {tA tB' : TT} {rest : List Expr}
def tOr (t u : TT) : TT:=fun σ H Q=>t σ H fun c H1=>if c = true then Q true H1 else u σ H1 Q
def tNot (t : TT) : TT:=fun σ H Q=>t σ H fun c H1=>Q (!c) H1
theorem pw_or1 (ha : PT X a tA) : PW X (.BoolOp .Or [a] pos) tA:=by
  intro wh pins s σ H Q I h
  refine isTrue_or (thn (ha pins s σ H Q I h) fun c s1 e=>?_)
  cases c with
  | false=>exact isTrue_or_nil e
  | true=>exact e
theorem pw_or (ha : PT X a tA) (hb : PW X (.BoolOp .Or (b :: rest) pos) tB') : PW X (.BoolOp .Or (a :: b :: rest) pos) (tOr tA tB'):=by
  intro wh pins s σ H Q I h
  refine isTrue_or (thn (ha pins s σ H _ I h) fun c s1 ⟨H1,I1,q1⟩=>?_)
  cases c with
  | true=>exact ⟨H1,I1,q1⟩
  | false=>exact hb wh pins s1 σ H1 Q I1 q1
theorem pt_not (ha : PT X a tA) : PT X (.UnaryOp .Not a pos) (tNot tA):=by
  intro pins s σ H Q I h
  exact isTrue_not (ha pins s σ H (fun c H1=>Q (!c) H1) I h)
def tAndV (ta tb : TE) : TE:=fun σ H Q=>ta σ H fun x H1=>∃ c,x = .bl c ∧ if c = true then tb σ H1 Q else Q (.bl false) H1
def tNotV (ta : TE) : TE:=fun σ H Q=>ta σ H fun x H1=>∃ c,x = .bl c ∧ Q (.bl (!c)) H1
theorem pe_one {op} {t : TE} (h : PE X a t) : PE X (.BoolOp op [a] pos) t:=fun pins s σ H Q I hw=>BoolOp_one (h pins s σ H Q I hw)
theorem pe_and (ha : PE X a ta) (hb : PE X (.BoolOp .And (b :: rest) pos) tb) : PE X (.BoolOp .And (a :: b :: rest) pos) (tAndV ta tb):=by
  intro pins s σ H Q I h
  refine BoolOp_and (thn (ha pins s σ H _ I h) fun v s1 ⟨x,H1,I1,r1,q1⟩=>?_)
  obtain ⟨c,rfl,q1⟩:=q1
  cases r1
  refine wpAny_truthy_bool ?_
  cases c with
  | true=>exact hb pins s1 σ H1 Q I1 q1
  | false=>exact ⟨.bl false,H1,I1,rfl,q1⟩
theorem pe_not (ha : PE X a ta) : PE X (.UnaryOp .Not a pos) (tNotV ta):=by
  intro pins s σ H Q I h
  refine UnaryOp_ (thn (ha pins s σ H _ I h) fun v s1 ⟨x,H1,I1,r1,q1⟩=>?_)
  obtain ⟨c,rfl,q1⟩:=q1
  cases r1
  exact not_of (wpAny_truthy_bool ⟨.bl (!c),H1,I1,rfl,q1⟩)
end
end L2
namespace L2
open PySem PySem.Spec PyProof.Rows
def SqL (K : PySem.W.Frag) (H : Hp) (a : Addr) (xs : List V) : Prop :=
  Rd H a (.lst xs) ∨
    ∃ (o : Obj) (its : Array Value) (n : Nat),K.lookup a = some o ∧ o.cls = .type "list" ∧ o.dict = none ∧ o.data = .seq its n ∧ its.size ≤ sizeLine ∧ Vals xs its.toList
def SqT (K : PySem.W.Frag) (H : Hp) (a : Addr) (xs : List V) : Prop :=
  Rd H a (.tup xs) ∨
    ∃ (o : Obj) (its : Array Value) (n : Nat),K.lookup a = some o ∧ o.cls = .type "tuple" ∧ o.data = .seq its n ∧ its.size ≤ sizeLine ∧ Vals xs its.toList
def absV : Value → Option V
  | .none=>some .non
  | .bool b=>some (.bl b)
  | .int i _=>some (.int i)
  | .str x _=>some (.str x)
  | .bytes b _=>some (.byt b)
  | .float b _=>some (.flt b)
  | .ref a=>some (.ref a)
  | .type n=>some (.ty n)
  | _=>none
theorem RelV.abs {x : V} {u : Value} (r : RelV x u) : absV u = some x:=by
  cases x with
  | non=>cases r; rfl
  | bl _=>cases r; rfl
  | int _=>obtain ⟨t,rfl⟩:=r; rfl
  | str _=>obtain ⟨t,rfl⟩:=r; rfl
  | byt _=>obtain ⟨t,rfl⟩:=r; rfl
  | flt _=>obtain ⟨t,rfl⟩:=r; rfl
  | ref _=>cases r; rfl
  | ty _=>cases r; rfl
theorem RelV.inj {x y : V} {u : Value} (r : RelV x u) (q : RelV y u) : x = y:=Option.some.inj (r.abs.symm.trans q.abs)
theorem Vals.inj : ∀ {xs ys : List V} {us : List Value},Vals xs us → Vals ys us → xs = ys
  | _,_,_,.nil,.nil=>rfl
  | _,_,_,.cons r t,.cons r' t'=>by rw [r.inj r',Vals.inj t t']
section
variable {X : Cx} {pins : List (Addr × Obj)} {σ : St} {H : Hp} {s : Shared} {a : Addr} {xs ys : List V}
theorem SqL.of {K : PySem.W.Frag} (h : H a = some (.lst xs)) : SqL K H a xs:=.inl (.inl h)
theorem SqT.of {K : PySem.W.Frag} (h : H a = some (.tup xs)) : SqT K H a xs:=.inl (.inl h)
theorem Inv.list (I : Inv X pins σ H s) (h : SqL X.K H a xs) : ∃ its : List Value,Vals xs its ∧ PlainL s.heap a its.toArray ∧ xs.length ≤ sizeLine:=by
  rcases h with h | ⟨o,its,n,hk,hc,hd,hs,hz,r⟩
  · obtain ⟨z,its,n,r,e⟩:=h.ok I.hok
    exact ⟨its,r,⟨_,n,e,rfl,rfl,rfl⟩,z⟩
  · refine ⟨its.toList,r,⟨o,n,I.kIn a o hk,hc,hd,by simpa using hs⟩,?_⟩
    have e:=r.length
    simp only [Array.length_toList] at e
    omega
theorem Inv.tuple (I : Inv X pins σ H s) (h : SqT X.K H a xs) : ∃ its : List Value,Vals xs its ∧ IsTup s.heap a its.toArray ∧ xs.length ≤ sizeLine:=by
  rcases h with h | ⟨o,its,n,hk,hc,hs,hz,r⟩
  · obtain ⟨z,its,r,p⟩:=h.ok I.hok
    exact ⟨its,r,p,z⟩
  · refine ⟨its.toList,r,⟨o,I.kIn a o hk,hc,n,by simpa using hs⟩,?_⟩
    have e:=r.length
    simp only [Array.length_toList] at e
    omega
theorem Inv.list_inj (I : Inv X pins σ H s) (h : SqL X.K H a xs) (h' : SqL X.K H a ys) : xs = ys:=by
  obtain ⟨its,r,⟨o,n,e,_,_,d⟩,_⟩:=I.list h
  obtain ⟨its',r',⟨o',n',e',_,_,d'⟩,_⟩:=I.list h'
  rw [e] at e'; cases e'
  rw [d] at d'
  injection d' with d1 _
  have : its = its':=by simpa using congrArg Array.toList d1
  subst this
  exact r.inj r'
end
abbrev Cx.wish (X : Cx) (E : Value → Shared → Prop) : Cx:={ X with xe:=E }
abbrev Cx.nox (X : Cx) : Cx:=X.wish fun _ _=>False
theorem Cx.Ok.wish {X : Cx} (ok : X.Ok) (E : Value → Shared → Prop) : (X.wish E).Ok :=
  ⟨ok.mod,ok.kind,ok.glob,ok.blt,ok.above,ok.inj,ok.has,ok.cab,ok.hd,ok.frames,ok.stk,ok.exf,ok.bs,ok.bsz,ok.noex,ok.exfs,ok.funs,ok.frf⟩
theorem Cx.Ok.unwish {X : Cx} {E : Value → Shared → Prop} (ok : (X.wish E).Ok) : X.Ok :=
  ⟨ok.mod,ok.kind,ok.glob,ok.blt,ok.above,ok.inj,ok.has,ok.cab,ok.hd,ok.frames,ok.stk,ok.exf,ok.bs,ok.bsz,ok.noex,ok.exfs,ok.funs,ok.frf⟩
section
variable {X : Cx} {pins : List (Addr × Obj)} {σ : St} {H : Hp} {s : Shared} {E : Value → Shared → Prop}
theorem Inv.wish (I : Inv X pins σ H s) (E : Value → Shared → Prop) : Inv (X.wish E) pins σ H s:=⟨I.ok.wish E,I.os,I.bare,I.base,I.loc,I.cell,I.free,I.freeC,I.pin,I.hok,I.len⟩
theorem Inv.unwish (I : Inv (X.wish E) pins σ H s) : Inv X pins σ H s:=⟨I.ok.unwish,I.os,I.bare,I.base,I.loc,I.cell,I.free,I.freeC,I.pin,I.hok,I.len⟩
theorem SP.unwish {D : Ends} {f : Flow} {s' : Shared} (h : SP (X.wish E) pins D f s') : SP X pins D f s':=by
  cases f with
  | next=>obtain ⟨σ',H',I,q⟩:=h; exact ⟨σ',H',I.unwish,q⟩
  | brk=>obtain ⟨σ',H',I,q⟩:=h; exact ⟨σ',H',I.unwish,q⟩
  | cont=>obtain ⟨σ',H',I,q⟩:=h; exact ⟨σ',H',I.unwish,q⟩
  | ret u=>obtain ⟨v,σ',H',I,r,q⟩:=h; exact ⟨v,σ',H',I.unwish,r,q⟩
theorem PSs.nox {st : List Stmt} {t : TS} (h : PSs X.nox st t) : PSs X st t:=fun pins s σ H D I hw =>
  wpAny_mono (h pins s σ H D (I.wish _) hw) (fun _ _ q=>q.unwish) fun _ _ z=>False.elim z
end
section
variable {X : Cx} {st : Stmt} {rest : List Stmt} {t u : TS} {e : Expr} {te : TE} {pos : Pos}
def tNext : TS:=fun D σ H=>D.nx σ H
def tSeq (t u : TS) : TS:=fun D σ H=>t { D with nx:=u D } σ H
theorem pss_nil : PSs X [] tNext:=fun _ _ σ H _ I h=>wpAny_execs_nil ⟨σ,H,I,h⟩
theorem pss_cons (h1 : PS X st t) (h2 : PSs X rest u) : PSs X (st :: rest) (tSeq t u):=by
  intro pins s σ H D I h
  refine wpAny_execs_cons (thn (h1 pins s σ H { D with nx:=u D } I h) fun f s1 q=>?_)
  cases f with
  | next =>
    obtain ⟨σ',H',I',q⟩:=q
    exact h2 pins s1 σ' H' D I' q
  | ret v=>exact q
  | brk=>exact q
  | cont=>exact q
theorem pss_one (h1 : PS X st t) : PSs X [st] t:=by
  intro pins s σ H D I h
  refine wpAny_execs_cons (thn (h1 pins s σ H D I h) fun f s1 q=>?_)
  cases f with
  | next=>exact wpAny_execs_nil q
  | ret v=>exact q
  | brk=>exact q
  | cont=>exact q
theorem Inv.quiet {pins : List (Addr × Obj)} {σ : St} {H : Hp} {s : Shared} (I : Inv X pins σ H s) : interactive X.env = false:=by simp [interactive,I.ok.kind]
def tDrop (te : TE) : TS:=fun D σ H=>te σ H fun _ H1=>D.nx σ H1
theorem ps_expr (he : PE X e te) (hs : swapsWith e none pos.line X.env = pure false:=by rfl) : PS X (.Expr e pos) (tDrop te):=by
  intro pins s σ H D I h
  exact wpAny_Expr_any (thn (he pins s σ H _ I h) fun v s1 ⟨x,H1,I1,r1,q1⟩=>⟨σ,H1,I1,q1⟩) I.quiet hs
def tRet (te : TE) : TS:=fun D σ H=>te σ H D.rt
theorem ps_ret (he : PE X e te) : PS X (.Return (some e) pos) (tRet te):=by
  intro pins s σ H D I h
  exact wpAny_Return_some (thn (he pins s σ H _ I h) fun v s1 ⟨x,H1,I1,r1,q1⟩=>⟨x,σ,H1,I1,r1,q1⟩)
def tIfS (c : TT) (t u : TS) : TS:=fun D σ H=>c σ H fun b H1=>if b = true then t D σ H1 else u D σ H1
theorem ps_if {c : Expr} {a b : List Stmt} {tc : TT} (hc : PT X c tc) (ha : PSs X a t) (hb : PSs X b u) : PS X (.If c a b pos) (tIfS tc t u):=by
  intro pins s σ H D I h
  refine wpAny_If (thn (hc pins s σ H _ I h) fun d s1 ⟨H1,I1,q1⟩=>?_)
  cases d with
  | true=>exact ha pins s1 σ H1 D I1 q1
  | false=>exact hb pins s1 σ H1 D I1 q1
end
abbrev TG:=V → St → Hp → (St → Hp → Prop) → Prop
abbrev TGs:=List V → St → Hp → (St → Hp → Prop) → Prop
def PG (X : Cx) (target : Expr) (t : TG) : Prop :=
  ∀ (pins : List (Addr × Obj)) (s : Shared) (σ : St) (H : Hp) (v : V) (u : Value) (Q : St → Hp → Prop),Inv X pins σ H s → RelV v u → t v σ H Q →
    wpAny (model X.prog X.w) X.A (assign target X.env u) (fun _ s'=>∃ σ' H',Inv X pins σ' H' s' ∧ Q σ' H') X.xe s
def PGs (X : Cx) (ts : List Expr) (t : TGs) : Prop :=
  ∀ (pins : List (Addr × Obj)) (s : Shared) (σ : St) (H : Hp) (vs : List V) (us : List Value) (Q : St → Hp → Prop),Inv X pins σ H s → Vals vs us → t vs σ H Q →
    wpAny (model X.prog X.w) X.A (assignInOrder ((assignEach ts X.env).map (·.2)) us) (fun _ s'=>∃ σ' H',Inv X pins σ' H' s' ∧ Q σ' H') X.xe s
section
variable {X : Cx} {pos : Pos}
def gName (i : Nat) : TG:=fun v σ H Q=>Q (σ.set i (some v)) H
theorem pg_name {i : Nat} {x : Str} (hN : X.N.Nodup) (hi : X.N[i]? = some x) (hx : Loc X.env.scope x) (hf : X.fn x = true ∨ X.env.scope.names.lookup x = some .local:=by first | exact .inl rfl | exact .inr rfl | assumption) : PG X (.Name x pos) (gName i):=by
  intro pins s σ H v u Q I r h
  exact wpAny_assign_Name (store_ok I hN hi hx r (fun s' I'=>⟨_,H,I',h⟩) hf)
def gNil : TGs:=fun vs σ H Q=>vs = [] ∧ Q σ H
def gCons (t : TG) (u : TGs) : TGs:=fun vs σ H Q=>∃ v r,vs = v :: r ∧ t v σ H fun σ' H'=>u r σ' H' Q
theorem pgs_nil : PGs X [] gNil:=by
  intro pins s σ H vs us Q I r h
  obtain ⟨e,h⟩:=h
  subst e
  cases r
  exact assignInOrder_nil ⟨σ,H,I,h⟩
theorem pgs_cons {e : Expr} {es : List Expr} {t : TG} {u : TGs} (h1 : PG X e t) (h2 : PGs X es u)
    (hs : (assignEach (e :: es) X.env).map (·.2) = assign e X.env :: (assignEach es X.env).map (·.2):=by rfl) : PGs X (e :: es) (gCons t u):=by
  intro pins s σ H vs us Q I r h
  obtain ⟨v,vr,e1,h⟩:=h
  subst e1
  cases r with
  | cons r rr =>
    rw [hs]
    refine assignInOrder_cons (thn (h1 pins s σ H _ _ _ I r h) fun _ s1 ⟨σ1,H1,I1,q1⟩=>?_)
    exact h2 pins s1 σ1 H1 _ _ Q I1 rr q1
def gTup (K : PySem.W.Frag) (n : Nat) (t : TGs) : TG:=fun v σ H Q=>∃ a xs,v = .ref a ∧ SqT K H a xs ∧ xs.length = n ∧ t xs σ H Q
theorem pg_tup {es : List Expr} {k : Nat} {t : TGs} {n : Nat} (hc : X.calm = true) (h : PGs X es t)
    (hn : (assignEach es X.env).length = n:=by rfl) (hst : (assignEach es X.env).findIdx? (·.1) = none:=by rfl) : PG X (.Tuple es k pos) (gTup X.K n t):=by
  intro pins s σ H v u Q I r hw
  obtain ⟨a,xs,e1,hq,hl,hw⟩:=hw
  subst e1
  cases r
  obtain ⟨its,rv,ht,hz⟩:=I.tuple hq
  refine assign_Tuple_tuple (I.ok.hd hc) ht (by simp [hn,← hl,rv.length]) hst fun h' hx=>?_
  have I1 : Inv X pins σ H { s with heap:=h' }:=I.kept (t':=s.toks) fun b o e=>hx b o (Nat.ne_of_lt (Heap.lt_size e)) e
  exact h pins _ σ H xs _ Q I1 (by simpa using rv) hw
def tAsg (te : TE) (g : TG) : TS:=fun D σ H=>te σ H fun x H1=>g x σ H1 D.nx
theorem ps_set {i : Nat} {x : Str} {e : Expr} {te : TE} {pos' : Pos} (hN : X.N.Nodup) (hi : X.N[i]? = some x) (hx : Loc X.env.scope x) (he : PE X e te) (hs : swapsWith e (some (.Name x pos')) pos.line X.env = pure false:=by rfl) (hf : X.fn x = true ∨ X.env.scope.names.lookup x = some .local:=by first | exact .inl rfl | exact .inr rfl | assumption) :
    PS X (.Assign [.Name x pos'] e pos) (tAsg te (gName i)):=by
  intro pins s σ H D I h
  refine wpAny_Assign_Name (thn (he pins s σ H _ I h) fun v s1 ⟨y,H1,I1,r1,q1⟩=>?_) hs
  exact store_ok I1 hN hi hx r1 (fun s2 I2=>⟨_,H1,I2,q1⟩) hf
end
section
variable {X : Cx} {pos : Pos}
def tWhile (c : TT) (tb : TS) : TS:=fun D σ H=>∃ W : Nat → St → Hp → Prop,(∃ m,W m σ H) ∧ ∀ m σ H,W m σ H →
  c σ H fun b H1=>if b = true then ∃ N : St → Hp → Prop,(∀ σ' H',N σ' H' → ∃ m',m' < m ∧ W m' σ' H') ∧ tb { D with nx:=N,ct:=N,bk:=D.nx } σ H1 else D.nx σ H1
theorem ps_while {c : Expr} {body : List Stmt} {tc : TT} {tb : TS} (hp : PassesOwn (model X.prog X.w) X.A X.env X.xe) (hc : PT X c tc) (hb : PSs X body tb) : PS X (.While c body [] pos) (tWhile tc tb):=by
  intro pins s σ H D I h
  obtain ⟨W,⟨m0,w0⟩,turn⟩:=h
  refine wpAny_While (codeAny_whileLoop (fun n s'=>∃ σ' H',Inv X pins σ' H' s' ∧ W n σ' H') ?_ m0 ⟨σ,H,I,w0⟩)
  rintro n s1 ⟨σ1,H1,I1,w1⟩
  refine wpAny_passesOwn hp (thn (hc pins s1 σ1 H1 _ I1 (turn n σ1 H1 w1)) fun b s2 ⟨H2,I2,q2⟩=>?_)
  cases b with
  | true =>
    obtain ⟨N,hN,q2⟩:=q2
    rw [if_pos rfl]
    refine wpAny_passesOwn hp (thn (hb pins s2 σ1 H2 _ I2 q2) fun f s3 q3=>?_)
    cases f with
    | next =>
      obtain ⟨σ3,H3,I3,n3⟩:=q3
      obtain ⟨m',hm,w3⟩:=hN σ3 H3 n3
      exact ⟨m',hm,σ3,H3,I3,w3⟩
    | cont =>
      obtain ⟨σ3,H3,I3,n3⟩:=q3
      obtain ⟨m',hm,w3⟩:=hN σ3 H3 n3
      exact ⟨m',hm,σ3,H3,I3,w3⟩
    | brk=>exact q3
    | ret v=>exact q3
  | false =>
    rw [if_neg Bool.false_ne_true]
    exact wpAny_execs_nil ⟨σ1,H2,I2,q2⟩
end
structure It where
  go : Nat → Hp → Prop
  yld : Nat → Hp → V → Hp → Prop
  stop : Nat → Hp → Prop
def FpOk (X : Cx) (pins : List (Addr × Obj)) (H : Hp) (b : Addr) : Prop :=
  H b = none ∧ b ≠ X.env.locals ∧ b ∉ X.fs ∧ (b ∈ X.ex ∨ X.s₀.heap.objs.size ≤ b) ∧ (∀ x c,X.env.cells.lookup x = some c → c ≠ b) ∧ ∀ p ∈ X.pn ++ pins,p.1 ≠ b
theorem Inv.fpOk {X : Cx} {pins : List (Addr × Obj)} {σ : St} {H H' : Hp} {s : Shared} {b : Addr} (I : Inv X pins σ H s) (hb : s.heap.objs.size ≤ b) (hn : H' b = none) : FpOk X pins H' b:=by
  refine ⟨hn,Nat.ne_of_gt (Nat.lt_of_lt_of_le I.lt hb),I.nofs hb,.inr (Nat.le_trans I.sz hb),fun x c e z=>?_,fun p hp z=>?_⟩
  · obtain ⟨v,q⟩:=I.cell x c e
    exact absurd (Nat.lt_of_lt_of_le q.lt (by rw [z]; exact hb)) (Nat.lt_irrefl _)
  · exact absurd (Nat.lt_of_lt_of_le (Heap.lt_size (I.pin p hp).1) (by rw [z]; exact hb)) (Nat.lt_irrefl _)
structure Turn (P : Program) (w : World) (K : PySem.W.Frag) (tg : Expr) (J : It) (fp : List Addr) (it : Addr) (tn : Nat → Heap → Prop) : Prop where
  mem : it ∈ fp
  obj : ∀ i h,tn i h → ∀ b ∈ fp,∃ o,h.get? b = some o ∧ ∀ v,o.data ≠ .cell v
  keep : ∀ i h h',tn i h → (∀ b ∈ fp,∀ o,h.get? b = some o → h'.get? b = some o) → tn i h'
  item : ∀ (X : Cx),X.prog = P → X.w = w → X.K = K → X.calm = true → ∀ (i : Nat) (pins : List (Addr × Obj)) (s : Shared) (σ : St) (H : Hp) (E : Value → Shared → Prop),Inv X pins σ H s → (∀ b ∈ fp,FpOk X pins H b) → tn i s.heap → J.go i H →
    wpAny (model P w) X.A (pyNext (.ref it)) (fun r s1=>∃ u,r = some u ∧
      wpAny (model P w) X.A (letOwnedTupleGo tg (.ref it) u) (fun _ s2=>∃ x H',Inv X pins σ H' s2 ∧ RelV x u ∧ J.yld i H x H' ∧ tn (i + 1) s2.heap ∧ ∀ b ∈ fp,H' b = none) E s1) E s
  done : ∀ (X : Cx),X.prog = P → X.w = w → X.K = K → X.calm = true → ∀ (i : Nat) (pins : List (Addr × Obj)) (s : Shared) (σ : St) (H : Hp) (E : Value → Shared → Prop),Inv X pins σ H s → (∀ b ∈ fp,FpOk X pins H b) → tn i s.heap → J.stop i H →
    wpAny (model P w) X.A (pyNext (.ref it)) (fun r s1=>r = none ∧ Inv X pins σ H s1) E s
  self : ∀ (A : Around) (i : Nat) (s : Shared) (Q : Value → Shared → Prop) (E : Value → Shared → Prop),tn i s.heap → Q (.ref it) s → wpAny (model P w) A (pyIter (.ref it)) Q E s
abbrev TI:=St → Hp → (It → Hp → Prop) → Prop
def PIE (X : Cx) (pins : List (Addr × Obj)) (σ : St) (tg : Expr) (R : It → Hp → Prop) (itv : Value) (s2 : Shared) : Prop :=
  ∃ (it : Addr) (fp : List Addr) (tn : Nat → Heap → Prop) (J : It) (H' : Hp),itv = .ref it ∧ Inv X pins σ H' s2 ∧ Turn X.prog X.w X.K tg J fp it tn ∧ tn 0 s2.heap ∧ (∀ b ∈ fp,FpOk X pins H' b) ∧ R J H'
def PI (X : Cx) (tg iter : Expr) (wi : TI) : Prop :=
  ∀ (pins : List (Addr × Obj)) (s : Shared) (σ : St) (H : Hp) (R : It → Hp → Prop),Inv X pins σ H s → wi σ H R →
    wpAny (model X.prog X.w) X.A (eval iter X.env) (fun v s1=>wpAny (model X.prog X.w) X.A (pyIter v) (PIE X pins σ tg R) X.xe s1) X.xe s
theorem go_of {M : Model} {A : Around} {E : Value → Shared → Prop} {s : Shared} {tg : Expr} {it : Addr} {u : Value} {o : Obj} {n : String} {vs : Array Value} {Q : Unit → Shared → Prop} (ho : s.heap.get? it = some o) (hc : o.cls = .type n) (hd : o.data = .fields vs)
    (hn : ["enumerate","zip","dict_itemiterator","dict_reverseitemiterator","odict_iterator","itertools.zip_longest","itertools.pairwise"].contains n = false) (hQ : Q () s) : wpAny M A (letOwnedTupleGo tg (.ref it) u) Q E s:=by
  unfold letOwnedTupleGo
  cases tg <;> first
    | exact wpAny_pure hQ
    | (cases u <;> first
        | exact wpAny_pure hQ
        | (refine wpAny_bind (wpAny_load ho ?_)
           rw [hc,hd]
           show wpAny M A (if (["enumerate","zip","dict_itemiterator","dict_reverseitemiterator","odict_iterator","itertools.zip_longest","itertools.pairwise"].contains n && vs[0]? == some (rawInt _)) = true then _ else _) Q E s
           rw [if_neg (by intro h; rw [hn,Bool.false_and] at h; cases h)]
           exact wpAny_pure hQ))
def Itl (K : PySem.W.Frag) (a : Addr) : It :=
  ⟨fun i H=>∃ xs x,SqL K H a xs ∧ xs[i]? = some x,fun i H x H'=>H' = H ∧ ∀ xs,SqL K H a xs → xs[i]? = some x,fun i H=>∃ xs,SqL K H a xs ∧ xs.length ≤ i⟩
def Itr (lo : Int) (n : Nat) : It:=⟨fun i _=>i < n,fun i H x H'=>H' = H ∧ x = .int (lo + i),fun i _=>n ≤ i⟩
theorem turn_list {P : Program} {w : World} {K : PySem.W.Frag} {tg : Expr} (a it : Addr) : Turn P w K tg (Itl K a) [it] it (fun i h=>h.IsListIter it a i) where
  mem:=by simp
  obj:=fun i h st b hb=>by
    have e : b = it:=by simpa using hb
    subst e
    obtain ⟨o,e,c,d⟩:=st
    exact ⟨o,e,fun v z=>by rw [d] at z; cases z⟩
  keep:=fun i h h' st k=>st.at fun o e=>k it (by simp) o e
  item:=by
    intro X hP hw hK hc i pins s σ H E I hf st hg
    subst hP hw hK
    obtain ⟨xs,x,hq,hx⟩:=hg
    obtain ⟨its,rv,p,hz⟩:=I.list hq
    obtain ⟨u,hu,ru⟩:=rv.get hx
    obtain ⟨f0,f1,f2,f3,f4,f5⟩:=hf it (by simp)
    refine wpAny_pyNext_list_item st p.isList (x:=u) (by simpa using hu) fun h' st' sb=>?_
    have I1 : Inv X pins σ H { s with heap:=h' }:=I.turned (t':=s.toks) (fun b o hb e=>(sb.2 b hb).trans e) f0 f1 f3 f4 f5
    obtain ⟨o,e,c,d⟩:=id st'
    exact ⟨u,rfl,go_of (s:={ s with heap:=h' }) e c d (by decide) ⟨x,H,I1,ru,⟨rfl,fun ys hy=>by rw [I.list_inj hy hq]; exact hx⟩,st',fun b hb=>(hf b hb).1⟩⟩
  done:=by
    intro X hP hw hK hc i pins s σ H E I hf st hg
    subst hP hw hK
    obtain ⟨xs,hq,hx⟩:=hg
    obtain ⟨its,rv,p,hz⟩:=I.list hq
    obtain ⟨f0,f1,f2,f3,f4,f5⟩:=hf it (by simp)
    have hl:=rv.length
    exact wpAny_pyNext_list_end (I.ok.hd hc) st p.isList (by simp; omega) fun h' eb=>⟨rfl,I.turned (t':=s.toks) (fun b o hb e=>eb b o hb e) f0 f1 f3 f4 f5⟩
  self:=fun _ _ _ _ _ st h=>wpAny_pyIter_listiter st h
theorem turn_range {P : Program} {w : World} {K : PySem.W.Frag} {tg : Expr} (it : Addr) (lo : Int) (n : Nat) : Turn P w K tg (Itr lo n) [it] it (fun i h=>IsRangeIter h it (lo + (i : Nat) * 1) ((n : Int) - (i : Nat)) 1) where
  mem:=by simp
  obj:=fun i h st b hb=>by
    have e : b = it:=by simpa using hb
    subst e
    exact ⟨_,st,fun v z=>by
      have z' : Data.fields _ = Data.cell v:=z
      cases z'⟩
  keep:=fun i h h' st k=>k it (by simp) _ st
  item:=by
    intro X hP hw hK hc i pins s σ H E I hf st hg
    subst hP hw hK
    obtain ⟨f0,f1,f2,f3,f4,f5⟩:=hf it (by simp)
    have W:=Walks.range (prog:=X.prog) (w:=X.w) (I.ok.hd hc) it lo 1 n
    refine W.item i s _ _ hg st fun v h' tk hv st' kk=>?_
    obtain ⟨t,rfl⟩:=hv
    have I1 : Inv X pins σ H { s with heap:=h',toks:=tk }:=I.turned (fun b o hb e=>kk b o (by simpa using hb) e) f0 f1 f3 f4 f5
    refine ⟨_,rfl,go_of (s:={ s with heap:=h',toks:=tk }) (n:="range_iterator") st' rfl rfl (by decide) ⟨.int (lo + i),H,I1,⟨t,?_⟩,⟨rfl,rfl⟩,st',fun b hb=>(hf b hb).1⟩⟩
    rw [Int.mul_one]
  done:=by
    intro X hP hw hK hc i pins s σ H E I hf st hg
    subst hP hw hK
    obtain ⟨f0,f1,f2,f3,f4,f5⟩:=hf it (by simp)
    exact wpAny_pyNext_range_end (I.ok.hd hc) st (by have : n ≤ i:=hg; omega) fun h' eb=>⟨rfl,I.turned (t':=s.toks) (fun b o hb e=>eb b o hb e) f0 f1 f3 f4 f5⟩
  self:=fun _ _ _ _ _ st h=>wpAny_pyIter_rangeiter st h
end L2
namespace L2
open PySem PySem.Spec PyProof.Rows
section
variable {X : Cx} {tg : Expr}
def iList (K : PySem.W.Frag) (tl : TE) : TI:=fun σ H R=>tl σ H fun x H1=>∃ a,x = .ref a ∧ (∃ xs,SqL K H1 a xs) ∧ R (Itl K a) H1
theorem pi_list {l : Expr} {tl : TE} (hl : PE X l tl) : PI X tg l (iList X.K tl):=by
  intro pins s σ H R I h
  refine thn (hl pins s σ H _ I h) fun v s1 ⟨x,H1,I1,r1,q1⟩=>?_
  obtain ⟨a,e,⟨xs,hq⟩,q⟩:=q1
  subst e
  cases r1
  obtain ⟨its,rv,p,hz⟩:=I1.list hq
  refine wpAny_pyIter_list p.isList ?_
  refine ⟨s1.heap.objs.size,[s1.heap.objs.size],_,_,H1,rfl,I1.kept (t':=s1.toks) fun b o e=>Heap.get?_push_of_some _ e,turn_list a _,⟨_,Heap.get?_push_size _ rfl,rfl,rfl⟩,fun b hb=>?_,q⟩
  have e : b = s1.heap.objs.size:=by simpa using hb
  subst e
  exact I1.fpOk (Nat.le_refl _) (I1.hok.fresh (Nat.le_refl _))
theorem range_it {pins : List (Addr × Obj)} {σ : St} {H : Hp} {s : Shared} {R : It → Hp → Prop} {E : Value → Shared → Prop} {lo hi : Int} {t u v : Tok} {tk : Nat} (I : Inv X pins σ H s) (h1 : -(2 ^ 62) ≤ lo) (h2 : lo < 2 ^ 62) (h3 : -(2 ^ 62) ≤ hi) (h4 : hi < 2 ^ 62)
    (q : R (Itr lo (hi - lo).toNat) H) : wpAny (model X.prog X.w) X.A (pyIter (.ref s.heap.objs.size)) (PIE X pins σ tg R) E { s with heap:=s.heap.push { cls:=.type "range",data:=.fields #[.int lo t,.int hi u,.int 1 v] },toks:=tk }:=by
  refine wpAny_pyIter_range (IsRange.new ..) (small_one h1 h2 h3 h4) ?_
  have I1 : Inv X pins σ H { s with heap:=s.heap.push { cls:=.type "range",data:=.fields #[.int lo t,.int hi u,.int 1 v] },toks:=tk }:=I.kept fun b o e=>Heap.get?_push_of_some _ e
  refine ⟨(s.heap.push { cls:=.type "range",data:=.fields #[.int lo t,.int hi u,.int 1 v] }).objs.size,[(s.heap.push { cls:=.type "range",data:=.fields #[.int lo t,.int hi u,.int 1 v] }).objs.size],_,_,H,rfl,
    I1.kept (t':=tk) fun b o e=>Heap.get?_push_of_some _ e,turn_range _ lo (hi - lo).toNat,?_,fun b hb=>?_,q⟩
  · have e1 : lo + ((0 : Nat) : Int) * 1 = lo:=by simp
    have e2 : (((hi - lo).toNat : Nat) : Int) - ((0 : Nat) : Int) = Builtin.Range.rangeSize lo hi 1:=by rw [rangeSize_one]; split <;> omega
    show IsRangeIter _ _ (lo + ((0 : Nat) : Int) * 1) ((((hi - lo).toNat : Nat) : Int) - ((0 : Nat) : Int)) 1
    rw [e1,e2]
    exact Heap.get?_push_size _ rfl
  · have e : b = (s.heap.push { cls:=.type "range",data:=.fields #[.int lo t,.int hi u,.int 1 v] }).objs.size:=by simpa using hb
    subst e
    exact I1.fpOk (Nat.le_refl _) (I1.hok.fresh (Nat.le_refl _))
def iRng1 (ta : TA) : TI:=fun σ H R=>ta σ H fun vs H1=>∃ j : Int,vs = [.int j] ∧ -(2 ^ 62) ≤ j ∧ j < 2 ^ 62 ∧ R (Itr 0 j.toNat) H1
def iRng2 (ta : TA) : TI:=fun σ H R=>ta σ H fun vs H1=>∃ i j : Int,vs = [.int i,.int j] ∧ (-(2 ^ 62) ≤ i ∧ i < 2 ^ 62 ∧ -(2 ^ 62) ≤ j ∧ j < 2 ^ 62) ∧ R (Itr i (j - i).toNat) H1
theorem pi_range1 {a : Expr} {ta : TA} {p pos : Pos} (hg : Gl X "range") (hm : X.mg "range" = none) (ha : PA X [a] ta) (hs : starEach [a] X.env = [(false,eval a X.env)]:=by rfl) : PI X tg (.Call (.Name "range" p) [a] [] pos) (iRng1 ta):=by
  intro pins s σ H R I h
  refine Call_ (ld_blt I hg hm boot_range (PyProof.Rows.callWith_type1 (thn (ha pos pins s σ H _ I h) fun us s1 ⟨vs,H1,I1,r1,q1⟩=>?_) hs rfl))
  obtain ⟨j,e,q1,q2,q⟩:=q1
  subst e
  cases r1 with
  | cons r rr =>
    cases rr
    obtain ⟨t,rfl⟩:=r
    exact call_range_1 (range_it I1 (by omega) (by omega) q1 q2 (by simpa using q))
theorem pi_range2 {a b : Expr} {ta : TA} {p pos : Pos} (hg : Gl X "range") (hm : X.mg "range" = none) (ha : PA X [a,b] ta) (hs : starEach [a,b] X.env = [(false,eval a X.env),(false,eval b X.env)]:=by rfl) (hs2 : starEach [b] X.env = [(false,eval b X.env)]:=by rfl) :
    PI X tg (.Call (.Name "range" p) [a,b] [] pos) (iRng2 ta):=by
  intro pins s σ H R I h
  refine Call_ (ld_blt I hg hm boot_range (PyProof.Rows.callWith_type1 (thn (ha pos pins s σ H _ I h) fun us s1 ⟨vs,H1,I1,r1,q1⟩=>?_) (by rw [hs,hs2]) (by rw [hs2]; rfl)))
  obtain ⟨i,j,e,⟨q1,q2,q3,q4⟩,q⟩:=q1
  subst e
  cases r1 with
  | cons r rr =>
    cases rr with
    | cons r' rr =>
      cases rr
      obtain ⟨t,rfl⟩:=r
      obtain ⟨t',rfl⟩:=r'
      exact call_range_2 (range_it I1 q1 q2 q3 q4 q)
def tFor (wi : TI) (g : TG) (tb : TS) : TS:=fun D σ H=>wi σ H fun J H1=>∃ W : Nat → Nat → St → Hp → Prop,(∃ m,W 0 m σ H1) ∧ ∀ i m σ H,W i m σ H →
  (J.stop i H ∧ D.nx σ H) ∨ (J.go i H ∧ ∃ N : St → Hp → Prop,(∀ σ' H',N σ' H' → ∃ m',m' < m ∧ W (i + 1) m' σ' H') ∧ ∀ x H',J.yld i H x H' → g x σ H' fun σ2 H2=>tb { D with nx:=N,ct:=N,bk:=D.nx } σ2 H2)
def pinsAt (fp : List Addr) (h : Heap) : List (Addr × Obj):=fp.filterMap fun b=>(h.get? b).map fun o=>(b,o)
theorem mem_pinsAt {fp : List Addr} {h : Heap} {b : Addr} {o : Obj} (hb : b ∈ fp) (e : h.get? b = some o) : (b,o) ∈ pinsAt fp h:=List.mem_filterMap.mpr ⟨b,hb,by rw [e]; rfl⟩
theorem of_pinsAt {fp : List Addr} {h : Heap} {p : Addr × Obj} (hp : p ∈ pinsAt fp h) : p.1 ∈ fp ∧ h.get? p.1 = some p.2:=by
  obtain ⟨b,hb,e⟩:=List.mem_filterMap.mp hp
  cases q : h.get? b with
  | none=>rw [q] at e; cases e
  | some o =>
    rw [q] at e
    have e' : (b,o) = p:=Option.some.inj e
    subst e'
    exact ⟨hb,q⟩
theorem Inv.pinned {pins : List (Addr × Obj)} {σ : St} {H : Hp} {s : Shared} {fp : List Addr} (I : Inv X pins σ H s) (hf : ∀ b ∈ fp,FpOk X pins H b) (ho : ∀ b ∈ fp,∃ o,s.heap.get? b = some o ∧ ∀ v,o.data ≠ .cell v) : Inv X (pins ++ pinsAt fp s.heap) σ H s :=
  I.pins_of fun p hp=>(List.mem_append.mp hp).elim (fun z=>I.pin p (List.mem_append_right _ z)) fun z=>by
    obtain ⟨hb,e⟩:=of_pinsAt z
    obtain ⟨f0,f1,f2,_⟩:=hf p.1 hb
    obtain ⟨o,e',d⟩:=ho p.1 hb
    rw [e] at e'; cases e'
    exact ⟨e,f0,f1,f2,d⟩
theorem Inv.unpinned {pins pl : List (Addr × Obj)} {σ : St} {H : Hp} {s : Shared} (I : Inv X (pins ++ pl) σ H s) : Inv X pins σ H s:=I.pins_of fun p hp=>I.pin p (List.mem_append_right _ (List.mem_append_left _ hp))
theorem ps_for {iter : Expr} {body : List Stmt} {wi : TI} {g : TG} {tb : TS} {pos : Pos} (hp : PassesOwn (model X.prog X.w) X.A X.env X.xe) (hc : X.calm = true) (hi : PI X tg iter wi) (hg : PG X tg g) (hb : PSs X body tb)
    (hs : ∀ x,foldedSetIterable iter X.env x = pure x:=by intro _; rfl) : PS X (.For tg iter body [] pos) (tFor wi g tb):=by
  intro pins s σ H D I h
  refine wpAny_For (thn (hi pins s σ H _ I h) fun v s1 h1=>thn h1 fun itv s2 h2=>?_) hs
  obtain ⟨it,fp,tn,J,H2,e,I2,T,st2,f2,W,⟨m0,w0⟩,turn⟩:=h2
  subst e
  have stat : ∀ {H' : Hp},(∀ b ∈ fp,H' b = none) → ∀ b ∈ fp,FpOk X pins H' b:=fun hn b hb=>⟨hn b hb,(f2 b hb).2⟩
  refine codeAny_forLoop_any (fun n s'=>∃ i σ' H',Inv X pins σ' H' s' ∧ tn i s'.heap ∧ (∀ b ∈ fp,H' b = none) ∧ W i n σ' H') ?_ m0 ⟨0,σ,H2,I2,st2,fun b hb=>(f2 b hb).1,w0⟩
  rintro n s3 ⟨i,σ3,H3,I3,st3,fr3,w3⟩
  rcases turn i n σ3 H3 w3 with ⟨stop,qn⟩ | ⟨go,N,hN,step⟩
  · refine wpAny_passesOwn hp (thn (T.done X rfl rfl rfl hc i pins s3 σ3 H3 X.xe I3 (stat fr3) st3 stop) fun r s4 ⟨hr,I4⟩=>?_)
    subst hr
    exact wpAny_execs_nil ⟨σ3,H3,I4,qn⟩
  · refine wpAny_passesOwn hp (thn (T.item X rfl rfl rfl hc i pins s3 σ3 H3 X.xe I3 (stat fr3) st3 go) fun r s4 ⟨u,hr,h4⟩=>?_)
    subst hr
    refine wpAny_passesOwn hp (thn h4 fun _ s5 ⟨x,H5,I5,r5,y5,st5,fr5⟩=>?_)
    have I5':=I5.pinned (stat fr5) (T.obj _ _ st5)
    refine wpAny_passesOwn hp (thn (hg _ s5 σ3 H5 x u _ I5' r5 (step x H5 y5)) fun _ s6 ⟨σ6,H6,I6,q6⟩=>?_)
    refine wpAny_passesOwn hp (thn (hb _ s6 σ6 H6 _ I6 q6) fun f s7 q7=>?_)
    have again : ∀ {σ7 : St} {H7 : Hp},Inv X (pins ++ pinsAt fp s5.heap) σ7 H7 s7 → N σ7 H7 → ∃ m,m < n ∧ ∃ i σ' H',Inv X pins σ' H' s7 ∧ tn i s7.heap ∧ (∀ b ∈ fp,H' b = none) ∧ W i m σ' H':=fun {σ7 H7} I7 n7=>by
      obtain ⟨m',hm,w7⟩:=hN σ7 H7 n7
      refine ⟨m',hm,i + 1,σ7,H7,I7.unpinned,T.keep _ _ _ st5 fun b hb o e=>(I7.pin (b,o) (List.mem_append_right _ (List.mem_append_right _ (mem_pinsAt hb e)))).1,fun b hb=>?_,w7⟩
      obtain ⟨o,e,d⟩:=T.obj _ _ st5 b hb
      exact (I7.pin (b,o) (List.mem_append_right _ (List.mem_append_right _ (mem_pinsAt hb e)))).2.1
    cases f with
    | next=>obtain ⟨σ7,H7,I7,n7⟩:=q7; exact again I7 n7
    | cont=>obtain ⟨σ7,H7,I7,n7⟩:=q7; exact again I7 n7
    | brk=>obtain ⟨σ7,H7,I7,q7⟩:=q7; exact ⟨σ7,H7,I7.unpinned,q7⟩
    | ret v=>obtain ⟨x7,σ7,H7,I7,r7,q7⟩:=q7; exact ⟨x7,σ7,H7,I7.unpinned,r7,q7⟩
end
theorem for_list {K : PySem.W.Frag} {a : Addr} {xs : List V} {g : TG} {tb : TS} {D : Ends} {σ : St} {H : Hp} (Pv : Nat → St → Hp → Prop) (h0 : Pv 0 σ H) (hl : ∀ i σ H,i ≤ xs.length → Pv i σ H → SqL K H a xs)
    (hs : ∀ i x σ H,xs[i]? = some x → Pv i σ H → g x σ H fun σ2 H2=>tb { D with nx:=Pv (i + 1),ct:=Pv (i + 1),bk:=D.nx } σ2 H2) (hd : ∀ σ H,Pv xs.length σ H → D.nx σ H) :
    ∃ W : Nat → Nat → St → Hp → Prop,(∃ m,W 0 m σ H) ∧ ∀ i m σ H,W i m σ H →
      ((Itl K a).stop i H ∧ D.nx σ H) ∨ ((Itl K a).go i H ∧ ∃ N : St → Hp → Prop,(∀ σ' H',N σ' H' → ∃ m',m' < m ∧ W (i + 1) m' σ' H') ∧ ∀ x H',(Itl K a).yld i H x H' → g x σ H' fun σ2 H2=>tb { D with nx:=N,ct:=N,bk:=D.nx } σ2 H2):=by
  refine ⟨fun i m σ H=>m = xs.length - i ∧ i ≤ xs.length ∧ Pv i σ H,⟨xs.length,by simp,Nat.zero_le _,h0⟩,?_⟩
  rintro i m σ H ⟨rfl,hi,p⟩
  have q:=hl i σ H hi p
  by_cases hlt : i < xs.length
  · refine .inr ⟨⟨xs,xs[i],q,by simp [hlt]⟩,Pv (i + 1),fun σ' H' p'=>⟨xs.length - (i + 1),by omega,rfl,hlt,p'⟩,fun x H' y=>?_⟩
    obtain ⟨e,y⟩:=y
    subst e
    exact hs i x σ _ (y xs q) p
  · have e : i = xs.length:=by omega
    subst e
    exact .inl ⟨⟨xs,q,Nat.le_refl _⟩,hd σ H p⟩
theorem for_range {lo : Int} {n : Nat} {g : TG} {tb : TS} {D : Ends} {σ : St} {H : Hp} (Pv : Nat → St → Hp → Prop) (h0 : Pv 0 σ H)
    (hs : ∀ i σ H,i < n → Pv i σ H → g (.int (lo + i)) σ H fun σ2 H2=>tb { D with nx:=Pv (i + 1),ct:=Pv (i + 1),bk:=D.nx } σ2 H2) (hd : ∀ σ H,Pv n σ H → D.nx σ H) :
    ∃ W : Nat → Nat → St → Hp → Prop,(∃ m,W 0 m σ H) ∧ ∀ i m σ H,W i m σ H →
      ((Itr lo n).stop i H ∧ D.nx σ H) ∨ ((Itr lo n).go i H ∧ ∃ N : St → Hp → Prop,(∀ σ' H',N σ' H' → ∃ m',m' < m ∧ W (i + 1) m' σ' H') ∧ ∀ x H',(Itr lo n).yld i H x H' → g x σ H' fun σ2 H2=>tb { D with nx:=N,ct:=N,bk:=D.nx } σ2 H2):=by
  refine ⟨fun i m σ H=>m = n - i ∧ i ≤ n ∧ Pv i σ H,⟨n,by simp,Nat.zero_le _,h0⟩,?_⟩
  rintro i m σ H ⟨rfl,hi,p⟩
  by_cases hlt : i < n
  · refine .inr ⟨hlt,Pv (i + 1),fun σ' H' p'=>⟨n - (i + 1),by omega,rfl,hlt,p'⟩,fun x H' y=>?_⟩
    obtain ⟨e,y⟩:=y
    subst e y
    exact hs i σ _ hlt p
  · have e : i = n:=by omega
    subst e
    exact .inl ⟨Nat.le_refl _,hd σ H p⟩
theorem while_by {c : TT} {tb : TS} {D : Ends} {σ : St} {H : Hp} (Pv : St → Hp → Prop) (μ : St → Hp → Nat) (h0 : Pv σ H)
    (hs : ∀ σ H,Pv σ H → c σ H fun b H1=>if b = true then tb { D with nx:=fun σ' H'=>Pv σ' H' ∧ μ σ' H' < μ σ H,ct:=fun σ' H'=>Pv σ' H' ∧ μ σ' H' < μ σ H,bk:=D.nx } σ H1 else D.nx σ H1)
    (mono : ∀ σ H Q Q',(∀ b H1,Q b H1 → Q' b H1) → c σ H Q → c σ H Q') : tWhile c tb D σ H:=by
  refine ⟨fun m σ H=>m = μ σ H ∧ Pv σ H,⟨_,rfl,h0⟩,?_⟩
  rintro m σ H ⟨rfl,p⟩
  refine mono σ H _ _ (fun b H1 q=>?_) (hs σ H p)
  cases b with
  | true=>exact ⟨_,fun σ' H' ⟨p',l⟩=>⟨_,l,rfl,p'⟩,q⟩
  | false=>exact q
end L2
namespace L2
open PySem PySem.Spec PyProof.Rows
abbrev R2:=V → V → Hp → VK → Prop
def OpR (X : Cx) (f : Value → Value → Sem Value) (r : R2) : Prop :=
  ∀ (pins : List (Addr × Obj)) (s : Shared) (σ : St) (H : Hp) (x y : V) (v u : Value) (Q : VK),Inv X pins σ H s → RelV x v → RelV y u → r x y H Q →
    wpAny (model X.prog X.w) X.A (f v u) (EP X pins σ Q) X.xe s
def UnR (X : Cx) (f : Value → Sem Value) (r : V → Hp → VK → Prop) : Prop :=
  ∀ (pins : List (Addr × Obj)) (s : Shared) (σ : St) (H : Hp) (x : V) (v : Value) (Q : VK),Inv X pins σ H s → RelV x v → r x H Q →
    wpAny (model X.prog X.w) X.A (f v) (EP X pins σ Q) X.xe s
def CallR (X : Cx) (f : Value) (r : List V → Hp → VK → Prop) : Prop :=
  ∀ (pins : List (Addr × Obj)) (s : Shared) (σ : St) (H : Hp) (xs : List V) (us : List Value) (Q : VK),Inv X pins σ H s → Vals xs us → r xs H Q →
    wpAny (model X.prog X.w) X.A (call f us) (EP X pins σ Q) X.xe s
def tOp (r : R2) (ta tb : TE) : TE:=fun σ H Q=>ta σ H fun x H1=>tb σ H1 fun y H2=>r x y H2 Q
def tUn (r : V → Hp → VK → Prop) (ta : TE) : TE:=fun σ H Q=>ta σ H fun x H1=>r x H1 Q
def rI (C : Int → Int → Prop) (g : Int → Int → V) : R2:=fun x y H Q=>∃ i j,x = .int i ∧ y = .int j ∧ C i j ∧ Q (g i j) H
def rI0 (g : Int → Int → V) : R2:=fun x y H Q=>∃ i j,x = .int i ∧ y = .int j ∧ Q (g i j) H
def rU (g : Int → V) : V → Hp → VK → Prop:=fun x H Q=>∃ i,x = .int i ∧ Q (g i) H
section
variable {X : Cx} {a b c : Expr} {ta tb tc : TE} {pos : Pos}
theorem binT (ha : PE X a ta) (hb : PE X b tb) {pins : List (Addr × Obj)} {s : Shared} {σ : St} {H : Hp} {R : V → V → Hp → Prop} (I : Inv X pins σ H s)
    (h : ta σ H fun x H1=>tb σ H1 fun y H2=>R x y H2) {Q : Value → Shared → Prop} {f : Value → Value → Sem Value}
    (hf : ∀ v u s2 x y H2,Inv X pins σ H2 s2 → RelV x v → RelV y u → R x y H2 → wpAny (model X.prog X.w) X.A (f v u) Q X.xe s2) :
    wpAny (model X.prog X.w) X.A (eval a X.env) (fun v s₁=>wpAny (model X.prog X.w) X.A (eval b X.env) (fun u s₂=>wpAny (model X.prog X.w) X.A (f v u) Q X.xe s₂) X.xe s₁) X.xe s:=by
  refine thn (ha pins s σ H _ I h) fun v s1 ⟨x,H1,I1,r1,q1⟩=>?_
  refine thn (hb pins s1 σ H1 _ I1 q1) fun u s2 ⟨y,H2,I2,r2,q2⟩=>?_
  exact hf v u s2 x y H2 I2 r1 r2 q2
theorem pe_op {op : Operator} {r : R2} (ho : OpR X (binaryOp op) r) (ha : PE X a ta) (hb : PE X b tb) : PE X (.BinOp a op b pos) (tOp r ta tb):=by
  intro pins s σ H Q I h
  exact wpAny_BinOp (binT ha hb I h fun v u s2 x y H2 I2 rx ry q=>ho pins s2 σ H2 x y v u Q I2 rx ry q)
theorem pe_un {op : UnaryOp} {r : V → Hp → VK → Prop} (ho : UnR X (unaryOp op) r) (ha : PE X a ta) : PE X (.UnaryOp op a pos) (tUn r ta):=by
  intro pins s σ H Q I h
  exact UnaryOp_ (thn (ha pins s σ H _ I h) fun v s1 ⟨x,H1,I1,r1,q1⟩=>ho pins s1 σ H1 x v Q I1 r1 q1)
theorem opI {f : Value → Value → Sem Value} {C : Int → Int → Prop} {g : Int → Int → Int}
    (rule : ∀ (i j : Int) (t u : Tok) (s : Shared) (Q : Value → Shared → Prop) (E : Value → Shared → Prop),C i j → Q (.int (g i j) s.toks) { s with toks:=s.toks + 1 } → wpAny (model X.prog X.w) X.A (f (.int i t) (.int j u)) Q E s) :
    OpR X f (rI C fun i j=>.int (g i j)):=by
  intro pins s σ H x y v u Q I rx ry h
  obtain ⟨i,j,rfl,rfl,hc,q⟩:=h
  obtain ⟨t,rfl⟩:=rx
  obtain ⟨t',rfl⟩:=ry
  exact rule i j t t' s _ _ hc ⟨.int (g i j),H,I.tok _,⟨_,rfl⟩,q⟩
theorem opI0 {f : Value → Value → Sem Value} {g : Int → Int → Int}
    (rule : ∀ (i j : Int) (t u : Tok) (s : Shared) (Q : Value → Shared → Prop) (E : Value → Shared → Prop),Q (.int (g i j) s.toks) { s with toks:=s.toks + 1 } → wpAny (model X.prog X.w) X.A (f (.int i t) (.int j u)) Q E s) :
    OpR X f (rI0 fun i j=>.int (g i j)):=by
  intro pins s σ H x y v u Q I rx ry h
  obtain ⟨i,j,rfl,rfl,q⟩:=h
  obtain ⟨t,rfl⟩:=rx
  obtain ⟨t',rfl⟩:=ry
  exact rule i j t t' s _ _ ⟨.int (g i j),H,I.tok _,⟨_,rfl⟩,q⟩
theorem opB0 {f : Value → Value → Sem Value} {g : Int → Int → Bool}
    (rule : ∀ (i j : Int) (t u : Tok) (s : Shared) (Q : Value → Shared → Prop) (E : Value → Shared → Prop),Q (.bool (g i j)) s → wpAny (model X.prog X.w) X.A (f (.int i t) (.int j u)) Q E s) :
    OpR X f (rI0 fun i j=>.bl (g i j)):=by
  intro pins s σ H x y v u Q I rx ry h
  obtain ⟨i,j,rfl,rfl,q⟩:=h
  obtain ⟨t,rfl⟩:=rx
  obtain ⟨t',rfl⟩:=ry
  exact rule i j t t' s _ _ ⟨.bl (g i j),H,I,rfl,q⟩
def CDiv (i j : Int) : Prop:=0 < j ∧ j < 1073741824
theorem op_add : OpR X (binaryOp .Add) (rI0 fun i j=>.int (i + j)):=opI0 fun _ _ _ _ _ _ _ q=>add_int q
theorem op_sub : OpR X (binaryOp .Sub) (rI0 fun i j=>.int (i - j)):=opI0 fun _ _ _ _ _ _ _ q=>sub_int q
theorem op_fdiv : OpR X (binaryOp .FloorDiv) (rI CDiv fun i j=>.int (i / j)):=opI fun i j _ _ _ _ _ hc q=>by
  have h1 : (0 : Int) < j:=hc.1
  have h2 : j < 1073741824:=hc.2
  exact floordiv_int (by omega) (by rw [Int.fdiv_eq_ediv_of_nonneg i (by omega)]; exact q) (.inl (PyProof.noPylong_small (by omega)))
theorem op_mod : OpR X (binaryOp .Mod) (rI (fun _ j=>0 < j) fun i j=>.int (i % j)):=opI fun i j _ _ _ _ _ hc q=>by
  have h1 : (0 : Int) < j:=hc
  exact mod_int' (by omega) (by rw [Int.fmod_eq_emod_of_nonneg i (by omega)]; exact q)
theorem unI {f : Value → Sem Value} {g : Int → Int}
    (rule : ∀ (i : Int) (t : Tok) (s : Shared) (Q : Value → Shared → Prop) (E : Value → Shared → Prop),Q (.int (g i) s.toks) { s with toks:=s.toks + 1 } → wpAny (model X.prog X.w) X.A (f (.int i t)) Q E s) :
    UnR X f (rU fun i=>.int (g i)):=by
  intro pins s σ H x v Q I rx h
  obtain ⟨i,rfl,q⟩:=h
  obtain ⟨t,rfl⟩:=rx
  exact rule i t s _ _ ⟨.int (g i),H,I.tok _,⟨_,rfl⟩,q⟩
theorem un_neg : UnR X (unaryOp .USub) (rU fun i=>.int (-i)):=unI fun _ _ _ _ _ q=>neg_int q
end
def scal : V → V → Bool
  | .non,.non=>true | .non,.int _=>true | .int _,.non=>true | .non,.bl _=>true | .bl _,.non=>true | .non,.str _=>true | .str _,.non=>true
  | .int _,.int _=>true | .bl _,.bl _=>true | .str _,.str _=>true | .byt _,.byt _=>true
  | .int _,.str _=>true | .str _,.int _=>true | .bl _,.str _=>true | .str _,.bl _=>true
  | _,_=>false
def rEq : R2:=fun x y H Q=>scal x y = true ∧ Q (.bl (decide (x = y))) H
def rNe : R2:=fun x y H Q=>scal x y = true ∧ Q (.bl (!decide (x = y))) H
theorem dec_int {i j : Int} : decide (V.int i = V.int j) = (i == j):=by
  rw [Bool.eq_iff_iff]
  simp
theorem dec_bl {i j : Bool} : decide (V.bl i = V.bl j) = (i == j):=by
  rw [Bool.eq_iff_iff]
  simp
theorem dec_str {i j : Str} : decide (V.str i = V.str j) = (i == j):=by
  rw [Bool.eq_iff_iff]
  simp
theorem dec_byt {i j : Array UInt8} : decide (V.byt i = V.byt j) = (i.toList == j.toList):=by
  rw [Bool.eq_iff_iff]
  cases i
  cases j
  simp
section
variable {X : Cx} {a b c : Expr} {ta tb tc : TE} {pos : Pos}
theorem fin_bl {pins : List (Addr × Obj)} {σ : St} {H : Hp} {s : Shared} {Q : VK} {k k' : Bool} (I : Inv X pins σ H s) (q : Q (.bl k) H) (e : k = k') : EP X pins σ Q (.bool k') s:=by
  subst e
  exact ⟨.bl k,H,I,rfl,q⟩
theorem op_eq : OpR X (compareOp .Eq) rEq:=by
  intro pins s σ H x y v u Q I rx ry h
  obtain ⟨hs,q⟩:=h
  cases x with
  | non =>
    cases rx
    cases y with
    | non=>cases ry; exact PySem.EqNone.eq_none_none (fin_bl I q (by simp))
    | bl j=>cases ry; exact PySem.EqNone.eq_none_bool (fin_bl I q (by simp))
    | int j=>obtain ⟨t',rfl⟩:=ry; exact PySem.EqNone.eq_none_int (fin_bl I q (by simp))
    | str j=>obtain ⟨t',rfl⟩:=ry; exact PySem.EqNone.eq_none_str (fin_bl I q (by simp))
    | _=>exact absurd (show false = true from hs) Bool.false_ne_true
  | bl i =>
    cases rx
    cases y with
    | non=>cases ry; exact PySem.EqNone.eq_bool_none (fin_bl I q (by simp))
    | bl j=>cases ry; exact eq_bool (fin_bl I q dec_bl)
    | str j=>obtain ⟨t',rfl⟩:=ry; exact PySem.EqMixed.eq_bool_str (fin_bl I q (by simp))
    | _=>exact absurd (show false = true from hs) Bool.false_ne_true
  | int i =>
    obtain ⟨t,rfl⟩:=rx
    cases y with
    | non=>cases ry; exact PySem.EqNone.eq_int_none (fin_bl I q (by simp))
    | int j=>obtain ⟨t',rfl⟩:=ry; exact eq_int (fin_bl I q dec_int)
    | str j=>obtain ⟨t',rfl⟩:=ry; exact PySem.EqMixed.eq_int_str (fin_bl I q (by simp))
    | _=>exact absurd (show false = true from hs) Bool.false_ne_true
  | str i =>
    obtain ⟨t,rfl⟩:=rx
    cases y with
    | non=>cases ry; exact PySem.EqNone.eq_str_none (fin_bl I q (by simp))
    | bl j=>cases ry; exact PySem.EqMixed.eq_str_bool (fin_bl I q (by simp))
    | int j=>obtain ⟨t',rfl⟩:=ry; exact PySem.EqMixed.eq_str_int (fin_bl I q (by simp))
    | str j=>obtain ⟨t',rfl⟩:=ry; exact eq_str (fin_bl I q dec_str)
    | _=>exact absurd (show false = true from hs) Bool.false_ne_true
  | byt i =>
    obtain ⟨t,rfl⟩:=rx
    cases y with
    | byt j=>obtain ⟨t',rfl⟩:=ry; exact PySem.W.eq_bytes (fin_bl I q dec_byt)
    | _=>exact absurd (show false = true from hs) Bool.false_ne_true
  | _=>cases y <;> exact absurd (show false = true from hs) Bool.false_ne_true
theorem op_ne : OpR X (compareOp .NotEq) rNe:=by
  intro pins s σ H x y v u Q I rx ry h
  obtain ⟨hs,q⟩:=h
  cases x with
  | non =>
    cases rx
    cases y with
    | non=>cases ry; exact PySem.EqNone.ne_none_none (fin_bl I q (by simp))
    | bl j=>cases ry; exact PySem.EqNone.ne_none_bool (fin_bl I q (by simp))
    | int j=>obtain ⟨t',rfl⟩:=ry; exact PySem.EqNone.ne_none_int (fin_bl I q (by simp))
    | str j=>obtain ⟨t',rfl⟩:=ry; exact PySem.EqNone.ne_none_str (fin_bl I q (by simp))
    | _=>exact absurd (show false = true from hs) Bool.false_ne_true
  | bl i =>
    cases rx
    cases y with
    | non=>cases ry; exact PySem.EqNone.ne_bool_none (fin_bl I q (by simp))
    | bl j=>cases ry; exact ne_bool (fin_bl I q (congrArg not dec_bl))
    | str j=>obtain ⟨t',rfl⟩:=ry; exact PySem.EqMixed.ne_bool_str (fin_bl I q (by simp))
    | _=>exact absurd (show false = true from hs) Bool.false_ne_true
  | int i =>
    obtain ⟨t,rfl⟩:=rx
    cases y with
    | non=>cases ry; exact PySem.EqNone.ne_int_none (fin_bl I q (by simp))
    | int j=>obtain ⟨t',rfl⟩:=ry; exact ne_int (fin_bl I q (congrArg not dec_int))
    | str j=>obtain ⟨t',rfl⟩:=ry; exact PySem.EqMixed.ne_int_str (fin_bl I q (by simp))
    | _=>exact absurd (show false = true from hs) Bool.false_ne_true
  | str i =>
    obtain ⟨t,rfl⟩:=rx
    cases y with
    | non=>cases ry; exact PySem.EqNone.ne_str_none (fin_bl I q (by simp))
    | bl j=>cases ry; exact PySem.EqMixed.ne_str_bool (fin_bl I q (by simp))
    | int j=>obtain ⟨t',rfl⟩:=ry; exact PySem.EqMixed.ne_str_int (fin_bl I q (by simp))
    | str j=>obtain ⟨t',rfl⟩:=ry; exact ne_str (fin_bl I q (congrArg not dec_str))
    | _=>exact absurd (show false = true from hs) Bool.false_ne_true
  | byt i =>
    obtain ⟨t,rfl⟩:=rx
    cases y with
    | byt j=>obtain ⟨t',rfl⟩:=ry; exact PySem.W.ne_bytes (fin_bl I q (congrArg not dec_byt))
    | _=>exact absurd (show false = true from hs) Bool.false_ne_true
  | _=>cases y <;> exact absurd (show false = true from hs) Bool.false_ne_true
theorem op_lt : OpR X (compareOp .Lt) (rI0 fun i j=>.bl (decide (i < j))):=opB0 fun _ _ _ _ _ _ _ q=>lt_int q
theorem op_le : OpR X (compareOp .LtE) (rI0 fun i j=>.bl (decide (i ≤ j))):=opB0 fun _ _ _ _ _ _ _ q=>le_int q
theorem op_gt : OpR X (compareOp .Gt) (rI0 fun i j=>.bl (decide (j < i))):=opB0 fun _ _ _ _ _ _ _ q=>gt_int q
theorem op_ge : OpR X (compareOp .GtE) (rI0 fun i j=>.bl (decide (j ≤ i))):=opB0 fun _ _ _ _ _ _ _ q=>ge_int q
theorem nomark (b : Expr) {op : CmpOp} (h : op ≠ .In:=by decide) (h2 : op ≠ .NotIn:=by decide) : behindInMarks op b = false:=by
  have e1 : (op == CmpOp.In) = false:=by cases op <;> first | rfl | exact absurd rfl h
  have e2 : (op == CmpOp.NotIn) = false:=by cases op <;> first | rfl | exact absurd rfl h2
  cases b <;> simp [behindInMarks,e1,e2]
theorem pe_cmpR {op : CmpOp} {r : R2} (ho : OpR X (compareOp op) r) (ha : PE X a ta) (hb : PE X b tb) (hm : behindInMarks op b = false) : PE X (.Compare a [op] [b] pos) (tOp r ta tb):=by
  intro pins s σ H Q I h
  exact wpAny_Compare1 (binT ha hb I h fun v u s2 x y H2 I2 rx ry q=>ho pins s2 σ H2 x y v u Q I2 rx ry q) hm
def tTest (t : TE) : TT:=fun σ H Q=>t σ H fun x H'=>∃ k,x = .bl k ∧ Q k H'
theorem pt_cmpR {op : CmpOp} {r : R2} (ho : OpR X (compareOp op) r) (ha : PE X a ta) (hb : PE X b tb) (hm : behindInMarks op b = false) : PT X (.Compare a [op] [b] pos) (tTest (tOp r ta tb)):=by
  intro pins s σ H Q I h
  refine wpAny_isTrue_Compare1 (thn (ha pins s σ H _ I h) fun v s1 ⟨x,H1,I1,r1,q1⟩=>thn (hb pins s1 σ H1 _ I1 q1) fun u s2 ⟨y,H2,I2,r2,q2⟩ =>
    thn (ho pins s2 σ H2 x y v u _ I2 r1 r2 q2) fun c s3 ⟨z,H3,I3,r3,k,e,q3⟩=>?_) hm
  subst e
  cases r3
  exact wpAny_truthy_bool ⟨H3,I3,q3⟩
def tChain (r r' : R2) (ta tb tc : TE) : TE:=fun σ H Q=>ta σ H fun x H1=>tb σ H1 fun y H2=>r x y H2 fun z H3=>∃ k,z = .bl k ∧
  (if k = true then tc σ H3 fun w' H4=>r' y w' H4 Q else Q (.bl false) H3)
theorem pe_chain {op op' : CmpOp} {r r' : R2} (ho : OpR X (compareOp op) r) (ho' : OpR X (compareOp op') r') (ha : PE X a ta) (hb : PE X b tb) (hc : PE X c tc)
    (hm : lastMarks [op,op'] [b,c] = false:=by with_unfolding_all rfl) : PE X (.Compare a [op,op'] [b,c] pos) (tChain r r' ta tb tc):=by
  intro pins s σ H Q I h
  refine Compare_chain (thn (ha pins s σ H _ I h) fun v s1 ⟨x,H1,I1,r1,q1⟩=>chain_link (thn (hb pins s1 σ H1 _ I1 q1) fun u s2 ⟨y,H2,I2,r2,q2⟩ =>
    thn (ho pins s2 σ H2 x y v u _ I2 r1 r2 q2) fun d s3 ⟨z,H3,I3,r3,k,e,q3⟩=>?_)) hm
  subst e
  cases r3
  refine wpAny_truthy_bool ?_
  cases k with
  | false=>exact ite_ff ⟨.bl false,H3,I3,rfl,q3⟩
  | true=>exact ite_tt (chain_last (thn (hc pins s3 σ H3 _ I3 q3) fun w' s4 ⟨z',H4,I4,r4,q4⟩=>ho' pins s4 σ H4 y z' u w' Q I4 r2 r4 q4))
theorem pt_chain {op op' : CmpOp} {r r' : R2} (ho : OpR X (compareOp op) r) (ho' : OpR X (compareOp op') r') (ha : PE X a ta) (hb : PE X b tb) (hc : PE X c tc)
    (hm : lastMarks [op,op'] [b,c] = false:=by with_unfolding_all rfl) : PT X (.Compare a [op,op'] [b,c] pos) (tTest (tChain r r' ta tb tc)):=by
  intro pins s σ H Q I h
  refine isTrue_chain (thn (ha pins s σ H _ I h) fun v s1 ⟨x,H1,I1,r1,q1⟩=>test_link (thn (hb pins s1 σ H1 _ I1 q1) fun u s2 ⟨y,H2,I2,r2,q2⟩ =>
    thn (ho pins s2 σ H2 x y v u _ I2 r1 r2 q2) fun d s3 ⟨z,H3,I3,r3,k,e,q3⟩=>?_)) hm
  subst e
  cases r3
  refine wpAny_truthy_bool ?_
  cases k with
  | false =>
    obtain ⟨k',e',q'⟩:=q3
    cases e'
    exact ite_ff ⟨H3,I3,q'⟩
  | true =>
    refine ite_tt (test_last (thn (hc pins s3 σ H3 _ I3 q3) fun w' s4 ⟨z',H4,I4,r4,q4⟩=>thn (ho' pins s4 σ H4 y z' u w' _ I4 r2 r4 q4) fun d' s5 ⟨z2,H5,I5,r5,k2,e2,q5⟩=>?_))
    subst e2
    cases r5
    exact wpAny_truthy_bool ⟨H5,I5,q5⟩
theorem line63 : (sizeLine : Nat) < 2 ^ 63:=by rw [sizeLine_eq]; decide
theorem vals1 {x : V} {us : List Value} (r : Vals [x] us) : ∃ u,us = [u] ∧ RelV x u:=by
  cases r with
  | cons r1 r2=>cases r2; exact ⟨_,rfl,r1⟩
theorem call_abs : CallR X (.builtin "abs") (fun xs H Q=>∃ i,xs = [.int i] ∧ Q (.int (if i < 0 then -i else i)) H):=by
  intro pins s σ H xs us Q I r h
  obtain ⟨i,rfl,q⟩:=h
  obtain ⟨u,rfl,t,rfl⟩:=vals1 r
  exact call_abs_int fun u tk=>⟨.int (if i < 0 then -i else i),H,I.tok _,⟨_,rfl⟩,q⟩
end
end L2
namespace L2
open PySem PySem.Spec PyProof.Rows
structure ObjM (h : Heap) (x dx C : Addr) (mA : Str → Option Value) : Prop where
  obj : h.get? x = some (PySem.W.instObj C dx)
  ns : h.Ns1 dx mA
  ne : dx ≠ x
theorem lookIn_ns {h : Heap} {dx : Addr} {mA : Str → Option Value} (n : h.Ns1 dx mA) : ∃ od,h.get? dx = some od ∧ ∀ name,PySem.W.lookIn name od = some (mA name):=by
  obtain ⟨o,es,ep,ho,hd,hk,_,hm⟩:=n
  refine ⟨o,ho,fun name=>?_⟩
  have e:=hm name
  unfold nsFind findBy at e
  rw [← Array.find?_toList] at e
  unfold PySem.W.lookIn
  rw [hd]
  dsimp only
  split
  · rename_i y q
    rw [q] at e
    exact congrArg some e
  · rename_i q
    rw [q] at e
    have a : es.toList.any (·.refKey) = false:=by
      rw [List.any_eq_false]
      intro y hy
      obtain ⟨z,t,hkey⟩:=hk y (Array.mem_toList_iff.mp hy)
      simp [DictEntry.refKey,hkey]
    have a' : ¬ es.toList.any (·.refKey) = true:=by rw [a]; exact Bool.false_ne_true
    rw [if_neg a']
    exact congrArg some e
theorem ObjM.look {h : Heap} {x dx C : Addr} {mA : Str → Option Value} (I : ObjM h x dx C mA) : ∃ od,PySem.W.InstAt h x (PySem.W.instObj C dx) C (some od) ∧ ∀ name,PySem.W.lookIn name od = some (mA name) :=
  let ⟨od,ho,hl⟩:=lookIn_ns I.ns
  ⟨od,⟨I.obj,rfl,rfl,ho⟩,hl⟩
section
variable {prog : Program} {w : World} {A : Around} {E : Value → Shared → Prop} {s : Shared} {K : PySem.W.Frag} {x dx C f : Addr} {mA : Str → Option Value} {name : Str} {v : Value}
theorem get_map {expr : Bool} {Q : Value → Shared → Prop} (X : K.In s.heap) (I : ObjM s.heap x dx C mA) (hg : PySem.W.plainGet K C name = true) (hh : PySem.W.hasDictIn K C = true)
    (ha : PySem.W.findIn K (.ref C) name = some none) (hv : mA name = some v) (hv' : PySem.W.handedIn v = true) (h : Q v { s with toks:=s.toks + 1 }) :
    wpAny (model prog w) A (getAttr (.ref x) name expr) Q E s:=by
  obtain ⟨od,J,hl⟩:=I.look
  exact PySem.W.get_value X J (PySem.W.plainGet_of hg).1 (PySem.W.findObj_own hh ha rfl (by rw [hl,hv])) hv' h
theorem get_meth {pl : Sem Bool} {Q : Value × List Value → Shared → Prop} (X : K.In s.heap) (I : ObjM s.heap x dx C mA) (hg : PySem.W.plainGet K C name = true)
    (hf : PySem.W.findIn K (.ref C) name = some (some (.ref f))) (ht : PySem.W.isFn K (.ref f) = true) (hv : mA name = none) (h : Q (.ref f,[.ref x]) s) :
    wpAny (model prog w) A (getMethod (.ref x) name pl) Q E s:=by
  obtain ⟨od,J,hl⟩:=I.look
  exact PySem.W.method_fn X J (PySem.W.plainGet_of hg).1 (PySem.W.plainGet_of hg).2 hf (beq_iff_eq.mp ht) (by show (PySem.W.lookIn name od).map (·.isSome) = some false; rw [hl,hv]; rfl) h
theorem set_map {ns : List Str} {Q : Unit → Shared → Prop} (X : K.In s.heap) (I : ObjM s.heap x dx C mA)
    (hs : PySem.W.findIn K (.ref C) "__setattr__" = some (some (.builtin "object.__setattr__"))) (hp : PySem.W.plainOver K C = true) (ht : PySem.W.takerIn K C name = some none) (hh : PySem.W.hasDictIn K C = true)
    (hw : PySem.Within mA ns) (hsz : ns.length ≤ sizeLine)
    (h : ∀ h',ObjM h' x dx C (fun y=>if y = name then some v else mA y) → Heap.SameBut dx s.heap h' → Q () { s with heap:=h',toks:=s.toks + 2 }) :
    wpAny (model prog w) A (setAttr (.ref x) name v) Q E s:=by
  obtain ⟨od,J,hl⟩:=I.look
  refine PySem.W.set_plain X J hs (PySem.W.osa_open (s:={ s with toks:=s.toks + 1 }) (r:=none) X J hp ht fun b=>?_)
  obtain ⟨cd,hc,hd'⟩:=PySem.W.any_some hh
  have hx : s.heap.get? x = some ⟨.ref C,some dx,.plain,#[]⟩:=I.obj
  refine wpAny_bind (wpAny_pure (wpAny_bind (wpAny_bind (wpAny_loadPart hx (wpAny_bind (PySem.W.Looks.here (s:={ s with toks:=s.toks + 1 }) (PySem.W.looks_clsIn X hc) ?_))))))
  rw [hd']
  refine wpAny_pure (a:=some dx) (wpAny_bind (wpAny_pure (wpAny_bind ?_)))
  refine wpAny_nsSet1 (s:={ s with toks:=s.toks + 1 }) I.ns fun h' hn2 hs2=>?_
  obtain ⟨oD,esD,epD,hoD,hdD,hcD⟩:=hn2.count (PySem.Within.cons name v hw)
  refine wpAny_bind (wpAny_lookBehind hoD (by rw [hdD]; exact pastItsLine_dict (Nat.le_trans hcD (by rw [List.length_cons]; omega))) ?_)
  exact wpAny_pure (h _ ⟨(hs2.2 _ (Ne.symm I.ne)).trans I.obj,hn2,I.ne⟩ hs2)
theorem make_map {R : Result → Shared → Prop} {vs : List Value} {kw : List (Str × Value)} (X : K.In s.heap) (hm : PySem.W.makesIn K C = true)
    (hi : PySem.W.findIn K (.ref C) "__init__" = some (some (.ref f))) (hf : PySem.W.typeIn K (.ref f) = some (.type "function"))
    (h : codeAny (model prog w) (A.under (.builtin "type.__call__" ⟨.ref C :: vs,kw⟩)) (.call (.ref f) ⟨.ref (s.heap.objs.size + 1) :: vs,kw⟩) (PySem.W.InitBack (s.heap.objs.size + 1) R)
      { s with heap:=(s.heap.push PySem.W.emptyDict).push (PySem.W.instObj C s.heap.objs.size) }) :
    codeAny (model prog w) A (.call (.ref C) ⟨vs,kw⟩) R s:=by
  obtain ⟨hh,g,d,t,os⟩:=s
  exact PySem.W.make_core (PySem.W.makes_of X hm) (PySem.W.looks_findIn X hi) (fun self=>PySem.W.bind_fn X self hf) (.inl rfl) h
end
def putF (f : Str) (v : V) : List (Str × V) → List (Str × V)
  | []=>[(f,v)]
  | (g,x) :: r=>if g = f then (g,v) :: r else (g,x) :: putF f v r
theorem lookup_putF (f g : Str) (v : V) : ∀ fs : List (Str × V),(putF f v fs).lookup g = if g = f then some v else fs.lookup g
  | []=>by
    show List.lookup g [(f,v)] = _
    by_cases h : g = f
    · have hb : (g == f) = true:=beq_iff_eq.mpr h
      simp only [List.lookup,hb,if_pos h]
    · have hb : (g == f) = false:=beq_eq_false_iff_ne.mpr h
      simp only [List.lookup,hb,if_neg h]
  | (k,x) :: r=>by
    have ih:=lookup_putF f g v r
    rw [show putF f v ((k,x) :: r) = (if k = f then (k,v) :: r else (k,x) :: putF f v r) from rfl]
    by_cases hk : k = f
    · rw [if_pos hk]
      by_cases h : g = k
      · have hb : (g == k) = true:=beq_iff_eq.mpr h
        simp only [List.lookup,hb,if_pos (h.trans hk)]
      · have hb : (g == k) = false:=beq_eq_false_iff_ne.mpr h
        simp only [List.lookup,hb,if_neg (fun e : g = f=>h (e.trans hk.symm))]
    · rw [if_neg hk]
      by_cases h : g = k
      · have hb : (g == k) = true:=beq_iff_eq.mpr h
        simp only [List.lookup,hb,if_neg (fun e : g = f=>hk (h.symm.trans e))]
      · have hb : (g == k) = false:=beq_eq_false_iff_ne.mpr h
        simp only [List.lookup,hb]
        exact ih
theorem keys_putF (f : Str) (v : V) : ∀ fs : List (Str × V),f ∈ (putF f v fs).map (·.1) ∧ ∀ g,g ∈ fs.map (·.1) → g ∈ (putF f v fs).map (·.1)
  | []=>⟨by simp [putF],fun g h=>by simp at h⟩
  | (k,x) :: r=>by
    obtain ⟨i1,i2⟩:=keys_putF f v r
    rw [show putF f v ((k,x) :: r) = (if k = f then (k,v) :: r else (k,x) :: putF f v r) from rfl]
    by_cases hk : k = f
    · rw [if_pos hk]
      subst hk
      exact ⟨by simp,fun g h=>by simpa using h⟩
    · rw [if_neg hk]
      refine ⟨?_,fun g h=>?_⟩
      · rw [List.map_cons]
        exact List.mem_cons_of_mem _ i1
      · rw [List.map_cons] at h ⊢
        rcases List.mem_cons.mp h with e | e
        · exact List.mem_cons.mpr (.inl e)
        · exact List.mem_cons_of_mem _ (i2 g e)
theorem length_putF (f : Str) (v : V) : ∀ fs : List (Str × V),(putF f v fs).length ≤ fs.length + 1
  | []=>by simp [putF]
  | (k,x) :: r=>by
    have ih:=length_putF f v r
    rw [show putF f v ((k,x) :: r) = (if k = f then (k,v) :: r else (k,x) :: putF f v r) from rfl]
    by_cases hk : k = f
    · rw [if_pos hk,List.length_cons,List.length_cons]; omega
    · rw [if_neg hk,List.length_cons,List.length_cons]; omega
theorem RelO.some_of {v : V} {o : Option Value} (r : RelO (some v) o) : ∃ u,o = some u ∧ RelV v u:=by
  cases o with
  | none=>exact (show False from r).elim
  | some u=>exact ⟨u,rfl,r⟩
theorem RelO.none_of {o : Option Value} (r : RelO none o) : o = none:=by
  cases o with
  | none=>rfl
  | some u=>exact (show False from r).elim
theorem handed_of {v : V} {u : Value} (r : RelV v u) : PySem.W.handedIn u = true:=by
  cases v with
  | non=>cases (show u = Value.none from r); rfl
  | bl b=>cases (show u = Value.bool b from r); rfl
  | int i=>obtain ⟨t,e⟩:=(show ∃ t,u = Value.int i t from r); cases e; rfl
  | str x=>obtain ⟨t,e⟩:=(show ∃ t,u = Value.str x t from r); cases e; rfl
  | byt b=>obtain ⟨t,e⟩:=(show ∃ t,u = Value.bytes b t from r); cases e; rfl
  | flt b=>obtain ⟨t,e⟩:=(show ∃ t,u = Value.float b t from r); cases e; rfl
  | ref a=>cases (show u = Value.ref a from r); rfl
  | ty n=>cases (show u = Value.type n from r); rfl
section
variable {P : Program} {w : World} {H H' : Hp} {h h' : Heap} {a C dx : Addr} {fs fs' : List (Str × V)}
theorem ins_get (hok : HOk P w H h) (e : H a = some (.ins C dx fs)) : ∃ mA,ObjM h a dx C mA ∧ (∀ f,RelO (fs.lookup f) (mA f)) ∧ PySem.Within mA (fs.map (·.1)) ∧ fs.length ≤ 1000 ∧ H dx = some (.own a):=by
  obtain ⟨d,z,ne,ob,mA,n,r,q⟩:=(show ObjOk P w H h a (.ins C dx fs) from hok a _ e)
  exact ⟨mA,⟨ob,n,ne⟩,r,q,z,d⟩
end
structure Cls (K : PySem.W.Frag) (C : Addr) : Prop where
  pg : PySem.W.plainGet K C Str.empty = true
  hd : PySem.W.hasDictIn K C = true
  po : PySem.W.plainOver K C = true
  sa : PySem.W.findIn K (.ref C) "__setattr__" = some (some (.builtin "object.__setattr__"))
theorem Cls.get {K : PySem.W.Frag} {C : Addr} (c : Cls K C) (f : Str) : PySem.W.plainGet K C f = true:=c.pg
def NoAttr (K : PySem.W.Frag) (C : Addr) (f : Str) : Prop:=PySem.W.findIn K (.ref C) f = some none
theorem NoAttr.taker {K : PySem.W.Frag} {C : Addr} {f : Str} (n : NoAttr K C f) : PySem.W.takerIn K C f = some none:=by
  unfold PySem.W.takerIn
  rw [show PySem.W.findIn K (.ref C) f = some none from n]
  rfl
structure Con (K : PySem.W.Frag) (C : Addr) (f : Str) (v : V) (u : Value) : Prop where
  at_ : PySem.W.findIn K (.ref C) f = some (some u)
  rel : RelV v u
  get : PySem.W.specialIn K u "__get__" = some none
  cp : PySem.W.copiedNames.contains f = false
structure Meth (K : PySem.W.Frag) (C : Addr) (m : Str) (f : Addr) : Prop where
  at_ : PySem.W.findIn K (.ref C) m = some (some (.ref f))
  fn : PySem.W.isFn K (.ref f) = true
  kp : PySem.W.keepIn K (.ref f) = true
section
variable {X : Cx} {pins : List (Addr × Obj)} {σ : St} {H : Hp} {s : Shared} {a C dx : Addr} {fs : List (Str × V)} {f : Str} {v : V} {A : Around} {E : Value → Shared → Prop}
theorem getattr_ok {b : Bool} {Q : Value → Shared → Prop} (I : Inv X pins σ H s) (e : H a = some (.ins C dx fs)) (c : Cls X.K C) (n : NoAttr X.K C f) (l : fs.lookup f = some v)
    (h : ∀ u s',Inv X pins σ H s' → RelV v u → Q u s') : wpAny (model X.prog X.w) A (getAttr (.ref a) f b) Q E s:=by
  obtain ⟨mA,O,r,_,_,_⟩:=ins_get I.hok e
  obtain ⟨u,hu,ru⟩:=RelO.some_of (v:=v) (o:=mA f) (by rw [← l]; exact r f)
  exact get_map I.kIn O (c.get f) c.hd n hu (handed_of ru) (h u _ (I.tok _) ru)
theorem getmeth_ok {m : Str} {g : Addr} {pl : Sem Bool} {Q : Value × List Value → Shared → Prop} (I : Inv X pins σ H s) (e : H a = some (.ins C dx fs)) (c : Cls X.K C) (k : Meth X.K C m g) (l : fs.lookup m = none)
    (h : Q (.ref g,[.ref a]) s) : wpAny (model X.prog X.w) A (getMethod (.ref a) m pl) Q E s:=by
  obtain ⟨mA,O,r,_,_,_⟩:=ins_get I.hok e
  have hn : mA m = none:=RelO.none_of (by rw [← l]; exact r m)
  exact get_meth I.kIn O (c.get m) k.at_ k.fn hn h
theorem setattr_ok {y : V} {u : Value} {Q : Unit → Shared → Prop} (I : Inv X pins σ H s) (e : H a = some (.ins C dx fs)) (c : Cls X.K C) (n : NoAttr X.K C f) (hl : fs.length < 1000) (ry : RelV y u)
    (h : ∀ s',Inv X pins σ (upd H a (.ins C dx (putF f y fs))) s' → Q () s') : wpAny (model X.prog X.w) A (setAttr (.ref a) f u) Q E s:=by
  obtain ⟨mA,O,r,wi,_,ho⟩:=ins_get I.hok e
  have hz : (fs.map (·.1)).length ≤ sizeLine:=by rw [List.length_map,sizeLine_eq]; omega
  refine set_map I.kIn O c.sa c.po n.taker c.hd wi hz fun h' O' sb=>h _ ?_
  have hd : ∃ o,h'.get? dx = some o:=let ⟨o,_,_,e',_⟩:=O'.ns; ⟨o,e'⟩
  refine I.write (x:=a) (e:=dx) (by rw [e]; exact True.intro) (.inr ho) (fun b q hb z=>(sb.2 b hb).trans z) hd ?_
  refine ⟨by rw [upd_ne O.ne]; exact ho,?_,O.ne,O'.obj,_,O'.ns,fun g=>?_,fun g hg=>?_⟩
  · have:=length_putF f y fs; omega
  · show RelO ((putF f y fs).lookup g) (if g = f then some u else mA g)
    rw [lookup_putF]
    by_cases q : g = f
    · rw [if_pos q,if_pos q]; exact ry
    · rw [if_neg q,if_neg q]; exact r g
  · by_cases q : g = f
    · rw [q]; exact (keys_putF f y fs).1
    · refine (keys_putF f y fs).2 g (wi g fun z=>hg ?_)
      show (if g = f then some u else mA g) = none
      rw [if_neg q]; exact z
theorem Inv.made (I : Inv X pins σ H s) : Inv X pins σ (upd (upd H s.heap.objs.size (.own (s.heap.objs.size + 1))) (s.heap.objs.size + 1) (.ins C s.heap.objs.size []))
    { s with heap:=(s.heap.push PySem.W.emptyDict).push (PySem.W.instObj C s.heap.objs.size) }:=by
  have e1 : (s.heap.push PySem.W.emptyDict).get? s.heap.objs.size = some PySem.W.emptyDict:=Heap.get?_push_size s.heap rfl
  have e2 : ((s.heap.push PySem.W.emptyDict).push (PySem.W.instObj C s.heap.objs.size)).get? (s.heap.objs.size + 1) = some (PySem.W.instObj C s.heap.objs.size):=by
    have:=Heap.get?_push_size (s.heap.push PySem.W.emptyDict) (o:=PySem.W.instObj C s.heap.objs.size) rfl
    rwa [Heap.size_push] at this
  have e3 : (s.heap.push PySem.W.emptyDict).Ns s.heap.objs.size (fun _=>none):=⟨PySem.W.emptyDict,#[],_,e1,rfl,(fun e he=>absurd he (by simp)),fun _=>rfl⟩
  have I1:=I.laid (a:=s.heap.objs.size) (o:=.own (s.heap.objs.size + 1)) (h':=s.heap.push PySem.W.emptyDict) (t':=s.toks) (fun b u q=>Heap.get?_push_of_some _ q) (Nat.le_refl _) ⟨_,e1⟩
  refine I1.laid (a:=s.heap.objs.size + 1) (o:=.ins C s.heap.objs.size []) (t':=s.toks) (fun b u q=>Heap.get?_push_of_some _ q) (Nat.le_of_eq (Heap.size_push _ _)) ?_
  have ne : s.heap.objs.size ≠ s.heap.objs.size + 1:=Nat.ne_of_lt (Nat.lt_succ_self _)
  refine ⟨by rw [upd_ne ne,upd_same],Nat.zero_le _,ne,e2,fun _=>none,(Heap.Ns1.of_empty e3).at fun o q=>Heap.get?_push_of_some _ q,fun _=>True.intro,fun y hy=>absurd rfl hy⟩
theorem attr_of {prog : Program} {w : World} {env : Env} {e : Expr} {f : Str} {pos : Pos} {s : Shared} {Q : Value → Shared → Prop} (hb : attributeBase e f env (eval e env) = eval e env)
    (h : wpAny (model prog w) A (eval e env) (fun o s₁=>wpAny (model prog w) A (getAttr o f true) Q E s₁) E s) : wpAny (model prog w) A (eval (.Attribute e f pos) env) Q E s :=
  Attribute_any_ h (by rw [arm_eval_Attribute,hb])
end
def tFld (K : PySem.W.Frag) (ta : TE) (f : Str) : TE:=fun σ H Q=>ta σ H fun x H1=>∃ a C dx fs v,x = .ref a ∧ H1 a = some (.ins C dx fs) ∧ Cls K C ∧ NoAttr K C f ∧ fs.lookup f = some v ∧ Q v H1
def sFld (K : PySem.W.Frag) (ta tv : TE) (f : Str) : TS:=fun D σ H=>tv σ H fun y H1=>ta σ H1 fun x H2=>∃ a C dx fs,x = .ref a ∧ H2 a = some (.ins C dx fs) ∧ Cls K C ∧ NoAttr K C f ∧ fs.length < 1000 ∧
  D.nx σ (upd H2 a (.ins C dx (putF f y fs)))
section
variable {X : Cx} {o e value : Expr} {f : Str} {pos pos' tpos : Pos} {ta tv : TE}
theorem pe_fld (he : PE X e ta) (hb : attributeBase e f X.env (eval e X.env) = eval e X.env) : PE X (.Attribute e f pos) (tFld X.K ta f):=by
  intro pins s σ H Q I h
  refine attr_of hb (thn (he pins s σ H _ I h) fun u s1 ⟨x,H1,I1,rx,a,C,dx,fs,v,ex,ea,c,n,l,q⟩=>?_)
  subst ex
  obtain rfl : u = Value.ref a:=rx
  exact getattr_ok I1 ea c n l fun u' s2 I2 ru=>⟨v,H1,I2,ru,q⟩
theorem ps_fld (ha : PE X o ta) (hv : PE X value tv) (hs : swapsWith value (some (.Attribute o f pos')) pos.line X.env = pure false) : PS X (.Assign [.Attribute o f pos'] value pos) (sFld X.K ta tv f):=by
  intro pins s σ H D I h
  refine plainObj_wpAny_Assign_Attribute (thn (hv pins s σ H _ I h) fun u s1 ⟨y,H1,I1,ry,q⟩=>thn (ha pins s1 σ H1 _ I1 q) fun ov s2 ⟨x,H2,I2,rx,a,C,dx,fs,ex,ea,c,n,l,q2⟩=>?_) hs
  subst ex
  obtain rfl : ov = Value.ref a:=rx
  exact setattr_ok I2 ea c n l ry fun s3 I3=>⟨σ,_,I3,q2⟩
end
section
variable {X : Cx} {pins : List (Addr × Obj)} {σ : St} {H : Hp} {s : Shared} {A : Around} {E : Value → Shared → Prop} {Q : Value → Shared → Prop} {c : Value} {b : Bool}
inductive TyOf (K : PySem.W.Frag) (H : Hp) : V → Value → Prop where
  | non : TyOf K H .non (.type "NoneType")
  | bl (x : Bool) : TyOf K H (.bl x) (.type "bool")
  | int (i : Int) : TyOf K H (.int i) (.type "int")
  | str (x : Str) : TyOf K H (.str x) (.type "str")
  | flt (x : UInt64) : TyOf K H (.flt x) (.type "float")
  | lst {a : Addr} {xs : List V} (e : H a = some (.lst xs)) : TyOf K H (.ref a) (.type "list")
  | frz {a : Addr} {o : Obj} {xs : List V} (e : H a = some (.frz o (.lst xs))) : TyOf K H (.ref a) (.type "list")
  | tup {a : Addr} {xs : List V} (e : H a = some (.tup xs)) : TyOf K H (.ref a) (.type "tuple")
  | dK {a : Addr} {kvs : List (Key × V)} (e : H a = some (.dK kvs)) : TyOf K H (.ref a) (.type "dict")
  | dT {a : Addr} {kvs : List (List Key × V)} (e : H a = some (.dT kvs)) : TyOf K H (.ref a) (.type "dict")
  | ins {a C dx : Addr} {fs : List (Str × V)} (e : H a = some (.ins C dx fs)) (cl : Cls K C) (ha : PySem.W.findIn K (.ref C) "__class__" = some (some (.builtin "object.__class__")))
      (hn : PySem.W.specialIn K (.builtin "object.__class__") "__get__" = some (some (.builtin "getset_descriptor.__get__"))) (htk : PySem.W.takesIn K (.builtin "object.__class__") = some true)
      (hm : PySem.W.mroIn K C (.type "object") = some true) : TyOf K H (.ref a) (.ref C)
theorem isinst_ok {x : V} {u t : Value} (I : Inv X pins σ H s) (rx : RelV x u) (ty : TyOf X.K H x t) (e : PySem.W.kitOne X.K t c = some b) (h : ∀ tk,Q (.bool b) { s with toks:=tk }) :
    wpAny (model X.prog X.w) A (call (.builtin "isinstance") [u,c]) Q E s:=by
  cases ty with
  | non=>cases (show u = Value.none from rx); exact PySem.W.kia_one PySem.W.kitx_none I.kIn True.intro e (fun z=>nomatch z) h
  | bl y=>cases (show u = Value.bool y from rx); exact PySem.W.kia_one PySem.W.kitx_bool I.kIn True.intro e (fun z=>nomatch z) h
  | int i=>obtain ⟨t,q⟩:=(show ∃ t,u = Value.int i t from rx); cases q; exact PySem.W.kia_one PySem.W.kitx_int I.kIn True.intro e (fun z=>nomatch z) h
  | str y=>obtain ⟨t,q⟩:=(show ∃ t,u = Value.str y t from rx); cases q; exact PySem.W.kia_one PySem.W.kitx_str I.kIn True.intro e (fun z=>nomatch z) h
  | flt y=>obtain ⟨t,q⟩:=(show ∃ t,u = Value.float y t from rx); cases q; exact PySem.W.kia_one PySem.W.kitx_float I.kIn True.intro e (fun z=>nomatch z) h
  | @lst a xs ea =>
    cases (show u = Value.ref a from rx)
    obtain ⟨_,_,n,_,h1⟩:=(show ObjOk X.prog X.w H s.heap a (.lst xs) from I.hok a _ ea)
    exact PySem.W.kia_one PySem.W.kitx_list I.kIn ⟨_,h1,rfl⟩ e (fun z=>nomatch z) h
  | @frz a ob xs ea =>
    cases (show u = Value.ref a from rx)
    obtain ⟨_,_,_,n,_,h1⟩:=(show ObjOk X.prog X.w H s.heap a (.frz ob (.lst xs)) from I.hok a _ ea)
    exact PySem.W.kia_one PySem.W.kitx_list I.kIn ⟨_,h1,rfl⟩ e (fun z=>nomatch z) h
  | @tup a xs ea =>
    cases (show u = Value.ref a from rx)
    obtain ⟨_,_,_,p⟩:=(show ObjOk X.prog X.w H s.heap a (.tup xs) from I.hok a _ ea)
    obtain ⟨o,h1,h2,_⟩:=p
    exact PySem.W.kia_one PySem.W.kitx_tuple I.kIn ⟨o,h1,h2⟩ e (fun z=>nomatch z) h
  | @dK a kvs ea =>
    cases (show u = Value.ref a from rx)
    obtain ⟨_,_,vs,_,p⟩:=(show ObjOk X.prog X.w H s.heap a (.dK kvs) from I.hok a _ ea)
    obtain ⟨o,es,ep,h1,h2,_⟩:=p
    exact PySem.W.kia_one PySem.W.kitx_dict I.kIn ⟨o,h1,h2.1⟩ e (fun z=>nomatch z) h
  | @dT a kvs ea =>
    cases (show u = Value.ref a from rx)
    obtain ⟨_,_,xs,_,o,es,ep,h1,h2,_⟩:=(show ObjOk X.prog X.w H s.heap a (.dT kvs) from I.hok a _ ea)
    exact PySem.W.kia_one PySem.W.kitx_dict I.kIn ⟨o,h1,h2.1⟩ e (fun z=>nomatch z) h
  | @ins a C dx fs ea cl ha hn htk hm =>
    cases (show u = Value.ref a from rx)
    obtain ⟨mA,O,_⟩:=ins_get I.hok ea
    obtain ⟨od,J,_⟩:=O.look
    exact PySem.W.kia_one (PySem.W.kitx_own (cl.get _) cl.hd ha hn htk hm) I.kIn J e (fun z=>nomatch z) h
end
end L2
namespace L2
open PySem PySem.Spec PyProof.Rows
structure Room (k : Nat) (A : Around) : Prop where
  hd : A.handled = none
  dp : A.depth + 3 * k + 5 < recursionLimit
  un : A.units + 16 * k + 200 < cLine
theorem Room.mono {j k : Nat} {A : Around} (r : Room k A) (h : j ≤ k) : Room j A:=⟨r.hd,by have:=r.dp; omega,by have:=r.un; omega⟩
theorem Room.deeper {k : Nat} {A : Around} (r : Room (k + 1) A) (env : Env) : Room k (A.deeper env) :=
  ⟨r.hd,by have:=r.dp; show A.depth + 1 + 3 * k + 5 < _; omega,by have:=r.un; show A.units + 3 + 16 * k + 200 < _; omega⟩
theorem make_depth {A : Around} {C : Addr} {us : List Value} {kw : List (Str × Value)} : (A.under (.builtin "type.__call__" ⟨.ref C :: us,kw⟩)).depth = A.depth + 1:=by
  first | rfl | simp [Around.under,Code.weight,Code.isCreation,Code.isGuard,Code.isCaller,Code.frames,Code.isFrame,guardIds]
theorem make_units {A : Around} {C : Addr} {us : List Value} {kw : List (Str × Value)} : (A.under (.builtin "type.__call__" ⟨.ref C :: us,kw⟩)).units = A.units + 1:=by
  first | rfl | simp [Around.under,Code.cUnits,Code.frames,Code.isFrame]
theorem Room.make {k : Nat} {A : Around} (r : Room (k + 1) A) (C : Addr) (us : List Value) (kw : List (Str × Value)) : Room k (A.under (.builtin "type.__call__" ⟨.ref C :: us,kw⟩)) :=
  ⟨r.hd,by have:=r.dp; rw [make_depth]; omega,by have:=r.un; rw [make_units]; omega⟩
theorem Room.depth {k : Nat} {A : Around} (r : Room k A) : A.depth < recursionLimit:=by have:=r.dp; omega
theorem Room.units {k : Nat} {A : Around} (r : Room k A) : A.units + 64 < cLine:=by have:=r.un; omega
def tNil : TA:=fun _ H Q=>Q [] H
def tCons (ta : TE) (tr : TA) : TA:=fun σ H Q=>ta σ H fun x H1=>tr σ H1 fun xs H2=>Q (x :: xs) H2
section
variable {X : Cx} {e : Expr} {es : List Expr} {te : TE} {t : TA} {pos : Pos}
theorem pa_nil : PA X [] tNil:=fun _ _ _ _ H Q I h=>Calls.spliced_nil ⟨[],H,I,.nil,h⟩
theorem pa_cons (ha : PE X e te) (hr : PA X es t) (hs : starEach (e :: es) X.env = (false,eval e X.env) :: starEach es X.env:=by rfl) : PA X (e :: es) (tCons te t):=by
  intro pos pins s σ H Q I h
  rw [hs]
  show wpAny _ _ (spliced ((false,eval e X.env) :: backTo pos (starEach es X.env))) _ _ s
  refine Calls.spliced_cons (thn (ha pins s σ H _ I h) fun u s1 ⟨x,H1,I1,r1,q1⟩=>?_)
  exact thn (hr pos pins s1 σ H1 _ I1 q1) fun us s2 ⟨xs,H2,I2,r2,q2⟩=>⟨x :: xs,H2,I2,.cons r1 r2,q2⟩
def tTup (t : TA) : TE:=fun σ H Q=>t σ H fun xs H1=>xs.length ≤ sizeLine ∧ ∀ p,H1 p = none → Q (.ref p) (upd H1 p (.tup xs))
def tLst (t : TA) : TE:=fun σ H Q=>t σ H fun xs H1=>xs.length ≤ sizeLine ∧ ∀ p,H1 p = none → Q (.ref p) (upd H1 p (.lst xs))
theorem pe_tup {x1} (h : PA X es t) : PE X (.Tuple es x1 pos) (tTup t):=by
  intro pins s σ H Q I hq
  refine wpAny_Tuple_spliced (thn (h pos pins s σ H _ I hq) fun us s1 ⟨xs,H1,I1,r,z,q⟩=>⟨by rw [← r.length]; exact z,?_⟩)
  have hf : H1 s1.heap.objs.size = none:=I1.hok.fresh (Nat.le_refl _)
  refine ⟨.ref s1.heap.objs.size,upd H1 s1.heap.objs.size (.tup xs),I1.laid (t':=s1.toks) (fun b u e=>Heap.get?_push_of_some _ e) (Nat.le_refl _) ?_,rfl,q _ hf⟩
  exact ⟨z,us,r,⟨_,Heap.get?_push_size _ rfl,rfl,_,rfl⟩⟩
theorem pe_lst (h : PA X es t) : PE X (.List es pos) (tLst t):=by
  intro pins s σ H Q I hq
  refine wpAny_List_spliced (thn (h pos pins s σ H _ I hq) fun us s1 ⟨xs,H1,I1,r,z,q⟩=>⟨by rw [← r.length]; exact z,?_⟩)
  have hf : H1 s1.heap.objs.size = none:=I1.hok.fresh (Nat.le_refl _)
  refine ⟨.ref s1.heap.objs.size,upd H1 s1.heap.objs.size (.lst xs),I1.laid (t':=s1.toks) (fun b u e=>Heap.get?_push_of_some _ e) (Nat.le_refl _) ?_,rfl,q _ hf⟩
  exact ⟨z,us,0,r,Heap.get?_push_size _ rfl⟩
end
abbrev Sp:=List V → Hp → VK → XK → Prop
abbrev CXT:=List Env → Hp → Shared → XK → Value → Shared → Prop
structure Env0 (P : Program) (w : World) (K : PySem.W.Frag) (mg : Str → Option Value) (base : Heap) (A : Around) (outer : List Env) (s : Shared) (H : Hp) : Prop where
  frames : A.frames = some outer
  mod : Mod K mg base
  bs : ∀ b o,base.get? b = some o → s.heap.get? b = some o ∧ H b = none
  bsz : base.objs.size ≤ s.heap.objs.size
  funs : s.heap.FunFrames base outer
  frf : ∀ b ∈ frs outer,H b = none
  hok : HOk P w H s.heap
  bare : AllBare s.gens
def CE (outer : List Env) (P : Program) (w : World) (H : Hp) (s : Shared) (Q : VK) (u : Value) (s' : Shared) : Prop :=
  ∃ v H',s'.os = s.os ∧ AllBare s'.gens ∧ Un (frs outer) [] H H' s.heap s'.heap ∧ HOk P w H' s'.heap ∧ RelV v u ∧ Q v H'
def CR (CX : CXT) (outer : List Env) (P : Program) (w : World) (H : Hp) (s : Shared) (Q : VK) (E : XK) (r : Result) (s' : Shared) : Prop :=
  match r with
  | .ok (.ret u)=>CE outer P w H s Q u s'
  | .ok _=>False
  | .error e=>CX outer H s E e s'
structure FnOk (P : Program) (w : World) (K : PySem.W.Frag) (mg : Str → Option Value) (base : Heap) (CX : CXT) (k : Nat) (f : Addr) (fd : FuncData) (ps : List Str) (sp : Sp) : Prop where
  len : ∀ vs H Q E,sp vs H Q E → vs.length = ps.length
  run : ∀ (A : Around) (outer : List Env) (s : Shared) (H : Hp) (args : Args) (us : List Value) (vs : List V) (Q : VK) (E : XK),Room k A → Env0 P w K mg base A outer s H → BindsTo s fd args (ps.zip us) → Vals vs us → sp vs H Q E →
    codeAny (model P w) A (.call (.ref f) args) (CR CX outer P w H s Q E) s
theorem Env0.make {P : Program} {w : World} {K : PySem.W.Frag} {mg : Str → Option Value} {base : Heap} {A : Around} {outer : List Env} {s : Shared} {H : Hp} (e : Env0 P w K mg base A outer s H) (C : Addr) (us : List Value) (kw : List (Str × Value)) :
    Env0 P w K mg base (A.under (.builtin "type.__call__" ⟨.ref C :: us,kw⟩)) outer s H:=⟨by first | exact e.frames | (simpa [Around.under,Code.envs,Code.isFrame,pushEnvs] using e.frames),e.mod,e.bs,e.bsz,e.funs,e.frf,e.hok,e.bare⟩
section
variable {X : Cx} {pins : List (Addr × Obj)} {σ : St} {H : Hp} {s s' : Shared}
theorem Inv.env0 (I : Inv X pins σ H s) : Env0 X.prog X.w X.K X.mg X.base X.A X.stack s H :=
  ⟨I.ok.frames,I.ok.mod,I.bs,Nat.le_trans I.ok.bsz I.sz,I.stack,I.stkFree,I.hok,I.bare⟩
theorem Inv.after {Q : VK} {u : Value} (I : Inv X pins σ H s) (h : CE X.stack X.prog X.w H s Q u s') : EP X pins σ Q u s':=by
  obtain ⟨v,H',os,bare,un,hok,r,q⟩:=h
  obtain ⟨hh,g,d,t,os'⟩:=s'
  obtain rfl : os' = s.os:=os
  exact ⟨v,H',I.call (h':=hh) (g':=g) (d':=d) (t':=t) (ch:=[]) un hok bare (fun b z=>absurd z (by simp)),r,q⟩
end
def tCall (sp : Sp) (dvs : List V) (E : XK) (t : TA) : TE:=fun σ H Q=>t σ H fun vs H1=>sp (vs ++ dvs) H1 Q E
def tMeth (C : Addr) (m : Str) (sp : Sp) (dvs : List V) (E : XK) (ta : TE) (t : TA) : TE:=fun σ H Q=>ta σ H fun x H1=>∃ a dx fs,x = .ref a ∧ H1 a = some (.ins C dx fs) ∧ fs.lookup m = none ∧
  t σ H1 fun vs H2=>sp (x :: (vs ++ dvs)) H2 Q E
def tMake (C : Addr) (sp : Sp) (dvs : List V) (E : XK) (t : TA) : TE:=fun σ H Q=>t σ H fun vs H1=>∀ x dx,H1 x = none → H1 dx = none → dx ≠ x →
  sp (.ref x :: (vs ++ dvs)) (upd (upd H1 dx (.own x)) x (.ins C dx [])) (fun v H2=>v = .non ∧ Q (.ref x) H2) E
def Binds (K : PySem.W.Frag) (fd : FuncData) (ps : List Str) (ds : List Value) : Prop :=
  ∀ (s : Shared) (us : List Value),K.In s.heap → (us ++ ds).length = ps.length → BindsTo s fd ⟨us,[]⟩ (ps.zip (us ++ ds))
theorem Binds.all {K : PySem.W.Frag} {fd : FuncData} {ps : List Str} (h : ∀ us : List Value,us.length = ps.length → bindArgs fd ⟨us,[]⟩ = pure (ps.zip us)) : Binds K fd ps []:=fun s us _ hl=>by
  rw [List.append_nil] at hl ⊢
  exact .of_eq (h us hl)
def Passes (CX : CXT) (X : Cx) (E : XK) : Prop:=∀ (pins : List (Addr × Obj)) (σ : St) (H : Hp) (s : Shared) (e : Value) (s' : Shared),Inv X pins σ H s → CX X.stack H s E e s' → X.xe e s'
section
variable {X : Cx} {CX : CXT} {k : Nat} {f C : Addr} {fd : FuncData} {ps : List Str} {sp : Sp} {dvs : List V} {ds : List Value} {E : XK} {x m : Str} {p pos apos : Pos} {e o : Expr} {es : List Expr} {ta : TE} {t : TA}
theorem run_fn {pins : List (Addr × Obj)} {σ : St} {H : Hp} {s : Shared} {Q : VK} {us : List Value} {vs : List V} (F : FnOk X.prog X.w X.K X.mg X.base CX k f fd ps sp) (hr : Room k X.A) (hb : Binds X.K fd ps ds) (hd : Vals dvs ds) (hx : Passes CX X E)
    (I : Inv X pins σ H s) (r : Vals vs us) (h : sp (vs ++ dvs) H Q E) : wpAny (model X.prog X.w) X.A (call (.ref f) us) (EP X pins σ Q) X.xe s:=by
  have r2 : Vals (vs ++ dvs) (us ++ ds):=r.append hd
  have hl : (us ++ ds).length = ps.length:=by rw [← r2.length]; exact F.len _ _ _ _ h
  refine wpAny_call (codeAny_mono (F.run X.A X.stack s H ⟨us,[]⟩ (us ++ ds) (vs ++ dvs) Q E hr I.env0 (hb s us I.kIn hl) r2 h) fun r s' hq=>?_)
  cases r with
  | error e=>exact hx pins σ H s e s' I hq
  | ok fl =>
    cases fl with
    | ret u=>exact I.after hq
    | next=>exact False.elim hq
    | brk=>exact False.elim hq
    | cont=>exact False.elim hq
theorem pe_call (F : FnOk X.prog X.w X.K X.mg X.base CX k f fd ps sp) (hr : Room k X.A) (hg : Gl X x) (hm : X.mg x = some (.ref f)) (hk : PySem.W.keepIn X.K (.ref f) = true) (hb : Binds X.K fd ps ds) (hd : Vals dvs ds) (hx : Passes CX X E)
    (ha : PA X (e :: es) t) (hdb : (x == ("__debug__" : Str)) = false:=by decide) (he : starEach (e :: es) X.env = (false,eval e X.env) :: starEach es X.env:=by rfl) (hpl : (backTo pos (starEach es X.env)).any (·.1) = false:=by rfl) :
    PE X (.Call (.Name x p) (e :: es) [] pos) (tCall sp dvs E t):=by
  intro pins s σ H Q I h
  refine wpAny_Call_Name_kw (ld_glob I hg hm ?_ hdb)
  refine PySem.W.callWith_K (h₀:=X.base) I.ok.mod.kin hk (thn (ha pos pins s σ H _ I h) fun us s1 ⟨vs,H1,I1,r,q⟩=>⟨I1.kIn,?_⟩) he hpl
  exact run_fn F hr hb hd hx I1 r q
theorem pe_meth {pl : Sem Bool} (he : PE X o ta) (c : Cls X.K C) (hm : Meth X.K C m f) (F : FnOk X.prog X.w X.K X.mg X.base CX k f fd ps sp) (hr : Room k X.A) (hb : Binds X.K fd ps ds) (hd : Vals dvs ds) (hx : Passes CX X E) (ha : PA X (e :: es) t)
    (hst : starEach (e :: es) X.env = (false,eval e X.env) :: starEach es X.env:=by rfl) (hpl : (backTo pos (starEach es X.env)).any (·.1) = false:=by rfl)
    (ht : eval (.Call (.Attribute o m apos) (e :: es) [] pos) X.env = (do
      let ov ← eval o X.env
      standAt apos.atName
      let (f,first) ← holding [ov] (getMethod ov m pl)
      callWith pos f first (backTo pos (starEach (e :: es) X.env)) (backToKw pos (keywordEach [] X.env))):=by rfl) :
    PE X (.Call (.Attribute o m apos) (e :: es) [] pos) (tMeth C m sp dvs E ta t):=by
  intro pins s σ H Q I h
  refine PySem.W.methodCall_KW (pl:=pl) (thn (he pins s σ H _ I h) fun u s1 ⟨x,H1,I1,rx,a,dx,fs,ex,ea,l,q⟩=>?_) ht
  subst ex
  obtain rfl : u = Value.ref a:=rx
  refine getmeth_ok I1 ea c hm l ?_
  refine PySem.W.callWith_K (first:=[.ref a]) (h₀:=X.base) I.ok.mod.kin hm.kp (thn (ha pos pins s1 σ H1 _ I1 q) fun us s2 ⟨vs,H2,I2,r,q2⟩=>⟨I2.kIn,?_⟩) hst hpl
  exact run_fn (us:=.ref a :: us) (vs:=.ref a :: vs) F hr hb hd hx I2 (.cons rfl r) q2
theorem pe_meth0 {pl : Sem Bool} (he : PE X o ta) (c : Cls X.K C) (hm : Meth X.K C m f) (F : FnOk X.prog X.w X.K X.mg X.base CX k f fd ps sp) (hr : Room k X.A) (hb : Binds X.K fd ps ds) (hd : Vals dvs ds) (hx : Passes CX X E)
    (ht : eval (.Call (.Attribute o m apos) [] [] pos) X.env = (do
      let ov ← eval o X.env
      standAt apos.atName
      let (f,first) ← holding [ov] (getMethod ov m pl)
      callWith pos f first (backTo pos (starEach [] X.env)) (backToKw pos (keywordEach [] X.env))):=by rfl) :
    PE X (.Call (.Attribute o m apos) [] [] pos) (tMeth C m sp dvs E ta tNil):=by
  intro pins s σ H Q I h
  refine PySem.W.methodCall_KW (pl:=pl) (thn (he pins s σ H _ I h) fun u s1 ⟨x,H1,I1,rx,a,dx,fs,ex,ea,l,q⟩=>?_) ht
  subst ex
  obtain rfl : u = Value.ref a:=rx
  refine getmeth_ok I1 ea c hm l ?_
  exact PySem.W.callWith_K0 (first:=[.ref a]) I1.kIn hm.kp (run_fn (us:=[.ref a]) (vs:=[.ref a]) F hr hb hd hx I1 (.cons rfl .nil) q)
structure Mk (K : PySem.W.Frag) (C f : Addr) : Prop where
  makes : PySem.W.makesIn K C = true
  init : PySem.W.findIn K (.ref C) "__init__" = some (some (.ref f))
  fn : PySem.W.isFn K (.ref f) = true
  kp : PySem.W.keepIn K (.ref C) = true
theorem run_make {pins : List (Addr × Obj)} {σ : St} {H : Hp} {s : Shared} {Q : VK} {us : List Value} {vs : List V} (M : Mk X.K C f) (F : FnOk X.prog X.w X.K X.mg X.base CX k f fd ps sp) (hr : Room (k + 1) X.A) (hb : Binds X.K fd ps ds) (hd : Vals dvs ds)
    (hx : Passes CX X E) (I : Inv X pins σ H s) (r : Vals vs us)
    (h : ∀ x dx,H x = none → H dx = none → dx ≠ x → sp (.ref x :: (vs ++ dvs)) (upd (upd H dx (.own x)) x (.ins C dx [])) (fun v H2=>v = .non ∧ Q (.ref x) H2) E) :
    wpAny (model X.prog X.w) X.A (call (.ref C) us) (EP X pins σ Q) X.xe s:=by
  have hq:=h (s.heap.objs.size + 1) s.heap.objs.size (I.hok.fresh (Nat.le_succ _)) (I.hok.fresh (Nat.le_refl _)) (Nat.ne_of_lt (Nat.lt_succ_self _))
  have I2:=Inv.made (C:=C) I
  have r2 : Vals (V.ref (s.heap.objs.size + 1) :: (vs ++ dvs)) (Value.ref (s.heap.objs.size + 1) :: (us ++ ds)):=.cons rfl (r.append hd)
  have hl : (Value.ref (s.heap.objs.size + 1) :: us ++ ds).length = ps.length:=by
    have e:=r2.length
    rw [F.len _ _ _ _ hq] at e
    exact e.symm
  refine wpAny_call (make_map (f:=f) I.kIn M.makes M.init (beq_iff_eq.mp M.fn) (codeAny_mono (F.run _ X.stack _ _ ⟨Value.ref (s.heap.objs.size + 1) :: us,[]⟩ (Value.ref (s.heap.objs.size + 1) :: (us ++ ds)) _ _ E (hr.make C us [])
    (I2.env0.make C us []) (hb _ (Value.ref (s.heap.objs.size + 1) :: us) I2.kIn hl) r2 hq) fun r s' hq'=>?_))
  cases r with
  | error e=>exact hx pins σ _ _ e s' I2 hq'
  | ok fl =>
    cases fl with
    | ret u =>
      obtain ⟨v,H',I3,rv,ev,q3⟩:=I2.after hq'
      subst ev
      exact ⟨rv,⟨V.ref (s.heap.objs.size + 1),H',I3,rfl,q3⟩⟩
    | next=>exact False.elim hq'
    | brk=>exact False.elim hq'
    | cont=>exact False.elim hq'
theorem pe_make (M : Mk X.K C f) (F : FnOk X.prog X.w X.K X.mg X.base CX k f fd ps sp) (hr : Room (k + 1) X.A) (hg : Gl X x) (hm : X.mg x = some (.ref C)) (hb : Binds X.K fd ps ds) (hd : Vals dvs ds) (hx : Passes CX X E)
    (ha : PA X (e :: es) t) (hdb : (x == ("__debug__" : Str)) = false:=by decide) (he : starEach (e :: es) X.env = (false,eval e X.env) :: starEach es X.env:=by rfl) (hpl : (backTo pos (starEach es X.env)).any (·.1) = false:=by rfl) :
    PE X (.Call (.Name x p) (e :: es) [] pos) (tMake C sp dvs E t):=by
  intro pins s σ H Q I h
  refine wpAny_Call_Name_kw (ld_glob I hg hm ?_ hdb)
  refine PySem.W.callWith_K (h₀:=X.base) I.ok.mod.kin M.kp (thn (ha pos pins s σ H _ I h) fun us s1 ⟨vs,H1,I1,r,q⟩=>⟨I1.kIn,?_⟩) he hpl
  exact run_make M F hr hb hd hx I1 r q
end
section
variable {X : Cx} {CX : CXT} {k : Nat} {f C : Addr} {fd : FuncData} {ps ks : List Str} {sp : Sp} {E : XK} {x m : Str} {p pos apos kpos : Pos} {e o : Expr} {es : List Expr} {kws : List Keyword} {te ta : TE} {t tk : TA} {nm : Option Str}
structure KBinds (K : PySem.W.Frag) (fd : FuncData) (ps ks : List Str) (g : List Value → List Value → List Value) (gV : List V → List V → List V) : Prop where
  to : ∀ (s : Shared) (us ws : List Value),K.In s.heap → (g us ws).length = ps.length → BindsTo s fd ⟨us,ks.zip ws⟩ (ps.zip (g us ws))
  rel : ∀ {vs : List V} {us : List Value} {zs : List V} {ws : List Value},Vals vs us → Vals zs ws → Vals (gV vs zs) (g us ws)
variable {g : List Value → List Value → List Value} {gV : List V → List V → List V}
end
structure FnScope (N P : List Str) (sc : Scope) : Prop where
  kind : sc.kind = .function
  co : sc.isCoroutine = false
  gen : sc.isGenerator = false
  nd : N.Nodup
  pre : N.take P.length = P
  par : ∀ x ∈ P,sc.names.lookup x = some .local ∨ sc.names.lookup x = some .cell
  nofree : ∀ y ∈ sc.names,y.2 ≠ .free
theorem bindL_out {kindOf : Str → Option NameKind} {x : Str} : ∀ {binds : List (Str × Value)} {m : Str → Option Value},(∀ v,(x,v) ∉ binds) → bindL kindOf binds m x = m x
  | [],_,_=>rfl
  | (n,v) :: r,m,h=>by
    unfold bindL
    rw [bindL_out fun w hw=>h w (List.mem_cons_of_mem _ hw)]
    split
    · have : x ≠ n:=by rintro rfl; exact h v List.mem_cons_self
      simp [this]
    · rfl
theorem bindC_out {kindOf : Str → Option NameKind} {x : Str} : ∀ {binds : List (Str × Value)} {m : Str → Option Value},(∀ v,(x,v) ∉ binds) → bindC kindOf binds m x = m x
  | [],_,_=>rfl
  | (n,v) :: r,m,h=>by
    unfold bindC
    rw [bindC_out fun w hw=>h w (List.mem_cons_of_mem _ hw)]
    split
    · rfl
    · have : x ≠ n:=by rintro rfl; exact h v List.mem_cons_self
      simp [this]
theorem bindL_get {kindOf : Str → Option NameKind} {x : Str} {v : Value} : ∀ {P : List Str} {vs : List Value} {i : Nat} {m : Str → Option Value},P.Nodup → P[i]? = some x → vs[i]? = some v → kindOf x = some .local →
    bindL kindOf (P.zip vs) m x = some v
  | [],_,_,_,_,h,_,_=>by simp at h
  | _ :: _,[],_,_,_,_,h,_=>by simp at h
  | p :: P,w :: vs,0,m,nd,h1,h2,hk=>by
    simp at h1 h2; subst h1; subst h2
    show bindL kindOf ((p,w) :: P.zip vs) m p = _
    unfold bindL
    rw [bindL_out fun v hv=>(List.nodup_cons.mp nd).1 (List.of_mem_zip hv).1,if_pos hk]
    simp
  | p :: P,w :: vs,i + 1,m,nd,h1,h2,hk=>by
    show bindL kindOf ((p,w) :: P.zip vs) m x = _
    unfold bindL
    exact bindL_get (i:=i) (List.nodup_cons.mp nd).2 (by simpa using h1) (by simpa using h2) hk
theorem bindC_get {kindOf : Str → Option NameKind} {x : Str} {v : Value} : ∀ {P : List Str} {vs : List Value} {i : Nat} {m : Str → Option Value},P.Nodup → P[i]? = some x → vs[i]? = some v → kindOf x ≠ some .local →
    bindC kindOf (P.zip vs) m x = some v
  | [],_,_,_,_,h,_,_=>by simp at h
  | _ :: _,[],_,_,_,_,h,_=>by simp at h
  | p :: P,w :: vs,0,m,nd,h1,h2,hk=>by
    simp at h1 h2; subst h1; subst h2
    show bindC kindOf ((p,w) :: P.zip vs) m p = _
    unfold bindC
    rw [bindC_out fun v hv=>(List.nodup_cons.mp nd).1 (List.of_mem_zip hv).1,if_neg hk]
    simp
  | p :: P,w :: vs,i + 1,m,nd,h1,h2,hk=>by
    show bindC kindOf ((p,w) :: P.zip vs) m x = _
    unfold bindC
    exact bindC_get (i:=i) (List.nodup_cons.mp nd).2 (by simpa using h1) (by simpa using h2) hk
def start (N : List Str) (vs : List V) : St:=vs.map some ++ List.replicate (N.length - vs.length) none
def cxOf (CX : CXT) (P : Program) (w : World) (K : PySem.W.Frag) (mg : Str → Option Value) (base : Heap) (N : List Str) (qual : Str) (scope : Scope) (f : Addr) (cd : Value) (A : Around) (outer : List Env) (s : Shared) (H : Hp) (E : XK) : Cx where
  prog:=P
  w:=w
  K:=K
  mg:=mg
  base:=base
  A:=A.deeper (envOfC qual scope s.heap.objs.size f cd)
  N:=N
  s₀:=s
  H₀:=H
  env:=envOfC qual scope s.heap.objs.size f cd
  outer:=outer
  stack:=envOfC qual scope s.heap.objs.size f cd :: outer
  ex:=[]
  calm:=true
  fn:=fun _=>true
  pn:=[]
  xe:=fun e s'=>wpAny (model P w) (A.deeper (envOfC qual scope s.heap.objs.size f cd)) (leaving (envOfC qual scope s.heap.objs.size f cd) e) (fun _ s''=>CX outer H s E e s'') (fun e' s''=>CX outer H s E e' s'') s'
theorem cell_has {sc : Scope} {n : Nat} {x : Str} (h : sc.names.lookup x = some .cell) : ∃ c,(cellsFrom n sc.names []).lookup x = some c:=by
  have q:=PySem.W.cellsFrom_some sc.names n [] (.inl h)
  exact Option.isSome_iff_exists.mp q
theorem inv_start {CX : CXT} {P : Program} {w : World} {K : PySem.W.Frag} {mg : Str → Option Value} {base : Heap} {N ps : List Str} {qual : Str} {scope : Scope} {f : Addr} {cd : Value} {A : Around} {outer : List Env} {s s1 : Shared} {H : Hp} {E : XK} {us : List Value} {vs : List V}
    (S : FnScope N ps scope) (hd : A.handled = none) (e0 : Env0 P w K mg base A outer s H) (hl : vs.length = ps.length) (r : Vals vs us)
    (x : InCallC s s.heap.objs.size (bindL (envOfC qual scope s.heap.objs.size f cd).kindOf (ps.zip us) fun _=>none) (cellsFrom (s.heap.objs.size + 1) scope.names []) (bindC (envOfC qual scope s.heap.objs.size f cd).kindOf (ps.zip us) fun _=>none) s1) :
    Inv (cxOf CX P w K mg base N qual scope f cd A outer s H E) [] (start N vs) H s1:=by
  have hpl : ps.length ≤ N.length:=by have:=congrArg List.length S.pre; rw [List.length_take] at this; omega
  obtain ⟨h1,tk,rfl,hk⟩:=x.done
  have noA : ∀ b : Addr,b ∉ (cxOf CX P w K mg base N qual scope f cd A outer s H E).ex:=fun b z=>absurd (show b ∈ ([] : List Addr) from z) (by simp)
  refine ⟨⟨e0.mod,S.kind,rfl,rfl,Nat.le_refl _,fun y z c h1 h2=>?_,fun y hy=>?_,fun y c _ h=>?_,fun _=>hd,Around.frames_deeper e0.frames,.inr ⟨rfl,rfl⟩,fun b z=>absurd z (noA b),e0.bs,e0.bsz,fun b _ _=>noA b,fun b z=>absurd z (noA b),e0.funs,e0.frf⟩,
    rfl,e0.bare,Un.kept hk,⟨_,x.toInCall.ns,fun i y v h1 h2 h3=>?_⟩,fun y c h=>⟨_,x.cell y c h⟩,e0.hok.fresh (Nat.le_refl _),fun y c h=>?_,fun p hp=>absurd (show p ∈ ([] : List (Addr × Obj)) from hp) (by simp),e0.hok.kept hk,?_⟩
  · exact name_of_addr x.apart (PySem.mem_of_lookup h1) (PySem.mem_of_lookup h2)
  · have hy : scope.names.lookup y = some .cell ∨ scope.names.lookup y = some .free:=hy
    rcases hy with hy | hy
    · exact cell_has hy
    · exact absurd rfl (S.nofree _ (PySem.mem_of_lookup hy))
  · exact Nat.le_of_lt (x.above y c (PySem.mem_of_lookup h))
  · have hi : i < vs.length:=by
      unfold start at h2
      by_cases hi : i < vs.length
      · exact hi
      · rw [List.getElem?_append_right (by simpa using hi)] at h2
        rw [List.getElem?_replicate] at h2
        split at h2 <;> cases h2
    have ha : vs[i]? = some v:=by
      unfold start at h2
      rw [List.getElem?_append_left (by simpa using hi),List.getElem?_map] at h2
      cases e : vs[i]? with
      | none=>rw [e] at h2; cases h2
      | some a=>rw [e] at h2; cases h2; rfl
    obtain ⟨u,hu,rv⟩:=r.get ha
    have hp : ps[i]? = some y:=by
      rw [← S.pre,List.getElem?_take_of_lt (by omega)]; exact h1
    have ndP : ps.Nodup:=by rw [← S.pre]; exact S.nd.sublist (List.take_sublist _ _)
    refine ⟨u,rv,?_⟩
    rcases S.par y (List.mem_of_getElem? hp) with k | k
    · exact .inl ⟨k,bindL_get ndP hp hu k⟩
    · obtain ⟨c,e⟩:=cell_has (n:=s.heap.objs.size + 1) k
      refine .inr ⟨.inl k,c,e,?_⟩
      have q:=x.cell y c e
      rw [bindC_get ndP hp hu (by show scope.names.lookup y ≠ _; rw [k]; decide)] at q
      exact q
  · exact e0.hok.fresh (Nat.le_of_lt (x.above y c (PySem.mem_of_lookup h)))
  · unfold start
    show _ = N.length
    rw [List.length_append,List.length_map,List.length_replicate]
    omega
theorem fn_of {CX : CXT} {P : Program} {w : World} {K : PySem.W.Frag} {mg : Str → Option Value} {base : Heap} {k : Nat} {f : Addr} {name qual : Str} {params : Arguments} {body : List Stmt} {scope : Scope} {dV kV doc pm cdv ct oc : Value} {an od : Option Addr}
    {osl : Array (Option Value)} {N ps : List Str} {sp : Sp} (lk : K.lookup f = some ⟨oc,od,.func (PySem.W.fnOf name qual params body scope dV kV doc pm an cdv ct),osl⟩) (hcd : PySem.W.codeIn K cdv qual = true) (S : FnScope N ps scope)
    (len : ∀ vs H Q E,sp vs H Q E → vs.length = ps.length)
    (hbody : ∀ (A : Around) (outer : List Env) (s : Shared) (H : Hp) (vs : List V) (Q : VK) (E : XK),Room k (A.deeper (envOfC qual scope s.heap.objs.size f cdv)) → sp vs H Q E →
      ∃ t,PSs (cxOf CX P w K mg base N qual scope f cdv A outer s H E) body t ∧ t { nx:=fun _ H'=>Q .non H',rt:=Q } (start N vs) H) :
    FnOk P w K mg base CX (k + 1) f (PySem.W.fnOf name qual params body scope dV kV doc pm an cdv ct) ps sp:=by
  refine ⟨len,fun A outer s H args us vs Q E hr e0 hb r hsp=>?_⟩
  have hl:=len _ _ _ _ hsp
  have KX : K.In s.heap:=e0.mod.kin.keeps fun b o e=>(e0.bs b o e).1
  have lim : s.heap.NoLimit:=e0.mod.nolimit.keeps fun b o e=>(e0.bs b o e).1
  have hkind : ∀ y ∈ ps.zip us,scope.names.lookup y.1 = some .local ∨ (scope.names.lookup y.1 = some .cell ∧ ((cellsFrom (s.heap.objs.size + 1) scope.names []).lookup y.1).isSome = true):=fun ⟨n,v⟩ hy=>by
    rcases S.par n (List.of_mem_zip hy).1 with q | q
    · exact .inl q
    · exact .inr ⟨q,PySem.W.cellsFrom_some _ _ _ (.inl q)⟩
  refine codeAny_call_function hr.depth (KX _ _ lk) rfl S.co S.gen rfl (PySem.W.codeRec_of KX hcd) (hb _ _ _ _ ?_)
  refine wpAny_newFunctionEnv_cells S.kind hkind fun env he s1 x=>?_
  subst he
  refine ⟨lim.keeps x.toInCall.keep,codeAny_func ?_⟩
  obtain ⟨t,ht,hq⟩:=hbody A outer s H vs Q E (hr.deeper _) hsp
  have I : Inv (cxOf CX P w K mg base N qual scope f cdv A outer s H E) [] (start N vs) H s1:=inv_start S hr.hd e0 hl r x
  refine wpAny_mono (ht [] s1 (start N vs) H _ I hq) (fun fl s' hs=>?_) fun e s' hs=>hs
  have fin : ∀ {σ' : St} {H' : Hp} {v : V} {u : Value},Inv (cxOf CX P w K mg base N qual scope f cdv A outer s H E) [] σ' H' s' → RelV v u → Q v H' → CE outer P w H s Q u s' :=
    fun {σ' H' v u} J rv q=>⟨v,H',J.os,J.bare,J.base,J.hok,rv,q⟩
  cases fl with
  | ret u =>
    obtain ⟨v,σ',H',J,rv,q⟩:=hs
    exact fin J rv q
  | next =>
    obtain ⟨σ',H',J,q⟩:=hs
    exact fin (v:=V.non) (u:=Value.none) J rfl q
  | brk =>
    obtain ⟨_,_,_,q⟩:=hs
    exact False.elim q
  | cont =>
    obtain ⟨_,_,_,q⟩:=hs
    exact False.elim q
end L2
namespace L2
open PySem PySem.Spec PyProof.Rows
section
variable {X : Cx} {x : Str} {p pos : Pos} {e : Expr} {es : List Expr} {t : TA} {id T : String} {r : List V → Hp → VK → Prop}
def tCB (r : List V → Hp → VK → Prop) (t : TA) : TE:=fun σ H Q=>t σ H fun vs H1=>r vs H1 Q
theorem pe_callB (hc : CallR X (.builtin id) r) (hg : Gl X x) (hm : X.mg x = none) (hv : bootBuiltins x = some (.builtin id)) (ha : PA X (e :: es) t) (hn : x ≠ "__name__":=by decide) (hdb : (x == ("__debug__" : Str)) = false:=by decide)
    (he : starEach (e :: es) X.env = (false,eval e X.env) :: starEach es X.env:=by rfl) (hpl : (backTo pos (starEach es X.env)).any (·.1) = false:=by rfl) : PE X (.Call (.Name x p) (e :: es) [] pos) (tCB r t):=by
  intro pins s σ H Q I h
  refine wpAny_Call_Name_kw (ld_blt I hg hm hv ?_ hn hdb)
  exact PyProof.Rows.callWith_builtin1 (thn (ha pos pins s σ H _ I h) fun us s1 ⟨vs,H1,I1,r1,q1⟩=>hc pins s1 σ H1 vs us Q I1 r1 q1) he hpl
theorem pe_callTy (hc : CallR X (.type T) r) (hg : Gl X x) (hm : X.mg x = none) (hv : bootBuiltins x = some (.type T)) (ha : PA X (e :: es) t) (hn : x ≠ "__name__":=by decide) (hdb : (x == ("__debug__" : Str)) = false:=by decide)
    (he : starEach (e :: es) X.env = (false,eval e X.env) :: starEach es X.env:=by rfl) (hpl : (backTo pos (starEach es X.env)).any (·.1) = false:=by rfl) : PE X (.Call (.Name x p) (e :: es) [] pos) (tCB r t):=by
  intro pins s σ H Q I h
  refine wpAny_Call_Name_kw (ld_blt I hg hm hv ?_ hn hdb)
  exact PyProof.Rows.callWith_type1 (thn (ha pos pins s σ H _ I h) fun us s1 ⟨vs,H1,I1,r1,q1⟩=>hc pins s1 σ H1 vs us Q I1 r1 q1) he hpl
end
end L2
namespace HT
open PySem PyProof.Rows
section
open PySem.SeqAt
open PySem.AutoSeq1 (wpAny_loadPart')
open PySem.MeetsSeq PySem.MeetsSeq2 PySem.MeetsSeq3
end
section
variable {prog : Program} {w : World} {A : Around} {E : Value → Shared → Prop} {s : Shared}
end
end HT
namespace L2
open PySem PySem.Spec PyProof.Rows
section
variable {X : Cx} {e : Expr} {te : TE} {lo hi : Option Expr} {tl th : TO} {pos p2 : Pos}
end
end L2
namespace L2
open PySem PySem.Spec PyProof.Rows
def ixN (n : Nat) (i : Int) : Option Nat:=if 0 ≤ i then (if i < n then some i.toNat else none) else if -(n : Int) ≤ i then some (i + n).toNat else none
def atI {α : Type} (xs : List α) (i : Int) : Option α:=(ixN xs.length i).bind fun j=>xs[j]?
theorem ixN_seq {n : Nat} {i : Int} {j : Nat} (h : ixN n i = some j) : seqIndex? i n = some j ∧ j < n ∧ -(n : Int) ≤ i ∧ i < n:=by
  unfold ixN at h
  by_cases h0 : 0 ≤ i
  · rw [if_pos h0] at h
    by_cases h1 : i < n
    · rw [if_pos h1] at h
      have e : i.toNat = j:=Option.some.inj h
      exact ⟨by rw [seqIndex_of h0 h1,e],by omega,by omega,h1⟩
    · rw [if_neg h1] at h; cases h
  · rw [if_neg h0] at h
    by_cases h1 : -(n : Int) ≤ i
    · rw [if_pos h1] at h
      have e : (i + n).toNat = j:=Option.some.inj h
      exact ⟨by rw [seqIndex_neg (by omega) h1,e],by omega,h1,by omega⟩
    · rw [if_neg h1] at h; cases h
theorem atI_get {α : Type} {xs : List α} {i : Int} {v : α} (h : atI xs i = some v) : ∃ j,seqIndex? i xs.length = some j ∧ xs[j]? = some v ∧ j < xs.length ∧ -(xs.length : Int) ≤ i ∧ i < xs.length:=by
  unfold atI at h
  cases e : ixN xs.length i with
  | none=>rw [e] at h; cases h
  | some j =>
    rw [e] at h
    obtain ⟨h1,h2,h3,h4⟩:=ixN_seq e
    exact ⟨j,h1,h,h2,h3,h4⟩
theorem atI_nat {α : Type} {xs : List α} {j : Nat} {v : α} (h : xs[j]? = some v) : atI xs (j : Int) = some v:=by
  have hj : j < xs.length:=(List.getElem?_eq_some_iff.mp h).1
  have e : ixN xs.length (j : Int) = some j:=by
    unfold ixN
    rw [if_pos (by omega),if_pos (by omega)]; simp
  unfold atI; rw [e]; exact h
def PlainIx (b : Expr) : Prop:=∀ o i,subscripted b false o i = operate [o,i] (getItem o i)
def IxR (X : Cx) (r : R2) : Prop :=
  ∀ (value slice : Expr) (pins : List (Addr × Obj)) (s : Shared) (σ : St) (H : Hp) (x y : V) (v u : Value) (Q : VK),Inv X pins σ H s → RelV x v → RelV y u → r x y H Q →
    subscripted slice false v u = operate [v,u] (getItem v u) → wpAny (model X.prog X.w) X.A (subscriptTail value slice v u) (EP X pins σ Q) X.xe s
def MtR (X : Cx) (id : String) (r : V → List V → Hp → VK → Prop) : Prop :=
  ∀ (pins : List (Addr × Obj)) (s : Shared) (σ : St) (H : Hp) (x : V) (xs : List V) (v : Value) (us : List Value) (Q : VK),Inv X pins σ H s → RelV x v → Vals xs us → r x xs H Q →
    wpAny (model X.prog X.w) X.A (call (.builtin id) (v :: us)) (EP X pins σ Q) X.xe s
section
variable {X : Cx} {a b : Expr} {ta tb : TE} {pos : Pos}
theorem pe_ix {r : R2} (hr : IxR X r) (ha : PE X a ta) (hb : PE X b tb) (hs : PlainIx b) : PE X (.Subscript a b pos) (tOp r ta tb):=by
  intro pins s σ H Q I h
  exact Subscript_ (binT ha hb I h fun v u s2 x y H2 I2 rx ry q=>hr a b pins s2 σ H2 x y v u Q I2 rx ry q (hs _ _))
def rIxL (K : PySem.W.Frag) : R2:=fun x y H Q=>∃ p xs i v,x = .ref p ∧ y = .int i ∧ SqL K H p xs ∧ atI xs i = some v ∧ Q v H
def rIxT (K : PySem.W.Frag) : R2:=fun x y H Q=>∃ p xs i v,x = .ref p ∧ y = .int i ∧ SqT K H p xs ∧ atI xs i = some v ∧ Q v H
theorem ix_list : IxR X (rIxL X.K):=by
  intro value slice pins s σ H x y v u Q I rx ry h hs
  obtain ⟨p,xs,i,z,rfl,rfl,hq,he,q⟩:=h
  cases rx
  obtain ⟨t,rfl⟩:=ry
  obtain ⟨its,r,pl,hz⟩:=I.list hq
  obtain ⟨j,h1,h2,h3,h4,h5⟩:=atI_get he
  obtain ⟨w,ew,rw'⟩:=r.get h2
  have hl:=r.length
  have hn:=line63
  have fin : EP X pins σ Q w s:=⟨z,H,I,rw',q⟩
  by_cases h0 : 0 ≤ i
  · have hj : i.toNat = j:=by
      rw [seqIndex_of h0 h5] at h1
      exact Option.some.inj h1
    exact item_listR pl.isList h0 (by omega) (by rw [hj]; simpa using ew) fin hs
  · have hj : (i + (its.toArray.size : Int)).toNat = j:=by
      rw [seqIndex_neg (by omega) h4] at h1
      rw [List.size_toArray,← hl]
      exact Option.some.inj h1
    exact subscriptTail_builtinR (x:=w) pl.isList.typeIs slot_list_getitem.lookup
      (wpAny_getItem_list_neg (Q:=fun r s'=>r = w ∧ EP X pins σ Q r s') pl.isList (by omega) (by rw [List.size_toArray] <;> omega) (by omega) (by rw [hj]; simpa using ew) ⟨rfl,fin⟩) hs
theorem ix_tup : IxR X (rIxT X.K):=by
  intro value slice pins s σ H x y v u Q I rx ry h hs
  obtain ⟨p,xs,i,z,rfl,rfl,hq,he,q⟩:=h
  cases rx
  obtain ⟨t,rfl⟩:=ry
  obtain ⟨its,r,pl,hz⟩:=I.tuple hq
  obtain ⟨j,h1,h2,h3,h4,h5⟩:=atI_get he
  obtain ⟨w,ew,rw'⟩:=r.get h2
  have hl:=r.length
  have hn:=line63
  have fin : EP X pins σ Q w s:=⟨z,H,I,rw',q⟩
  exact subscriptTail_builtinR (x:=w) pl.typeIs slot_tuple_getitem.lookup
    (getItem_tuple (j:=j) (Q:=fun r s'=>r = w ∧ EP X pins σ Q r s') pl (by omega) (by omega) (by rw [List.size_toArray,← hl]; exact h1) (by simpa using ew) ⟨rfl,fin⟩) hs
def flatV : V → Bool
  | .non=>true
  | .bl _=>true
  | .int _=>true
  | .str _=>true
  | _=>false
def eqV : V → V → Bool
  | .non,.non=>true
  | .bl a,.bl b=>a == b
  | .bl a,.int b=>(if a then 1 else 0) == b
  | .int a,.bl b=>a == (if b then 1 else 0)
  | .int a,.int b=>a == b
  | .str a,.str b=>a == b
  | _,_=>false
theorem eqAt_V {A : Around} {s : Shared} {y x : V} {u v : Value} (ry : RelV y u) (rx : RelV x v) (fy : flatV y = true) (fx : flatV x = true) : SeqAt.EqAt A s u v (eqV y x):=by
  cases y with
  | non =>
    cases ry
    cases x with
    | non=>cases rx; exact SeqAt.EqAt.same _
    | bl b=>cases rx; exact SeqAt.EqAt.none_bool b
    | int b=>obtain ⟨t,rfl⟩:=rx; exact SeqAt.EqAt.none_int b t
    | str b=>obtain ⟨t,rfl⟩:=rx; exact SeqAt.EqAt.none_str b t
    | _=>exact absurd (show false = true from fx) Bool.false_ne_true
  | bl a =>
    cases ry
    cases x with
    | non=>cases rx; exact SeqAt.EqAt.bool_none a
    | bl b=>cases rx; exact SeqAt.EqAt.bool_bool a b
    | int b=>obtain ⟨t,rfl⟩:=rx; exact SeqAt.EqAt.bool_int a b t
    | str b=>obtain ⟨t,rfl⟩:=rx; exact SeqAt.EqAt.bool_str a b t
    | _=>exact absurd (show false = true from fx) Bool.false_ne_true
  | int a =>
    obtain ⟨t',rfl⟩:=ry
    cases x with
    | non=>cases rx; exact SeqAt.EqAt.int_none a t'
    | bl b=>cases rx; exact SeqAt.EqAt.int_bool a t' b
    | int b=>obtain ⟨t,rfl⟩:=rx; exact SeqAt.EqAt.int_int a t' b t
    | str b=>obtain ⟨t,rfl⟩:=rx; exact SeqAt.EqAt.int_str a t' b t
    | _=>exact absurd (show false = true from fx) Bool.false_ne_true
  | str a =>
    obtain ⟨t',rfl⟩:=ry
    cases x with
    | non=>cases rx; exact SeqAt.EqAt.str_none a t'
    | bl b=>cases rx; exact SeqAt.EqAt.str_bool a t' b
    | int b=>obtain ⟨t,rfl⟩:=rx; exact SeqAt.EqAt.str_int a t' b t
    | str b=>obtain ⟨t,rfl⟩:=rx; exact SeqAt.EqAt.str_str a t' b t
    | _=>exact absurd (show false = true from fx) Bool.false_ne_true
  | _=>exact absurd (show false = true from fy) Bool.false_ne_true
def eqU (x : V) (u : Value) : Bool:=match u with
  | .none=>eqV .non x
  | .bool b=>eqV (.bl b) x
  | .int i _=>eqV (.int i) x
  | .str z _=>eqV (.str z) x
  | _=>false
theorem eqU_of {x y : V} {u : Value} (r : RelV y u) (f : flatV y = true) : eqU x u = eqV y x:=by
  cases y with
  | non=>cases r; rfl
  | bl b=>cases r; rfl
  | int i=>obtain ⟨t,rfl⟩:=r; rfl
  | str z=>obtain ⟨t,rfl⟩:=r; rfl
  | _=>exact absurd (show false = true from f) Bool.false_ne_true
theorem any_eqU {x : V} : ∀ {xs : List V} {us : List Value},Vals xs us → xs.all flatV = true → us.any (eqU x) = xs.any fun y=>eqV y x
  | _,_,.nil,_=>rfl
  | y :: xs,u :: us,.cons r t,f=>by
    rw [List.all_cons,Bool.and_eq_true] at f
    rw [List.any_cons,List.any_cons,eqU_of r f.1,any_eqU t f.2]
theorem mem_eqAt {A : Around} {s : Shared} {x : V} {v : Value} (rx : RelV x v) (fx : flatV x = true) : ∀ {xs : List V} {us : List Value},Vals xs us → xs.all flatV = true → ∀ u ∈ us,SeqAt.EqAt A s u v (eqU x u)
  | _,_,.nil,_=>fun u hu=>by cases hu
  | y :: xs,u :: us,.cons r t,f=>fun u' hu=>by
    rw [List.all_cons,Bool.and_eq_true] at f
    rcases List.mem_cons.mp hu with rfl | hu
    · rw [eqU_of r f.1]; exact eqAt_V r rx f.1 fx
    · exact mem_eqAt rx fx t f.2 u' hu
def inV (x : V) (xs : List V) : Bool:=xs.any fun y=>eqV y x
def rIn (K : PySem.W.Frag) (neg : Bool) : R2:=fun x y H Q=>∃ p xs,y = .ref p ∧ (SqL K H p xs ∨ SqT K H p xs) ∧ flatV x = true ∧ xs.all flatV = true ∧ Q (.bl (if neg then !inV x xs else inV x xs)) H
theorem op_in_seq : OpR X (compareOp .In) (rIn X.K false):=by
  intro pins s σ H x y v u Q I rx ry h
  obtain ⟨p,xs,rfl,hq,fx,fs,q⟩:=h
  cases ry
  rcases hq with hq | hq
  · obtain ⟨its,r,pl,hz⟩:=I.list hq
    refine SeqAt.in_listAt (eqU x) pl.isList (fun w hw=>mem_eqAt rx fx r fs w (by simpa using hw)) ⟨.bl _,H,I,rfl,?_⟩
    rw [show its.toArray.any (eqU x) = its.any (eqU x) by simp,any_eqU r fs]
    exact q
  · obtain ⟨its,r,pl,hz⟩:=I.tuple hq
    refine SeqAt.in_tupleAt (eqU x) pl (fun w hw=>mem_eqAt rx fx r fs w (by simpa using hw)) ⟨.bl _,H,I,rfl,?_⟩
    rw [show its.toArray.any (eqU x) = its.any (eqU x) by simp,any_eqU r fs]
    exact q
theorem call_len_seq : CallR X (.builtin "len") (fun xs H Q=>∃ p ys,xs = [.ref p] ∧ (SqL X.K H p ys ∨ SqT X.K H p ys) ∧ Q (.int ys.length) H):=by
  intro pins s σ H xs us Q I r h
  obtain ⟨p,ys,rfl,hq,q⟩:=h
  obtain ⟨u,rfl,rx⟩:=vals1 r
  cases rx
  have hn:=line63
  rcases hq with hq | hq
  · obtain ⟨its,r',pl,hz⟩:=I.list hq
    have hlen:=r'.length
    exact Calls.call_len_list pl.isList (by simp only [List.size_toArray] <;> omega) ⟨.int ys.length,H,I.tok _,⟨s.toks + 1,by rw [List.size_toArray,hlen]⟩,q⟩
  · obtain ⟨its,r',pl,hz⟩:=I.tuple hq
    have hlen:=r'.length
    exact len_tuple pl (by simp only [List.size_toArray] <;> omega) ⟨.int ys.length,H,I.tok _,⟨s.toks + 1,by rw [List.size_toArray,hlen]⟩,q⟩
theorem call_list_of : CallR X (.type "list") (fun xs H Q=>∃ p ys,xs = [.ref p] ∧ (SqL X.K H p ys ∨ SqT X.K H p ys) ∧ ∀ l,H l = none → Q (.ref l) (upd H l (.lst ys))):=by
  intro pins s σ H xs us Q I r h
  obtain ⟨p,ys,rfl,hq,q⟩:=h
  obtain ⟨u,rfl,rx⟩:=vals1 r
  cases rx
  have fin : ∀ (its : List Value),Vals ys its → ys.length ≤ sizeLine → ∀ (h' : Heap) (c' : Nat),(∀ b o',s.heap.get? b = some o' → h'.get? b = some o') →
      h'.get? s.heap.objs.size = some { cls:=.type "list",dict:=none,data:=.seq its.toArray c',slots:=#[] } → EP X pins σ Q (.ref s.heap.objs.size) { s with heap:=h' }:=fun its r' hz h' c' kp e =>
    ⟨.ref s.heap.objs.size,_,I.laid (t':=s.toks) kp (Nat.le_refl _) (show ObjOk X.prog X.w _ h' _ (.lst ys) from ⟨hz,its,c',r',e⟩),rfl,q _ (I.hok.fresh (Nat.le_refl _))⟩
  rcases hq with hq | hq
  · obtain ⟨its,r',pl,hz⟩:=I.list hq
    have hlen:=r'.length
    obtain ⟨o,ho,hc,n,hd⟩:=pl.isList
    exact call_list_seq p (.inl rfl) ho hc hd (fun h' c' kp e=>fin its r' hz h' c' kp e) (by simp only [List.size_toArray] <;> omega)
  · obtain ⟨its,r',pl,hz⟩:=I.tuple hq
    have hlen:=r'.length
    obtain ⟨o,ho,hc,n,hd⟩:=pl
    exact call_list_seq p (.inr rfl) ho hc hd (fun h' c' kp e=>fin its r' hz h' c' kp e) (by simp only [List.size_toArray] <;> omega)
theorem call_tuple_of : CallR X (.type "tuple") (fun xs H Q=>∃ p ys,xs = [.ref p] ∧ ((SqL X.K H p ys ∧ ∀ l,H l = none → Q (.ref l) (upd H l (.tup ys))) ∨ (SqT X.K H p ys ∧ Q (.ref p) H))):=by
  intro pins s σ H xs us Q I r h
  obtain ⟨p,ys,rfl,h⟩:=h
  obtain ⟨u,rfl,rx⟩:=vals1 r
  cases rx
  rcases h with ⟨hq,q⟩ | ⟨hq,q⟩
  · obtain ⟨its,r',pl,hz⟩:=I.list hq
    have hlen:=r'.length
    refine call_tuple_list pl.isList (fun h' kp=>?_) (by simp only [List.size_toArray] <;> omega)
    have I1 : Inv X pins σ H { s with heap:=h' }:=I.kept (t':=s.toks) kp
    have I2 : Inv X pins σ (upd H h'.objs.size (.tup ys)) { s with heap:=h'.push { cls:=.type "tuple",data:=.seq its.toArray } } :=
      I1.laid (t':=s.toks) (fun b o e=>Heap.get?_push_of_some _ e) (Nat.le_refl _) (show ObjOk X.prog X.w _ _ _ (.tup ys) from ⟨hz,its,r',IsTup.new _ _⟩)
    exact ⟨.ref h'.objs.size,_,I2,rfl,q _ (I1.hok.fresh (Nat.le_refl _))⟩
  · obtain ⟨its,r',pl,hz⟩:=I.tuple hq
    exact call_tuple_same pl ⟨.ref p,H,I,rfl,q⟩
def tyV (K : PySem.W.Frag) (T : String) (x : V) (H : Hp) : Prop:=match x with
  | .str _=>T = "str"
  | .int _=>T = "int"
  | .ref p=>(T = "list" ∧ ∃ xs,SqL K H p xs) ∨ (T = "tuple" ∧ ∃ o,K.lookup p = some o ∧ o.cls = .type "tuple" ∧ o.dict = none) ∨
      (T = "dict" ∧ ((∃ kvs,H p = some (.dK kvs)) ∨ ∃ kvs,H p = some (.dT kvs))) ∨ (T = "set" ∧ ∃ S n,H p = some (.set S n))
  | _=>False
theorem tyV_is {pins : List (Addr × Obj)} {σ : St} {H : Hp} {s : Shared} {T : String} {x : V} {v : Value} (I : Inv X pins σ H s) (r : RelV x v) (ty : tyV X.K T x H) :
    s.TypeIs v T ∧ ∀ a,v = .ref a → ∃ ob,s.heap.get? a = some ob ∧ ob.dict = none:=by
  cases x with
  | str z =>
    obtain ⟨t,rfl⟩:=r
    cases (show T = "str" from ty)
    exact ⟨typeIs_str s z t,fun _ e=>nomatch e⟩
  | int i =>
    obtain ⟨t,rfl⟩:=r
    cases (show T = "int" from ty)
    exact ⟨typeIs_int s i t,fun _ e=>nomatch e⟩
  | ref p =>
    cases r
    rcases ty with ⟨rfl,xs,hq⟩ | ⟨rfl,o,hk,hc,hd⟩ | ⟨rfl,hk⟩ | ⟨rfl,S,n,hk⟩
    · obtain ⟨its,_,pl,_⟩:=I.list hq
      refine ⟨pl.isList.typeIs,fun a e=>?_⟩
      cases e
      obtain ⟨o,n,e,c,hd,_⟩:=pl
      exact ⟨o,e,hd⟩
    · refine ⟨⟨o,I.kIn p o hk,hc⟩,fun a e=>?_⟩
      cases e
      exact ⟨o,I.kIn _ o hk,hd⟩
    · have z : ∃ o,s.heap.get? p = some o ∧ o.ExactDict:=by
        rcases hk with ⟨kvs,hk⟩ | ⟨kvs,hk⟩
        · obtain ⟨_,_,_,_,o,_,_,e,ex,_⟩:=I.hok p _ hk
          exact ⟨o,e,ex⟩
        · obtain ⟨_,_,_,_,o,_,_,e,ex,_⟩:=I.hok p _ hk
          exact ⟨o,e,ex⟩
      obtain ⟨o,e,ex⟩:=z
      refine ⟨⟨o,e,ex.1⟩,fun a e2=>?_⟩
      cases e2
      exact ⟨o,e,ex.2.1⟩
    · obtain ⟨o,_,_,_,e,ex,_⟩:=I.hok p _ hk
      refine ⟨⟨o,e,ex.1⟩,fun a e2=>?_⟩
      cases e2
      exact ⟨o,e,ex.2.1⟩
  | _=>exact False.elim ty
def tBM (K : PySem.W.Frag) (T : String) (r : V → List V → Hp → VK → Prop) (to : TE) (t : TA) : TE:=fun σ H Q=>to σ H fun x H1=>tyV K T x H1 ∧ t σ H1 fun xs H2=>r x xs H2 Q
variable {o e : Expr} {es : List Expr} {to : TE} {t : TA} {name : Str} {apos cpos : Pos} {T id : String} {r : V → List V → Hp → VK → Prop}
theorem pe_bm (pa : PlainAttrs T) (slot : Slot T name id) (hty : typeOf (.builtin id) = pure (.type "method_descriptor")) (hm : MtR X id r) (ho : PE X o to) (ha : PA X (e :: es) t)
    (hbase : attributeBase o name X.env (eval o X.env) = eval o X.env:=by rfl)
    (hfew : ((backTo cpos (starEach (e :: es) X.env)).all (fun x=>!x.1) && (backToKw cpos (keywordEach [] X.env)).all (fun x=>x.1.isSome)
      && decide ((e :: es).length + ([] : List Keyword).length + (if ([] : List Keyword).isEmpty then 0 else 1) < 30)) = true:=by rfl)
    (hline : (apos.endLine == cpos.line) = true:=by rfl) (hs : starEach (e :: es) X.env = (false,eval e X.env) :: starEach es X.env:=by rfl) (hplain : (backTo cpos (starEach es X.env)).any (·.1) = false:=by rfl) :
    PE X (.Call (.Attribute o name apos) (e :: es) [] cpos) (tBM X.K T r to t):=by
  intro pins s σ H Q I h
  refine wpAny_Call_method_late hbase hfew hline rfl (thn (ho pins s σ H _ I h) fun v s1 ⟨x,H1,I1,r1,ty,q1⟩=>?_)
  obtain ⟨h1,h2⟩:=tyV_is I1 r1 ty
  refine ⟨T,id,pa,slot,hty,h1,h2,?_⟩
  have hA:=ha cpos pins s1 σ H1 _ I1 q1
  rw [hs] at hA ⊢
  refine Calls.callWith_builtin (by show (false || (backTo cpos (starEach es X.env)).any (·.1)) = false; rw [hplain] <;> rfl) (Calls.evalArgs_plain ?_)
  exact thn hA fun us s2 ⟨vs,H2,I2,r2,q2⟩=>hm pins s2 σ H2 x vs v us Q I2 r1 r2 q2
end
end L2
namespace L2
open PySem PySem.Spec PyProof.Rows
def MtM (X : Cx) (id : String) (r : V → List V → Hp → VK → Prop) : Prop :=
  ∀ (pins : List (Addr × Obj)) (s : Shared) (σ : St) (H : Hp) (x : V) (xs : List V) (v : Value) (us : List Value) (Q : VK),Inv X pins σ H s → RelV x v → Vals xs us → r x xs H Q →
    wpAny (model X.prog X.w) X.A (call (.builtin id) (v :: us)) (EP X pins σ Q) X.xe s
theorem Vals.one : ∀ {x : V} {us : List Value},Vals [x] us → ∃ u,us = [u] ∧ RelV x u
  | _,_,.cons r .nil=>⟨_,rfl,r⟩
theorem Vals.rep {xs : List V} {us : List Value} (h : Vals xs us) : ∀ k : Nat,Vals (List.replicate k xs).flatten (List.replicate k us).flatten
  | 0=>.nil
  | k + 1=>by
    rw [List.replicate_succ,List.replicate_succ,List.flatten_cons,List.flatten_cons]
    exact Vals.append h (Vals.rep h k)
theorem foldl_rep (its : List Value) : ∀ (k : Nat) (acc : List Value),
    List.foldl (fun x1 x2=>x1 ++ x2) acc.toArray (List.replicate k its.toArray) = (acc ++ (List.replicate k its).flatten).toArray
  | 0,acc=>by simp
  | k + 1,acc=>by
    have e : acc.toArray ++ its.toArray = (acc ++ its).toArray:=by simp
    have e2 : (acc ++ its) ++ (List.replicate k its).flatten = acc ++ (List.replicate (k + 1) its).flatten:=by
      rw [List.replicate_succ,List.flatten_cons,List.append_assoc]
    rw [← e2,← foldl_rep its k (acc ++ its),← e,List.replicate_succ,List.foldl_cons]
section
variable {X : Cx} {pins : List (Addr × Obj)} {σ : St} {H : Hp} {s : Shared} {l b : Addr} {xs ys zs : List V}
theorem Inv.lset {its its' : List Value} {n : Nat} {f : Array Value → Array Value} {t' : Nat} (I : Inv X pins σ H s) (hH : H l = some (.lst xs))
    (e : s.heap.get? l = some { cls:=.type "list",data:=.seq its.toArray n }) (hf : f its.toArray = its'.toArray) (hv : Vals ys its') (hz : ys.length ≤ sizeLine) :
    Inv X pins σ (upd H l (.lst ys)) { s with heap:=s.heap.update l (Obj.mapSeq f),toks:=t' }:=by
  have q:=PySem.IsL.update e f
  rw [hf] at q
  refine I.write (x:=l) (e:=l) (by rw [hH]; exact trivial) (.inl rfl) (fun b' u hb hu=>(Heap.get?_update_other s.heap (Obj.mapSeq f) (Ne.symm hb)).trans hu) ⟨_,q⟩ ?_
  exact ⟨hz,its',_,hv,q⟩
theorem Inv.lnew {its : List Value} {t' : Nat} (I : Inv X pins σ H s) (hv : Vals ys its) (hz : ys.length ≤ sizeLine) :
    Inv X pins σ (upd H s.heap.objs.size (.lst ys)) { s with heap:=s.heap.push { cls:=.type "list",data:=.seq its.toArray },toks:=t' } :=
  I.laid (fun _ _ q=>Heap.get?_push_of_some _ q) (Nat.le_refl _) ⟨hz,its,0,hv,Heap.get?_push_size _ rfl⟩
theorem Inv.fresh (I : Inv X pins σ H s) : H s.heap.objs.size = none:=I.hok.fresh (Nat.le_refl _)
theorem Inv.lstM (I : Inv X pins σ H s) (hH : H l = some (.lst xs)) : xs.length ≤ sizeLine ∧ ∃ (its : List Value) (n : Nat),Vals xs its ∧ xs.length = its.length ∧ s.heap.get? l = some { cls:=.type "list",data:=.seq its.toArray n }:=by
  obtain ⟨z,its,n,r,e⟩:=I.hok l _ hH
  exact ⟨z,its,n,r,r.length,e⟩
theorem notLongL {n : Nat} (h : n ≤ sizeLine) : Builtin.List.listTooLong n = false:=by
  unfold Builtin.List.listTooLong
  exact decide_eq_false (by omega)
end
section
variable {X : Cx}
def rAppend : V → List V → Hp → VK → Prop:=fun x vs H Q=>∃ l xs y,x = .ref l ∧ vs = [y] ∧ H l = some (.lst xs) ∧ xs.length < sizeLine ∧ Q .non (upd H l (.lst (xs ++ [y])))
theorem mt_append : MtM X "list.append" rAppend:=by
  intro pins s σ H x vs v us Q I rx rv h
  obtain ⟨l,xs,y,rfl,rfl,hH,hz,q⟩:=h
  cases rx
  obtain ⟨u,rfl,ru⟩:=rv.one
  obtain ⟨z,its,n,r,hl,e⟩:=I.lstM hH
  refine call_meets F.slot_list_append ⟨_,e,rfl⟩ F.entry_list_append (F.args_list_append_2 _ _) (PySem.list_append l its.toArray n u (by rw [List.size_toArray]; omega)) ⟨e,?_⟩
  refine ⟨.non,_,I.lset (its':=its ++ [u]) hH e (by simp) (r.append (.cons ru .nil)) ?_,rfl,q⟩
  rw [List.length_append,List.length_singleton]
  omega
def rCat : R2:=fun x y H Q=>∃ l b xs zs,x = .ref l ∧ y = .ref b ∧ H l = some (.lst xs) ∧ H b = some (.lst zs) ∧ xs.length + zs.length ≤ sizeLine ∧ ∀ p,H p = none → Q (.ref p) (upd H p (.lst (xs ++ zs)))
theorem op_cat : OpR X (binaryOp .Add) rCat:=by
  intro pins s σ H x y v u Q I rx ry h
  obtain ⟨l,b,xs,zs,rfl,rfl,hH,hB,hz,q⟩:=h
  cases rx
  cases ry
  obtain ⟨z,its,n,r,hl,e⟩:=I.lstM hH
  obtain ⟨z2,its2,n2,r2,hl2,e2⟩:=I.lstM hB
  refine PySem.P.add_list e e2 ?_ (by rw [List.size_toArray,List.size_toArray]; omega)
  have ea : its.toArray ++ its2.toArray = (its ++ its2).toArray:=by simp
  rw [ea]
  exact ⟨.ref _,_,I.lnew (t':=s.toks) (r.append r2) (by rw [List.length_append]; omega),rfl,q _ I.fresh⟩
def rRep : R2:=fun x y H Q=>∃ l k xs,x = .ref l ∧ y = .int k ∧ H l = some (.lst xs) ∧ -(2 ^ 63) ≤ k ∧ k < 2 ^ 63 ∧ xs.length * k.toNat ≤ sizeLine ∧
  ∀ p,H p = none → Q (.ref p) (upd H p (.lst (List.replicate k.toNat xs).flatten))
theorem len_rep {α : Type} (xs : List α) (k : Nat) : (List.replicate k xs).flatten.length = k * xs.length:=by
  induction k with
  | zero=>simp
  | succ k ih=>rw [List.replicate_succ,List.flatten_cons,List.length_append,ih,Nat.succ_mul,Nat.add_comm]
theorem op_rep : OpR X (binaryOp .Mult) rRep:=by
  intro pins s σ H x y v u Q I rx ry h
  obtain ⟨l,k,xs,rfl,rfl,hH,h1,h2,hz,q⟩:=h
  cases rx
  obtain ⟨t,rfl⟩:=ry
  obtain ⟨z,its,n,r,hl,e⟩:=I.lstM hH
  have hlen : its.toArray.size * k.toNat ≤ sizeLine:=by rw [List.size_toArray,← hl]; exact hz
  have hcap : ¬ its.toArray.size * k.toNat > (2 ^ 63 - 1) / 8:=by
    have : (sizeLine : Nat) ≤ (2 ^ 63 - 1) / 8:=by decide
    omega
  have hfit : ¬ (!Builtin.List.listFitsIndex k) = true:=by
    rw [fitsIndex_both h1 h2]
    exact Bool.false_ne_true
  have hlong : ¬ Builtin.List.listTooLong (its.toArray.size * k.toNat) = true:=by
    rw [notLongL hlen]
    exact Bool.false_ne_true
  have hnew : List.foldl (fun x1 x2=>x1 ++ x2) #[] (List.replicate (if its.toArray.isEmpty = true then 0 else k.toNat) its.toArray) = (List.replicate k.toNat its).flatten.toArray:=by
    have f0 : ∀ m : Nat,List.foldl (fun x1 x2=>x1 ++ x2) #[] (List.replicate m its.toArray) = (List.replicate m its).flatten.toArray:=fun m=>by
      have:=foldl_rep its m []
      rw [List.nil_append] at this
      exact this
    rw [f0]
    cases its with
    | nil=>simp
    | cons a r'=>rw [if_neg (by simp)]
  refine wpAny_binaryOp_repeat_ref (T:="list") (U:="int") (by decide) ⟨_,e,rfl⟩ (fun s'=>typeIs_int s' k t) noFill_list_mul F.fills_int_mul F.slot_int_rmul repeat_list F.slot_int_index.lookup
    (call_meets F.slot_int_rmul (typeIs_int s k t) F.entry_int_rmul (F.args_int_rmul_2 _ _) (int___rmul___int_list k t l its.toArray n)
      ⟨e,rfl,⟨_,e,rfl⟩,call_meets F.slot_list_mul ⟨_,e,rfl⟩ F.entry_list_mul (F.args_list_mul_2 _ _) (AutoListH.list___mul___list_int_3 l its.toArray n k t hfit hcap hlong) ⟨e,?_⟩⟩)
  rw [hnew]
  exact ⟨.ref _,_,I.lnew (t':=s.toks) (r.rep k.toNat) (by rw [len_rep,Nat.mul_comm]; exact hz),rfl,q _ I.fresh⟩
end
section
variable {prog : Program} {w : World} {A : Around} {E : Value → Shared → Prop} {s : Shared}
theorem bounds_run {a c n : Nat} (hac : a ≤ c) (hc : c ≤ n) : sliceBounds (some (a : Int)) (some (c : Int)) none n = ((a : Int),(c : Int),1):=by
  simp only [sliceBounds,Option.getD_none]
  have h1 : ¬ ((a : Int) < 0):=by omega
  have h2 : ¬ ((c : Int) < 0):=by omega
  simp only [h1,h2,if_false,show (1 : Int) > 0 by decide,if_true]
  congr 1
  · omega
  · congr 1; omega
set_option maxRecDepth 100000 in
theorem setItem_slice {l b sl : Addr} {items new : Array Value} {n n2 : Nat} {vl vu : Value} {a c : Nat} {Q : Unit → Shared → Prop}
    (e : s.heap.get? l = some { cls:=.type "list",data:=.seq items n }) (e2 : s.heap.get? b = some { cls:=.type "list",data:=.seq new n2 }) (hne : l ≠ b)
    (hs : s.heap.IsSliceOf sl vl vu .none) (pl : IsPart vl (some (a : Int))) (pu : IsPart vu (some (c : Int))) (hac : a ≤ c) (hc : c ≤ items.size)
    (hsz : items.size + new.size ≤ sizeLine) (h : Q () { s with heap:=s.heap.update l (Obj.mapSeq fun xs=>xs.extract 0 a ++ new ++ xs.extract c xs.size) }) :
    wpAny (model prog w) A (setItem (.ref l) (.ref sl) (.ref b)) Q E s:=by
  have hl : s.heap.IsList l items:=PySem.IsL.isList e
  have hb : s.heap.IsList b new:=PySem.IsL.isList e2
  obtain ⟨os,hos,hcs,hds⟩:=id hs
  have hTs : s.TypeIs (.ref sl) "slice":=⟨os,hos,hcs⟩
  have hstep : ¬ ((rawPart none == rawInt 0) = true):=Bool.false_ne_true
  have hsame : Builtin.List.listSameRef (.ref l) (.ref b) = false:=by
    unfold Builtin.List.listSameRef
    exact beq_eq_false_iff_ne.mpr hne
  have hmax : (max (a : Int) (c : Int)).toNat = c:=by omega
  have hz' : ((fun xs : Array Value=>xs.extract 0 a ++ new ++ xs.extract c xs.size) items).size ≤ sizeLine + 1:=by
    simp only [Array.size_append,Array.size_extract]
    omega
  unfold setItem
  try with_reducible refine wpAny_holding ?_
  first | refine wpAny_bind (wpAny_pure ?_) | skip
  refine wpAny_bind (wpAny_sequenceKey hl.typeIs (by decide) ?_)
  refine wpAny_bind (wpAny_callSpecial?_slot (name:=Str.ofString "__setitem__") hl.typeIs slot_list_setitem
    (wpAny_call_entry slot_list_setitem hl.typeIs entry_list_setitem ?_ (args_list_setitem _ _ _)))
  show wpAny _ _ (Builtin.List.listSubscript? (.ref sl) >>= _) _ _ s
  refine wpAny_bind ?_
  unfold Builtin.List.listSubscript?
  refine wpAny_bind (wpAny_specialOf hTs slice_no_index ?_)
  simp only [Option.isNone_none,if_true]
  refine wpAny_pure ?_
  show wpAny _ _ (typeOf (.ref sl) >>= _) _ _ s
  refine wpAny_bind (wpAny_typeOf hTs ?_)
  first
    | rw [if_neg (by decide)]
    | refine PySem.W.KFB.if_not (by decide) ?_
  rw [listSliceParts_eq]
  refine wpAny_bind (wpAny_bind (wpAny_field hos hds (x:=.none) rfl (wpAny_bind (wpAny_listPart .none ?_))))
  rw [if_neg hstep]
  refine wpAny_bind (wpAny_field hos hds (x:=vl) rfl (wpAny_bind (wpAny_listPart pl ?_)))
  refine wpAny_bind (wpAny_field hos hds (x:=vu) rfl (wpAny_bind (wpAny_listPart pu (wpAny_pure ?_))))
  first
    | simp only [hsame,Bool.false_eq_true,if_false]
    | refine PySem.W.KFB.if_not hsame ?_
    | (dsimp only
       rw [if_neg (by rw [hsame]; exact Bool.false_ne_true)])
  refine wpAny_bind (m:=Builtin.List.listAllItems (.ref b) "must assign iterable to extended slice") ?_
  unfold Builtin.List.listAllItems
  refine wpAny_bind (wpAny_typeOf hb.typeIs ?_)
  first
    | refine PySem.W.KFB.if_so (by decide) ?_
    | rw [if_pos (by decide)]
    | simp only [beq_self_eq_true,Bool.true_or,if_true]
  unfold Builtin.List.listItems
  refine wpAny_bind (wpAny_seqItems e2 rfl (wpAny_pure ?_))
  refine wpAny_bind (wpAny_bind (wpAny_seqItems e rfl (wpAny_pure ?_)))
  refine wpAny_bind (wpAny_of_eq ((sliceIndices_raw (some (a : Int)) (some (c : Int)) none items.size (by simp)).trans (congrArg (pure : Int × Int × Int → Sem (Int × Int × Int)) (bounds_run hac hc))) ?_)
  show wpAny _ _ (if ((1 : Int) == 1) = true then _ else _) _ _ s
  rw [if_pos (by decide)]
  refine wpAny_bind (wpAny_rule ?_)
  first
    | simp only [notLongL hsz,Bool.false_eq_true,if_false]
    | refine PySem.W.KFB.if_not (notLongL hsz) ?_
  first | refine wpAny_bind (wpAny_pure ?_) | skip
  show wpAny _ _ (updateSeq l (fun xs=>xs.extract 0 ((a : Int)).toNat ++ new ++ xs.extract (max (a : Int) (c : Int)).toNat xs.size) >>= _) _ _ s
  rw [hmax,Int.toNat_natCast]
  refine wpAny_bind (wpAny_updateSeq (hz:=Nat.le_trans (Nat.le_add_right _ _) hsz) (_hz':=hz') e rfl ?_)
  refine wpAny_bind (wpAny_letGo ?_)
  first
    | exact wpAny_bind (wpAny_pure (wpAny_pure ⟨.none,rfl,wpAny_pure h⟩))
    | exact wpAny_pure ⟨.none,rfl,wpAny_pure h⟩
end
section
variable {X : Cx}
end
end L2
namespace L2
open PySem PySem.Spec PyProof.Rows
section
variable {κ : Type} [DecidableEq κ]
end
section
variable {P : Program} {w : World} {H : Hp} {h : Heap} {a : Addr}
end
section
variable {X : Cx} {pins : List (Addr × Obj)} {σ : St} {H : Hp} {s : Shared} {a : Addr} {y v : V} {u r : Value} {o : Option V} {A : Around} {E : Value → Shared → Prop}
end
section
variable {X : Cx} {pins : List (Addr × Obj)} {σ : St} {H : Hp} {s : Shared} {a : Addr} {kvs : List (Key × V)} {k : Key} {u : Value} {A : Around} {E : Value → Shared → Prop}
end
section
variable {X : Cx} {o i e value : Expr} {pos pos' tpos : Pos} {td ty tv : TE}
end
section
variable {X : Cx} {pos : Pos}
end
structure M1 (X : Cx) (o : Expr) (m : Str) (apos : Pos) (e : Expr) (cpos : Pos) : Prop where
  base : attributeBase o m X.env (eval o X.env) = eval o X.env
  few : ((backTo cpos (starEach [e] X.env)).all (fun x=>!x.1) && (backToKw cpos (keywordEach [] X.env)).all (fun x=>x.1.isSome)
    && decide (([e] : List Expr).length + ([] : List Keyword).length + (if ([] : List Keyword).isEmpty then 0 else 1) < 30)) = true
  line : (apos.endLine == cpos.line) = true
  trees : backTo cpos (starEach [e] X.env) = [(false,eval e X.env)]
structure M2 (X : Cx) (o : Expr) (m : Str) (apos : Pos) (e f : Expr) (cpos : Pos) : Prop where
  base : attributeBase o m X.env (eval o X.env) = eval o X.env
  few : ((backTo cpos (starEach [e,f] X.env)).all (fun x=>!x.1) && (backToKw cpos (keywordEach [] X.env)).all (fun x=>x.1.isSome)
    && decide (([e,f] : List Expr).length + ([] : List Keyword).length + (if ([] : List Keyword).isEmpty then 0 else 1) < 30)) = true
  line : (apos.endLine == cpos.line) = true
  trees : backTo cpos (starEach [e,f] X.env) = [(false,eval e X.env),(false,eval f X.env)]
section
variable {X : Cx} {pins : List (Addr × Obj)} {σ : St} {H : Hp} {s : Shared} {a : Addr} {y d : V} {u r : Value} {o : Option V} {A : Around} {E : Value → Shared → Prop}
end
section
variable {X : Cx} {o e f : Expr} {apos cpos : Pos} {td ty tx : TE}
end
section
variable {X : Cx} {pins : List (Addr × Obj)} {σ : St} {H : Hp} {s : Shared} {a : Addr} {kvs : List (Key × V)} {A : Around} {E : Value → Shared → Prop}
end
section
variable {X : Cx} {pins : List (Addr × Obj)} {σ : St} {H : Hp} {s : Shared} {a : Addr} {y : V} {u : Value} {A : Around} {E : Value → Shared → Prop}
end
end L2
namespace Att
open PySem PySem.W PySem.Calls PyProof.Rows
theorem ints_of_wellAll {P : Params} {h : Heap} : ∀ (ns : List Int) (vs : List Value),WellAll P h vs (ns.map WData.int) → IntsAre vs ns:=by
  intro ns
  induction ns with
  | nil =>
    intro vs w
    rw [List.map_nil] at w
    cases w
    exact .nil
  | cons n ns ih =>
    intro vs w
    rw [List.map_cons] at w
    cases w with
    | cons a b =>
      cases a
      exact .cons _ _ (ih _ b)
theorem script_of {l : OpenLaw} {n : Nat} (hn : l.most = some n) {P : Params} {h : Heap} {args : List WData} {vals : List Value}
    (hpre : l.row.toRowW.claim.pre args = true) (hwl : WellAll P h vals args) :
    ∃ a vs ns,vals = [Value.ref a] ∧ args = [WData.list (ns.map WData.int)] ∧ h.get? a = some { cls:=.type "list",data:=.seq vs.toArray } ∧ IntsAre vs ns ∧ ns.length ≤ n:=by
  have hsh : WShape.hasAll [] args [.list .int] = true:=(pre_splitW hpre).1
  have hc : l.pre.holds [] { args:=args } = true:=(pre_splitW hpre).2
  obtain ⟨d,r,rfl,h1,h2⟩:=hasAllW_cons hsh
  obtain rfl:=hasAllW_nil h2
  obtain ⟨xs,rfl,h3⟩:=hasW_list h1
  obtain ⟨ns,rfl⟩:=items_int h3
  have hlen : ns.length ≤ n:=by
    unfold OpenLaw.pre at hc
    have h4 : (WTm.not (.lt (.lit (.int (n : Int))) (.len (.arg 0)))).holds [] { args:=[.list (ns.map .int)] } = true:=by
      have h4:=(holds_andW hc).1
      rw [hn] at h4
      exact h4
    have h5:=condW_of h4 (w_not (w_lt w_lit (w_len_list (w_arg rfl))))
    rw [List.length_map] at h5
    refine Nat.le_of_not_lt fun q=>?_
    have q' : (n : Int) < ((ns.length : Nat) : Int):=by omega
    first
      | (rw [decide_eq_true q'] at h5; exact absurd h5 (by decide))
      | (simp at h5; omega)
  cases hwl with
  | cons w1 w2 =>
    cases w2
    cases w1 with
    | list ho hall=>exact ⟨_,_,ns,rfl,rfl,ho,ints_of_wellAll ns _ hall,hlen⟩
theorem post_true (l : OpenLaw) (args : List WData) : l.row.toRowW.claim.post args (.bool true) args = true :=
  postW_of (r:=l.row.toRowW) (X:=(true == true))
    (show WShape.has [] (.bool true) .bool = true by first | rfl | decide | simp [WShape.has,WShape.arms,WShape.armsAll])
    (show (WTm.eq .res (.lit (.bool true))).value [] { args:=args,res:=some (.bool true),after:=args } = some (.bool (true == true)) from w_eq_bool (w_res rfl) w_lit) rfl
theorem attach_call {l : OpenLaw} {n : Nat} {q : Program} {loose : List Str} {XP : (Str → Option Value) → Heap → Prop} {YP : World → Heap → Prop} {d : DefRec}
    (hn : l.most = some n) (hdf : d.params.defaults = [])
    (call : ∀ (w : World) (s₀ s₁ : Shared) (mg mb : Str → Option Value) (fa : Addr) (o : Obj) (pm cd doc : Value) (a : Addr) (vs : List Value) (ns : List Int),
      Ground q loose [] XP w s₀ mg mb s₁.heap → YP w s₁.heap →
      s₁.heap.get? fa = some o → o.data = .func (docDef d.name d.params d.body d.scope pm cd doc) → s₁.heap.CodeRec cd d.name → mg d.name = some (.ref fa) →
      s₁.heap.get? a = some { cls:=.type "list",data:=.seq vs.toArray } → IntsAre vs ns → ns.length ≤ n → s₁.gens = #[] →
      codeAny (model l.prog w) callerA (.call (.ref fa) ⟨[.ref a],[]⟩) (fun r s'=>r = .ok (.ret (.bool true)) ∧ OldK s₁.heap s'.heap ∧ s'.os = s₁.os ∧ AllBare s'.gens) s₁) :
    WalkO q loose XP YP l.row.toRowW d [] (fun f vs=>PySem.call f vs):=by
  intro w s₀ s₁ mg mb G Y fa o pm cd doc dV kV ho hd hcd hD hmg hg args vals as hpre hlay hrd hwl hlo
  obtain rfl : dV = .none:=Dflts.none hD hdf
  obtain rfl : kV = .none:=Dflts.noKw hD
  obtain ⟨a,vs,ns,rfl,rfl,hobj,hints,hlen⟩:=script_of hn hpre hwl
  refine enter_call (codeAny_mono (call w s₀ s₁ mg mb fa o pm cd doc a vs ns G Y ho (fd_plain hd) hcd hmg hobj hints hlen hg) fun r s' hq=>?_)
  obtain ⟨rfl,h2,h3,h4⟩:=hq
  exact ⟨.inl ⟨.bool true,.bool true,[],rfl,fun _=>rfl,.bool true,post_true l _,fun _=>⟨List.Pairwise.nil,fun _ hm=>(nomatch hm)⟩⟩,h2,h3,h4⟩
section
variable {prog : Program} {w : World} {A : Around} {E : Value → Shared → Prop} {s : Shared} {K : Frag}
end
end Att
namespace L2
open PySem PySem.Spec PyProof.Rows
theorem vals_ints : ∀ {vs : List Value} {ns : List Int},IntsAre vs ns → Vals (ns.map V.int) vs
  | _,_,.nil=>.nil
  | _,_,.cons n t h=>.cons ⟨t,rfl⟩ (vals_ints h)
def Only (H : Hp) : Prop:=∀ b,H b = none ∨ ∃ o xs,H b = some (.frz o (.lst xs))
theorem law_call {P : Program} {w : World} {K : PySem.W.Frag} {mg mb : Str → Option Value} {CX : CXT} {k : Nat} {fa a : Addr} {fd : FuncData} {x : Str} {sp : Sp} {s₁ : Shared} {vs : List Value} {ns : List Int}
    (KX : K.In s₁.heap) (hns : s₁.heap.Ns mainGlobals mg) (hb : s₁.heap.Ns builtinsNs mb) (hbb : ∀ x : Str,x ≠ "__name__" → mb x = bootBuiltins x) (hlim : s₁.heap.NoLimit) (hg : s₁.gens = #[])
    (ha : s₁.heap.get? a = some { cls:=.type "list",data:=.seq vs.toArray }) (hi : IntsAre vs ns) (hl : ns.length ≤ sizeLine) (hr : Room k callerA)
    (F : ∀ base : Heap,K.In base → base.Ns mainGlobals mg → FnOk P w K mg base CX k fa fd [x] sp) (hbind : ∀ (s : Shared) (u : Value),BindsTo s fd ⟨[u],[]⟩ [(x,u)])
    (hsp : ∀ H : Hp,Only H → SqL K H a (ns.map V.int) → sp [.ref a] H (fun v _=>v = .bl true) fun _ _ _=>False)
    (hCX : ∀ H e s',CX [] H s₁ (fun _ _ _=>False) e s' → False) :
    codeAny (model P w) callerA (.call (.ref fa) ⟨[.ref a],[]⟩) (fun r s'=>r = .ok (.ret (.bool true)) ∧ OldK s₁.heap s'.heap ∧ s'.os = s₁.os ∧ AllBare s'.gens) s₁:=by
  have rv:=vals_ints hi
  have lenV:=hi.length
  have core : ∀ H : Hp,Only H → SqL K H a (ns.map V.int) → HOk P w H s₁.heap → (∀ b,H b ≠ none → b = a) → (H a ≠ none → K.lookup a = none) →
      codeAny (model P w) callerA (.call (.ref fa) ⟨[.ref a],[]⟩) (fun r s'=>r = .ok (.ret (.bool true)) ∧ OldK s₁.heap s'.heap ∧ s'.os = s₁.os ∧ AllBare s'.gens) s₁:=by
    intro H hO hS hok hA hK
    have base_of : ∀ {b : Addr} {o : Obj},s₁.heap.get? b = some o → H b = none → (hidT s₁.heap H).get? b = some o:=fun e n=>hidT_get e n
    have noA : ∀ {b : Addr} {o : Obj} {es : Array DictEntry} {ep : Nat},s₁.heap.get? b = some o → o.data = .dict es ep → H b = none:=fun {b o es ep} e d=>by
      cases q : H b with
      | none=>rfl
      | some u =>
        have e' : b = a:=hA b (by rw [q]; simp)
        subst e'
        rw [ha] at e; cases e
        have d' : Data.seq vs.toArray _ = Data.dict es ep:=d
        cases d'
    have nsK : ∀ {b : Addr} {m : Str → Option Value},s₁.heap.Ns b m → (hidT s₁.heap H).Ns b m:=fun {b m} ⟨o,es,ep,e,d,r⟩=>⟨o,es,ep,base_of e (noA e d),d,r⟩
    have hKb : K.In (hidT s₁.heap H):=fun b o e=>base_of (KX b o e) (by
      cases q : H b with
      | none=>rfl
      | some u =>
        have e' : b = a:=hA b (by rw [q]; simp)
        subst e'
        rw [hK (by rw [q]; simp)] at e; cases e)
    have hM : Mod K mg (hidT s₁.heap H):=⟨hKb,nsK hns,⟨mb,nsK hb,hbb⟩,let ⟨mc,h1,h2⟩:=hlim; ⟨mc,nsK h1,h2⟩⟩
    have e0 : Env0 P w K mg (hidT s₁.heap H) callerA [] s₁ H:=⟨rfl,hM,fun b o e=>of_hidT e,Nat.le_of_eq (hidT_size _ _),trivial,fun b hb=>absurd (show b ∈ ([] : List Addr) from hb) (by simp),hok,.of_eq hg⟩
    refine codeAny_mono ((F _ hKb (nsK hns)).run callerA [] s₁ H ⟨[.ref a],[]⟩ [.ref a] [.ref a] _ _ hr e0 (hbind s₁ (.ref a)) (.cons rfl .nil) (hsp H hO hS)) fun r s' h=>?_
    cases r with
    | error e=>exact (hCX H e s' h).elim
    | ok fl =>
      cases fl with
      | next=>exact False.elim h
      | brk=>exact False.elim h
      | cont=>exact False.elim h
      | ret u =>
        obtain ⟨v,H',os,bare,un,hok',r',q⟩:=h
        have q' : v = .bl true:=q
        subst q'
        obtain rfl : u = Value.bool true:=r'
        refine ⟨rfl,OldK.of_keep fun b o e=>?_,os,bare⟩
        cases q : H b with
        | none=>exact un.keep b o e q (by intro z; exact absurd (show b ∈ ([] : List Addr) from z) (by simp)) (by simp)
        | some u =>
          rcases hO b with z | ⟨ob,xs,z⟩
          · rw [q] at z; cases z
          · have z2:=un.frzs b ob _ z
            obtain ⟨e1,_⟩:=hok b _ z
            obtain ⟨e2,_⟩:=hok' b _ z2
            rw [e] at e1; cases e1
            exact e2
  cases hk : K.lookup a with
  | some o =>
    have e:=KX a o hk
    rw [ha] at e
    cases e
    refine core (fun _=>none) (fun _=>.inl rfl) (.inr ⟨_,vs.toArray,_,hk,rfl,rfl,rfl,by rw [List.size_toArray,lenV]; exact hl,by simpa using rv⟩) (fun b u z=>by have z' : (none : Option HO) = some u:=z; cases z') (fun b z=>absurd rfl z) fun z=>absurd rfl z
  | none =>
    refine core (fun b=>if b = a then some (.frz { cls:=.type "list",data:=.seq vs.toArray } (.lst (ns.map V.int))) else none) (fun b=>?_) (.inl (.inr ⟨{ cls:=.type "list",data:=.seq vs.toArray },if_pos rfl⟩)) (fun b u z=>?_) (fun b z=>?_) fun _=>hk
    · by_cases hb : b = a
      · exact .inr ⟨_,_,if_pos hb⟩
      · exact .inl (if_neg hb)
    · by_cases hb : b = a
      · have z':=(if_pos hb).symm.trans z
        cases z'
        subst hb
        exact ⟨ha,by rw [List.length_map]; exact hl,vs,_,rv,ha⟩
      · have z':=(if_neg hb).symm.trans z
        cases z'
    · by_cases hb : b = a
      · exact hb
      · exact absurd (if_neg hb) z
end L2
namespace L2
open PySem PySem.Spec PyProof.Rows
theorem walk_of {l : PySem.W.OpenLaw} {n k : Nat} {q : Program} {loose : List Str} {XP : (Str → Option Value) → Heap → Prop} {YP : World → Heap → Prop} {d : DefRec} {K : Params → PySem.W.Frag} {CX : World → CXT} {sp : World → Sp} {x : Str}
    (hn : l.most = some n) (hn2 : n ≤ sizeLine) (hdf : d.params.defaults = []) (hr : Room k callerA)
    (hY : ∀ (w : World) (h : Heap),YP w h → (K w.params).In h)
    (F : ∀ (w : World) (mg : Str → Option Value) (fa : Addr) (h : Heap),(K w.params).In h → h.Ns mainGlobals mg → mg d.name = some (.ref fa) →
      ∃ fd : FuncData,(∀ (s : Shared) (u : Value),BindsTo s fd ⟨[u],[]⟩ [(x,u)]) ∧
        ∀ base : Heap,(K w.params).In base → base.Ns mainGlobals mg → FnOk l.prog w (K w.params) mg base (CX w) k fa fd [x] (sp w))
    (hsp : ∀ (w : World) (H : Hp) (a : Addr) (ns : List Int),ns.length ≤ n → Only H → SqL (K w.params) H a (ns.map V.int) → sp w [.ref a] H (fun v _=>v = .bl true) fun _ _ _=>False)
    (hCX : ∀ (w : World) (H : Hp) (s : Shared) (e : Value) (s' : Shared),CX w [] H s (fun _ _ _=>False) e s' → False) :
    PySem.W.WalkO q loose XP YP l.row.toRowW d [] (fun f vs=>PySem.call f vs):=by
  refine Att.attach_call hn hdf fun w s₀ s₁ mg mb fa o pm cd doc a vs ns G Y ho hd hcd hmg hobj hints hlen hg=>?_
  have KX:=hY w _ Y
  obtain ⟨fd,hb,hF⟩:=F w mg fa _ KX G.T.g hmg
  exact law_call KX G.T.g G.T.b G.T.builtins G.T.nolimit hg hobj hints (Nat.le_trans hlen hn2) hr hF hb (fun H hO hS=>hsp w H a ns hlen hO hS) fun H e s'=>hCX w H s₁ e s'
end L2
namespace L2
open PySem PySem.Spec PyProof.Rows
def inClass (s : Stmt) (j : Nat) : Stmt:=match s with
  | .ClassDef _ _ _ body _ _ _ _ _ _ _=>body.getD j (.Pass ⟨0,0,0,0⟩)
  | _=>.Pass ⟨0,0,0,0⟩
def defArgs (s : Stmt) : Arguments:=match s with
  | .FunctionDef _ a _ _ _ _ _ _ _ _=>a
  | _=>{ posonlyargs:=[],args:=[],vararg:=none,kwonlyargs:=[],kw_defaults:=[],kwarg:=none,defaults:=[] }
def defBody (s : Stmt) : List Stmt:=match s with
  | .FunctionDef _ _ b _ _ _ _ _ _ _=>b
  | _=>[]
def defScope (s : Stmt) : Scope:=match s with
  | .FunctionDef _ _ _ _ _ _ sc _ _ _=>sc
  | _=>{ kind:=.function,names:=[],isGenerator:=false,isCoroutine:=false }
abbrev CX0 : CXT:=fun _ _ _ _ _ _=>False
abbrev E0 : XK:=fun _ _ _=>False
theorem pass0 {X : Cx} : Passes CX0 X E0:=fun _ _ _ _ _ _ _ h=>h.elim
structure Fun (K : PySem.W.Frag) (x qual : Str) (st : Stmt) (f : Addr) (fd : FuncData) : Prop where
  ex : ∃ (oc : Value) (od : Option Addr) (kV doc pm : Value) (an : Option Addr) (cdv ct : Value) (osl : Array (Option Value)),
    fd = PySem.W.fnOf x qual (defArgs st) (defBody st) (defScope st) .none kV doc pm an cdv ct ∧ K.lookup f = some ⟨oc,od,.func fd,osl⟩ ∧ PySem.W.codeIn K cdv qual = true
  kp : PySem.W.keepIn K (.ref f) = true
section
variable {P : Program} {w : World} {K : PySem.W.Frag} {mg : Str → Option Value} {base : Heap}
theorem Fun.ok {x qual : Str} {st : Stmt} {f : Addr} {fd : FuncData} {N ps : List Str} {k : Nat} {sp : Sp} (F : Fun K x qual st f fd) (S : FnScope N ps (defScope st)) (len : ∀ vs H Q E,sp vs H Q E → vs.length = ps.length)
    (hbody : ∀ (cdv : Value) (A : Around) (outer : List Env) (s : Shared) (H : Hp) (vs : List V) (Q : VK) (E : XK),Room k (A.deeper (envOfC qual (defScope st) s.heap.objs.size f cdv)) → sp vs H Q E →
      ∃ t,PSs (cxOf CX0 P w K mg base N qual (defScope st) f cdv A outer s H E).nox (defBody st) t ∧ t { nx:=fun _ H'=>Q .non H',rt:=Q } (start N vs) H) : FnOk P w K mg base CX0 (k + 1) f fd ps sp:=by
  obtain ⟨oc,od,kV,doc,pm,an,cdv,ct,osl,rfl,lk,hcd⟩:=F.ex
  refine fn_of lk hcd S len fun A outer s H vs Q E hr hsp=>?_
  obtain ⟨t,h,q⟩:=hbody cdv A outer s H vs Q E hr hsp
  exact ⟨t,h.nox,q⟩
theorem Fun.binds {x qual : Str} {st : Stmt} {f : Addr} {fd : FuncData} {ps : List Str} (F : Fun K x qual st f fd)
    (h : ∀ (kV doc pm : Value) (an : Option Addr) (cdv ct : Value) (us : List Value),us.length = ps.length → bindArgs (PySem.W.fnOf x qual (defArgs st) (defBody st) (defScope st) .none kV doc pm an cdv ct) ⟨us,[]⟩ = pure (ps.zip us)) : Binds K fd ps []:=by
  obtain ⟨oc,od,kV,doc,pm,an,cdv,ct,osl,rfl,lk,hcd⟩:=F.ex
  exact .all (h kV doc pm an cdv ct)
theorem fun_mk {x qual : Str} {st : Stmt} {f : Addr} {oc : Value} {od an : Option Addr} {osl : Array (Option Value)} {kV doc pm cdv ct : Value} (l : K.lookup f = some ⟨oc,od,.func (PySem.W.fnOf x qual (defArgs st) (defBody st) (defScope st) .none kV doc pm an cdv ct),osl⟩)
    (c : PySem.W.codeIn K cdv qual = true) (k : PySem.W.keepIn K (.ref f) = true) : Fun K x qual st f (PySem.W.fnOf x qual (defArgs st) (defBody st) (defScope st) .none kV doc pm an cdv ct):=⟨⟨oc,od,kV,doc,pm,an,cdv,ct,osl,rfl,l,c⟩,k⟩
end
theorem small1000 {n : Nat} (h : n ≤ 1000) : n < sizeLine:=Nat.lt_of_le_of_lt h (by decide)
section
variable {X : Cx}
theorem pv (i : Nat) {x : Str} {pos : Pos} (hN : X.N[i]? = some x:=by rfl) (hv : Vis X.env.scope x:=by first | exact Or.inl rfl | exact Or.inr (Or.inl rfl) | exact Or.inr (Or.inr rfl)) (hd : (x == ("__debug__" : Str)) = false:=by decide)
    (hcd : (x == ("__classdict__" : Str)) = false:=by decide) : PE X (.Name x pos) (tVar i):=pe_var hN hv hd hcd
end
theorem iteF {A B : Prop} (h : B) : if false = true then A else B:=by
  rw [if_neg Bool.false_ne_true]
  exact h
theorem iteT {A B : Prop} (h : A) : if true = true then A else B:=by
  rw [if_pos rfl]
  exact h
theorem ite2 {c A B : Prop} [Decidable c] (h1 : c → A) (h2 : ¬ c → B) : if c then A else B:=by
  by_cases h : c
  · rw [if_pos h]
    exact h1 h
  · rw [if_neg h]
    exact h2 h
def Same (H H' : Hp) : Prop:=∀ b o,H b = some o → H' b = some o
theorem Same.refl (H : Hp) : Same H H:=fun _ _ h=>h
theorem Same.trans {H H1 H2 : Hp} (a : Same H H1) (b : Same H1 H2) : Same H H2:=fun c o h=>b c o (a c o h)
theorem Same.seq {K : PySem.W.Frag} {H H' : Hp} {a : Addr} {xs : List V} (e : Same H H') (h : SqL K H a xs) : SqL K H' a xs:=by
  rcases h with (h | ⟨o,h⟩) | h
  · exact .inl (.inl (e _ _ h))
  · exact .inl (.inr ⟨o,e _ _ h⟩)
  · exact .inr h
end L2
namespace L2
open PySem PySem.Spec PyProof.Rows
section
variable {X : Cx}
end
section
variable {κ : Type} [DecidableEq κ]
end
end L2
namespace L2
open PySem PySem.Spec PyProof.Rows
abbrev excO (cls : Value) (t : Addr) (tb : Value) : Obj:={ cls:=cls,data:=.fields #[.ref t,tb,.none,.none,.bool false,.none] }
structure Lies (h B : Heap) (e : Addr) (cls fl : Value) : Prop where
  lie : ∃ t T oT ts,h.get? e = some (excO cls t (.ref T)) ∧ T ≠ e ∧ B.get? T = none ∧ h.get? T = some oT ∧ oT.data = .fields ts ∧ ts[3]? = some fl
  new : B.get? e = none
structure Gone (B : Heap) (l : List Env) (h h' : Heap) : Prop where
  stays : B.StaysIn h'
  fr : h'.FunFrames B l
  up : ∀ b o,b ∈ frs l → h.get? b = some o → ∃ sl,h'.get? b = some { o with slots:=sl }
  there : ∀ b o,h.get? b = some o → ∃ o',h'.get? b = some o'
theorem Gone.trans {B : Heap} {l : List Env} {h h1 h2 : Heap} (a : Gone B l h h1) (b : Gone B l h1 h2) : Gone B l h h2 :=
  ⟨b.stays,b.fr,fun c o hc e=>by
    obtain ⟨s1,e1⟩:=a.up c o hc e
    obtain ⟨s2,e2⟩:=b.up c _ hc e1
    exact ⟨s2,e2⟩,fun c o e=>by
    obtain ⟨o1,e1⟩:=a.there c o e
    exact b.there c o1 e1⟩
section
variable {M : Model} {A : Around} {E : Value → Shared → Prop} {s : Shared} {B : Heap} {env : Env} {outer : List Env} {L e : Addr} {cls : Value} {Q : Unit → Shared → Prop}
theorem fields_noFrame {l : List Env} {h : Heap} {o : Obj} {vs : Array Value} (hl : h.FunFrames B l) (he : h.get? e = some o) (hd : o.data = .fields vs) : e ∉ frs l:=fun hm=>by
  obtain ⟨_,ob,hob,nf⟩:=hl.mem hm
  rw [he] at hob
  cases hob
  exact nf vs hd
theorem entry_new {t : Addr} {tb head : Value} {had : Bool} (hfr : A.frames = some (env :: outer)) (hl : s.heap.FunFrames B (env :: outer)) (hf : env.frame = some L) (st : B.StaysIn s.heap) (he : s.heap.get? e = some (excO cls t tb)) (hn : B.get? e = none)
    (k : ∀ h',Gone B (env :: outer) s.heap h' → Lies h' B e cls (rawInt L) → Q () { s with heap:=h' }) :
    wpAny M A (do let fo ← frameOf env; let pl ← entryPlaceOf L had; let ne ← EntryCells.newEntry head fo .none (rawInt L) .none pl; setField (.ref e) 1 ne) Q E s:=by
  have hne:=fields_noFrame hl he rfl
  refine wpAny_bind (wpAny_frameOf_fun hfr hl hf fun h1 so=>?_)
  refine wpAny_bind (wpAny_entryPlaceOf fun pl ip=>?_)
  unfold EntryCells.newEntry newFields
  refine wpAny_bind (wpAny_newObj_type ?_ (ip.sizeOk5 _ _ _ _ _))
  generalize hTO : ({ cls:=.type "traceback",dict:=none,data:=.fields ([head,.ref L,.none,rawInt L,.none] ++ (if pl.isEmpty then List.replicate 6 Value.none else pl)).toArray } : Obj) = TO
  have e1 : h1.get? e = some (excO cls t tb):=(so.2.1 e hne).trans he
  have e2:=Heap.get?_push_of_some (h:=h1) TO e1
  have nT : h1.objs.size ≠ e:=Nat.ne_of_gt (Heap.lt_size e1)
  refine wpAny_setField e2 rfl (show 1 < 6 by decide) (k _ ?_ ?_)
  · have other : ∀ b o,b ≠ e → h1.get? b = some o → ((h1.push TO).update e (Obj.mapFields (·.setIfInBounds 1 (Value.ref h1.objs.size)))).get? b = some o:=fun b o hb q=>by
      rw [Heap.get?_update_other _ _ (Ne.symm hb)]
      exact Heap.get?_push_of_some _ q
    have nB : ∀ b o,B.get? b = some o → b ≠ e:=fun b o q z=>by rw [z,hn] at q; cases q
    refine ⟨fun b o q=>other b o (nB b o q) ((so.2.1 b fun hm=>?_).trans (st b o q)),hl.of_keeps fun b o q nf=>?_,fun b o hb q=>?_,fun b o q=>?_⟩
    · rw [(hl.mem hm).1] at q
      cases q
    · obtain ⟨sl,z⟩:=so.2.2 b o q
      exact ⟨_,other b _ (fun z'=>by rw [z',he] at q; cases q; exact nf _ rfl) z,rfl⟩
    · obtain ⟨sl,z⟩:=so.2.2 b o q
      exact ⟨sl,other b _ (fun z'=>hne (z' ▸ hb)) z⟩
    · by_cases hb : b = e
      · subst hb
        exact ⟨_,Heap.get?_update_self _ e2 rfl⟩
      · obtain ⟨sl,z⟩:=so.2.2 b o q
        exact ⟨_,other b _ hb z⟩
  · refine ⟨⟨t,h1.objs.size,TO,_,?_,nT,?_,?_,by rw [← hTO],?_⟩,hn⟩
    · rw [Heap.get?_update_self _ e2 rfl]
      rfl
    · cases q : B.get? h1.objs.size with
      | none=>rfl
      | some o =>
        have z:=so.2.2 _ o (st _ o q)
        obtain ⟨sl,z⟩:=z
        exact absurd (Heap.lt_size z) (Nat.lt_irrefl _)
    · rw [Heap.get?_update_other _ _ (Ne.symm nT)]
      exact Heap.get?_push_size h1 (by rw [← hTO]; rfl)
    · simp
theorem note_first {t : Addr} (hfr : A.frames = some (env :: outer)) (hl : s.heap.FunFrames B (env :: outer)) (hf : env.frame = some L) (st : B.StaysIn s.heap) (he : s.heap.get? e = some (excO cls t .none)) (hn : B.get? e = none)
    (k : ∀ h',Gone B (env :: outer) s.heap h' → Lies h' B e cls (rawInt L) → Q () { s with heap:=h' }) : wpAny M A (noteFrame (.ref e) env) Q E s:=by
  unfold noteFrame
  simp only [hf]
  refine wpAny_bind (wpAny_field he rfl (x:=.none) rfl ?_)
  rw [if_neg (show ¬ ((Value.none != Value.none) = true) by decide)]
  exact entry_new hfr hl hf st he hn k
theorem set3 {T : Addr} {oT : Obj} {ts : Array Value} {fl : Value} (hT : s.heap.get? T = some oT) (hd : oT.data = .fields ts) (h3 : ts[3]? = some fl) (x : Value) (k : ∀ h',Heap.SameBut T s.heap h' → (∃ oT' ts',h'.get? T = some oT' ∧ oT'.data = .fields ts' ∧ ts'[3]? = some x) → Q () { s with heap:=h' }) :
    wpAny M A (setField (.ref T) 3 x) Q E s:=by
  have l3 : 3 < ts.size:=(Array.getElem?_eq_some_iff.mp h3).1
  have hd':=Obj.data_mapFields hd (·.setIfInBounds 3 x)
  refine wpAny_setField hT hd l3 (k _ (Heap.SameBut.update ..) ⟨_,_,Heap.get?_update_self _ hT (Obj.isFreed_of_fields hd'),hd',?_⟩)
  simp [l3]
theorem note_next (hfr : A.frames = some (env :: outer)) (hl : s.heap.FunFrames B (env :: outer)) (hf : env.frame = some L) (st : B.StaysIn s.heap) (ly : Lies s.heap B e cls .none)
    (k : ∀ h',Gone B (env :: outer) s.heap h' → Lies h' B e cls (rawInt L) → Q () { s with heap:=h' }) : wpAny M A (noteFrame (.ref e) env) Q E s:=by
  obtain ⟨⟨t,T,oT,ts,he,nT,nB,hT,hd,h3⟩,hn⟩:=ly
  have nF:=fields_noFrame hl hT hd
  unfold noteFrame
  simp only [hf]
  refine wpAny_bind (wpAny_field he rfl (x:=.ref T) rfl ?_)
  rw [if_pos (show (Value.ref T != Value.none) = true by simp)]
  refine wpAny_bind (wpAny_field hT hd h3 ?_)
  rw [if_neg (show ¬ ((Value.none == rawInt L) = true) by simp [rawInt])]
  refine wpAny_bind (set3 hT hd h3 .none fun h1 sb _=>?_)
  have st1 : B.StaysIn h1:=fun b o q=>(sb.2 b fun z=>by rw [z,nB] at q; cases q).trans (st b o q)
  have fr1 : h1.FunFrames B (env :: outer):=hl.of_keeps fun b o q nf=>⟨o,(sb.2 b fun z=>by rw [z,hT] at q; cases q; exact nf _ hd).trans q,rfl⟩
  refine entry_new (s:={ s with heap:=h1 }) hfr fr1 hf st1 ((sb.2 e (Ne.symm nT)).trans he) hn fun h2 g2 l2=>k h2 ⟨g2.stays,g2.fr,fun b o hb q=>?_,fun b o q=>?_⟩ l2
  · exact g2.up b o hb ((sb.2 b fun z=>nF (z ▸ hb)).trans q)
  · by_cases hb : b = T
    · subst hb
      obtain ⟨oT',q'⟩ : ∃ o',h1.get? b = some o':=by
        have z:=sb.1
        cases w : h1.get? b with
        | some o'=>exact ⟨o',rfl⟩
        | none =>
          obtain ⟨_,_,hw,_⟩:=‹∃ oT' ts',h1.get? b = some oT' ∧ oT'.data = .fields ts' ∧ ts'[3]? = some Value.none›
          rw [w] at hw
          cases hw
      exact g2.there b _ q'
    · exact g2.there b o ((sb.2 b hb).trans q)
theorem flight_off {l : List Env} {fl : Value} (hl : s.heap.FunFrames B l) (st : B.StaysIn s.heap) (ly : Lies s.heap B e cls fl)
    (k : ∀ h',Gone B l s.heap h' → Lies h' B e cls .none → Q () { s with heap:=h' }) : wpAny M A (setFlight (.ref e) none) Q E s:=by
  obtain ⟨⟨t,T,oT,ts,he,nT,nB,hT,hd,h3⟩,hn⟩:=ly
  have nF:=fields_noFrame hl hT hd
  unfold setFlight
  refine wpAny_bind (wpAny_field he rfl (x:=.ref T) rfl ?_)
  rw [if_pos (show (Value.ref T != Value.none) = true by simp)]
  refine set3 hT hd h3 .none fun h1 sb ht1=>?_
  obtain ⟨oT',ts',hT',hd',h3'⟩:=ht1
  refine k h1 ⟨fun b o q=>(sb.2 b fun z=>by rw [z,nB] at q; cases q).trans (st b o q),hl.of_keeps fun b o q nf=>⟨o,(sb.2 b fun z=>by rw [z,hT] at q; cases q; exact nf _ hd).trans q,rfl⟩,fun b o hb q=>⟨o.slots,(sb.2 b fun z=>nF (z ▸ hb)).trans q⟩,fun b o q=>?_⟩ ⟨⟨t,T,oT',ts',(sb.2 e (Ne.symm nT)).trans he,nT,nB,hT',hd',h3'⟩,hn⟩
  by_cases hb : b = T
  · subst hb
    exact ⟨_,hT'⟩
  · exact ⟨o,(sb.2 b hb).trans q⟩
theorem leave_first {h0 : Heap} {vs : List Value} (hfr : A.frames = some (env :: outer)) (hl : h0.FunFrames B (env :: outer)) (hf : env.frame = some L) (st : B.StaysIn h0) (hx : Heap.MadeExcOf h0 s.heap e cls vs)
    (k : ∀ h',Gone B (env :: outer) h0 h' → Lies h' B e cls .none → Q () { s with heap:=h' }) : wpAny M A (leaving env (.ref e)) Q E s:=by
  obtain ⟨t,he,_,_⟩:=hx.there
  have hn : B.get? e = none:=by
    cases q : B.get? e with
    | none=>rfl
    | some o =>
      have:=st e o q
      rw [hx.new] at this
      cases this
  have fr1 : s.heap.FunFrames B (env :: outer):=hl.of_keeps fun b o q _=>⟨o,hx.keeps b o q,rfl⟩
  unfold leaving
  refine wpAny_bind (note_first hfr fr1 hf (fun b o q=>hx.keeps b o (st b o q)) he hn fun h1 g1 l1=>?_)
  refine flight_off (s:={ s with heap:=h1 }) g1.fr g1.stays l1 fun h2 g2 l2=>?_
  have g:=g1.trans g2
  exact k h2 ⟨g.stays,g.fr,fun b o hb q=>g.up b o hb (hx.keeps b o q),fun b o q=>g.there b o (hx.keeps b o q)⟩ l2
theorem leave_next (hfr : A.frames = some (env :: outer)) (hl : s.heap.FunFrames B (env :: outer)) (hf : env.frame = some L) (st : B.StaysIn s.heap) (ly : Lies s.heap B e cls .none)
    (k : ∀ h',Gone B (env :: outer) s.heap h' → Lies h' B e cls .none → Q () { s with heap:=h' }) : wpAny M A (leaving env (.ref e)) Q E s:=by
  unfold leaving
  refine wpAny_bind (note_next hfr hl hf st ly fun h1 g1 l1=>?_)
  exact flight_off (s:={ s with heap:=h1 }) g1.fr g1.stays l1 fun h2 g2 l2=>k h2 (g1.trans g2) l2
end
structure Fly (P : Program) (w : World) (outer : List Env) (H : Hp) (s : Shared) (e : Addr) (cls : Value) (H' : Hp) (B h' : Heap) : Prop where
  stays : B.StaysIn h'
  fr : h'.FunFrames B outer
  lies : Lies h' B e cls .none
  hok : HOk P w H' B
  out : H' e = none
  new : s.heap.get? e = none
  keep : ∀ b o,s.heap.get? b = some o → H b = none → b ∉ frs outer → B.get? b = some o
  slot : ∀ b o,s.heap.get? b = some o → b ∈ frs outer → ∃ sl,h'.get? b = some { o with slots:=sl }
  free : ∀ b o,s.heap.get? b = some o → H b = none → H' b = none
  there : ∀ b o,s.heap.get? b = some o → ∃ o',h'.get? b = some o'
  tups : ∀ b xs,H b = some (.tup xs) → H' b = some (.tup xs)
  frzs : ∀ b o u,H b = some (.frz o u) → H' b = some (.frz o u)
  tbls : ∀ b ps,H b = some (.tbl ps) → ∃ more,H' b = some (.tbl (ps ++ more))
def CXX (P : Program) (w : World) : CXT:=fun outer H s E e s'=>∃ (a : Addr) (cls : Value) (H' : Hp) (B : Heap),e = .ref a ∧ s'.os = s.os ∧ AllBare s'.gens ∧ Fly P w outer H s a cls H' B s'.heap ∧ E cls none H'
theorem passF {P : Program} {w : World} {X : Cx} : Passes (CXX P w) X E0:=fun _ _ _ _ _ _ _ ⟨_,_,_,_,_,_,_,_,f⟩=>f.elim
def Raises (X : Cx) (E : XK) : Prop:=∀ (pins : List (Addr × Obj)) (σ : St) (H : Hp) (s : Shared) (h' : Heap) (e : Addr) (cls : Value) (vs : List Value),Inv X pins σ H s → Heap.MadeExcOf s.heap h' e cls vs → E cls none H → X.xe (.ref e) { s with heap:=h' }
theorem ObjOk.there {P : Program} {w : World} {H : Hp} {h : Heap} {a : Addr} {o : HO} (x : ObjOk P w H h a o) : ∃ u,h.get? a = some u:=by
  cases o with
  | lst xs=>obtain ⟨_,_,_,_,e⟩:=x; exact ⟨_,e⟩
  | tup xs=>obtain ⟨_,_,_,o,e,_⟩:=x; exact ⟨_,e⟩
  | dK kvs=>obtain ⟨_,_,_,_,o,_,_,e,_⟩:=x; exact ⟨_,e⟩
  | dT kvs=>obtain ⟨_,_,_,_,o,_,_,e,_⟩:=x; exact ⟨_,e⟩
  | set S n=>obtain ⟨o,_,_,_,e,_⟩:=x; exact ⟨_,e⟩
  | ins C dx fs=>obtain ⟨_,_,_,e,_⟩:=x; exact ⟨_,e⟩
  | own y=>exact x
  | xd fs=>obtain ⟨_,⟨_,_,_,e,_⟩,_⟩:=x; exact ⟨_,e⟩
  | rng lo hi=>obtain ⟨_,_,_,e⟩:=x; exact ⟨_,e⟩
  | frz ob u=>obtain ⟨e,_⟩:=x; exact ⟨_,e⟩
  | tbl ps=>exact ⟨_,show h.get? a = some _ from x⟩
  | met f y=>exact ⟨_,show h.get? a = some _ from x⟩
  | ext φ=>obtain ⟨_,e,_⟩:=x; exact e
theorem HOk.none_of {P : Program} {w : World} {H : Hp} {h : Heap} {a : Addr} (ok : HOk P w H h) (e : h.get? a = none) : H a = none:=by
  cases q : H a with
  | none=>rfl
  | some o =>
    obtain ⟨u,z⟩:=(ok a o q).there
    rw [e] at z
    cases z
section
variable {P : Program} {w : World} {K : PySem.W.Frag} {mg : Str → Option Value} {base : Heap} {N : List Str} {qual : Str} {scope : Scope} {f : Addr} {cd : Value} {A : Around} {outer : List Env} {s₀ : Shared} {H₀ : Hp} {E : XK}
theorem frs_cons {qual : Str} {scope : Scope} {n f : Addr} {cd : Value} {outer : List Env} : frs (envOfC qual scope n f cd :: outer) = n :: frs outer:=rfl
theorem raises_cx : Raises (cxOf (CXX P w) P w K mg base N qual scope f cd A outer s₀ H₀ E) E:=by
  intro pins σ H s h' e cls vs I hx hE
  generalize hX : cxOf (CXX P w) P w K mg base N qual scope f cd A outer s₀ H₀ E = X at I
  have eS : X.s₀ = s₀:=by rw [← hX]; rfl
  have eH : X.H₀ = H₀:=by rw [← hX]; rfl
  have eF : X.fs = frs outer:=by rw [← hX]; rfl
  have eEx : X.ex = []:=by rw [← hX]; rfl
  have eSt : X.stack = envOfC qual scope s₀.heap.objs.size f cd :: outer:=by rw [← hX]; rfl
  have frames : (A.deeper (envOfC qual scope s₀.heap.objs.size f cd)).frames = some (envOfC qual scope s₀.heap.objs.size f cd :: outer):=by have q:=I.ok.frames; rw [eSt] at q; rw [← hX] at q; exact q
  have stack:=I.stack
  have stkF:=I.stkFree
  rw [eSt] at stack stkF
  have hfr:=PySem.W.funFrames_hide (as:=frs (envOfC qual scope s₀.heap.objs.size f cd :: outer)) stack fun env he b hb=>List.mem_filterMap.mpr ⟨env,he,hb⟩
  have st0 : (PySem.W.hideAll s.heap (frs (envOfC qual scope s₀.heap.objs.size f cd :: outer))).StaysIn s.heap:=fun b o q=>PySem.W.of_hideAll _ q
  have hU:=I.base
  rw [eS,eH,eF,eEx] at hU
  have ok1:=I.hok
  have eP : X.prog = P:=by rw [← hX]; rfl
  have eW : X.w = w:=by rw [← hX]; rfl
  rw [eP,eW] at ok1
  have osI:=I.os
  rw [eS] at osI
  have bareI:=I.bare
  rw [← hX]
  show wpAny (model P w) (A.deeper (envOfC qual scope s₀.heap.objs.size f cd)) (leaving (envOfC qual scope s₀.heap.objs.size f cd) (.ref e)) _ _ { s with heap:=h' }
  refine leave_first (s:={ s with heap:=h' }) frames hfr rfl st0 hx fun h2 g l=>?_
  have ltS : ∀ b o,s₀.heap.get? b = some o → b ≠ s₀.heap.objs.size:=fun b o q=>Nat.ne_of_lt (Heap.lt_size q)
  obtain ⟨_,_,frTail⟩:=g.fr
  have newS : s₀.heap.get? e = none:=by
    cases q : s₀.heap.get? e with
    | none=>rfl
    | some o =>
      obtain ⟨o1,z⟩:=hU.there e o q (by simp)
      rw [hx.new] at z
      cases z
  refine ⟨e,cls,H,_,rfl,osI,bareI,⟨g.stays,frTail,l,fun a o q=>?_,ok1.none_of hx.new,newS,fun b o q n hb=>?_,fun b o q hb=>?_,fun b o q n=>hU.free b o q n (by simp),fun b o q=>?_,hU.tups,hU.frzs,hU.tbls⟩,hE⟩
  · refine (ok1 a o q).stay (fun b u hb z=>PySem.W.hideAll_get _ z fun hm=>?_) (fun _ z=>z) fun _ _ z=>z
    have hn:=stkF b hm
    rcases hb with hb | hb
    · subst hb
      rw [q] at hn
      cases hn
    · rw [hb] at hn
      cases hn
  · refine PySem.W.hideAll_get _ (hU.keep b o q n hb (by simp)) fun hm=>?_
    rw [frs_cons] at hm
    rcases List.mem_cons.mp hm with z | z
    · exact ltS b o q z
    · exact hb z
  · have hn : H₀ b = none:=by have z:=I.ok.frf b (by rw [eF]; exact hb); rw [eH] at z; exact z
    obtain ⟨sl,z⟩:=hU.slot b o q hn hb (by simp)
    obtain ⟨sl',z'⟩:=g.up b _ (by rw [frs_cons]; exact List.mem_cons_of_mem _ hb) z
    exact ⟨sl',z'⟩
  · obtain ⟨o1,z⟩:=hU.there b o q (by simp)
    exact g.there b o1 z
theorem passes_cx : Passes (CXX P w) (cxOf (CXX P w) P w K mg base N qual scope f cd A outer s₀ H₀ E) E:=by
  intro pins σ H s ex s' I hq
  obtain ⟨e,cls,H',B,rfl,os',bare',fl,hE⟩:=hq
  generalize hX : cxOf (CXX P w) P w K mg base N qual scope f cd A outer s₀ H₀ E = X at I fl
  have eS : X.s₀ = s₀:=by rw [← hX]; rfl
  have eH : X.H₀ = H₀:=by rw [← hX]; rfl
  have eF : X.fs = frs outer:=by rw [← hX]; rfl
  have eEx : X.ex = []:=by rw [← hX]; rfl
  have eSt : X.stack = envOfC qual scope s₀.heap.objs.size f cd :: outer:=by rw [← hX]; rfl
  have frames : (A.deeper (envOfC qual scope s₀.heap.objs.size f cd)).frames = some (envOfC qual scope s₀.heap.objs.size f cd :: outer):=by have q:=I.ok.frames; rw [eSt] at q; rw [← hX] at q; exact q
  have hU:=I.base
  rw [eS,eH,eF,eEx] at hU
  have osI:=I.os
  rw [eS] at osI
  rw [eSt] at fl
  have frf : ∀ b ∈ frs outer,H₀ b = none:=fun b hb=>by have z:=I.ok.frf b (by rw [eF]; exact hb); rw [eH] at z; exact z
  rw [← hX]
  show wpAny (model P w) (A.deeper (envOfC qual scope s₀.heap.objs.size f cd)) (leaving (envOfC qual scope s₀.heap.objs.size f cd) (.ref e)) _ _ s'
  refine leave_next frames fl.fr rfl fl.stays fl.lies fun h2 g l=>?_
  have ltS : ∀ b o,s₀.heap.get? b = some o → b ≠ s₀.heap.objs.size:=fun b o q=>Nat.ne_of_lt (Heap.lt_size q)
  obtain ⟨_,_,frTail⟩:=g.fr
  have newS : s₀.heap.get? e = none:=by
    cases q : s₀.heap.get? e with
    | none=>rfl
    | some o =>
      obtain ⟨o1,z⟩:=hU.there e o q (by simp)
      rw [fl.new] at z
      cases z
  refine ⟨e,cls,H',B,rfl,os'.trans osI,bare',⟨g.stays,frTail,l,fl.hok,fl.out,newS,fun b o q n hb=>?_,fun b o q hb=>?_,fun b o q n=>?_,fun b o q=>?_,fun b xs q=>fl.tups b xs (hU.tups b xs q),fun b o u q=>fl.frzs b o u (hU.frzs b o u q),fun b ps q=>?_⟩,hE⟩
  · refine fl.keep b o (hU.keep b o q n hb (by simp)) (hU.free b o q n (by simp)) fun hm=>?_
    rw [frs_cons] at hm
    rcases List.mem_cons.mp hm with z | z
    · exact ltS b o q z
    · exact hb z
  · obtain ⟨sl,z⟩:=hU.slot b o q (frf b hb) hb (by simp)
    have hb' : b ∈ frs (envOfC qual scope s₀.heap.objs.size f cd :: outer):=by rw [frs_cons]; exact List.mem_cons_of_mem _ hb
    obtain ⟨sl',z'⟩:=fl.slot b _ z hb'
    obtain ⟨sl2,z2⟩:=g.up b _ hb' z'
    exact ⟨sl2,z2⟩
  · obtain ⟨o',z⟩:=hU.there b o q (by simp)
    exact fl.free b o' z (hU.free b o q n (by simp))
  · obtain ⟨o1,z⟩:=hU.there b o q (by simp)
    obtain ⟨o2,z2⟩:=fl.there b o1 z
    exact g.there b o2 z2
  · obtain ⟨m1,z1⟩:=hU.tbls b ps q
    obtain ⟨m2,z2⟩:=fl.tbls b _ z1
    exact ⟨m1 ++ m2,by rw [z2,Array.append_assoc]⟩
end
end L2
namespace L2
open PySem PySem.Spec PyProof.Rows
abbrev veMro : List Value:=[.type "ValueError",.type "Exception",.type "BaseException",.type "object"]
abbrev IsErr (K : PySem.W.Frag) (C : Addr) : Prop:=PySem.W.excIn K C veMro "ValueError.__new__" = true
theorem IsErr.obj {K : PySem.W.Frag} {C : Addr} {h : Heap} (X : K.In h) (q : IsErr K C) : ∃ tl N nm qn bs hdct sn sub ab col dd k0 k1 k2 k3 k5 mN,h.get? C = some (excClassObj nm qn C N bs tl hdct sn sub ab col dd k0 k1 k2 k3 k5 "ValueError.__new__") ∧ h.Ns N mN ∧ mN "__init__" = none ∧ OwnTail h veMro tl:=by
  have q' : PySem.W.excIn K C veMro "ValueError.__new__" = true:=q
  unfold PySem.W.excIn at q'
  split at q'
  next dd cd sl hK =>
    split at q'
    next C1 tl k0 k1 k2 k3 nid k5 hmro hsl =>
      simp only [Bool.and_eq_true,beq_iff_eq,Bool.not_eq_true'] at q'
      obtain ⟨⟨⟨⟨⟨q1,q2⟩,q3⟩,q4⟩,q5⟩,q6⟩:=q'
      subst q1 q2
      cases cd with
      | mk nm bs mro ns qn hd sn sub ab col del =>
        dsimp only at hmro q3 q5 q6
        subst hmro q3
        have hs : sl = #[k0,k1,k2,k3,some (.builtin "ValueError.__new__"),k5]:=by
          cases sl with
          | mk l=>exact congrArg Array.mk hsl
        subst hs
        exact ⟨tl,ns,nm,qn,bs,hd,sn,sub,ab,col,dd,k0,k1,k2,k3,k5,_,X _ _ hK,.of_isNs (PySem.W.isNs_of_in X q5),PySem.W.nsMap_none_of_in X q5 q6,PySem.W.tail_of_in X q4⟩
    next=>cases q'
  next=>cases q'
section
variable {X : Cx} {x : Str} {np cpos pos : Pos} {e₀ : Expr} {rest : List Expr} {ta : TA} {C : Addr} {E : XK}
def tRaise (C : Addr) (E : XK) (ta : TA) : TS:=fun _ σ H=>ta σ H fun vs H1=>vs.length ≤ sizeLine ∧ E (.ref C) none H1
theorem ps_raise (q : IsErr X.K C) (hm : X.mg x = some (.ref C)) (hg : Gl X x) (hr : Raises X E) (hc : X.calm = true) (ha : PA X (e₀ :: rest) ta)
    (he : starEach (e₀ :: rest) X.env = (false,eval e₀ X.env) :: starEach rest X.env:=by rfl) (hpl : (backTo cpos (starEach rest X.env)).any (·.1) = false:=by rfl) (hd : (x == ("__debug__" : Str)) = false:=by decide) :
    PS X (.Raise (some (.Call (.Name x np) (e₀ :: rest) [] cpos)) none pos) (tRaise C E ta):=by
  intro pins s σ H D I h
  obtain ⟨tl,N,nm,qn,bs,hdct,sn,sub,ab,col,dd,k0,k1,k2,k3,k5,mN,hC,hN,hni,T⟩:=q.obj I.kIn
  obtain ⟨tl',N',nm',qn',bs',hdct',sn',sub',ab',col',dd',k0',k1',k2',k3',k5',mN',hC',hN',hni',T'⟩:=q.obj I.ok.mod.kin
  refine wpAny_Raise_call_subT (C:=C) (nm:=nm') (q:=qn') (N:=N') (bs:=bs') (bm:=tl') (hdct:=hdct') (sn:=sn') (sub:=sub') (ab:=ab') (col:=col') (dd:=dd') (k0:=k0') (k1:=k1') (k2:=k2') (k3:=k3') (k5:=k5')
    PySem.F.excBase_ValueError (mN:=mN') (T'.hasType PySem.F.excBase_ValueError.hasBase) (I.ok.hd hc) ?_ hni' (ld_glob I hg hm ⟨rfl,?_⟩ hd)
  · rw [he]
    show (false || (backTo cpos (starEach rest X.env)).any (·.1)) = false
    rw [hpl]
    rfl
  · have ha':=ha cpos pins s σ H _ I h
    rw [he] at ha' ⊢
    refine Calls.evalArgs_plain (thn ha' fun us s1 ⟨vs,H1,I1,r,z,q1⟩=>⟨rfl,by rw [← r.length]; exact z,I1.bk _ _ hC',hN'.keeps I1.bk,T'.keeps I1.bk,fun h' e hx=>?_⟩)
    exact hr pins σ H1 s1 h' e _ _ I1 hx q1
end
theorem Fun.okX {P : Program} {w : World} {K : PySem.W.Frag} {mg : Str → Option Value} {base : Heap} {x qual : Str} {st : Stmt} {f : Addr} {fd : FuncData} {N ps : List Str} {k : Nat} {sp : Sp} (F : Fun K x qual st f fd) (S : FnScope N ps (defScope st)) (len : ∀ vs H Q E,sp vs H Q E → vs.length = ps.length)
    (body : ∀ (cdv : Value) (A : Around) (outer : List Env) (s : Shared) (H : Hp) (vs : List V) (Q : VK) (E : XK),Room k (A.deeper (envOfC qual (defScope st) s.heap.objs.size f cdv)) → sp vs H Q E →
      ∃ t,PSs (cxOf (CXX P w) P w K mg base N qual (defScope st) f cdv A outer s H E) (defBody st) t ∧ t { nx:=fun _ H'=>Q .non H',rt:=Q } (start N vs) H) : FnOk P w K mg base (CXX P w) (k + 1) f fd ps sp:=by
  obtain ⟨oc,od,kV,doc,pm,an,cdv,ct,osl,rfl,lk,hcd⟩:=F.ex
  exact fn_of lk hcd S len fun A outer s H vs Q E hr hsp=>body cdv A outer s H vs Q E hr hsp
abbrev ExcAt (a : Addr) (cls : Value) : HO:=.ext fun h=>∃ t tb,h.get? a = some (excO cls t tb)
theorem excAt_ok {P : Program} {w : World} {H : Hp} {h : Heap} {a t : Addr} {cls tb : Value} (e : h.get? a = some (excO cls t tb)) : ObjOk P w H h a (ExcAt a cls) :=
  ⟨⟨t,tb,e⟩,⟨_,e⟩,fun h1 h2 ⟨t1,tb1,e1⟩ k=>⟨t1,tb1,k _ e1⟩⟩
abbrev Cx.held (X : Cx) (a : Addr) : Cx:={ X with A:=X.A.mark (some (.ref a)),calm:=false,xe:=fun _ _=>False }
abbrev Cx.tried (X : Cx) (pn : List (Addr × Obj)) (E : Value → Shared → Prop) : Cx:={ X with pn:=pn,xe:=E }
section
variable {X : Cx} {pins : List (Addr × Obj)} {σ : St} {H : Hp} {s : Shared}
theorem Inv.tried (I : Inv X pins σ H s) (E : Value → Shared → Prop) : Inv (X.tried (X.pn ++ pins) E) [] σ H s :=
  ⟨⟨I.ok.mod,I.ok.kind,I.ok.glob,I.ok.blt,I.ok.above,I.ok.inj,I.ok.has,I.ok.cab,I.ok.hd,I.ok.frames,I.ok.stk,I.ok.exf,I.ok.bs,I.ok.bsz,I.ok.noex,I.ok.exfs,I.ok.funs,I.ok.frf⟩,I.os,I.bare,I.base,I.loc,I.cell,I.free,I.freeC,fun p hp=>I.pin p (by simpa using hp),I.hok,I.len⟩
theorem Inv.untried {pl : List (Addr × Obj)} {E : Value → Shared → Prop} (I : Inv (X.tried (X.pn ++ pins) E) pl σ H s) : Inv X pins σ H s :=
  ⟨⟨I.ok.mod,I.ok.kind,I.ok.glob,I.ok.blt,I.ok.above,I.ok.inj,I.ok.has,I.ok.cab,I.ok.hd,I.ok.frames,I.ok.stk,I.ok.exf,I.ok.bs,I.ok.bsz,I.ok.noex,I.ok.exfs,I.ok.funs,I.ok.frf⟩,I.os,I.bare,I.base,I.loc,I.cell,I.free,I.freeC,fun p hp=>I.pin p (List.mem_append_left _ hp),I.hok,I.len⟩
theorem Inv.toHeld (I : Inv X pins σ H s) (a : Addr) : Inv (X.held a) pins σ H s :=
  ⟨⟨I.ok.mod,I.ok.kind,I.ok.glob,I.ok.blt,I.ok.above,I.ok.inj,I.ok.has,I.ok.cab,(fun z=>by cases z),I.ok.frames,I.ok.stk,I.ok.exf,I.ok.bs,I.ok.bsz,I.ok.noex,I.ok.exfs,I.ok.funs,I.ok.frf⟩,I.os,I.bare,I.base,I.loc,I.cell,I.free,I.freeC,I.pin,I.hok,I.len⟩
theorem Inv.unheld {a : Addr} (I : Inv (X.held a) pins σ H s) (hd : X.calm = true → X.A.handled = none) : Inv X pins σ H s :=
  ⟨⟨I.ok.mod,I.ok.kind,I.ok.glob,I.ok.blt,I.ok.above,I.ok.inj,I.ok.has,I.ok.cab,hd,I.ok.frames,I.ok.stk,I.ok.exf,I.ok.bs,I.ok.bsz,I.ok.noex,I.ok.exfs,I.ok.funs,I.ok.frf⟩,I.os,I.bare,I.base,I.loc,I.cell,I.free,I.freeC,I.pin,I.hok,I.len⟩
def blank (n : Nat) : St:=List.replicate n none
theorem Inv.blank (I : Inv X pins σ H s) : Inv X pins (blank X.N.length) H s:=I.weak (by rw [I.len]; simp [L2.blank]) fun i v e=>by
  unfold L2.blank at e
  rw [List.getElem?_replicate] at e
  split at e <;> cases e
theorem Inv.renamed {h' : Heap} {m' : Str → Option Value} {tk : Nat} (I : Inv X pins σ H s) (hn : h'.Ns X.env.locals m') (sb : Heap.SameBut X.env.locals s.heap h') : Inv X pins (L2.blank X.N.length) H { s with heap:=h',toks:=tk }:=by
  have ne : ∀ b o,X.s₀.heap.get? b = some o → b ≠ X.env.locals:=fun b o e=>Nat.ne_of_lt (Nat.lt_of_lt_of_le (Heap.lt_size e) I.ok.above)
  obtain ⟨oL,_,_,hoL,_⟩:=id hn
  refine ⟨I.ok,I.os,I.bare,⟨fun b o e n hb hx=>(sb.2 b (ne b o e)).trans (I.base.keep b o e n hb hx),fun b o e n hb hx=>?_,I.base.free,fun b o e hx=>?_,I.base.tups,I.base.frzs,I.base.tbls⟩,⟨m',hn,fun i x v _ e2 _=>?_⟩,fun x c e=>?_,I.free,I.freeC,fun p hp=>?_,fun b o e=>?_,by simp [L2.blank]⟩
  · obtain ⟨sl,z⟩:=I.base.slot b o e n hb hx
    exact ⟨sl,(sb.2 b (ne b o e)).trans z⟩
  · obtain ⟨o',z⟩:=I.base.there b o e hx
    exact ⟨o',(sb.2 b (ne b o e)).trans z⟩
  · unfold L2.blank at e2
    rw [List.getElem?_replicate] at e2
    split at e2 <;> cases e2
  · obtain ⟨v,z⟩:=I.cell x c e
    exact ⟨v,z.sameBut sb (I.cne x c e)⟩
  · obtain ⟨q1,q2,q3,q4,q5⟩:=I.pin p hp
    exact ⟨(sb.2 p.1 q3).trans q1,q2,q3,q4,q5⟩
  · refine (I.hok b o e).stay (fun c u hc q=>(sb.2 c ?_).trans q) (fun _ q=>q) fun _ _ q=>q
    rintro rfl
    have:=I.free
    rcases hc with rfl | hc
    · rw [this] at e; cases e
    · rw [this] at hc; cases hc
end
theorem Inv.track' {X : Cx} {pins : List (Addr × Obj)} {σ : St} {H : Hp} {s : Shared} {D : Addr} {o : HO} (I : Inv X pins σ H s) (hn : H D = none) (hL : D ≠ X.env.locals) (h0 : X.s₀.heap.get? D = none) (hcell : ∀ x c,X.env.cells.lookup x = some c → c ≠ D) (hpin : ∀ p ∈ X.pn ++ pins,p.1 ≠ D)
    (new : ObjOk X.prog X.w (upd H D o) s.heap D o) : Inv X pins σ (upd H D o) s:=by
  have old : ∀ b u,H b = some u → upd H D o b = some u:=fun b u e=>by rw [upd_ne (ne_of_none e hn)]; exact e
  refine ⟨I.ok,I.os,I.bare,⟨I.base.keep,I.base.slot,fun b ob e n hx=>?_,I.base.there,fun b xs e=>old _ _ (I.base.tups b xs e),fun b ob u e=>old _ _ (I.base.frzs b ob u e),fun b ps e=>?_⟩,I.loc,I.cell,?_,fun x c e=>?_,fun p hp=>?_,fun b u e=>?_,I.len⟩
  · rw [upd_ne (fun z=>by rw [z,h0] at e; cases e)]
    exact I.base.free b ob e n hx
  · obtain ⟨more,q⟩:=I.base.tbls b ps e
    exact ⟨more,old _ _ q⟩
  · rw [upd_ne (Ne.symm hL)]
    exact I.free
  · rw [upd_ne (hcell x c e)]
    exact I.freeC x c e
  · obtain ⟨q1,q2,q3,q4,q5⟩:=I.pin p hp
    exact ⟨q1,by rw [upd_ne (hpin p hp)]; exact q2,q3,q4,q5⟩
  · by_cases hb : b = D
    · subst hb
      rw [upd_same] at e
      cases e
      exact new
    · rw [upd_ne hb] at e
      exact (I.hok b u e).stay (fun _ _ _ q=>q) (fun c r=>by rw [upd_ne (ne_of_none r hn)]; exact r) fun c xs r=>by rw [upd_ne (ne_of_none r hn)]; exact r
theorem noX {α : Type} {M : Model} {A : Around} {t : Sem α} {Q : α → Shared → Prop} {E : Value → Shared → Prop} {s : Shared} (h : wpAny M A t Q (fun _ _=>False) s) : wpAny M A t Q E s:=wpAny_mono h (fun _ _ q=>q) fun _ _ f=>f.elim
def tTry (C : Value) (K : PySem.W.Frag) (i : Nat) (len : Nat) (tb : XK → TS) (ts : Addr → TS) : TS:=fun D σ H=>∃ E : XK,tb E D σ H ∧
  ∀ (a : Addr) (cls : Value) (H' : Hp),E cls none H' → H' a = none → PySem.W.exmOne K cls C = some true ∧
    ts a { nx:=fun _ H1=>D.nx (blank len) H1,rt:=D.rt,bk:=fun _ H1=>D.bk (blank len) H1,ct:=fun _ H1=>D.ct (blank len) H1 } ((blank len).set i (some (.ref a))) (upd H' a (ExcAt a cls))
theorem ps_try {X : Cx} {P : Program} {w : World} {body suite : List Stmt} {b₀ : Stmt} {x n : Str} {np hpos pos : Pos} {C : Addr} {i : Nat} {tb : XK → TS} {ts : Addr → TS} (hP : X.prog = P) (hw : X.w = w)
    (hst : X.stack = X.env :: X.outer) (hex : X.ex = []) (hfm : X.env.frame = some X.env.locals) (hc : X.calm = true) (hN : X.N.Nodup) (hi : X.N[i]? = some n) (hn : X.env.scope.names.lookup n = some .local) (hg : Gl X x) (hm : X.mg x = some (.ref C))
    (hb : ∀ (E : XK) (pn : List (Addr × Obj)) (xe : Value → Shared → Prop),Passes (CXX P w) (X.tried pn xe) E → PSs (X.tried pn xe) body (tb E))
    (hs : ∀ a,PSs (X.held a) (b₀ :: suite) (ts a)) (hd : (x == ("__debug__" : Str)) = false:=by decide) :
    PS X (.Try body [.ExceptHandler (some (.Name x np)) (some n) (b₀ :: suite) hpos] [] [] pos) (tTry (.ref C) X.K i X.N.length tb ts):=by
  subst hP hw
  intro pins s σ H D I h
  obtain ⟨E,hB,hH⟩:=h
  have hcls : (X.env.scope.kind == .class || (X.env.scope.kind == .module && X.env.locals != X.env.globals)) = false:=by rw [I.ok.kind]; rfl
  let xe : Value → Shared → Prop:=fun e s'=>∃ (pl : List (Addr × Obj)) (σ1 : St) (H1 : Hp) (s1 : Shared),Inv X pins σ1 H1 s1 ∧ CXX X.prog X.w X.stack H1 s1 E e s'
  have pass : Passes (CXX X.prog X.w) (X.tried (X.pn ++ pins) xe) E:=fun pl σ1 H1 s1 e s' I1 q=>⟨pl,σ1,H1,s1,I1.untried,q⟩
  have body':=hb E (X.pn ++ pins) xe pass [] s σ H D (I.tried xe) hB
  have noF : PassesOwn (model X.prog X.w) X.A X.env (fun _ _=>False):=PassesOwn.never
  refine wpAny_Try_except (wpAny_mono body' (fun f s1 q=>?_) fun e s1 q=>?_)
  · cases f with
    | next =>
      obtain ⟨σ1,H1,I1,q⟩:=q
      exact wpAny_execs_nil ⟨σ1,H1,I1.untried,q⟩
    | brk =>
      obtain ⟨σ1,H1,I1,q⟩:=q
      exact ⟨σ1,H1,I1.untried,q⟩
    | cont =>
      obtain ⟨σ1,H1,I1,q⟩:=q
      exact ⟨σ1,H1,I1.untried,q⟩
    | ret u =>
      obtain ⟨v,σ1,H1,I1,r,q⟩:=q
      exact ⟨v,σ1,H1,I1.untried,r,q⟩
  · obtain ⟨pl,σ1,H1,s0,I0,a,cls,H',B,rfl,os',bare',fl,hE⟩:=q
    rw [hst] at fl
    have frames : X.A.frames = some (X.env :: X.outer):=by have q:=I.ok.frames; rw [hst] at q; exact q
    obtain ⟨hx1,hx2⟩:=hH a cls H' hE fl.out
    have inv : ∀ h2,Gone B (X.env :: X.outer) s1.heap h2 → Inv X pins (blank X.N.length) H' { s1 with heap:=h2 }:=fun h2 g=>by
      have u : Un (frs X.stack) [] H1 H' s0.heap h2:=by
        rw [hst]
        refine ⟨fun b o q n hb _=>g.stays b o (fl.keep b o q n hb),fun b o q n hb _=>?_,fun b o q n _=>fl.free b o q n,fun b o q _=>?_,fl.tups,fl.frzs,fl.tbls⟩
        · obtain ⟨sl,z⟩:=fl.slot b o q hb
          obtain ⟨sl',z'⟩:=g.up b _ hb z
          exact ⟨sl',z'⟩
        · obtain ⟨o1,z⟩:=fl.there b o q
          exact g.there b o1 z
      exact (I0.call' (s':={ s1 with heap:=h2 }) (ch:=[]) os' u (fl.hok.kept g.stays) bare' (fun b z=>nomatch z)).blank
    refine note_next frames fl.fr hfm fl.stays fl.lies fun h2 g2 l2=>?_
    refine flight_off (s:={ s1 with heap:=h2 }) g2.fr g2.stays l2 fun h3 g3 l3=>?_
    have g:=g2.trans g3
    have I3:=inv h3 g
    refine wpAny_handleBy_cons (codeAny_handlers_test ?_) (by intro q; cases q)
    obtain ⟨⟨t,T,oT,ts',he,nT,nB,hT,hdT,h3T⟩,hnB⟩:=id l3
    have LT : PySem.W.Looks (model X.prog X.w) h3 (typeOf (.ref a)) cls:=(PySem.W.Looks.ld (part:=some headPart) he).andThen .now
    refine ld_glob (X:=X.held a) (I3.toHeld a) hg hm ?_ hd
    refine (PySem.W.exm_one (M:=model X.prog X.w) (show X.K.In h3 from I3.kIn) LT hx1).here ?_
    show codeAny (model X.prog X.w) (X.A.mark (some (.ref a))) (.handlers (.ref a) [.ExceptHandler none (some n) (b₀ :: suite) hpos] X.env) _ _
    refine codeAny_handlers_suite_as ?_
    refine flight_off (s:={ s1 with heap:=h3 }) g.fr g.stays l3 fun h4 g4 l4=>?_
    have gg:=g.trans g4
    have I4:=inv h4 gg
    obtain ⟨⟨t4,T4,_,_,he4,_⟩,_⟩:=id l4
    have ne0 : ∀ b o,s0.heap.get? b = some o → b ≠ a:=fun b o q z=>by rw [z,fl.new] at q; cases q
    have I5 : Inv X pins (blank X.N.length) (upd H' a (ExcAt a cls)) { s1 with heap:=h4 }:=by
      obtain ⟨m,⟨oL,_,_,hoL,_⟩,_⟩:=I0.loc
      refine I4.track' fl.out (Ne.symm (ne0 _ _ hoL)) ?_ (fun y c e=>?_) (fun p hp=>ne0 _ _ (I0.pin p hp).1) (excAt_ok he4)
      · cases q : X.s₀.heap.get? a with
        | none=>rfl
        | some o =>
          obtain ⟨o1,z⟩:=I0.base.there a o q (by rw [hex]; simp)
          rw [fl.new] at z
          cases z
      · obtain ⟨v,o,ho,_⟩:=I0.cell y c e
        exact ne0 _ _ ho
    refine store_ok I5 hN hi (.inl hn) (show RelV (.ref a) (.ref a) from rfl) (fun s6 I6=>?_) (.inr hn)
    have suite':=hs a pins s6 _ _ _ (I6.toHeld a) hx2
    refine noX (thn suite' fun f s7 q7=>?_)
    show wpAny (model X.prog X.w) X.A (do bindName X.env n .none; unbindBehindTheSuite X.env n hpos) (fun _ s₃=>SP X pins D f s₃) X.xe s7
    have back : ∀ {σ7 : St} {H7 : Hp},Inv (X.held a) pins σ7 H7 s7 → (∀ h' tk,Inv X pins (blank X.N.length) H7 { s7 with heap:=h',toks:=tk } → SP X pins D f { s7 with heap:=h',toks:=tk }) →
        wpAny (model X.prog X.w) X.A (do bindName X.env n .none; unbindBehindTheSuite X.env n hpos) (fun _ s₃=>SP X pins D f s₃) X.xe s7:=fun {σ7 H7} I7 k=>by
      obtain ⟨m7,hm7,_⟩:=I7.loc
      exact wpAny_nameGoes hn hm7 hcls fun h' m' hn' sb=>k h' _ ((I7.unheld I.ok.hd).renamed hn' sb)
    cases f with
    | next =>
      obtain ⟨σ7,H7,I7,q⟩:=q7
      exact back I7 fun h' tk J=>⟨_,H7,J,q⟩
    | brk =>
      obtain ⟨σ7,H7,I7,q⟩:=q7
      exact back I7 fun h' tk J=>⟨_,H7,J,q⟩
    | cont =>
      obtain ⟨σ7,H7,I7,q⟩:=q7
      exact back I7 fun h' tk J=>⟨_,H7,J,q⟩
    | ret u =>
      obtain ⟨v,σ7,H7,I7,r,q⟩:=q7
      exact back I7 fun h' tk J=>⟨v,_,H7,J,r,q⟩
end L2
namespace L2
open PySem PySem.Spec PyProof.Rows
theorem neL {a b : Nat} (h : a < b) : a ≠ b:=Nat.ne_of_lt h
theorem neG {a b : Nat} (h : b < a) : a ≠ b:=Nat.ne_of_gt h
theorem get_lt {h : Heap} {b : Nat} {o : Obj} (e : h.get? b = some o) : b < Array.size h.objs:=Heap.lt_size e
def closOf (cells : List (Str × Addr)) : List (Str × NameKind) → List (Str × Addr) → List (Str × Addr)
  | [],acc=>acc
  | (n,k) :: r,acc=>closOf cells r (if k == .free then (match cells.lookup n with | some a=>(n,a) :: acc | none=>acc) else acc)
theorem closureFor_go {env : Env} : ∀ (names : List (Str × NameKind)) (acc : List (Str × Addr)),(∀ y ∈ names,y.2 = .free → ∃ a,env.cells.lookup y.1 = some a) →
    (forIn names acc (fun (x : Str × NameKind) (cs : List (Str × Addr))=>if (x.2 == NameKind.free) = true then (do let a ← cellOf env x.1; pure (ForInStep.yield ((x.1,a) :: cs))) else (pure (ForInStep.yield cs) : Sem _))) = (pure (closOf env.cells names acc) : Sem _)
  | [],acc,_=>rfl
  | (n,k) :: r,acc,h=>by
    have ih:=fun acc'=>closureFor_go r acc' fun y hy=>h y (List.mem_cons_of_mem _ hy)
    rw [List.forIn_cons]
    by_cases hk : k = .free
    · subst hk
      obtain ⟨a,ha⟩:=h (n,.free) List.mem_cons_self rfl
      have e1 : cellOf env n = pure a:=by unfold cellOf; rw [ha]
      have e2 : closOf env.cells ((n,NameKind.free) :: r) acc = closOf env.cells r ((n,a) :: acc):=by
        show closOf env.cells r (if (NameKind.free == NameKind.free) = true then (match env.cells.lookup n with | some a=>(n,a) :: acc | none=>acc) else acc) = _
        rw [if_pos (show (NameKind.free == NameKind.free) = true by decide),show env.cells.lookup n = some a from ha]
      rw [e2,← ih]
      show ((do let a ← cellOf env n; pure (ForInStep.yield ((n,a) :: acc)) : Sem _) >>= _) = _
      rw [e1]
      rfl
    · have hb : (k == NameKind.free) = false:=by simpa using hk
      have e2 : closOf env.cells ((n,k) :: r) acc = closOf env.cells r acc:=by
        show closOf env.cells r (if (k == NameKind.free) = true then _ else acc) = _
        rw [hb]; rfl
      rw [e2,← ih]
      show ((if (k == NameKind.free) = true then (do let a ← cellOf env n; pure (ForInStep.yield ((n,a) :: acc))) else (pure (ForInStep.yield acc) : Sem _)) >>= _) = _
      rw [hb]
      rfl
theorem closureFor_of {scope : Scope} {env : Env} (h : ∀ y ∈ scope.names,y.2 = .free → ∃ a,env.cells.lookup y.1 = some a) : closureFor scope env = pure (closOf env.cells scope.names []):=by
  have e:=closureFor_go scope.names [] h
  unfold closureFor
  show (forIn scope.names [] _ >>= fun cs=>pure cs) = _
  have e' : (forIn scope.names ([] : List (Str × Addr)) (fun (x : Str × NameKind) (cs : List (Str × Addr))=>match x with | (name,kind)=>if (kind == NameKind.free) = true then (do let a ← cellOf env name; pure (ForInStep.yield ((name,a) :: cs))) else (pure (ForInStep.yield cs) : Sem _))) = (pure (closOf env.cells scope.names []) : Sem _):=e
  first
    | (rw [e']; rfl)
    | (simp only [e']; rfl)
    | (erw [e']; rfl)
theorem closOf_sub {cells : List (Str × Addr)} : ∀ (names : List (Str × NameKind)) (acc : List (Str × Addr)),(∀ x c,acc.lookup x = some c → cells.lookup x = some c) → ∀ x c,(closOf cells names acc).lookup x = some c → cells.lookup x = some c
  | [],acc,h,x,c,e=>h x c e
  | (n,k) :: r,acc,h,x,c,e=>by
    refine closOf_sub r _ ?_ x c e
    intro y d q
    by_cases hk : (k == NameKind.free) = true
    · rw [if_pos hk] at q
      cases ha : cells.lookup n with
      | none=>rw [ha] at q; exact h y d q
      | some a =>
        rw [ha] at q
        by_cases hy : y = n
        · subst hy
          have q' : List.lookup y ((y,a) :: acc) = some d:=q
          rw [List.lookup_cons,beq_self_eq_true] at q'
          cases q'
          exact ha
        · have q' : List.lookup y ((n,a) :: acc) = some d:=q
          rw [List.lookup_cons,show (y == n) = false from by simpa using hy] at q'
          exact h y d q'
    · rw [if_neg hk] at q
      exact h y d q
theorem closOf_acc {cells : List (Str × Addr)} : ∀ (names : List (Str × NameKind)) (acc : List (Str × Addr)) (x : Str),(∃ c,acc.lookup x = some c) → ∃ c,(closOf cells names acc).lookup x = some c
  | [],_,_,h=>h
  | (n,k) :: r,acc,x,⟨c,h⟩=>by
    refine closOf_acc r _ x ?_
    by_cases hk : (k == NameKind.free) = true
    · rw [if_pos hk]
      cases ha : cells.lookup n with
      | none=>exact ⟨c,h⟩
      | some a =>
        show ∃ c,List.lookup x ((n,a) :: acc) = some c
        rw [List.lookup_cons]
        cases x == n with
        | true=>exact ⟨a,rfl⟩
        | false=>exact ⟨c,h⟩
    · rw [if_neg hk]
      exact ⟨c,h⟩
theorem closOf_has {cells : List (Str × Addr)} : ∀ (names : List (Str × NameKind)) (acc : List (Str × Addr)) (x : Str) (c : Addr),(x,NameKind.free) ∈ names → cells.lookup x = some c → (closOf cells names acc).lookup x = some c ∨ ∃ d,(closOf cells names acc).lookup x = some d
  | [],_,_,_,h,_=>nomatch h
  | (n,k) :: r,acc,x,c,h,e=>by
    rcases List.mem_cons.mp h with z | z
    · cases z
      refine .inr (closOf_acc r _ _ ?_)
      rw [if_pos (show (NameKind.free == NameKind.free) = true by decide),e]
      exact ⟨c,by show List.lookup n ((n,c) :: acc) = _; rw [List.lookup_cons,beq_self_eq_true]⟩
    · exact closOf_has r _ x c z e
theorem closOf_at {cells : List (Str × Addr)} {names : List (Str × NameKind)} {x : Str} {c : Addr} (h : (x,NameKind.free) ∈ names) (e : cells.lookup x = some c) : (closOf cells names []).lookup x = some c:=by
  rcases closOf_has names [] x c h e with z | ⟨d,z⟩
  · exact z
  · have q:=closOf_sub names [] (fun y d q=>by cases q) x d z
    rw [e] at q
    cases q
    exact z
def compOk (fs scope : Scope) (N own : List Str) (cap : List Nat) : Bool :=
  (scope.kind == .function) && scope.names.all (fun y=>y.2 != .cell) && scope.names.all (fun y=>y.2 != .local || scope.names.lookup y.1 == some .local) &&
    scope.names.all (fun y=>y.2 != .free || (fs.names.lookup y.1 == some .cell || fs.names.lookup y.1 == some .free)) &&
    decide ((own ++ cap.map fun i=>N.getD i "").Nodup) && cap.all (fun i=>decide (i < N.length) && (scope.names.lookup (N.getD i "") == some .free) && (fs.names.lookup (N.getD i "") == some .cell || fs.names.lookup (N.getD i "") == some .free))
abbrev compN (N own : List Str) (cap : List Nat) : List Str:=own ++ cap.map fun i=>N.getD i ""
def capσ (own : List Str) (cap : List Nat) (σ : St) : St:=(own.map fun _=>none) ++ cap.map fun i=>(σ[i]?).join
def cxComp (X : Cx) (scope : Scope) (N' : List Str) (C : Addr) (s₀ : Shared) (H₀ : Hp) (ex : List Addr) : Cx where
  prog:=X.prog
  w:=X.w
  K:=X.K
  mg:=X.mg
  base:=X.base
  A:=X.A
  N:=N'
  s₀:=s₀
  H₀:=H₀
  env:=compEnvC scope (closOf X.env.cells scope.names []) C X.env
  outer:=X.stack
  stack:=X.stack
  ex:=ex
  fn:=fun _=>false
  calm:=X.calm
  pn:=[]
  xe:=fun _ _=>False
theorem relabel_has {scope : Scope} {env : Env} {x : Str} (hc : ∀ y ∈ scope.names,y.2 ≠ .cell) (h : (relabel scope env).names.lookup x = some .cell ∨ (relabel scope env).names.lookup x = some .free) : (x,NameKind.free) ∈ scope.names:=by
  have mem : ∀ k,(relabel scope env).names.lookup x = some k → (k = .cell ∨ k = .free) → (x,NameKind.free) ∈ scope.names:=fun k e hk=>by
    obtain ⟨⟨n,k0⟩,hm,q⟩:=List.mem_map.mp (PySem.mem_of_lookup e)
    by_cases c : (k0 == NameKind.free && env.scope.kind == .function && env.kindOf n == some .cell) = true
    · have q' : (if (k0 == NameKind.free && env.scope.kind == .function && env.kindOf n == some .cell) = true then (n,NameKind.cell) else (n,k0)) = (x,k):=q
      rw [if_pos c] at q'
      cases q'
      have : k0 = .free:=by
        have c1:=(Bool.and_eq_true _ _ ▸ c).1
        have c2:=(Bool.and_eq_true _ _ ▸ c1).1
        simpa using c2
      subst this
      exact hm
    · have q' : (if (k0 == NameKind.free && env.scope.kind == .function && env.kindOf n == some .cell) = true then (n,NameKind.cell) else (n,k0)) = (x,k):=q
      rw [if_neg c] at q'
      cases q'
      rcases hk with z | z
      · exact absurd z (hc _ hm)
      · subst z; exact hm
  rcases h with h | h
  · exact mem _ h (.inl rfl)
  · exact mem _ h (.inr rfl)
theorem relabel_free {scope : Scope} {env : Env} {x : Str} (hnd : scope.names.lookup x = some .free) : (relabel scope env).names.lookup x = some .cell ∨ (relabel scope env).names.lookup x = some .free:=by
  have : ∀ names : List (Str × NameKind),names.lookup x = some .free →
      (names.map fun (n,k)=>if (k == NameKind.free && env.scope.kind == .function && env.kindOf n == some .cell) = true then (n,NameKind.cell) else (n,k)).lookup x = some .cell ∨
      (names.map fun (n,k)=>if (k == NameKind.free && env.scope.kind == .function && env.kindOf n == some .cell) = true then (n,NameKind.cell) else (n,k)).lookup x = some .free:=by
    intro names
    induction names with
    | nil=>intro h; cases h
    | cons y r ih =>
      obtain ⟨n,k⟩:=y
      intro h
      show List.lookup x ((if (k == NameKind.free && env.scope.kind == .function && env.kindOf n == some .cell) = true then (n,NameKind.cell) else (n,k)) :: _) = _ ∨ List.lookup x ((if (k == NameKind.free && env.scope.kind == .function && env.kindOf n == some .cell) = true then (n,NameKind.cell) else (n,k)) :: _) = _
      cases hx : x == n with
      | true =>
        simp only [List.lookup_cons,hx] at h
        cases h
        by_cases hc : (NameKind.free == NameKind.free && env.scope.kind == .function && env.kindOf n == some .cell) = true
        · rw [if_pos hc,List.lookup_cons,hx]; exact .inl rfl
        · rw [if_neg hc,List.lookup_cons,hx]; exact .inr rfl
      | false =>
        simp only [List.lookup_cons,hx] at h
        by_cases hc : (k == NameKind.free && env.scope.kind == .function && env.kindOf n == some .cell) = true
        · rw [if_pos hc]; simp only [List.lookup_cons,hx]; exact ih h
        · rw [if_neg hc]; simp only [List.lookup_cons,hx]; exact ih h
  exact this scope.names hnd
def GK (n : Nat) (g : TG) : Prop:=∀ v σ H (Q Q' : St → Hp → Prop),g v σ H Q → (∀ σ' H',Q σ' H' → σ'.length = σ.length → (∀ j,n ≤ j → σ'[j]? = σ[j]?) → Q' σ' H') → g v σ H Q'
def GKs (n : Nat) (g : TGs) : Prop:=∀ vs σ H (Q Q' : St → Hp → Prop),g vs σ H Q → (∀ σ' H',Q σ' H' → σ'.length = σ.length → (∀ j,n ≤ j → σ'[j]? = σ[j]?) → Q' σ' H') → g vs σ H Q'
theorem gk_name {n i : Nat} (h : i < n:=by decide) : GK n (gName i):=fun v σ H Q Q' q k=>k _ _ q List.length_set fun j hj=>List.getElem?_set_ne (by omega)
theorem gks_nil {n : Nat} : GKs n gNil:=fun vs σ H Q Q' ⟨e,q⟩ k=>⟨e,k _ _ q rfl fun _ _=>rfl⟩
theorem gks_cons {n : Nat} {t : TG} {u : TGs} (h1 : GK n t) (h2 : GKs n u) : GKs n (gCons t u):=fun vs σ H Q Q' ⟨v,r,e,q⟩ k =>
  ⟨v,r,e,h1 v σ H _ _ q fun σ1 H1 q1 l1 k1=>h2 r σ1 H1 _ _ q1 fun σ2 H2 q2 l2 k2=>k σ2 H2 q2 (l2.trans l1) fun j hj=>(k2 j hj).trans (k1 j hj)⟩
theorem gk_tup {n m : Nat} {K : PySem.W.Frag} {t : TGs} (h : GKs n t) : GK n (gTup K m t):=fun v σ H Q Q' ⟨a,xs,e,sq,l,q⟩ k=>⟨a,xs,e,sq,l,h xs σ H Q Q' q k⟩
def PF (Y : Cx) (ifs : List Expr) (tf : TT) : Prop :=
  ∀ (pins : List (Addr × Obj)) (s : Shared) (σ : St) (H : Hp) (Q : Bool → Hp → Prop),Inv Y pins σ H s → tf σ H Q →
    wpAny (model Y.prog Y.w) Y.A (forIn ifs true fun c r=>if r = true then do let ok ← isTrue c Y.env (eval c Y.env); pure (ForInStep.yield ok) else pure (ForInStep.yield r)) (TP Y pins σ Q) Y.xe s
def tNoTest : TT:=fun _ H Q=>Q true H
theorem pf_nil {Y : Cx} : PF Y [] tNoTest:=fun _ _ _ H _ I q=>wpAny_tests_nil ⟨H,I,q⟩
theorem pf_one {Y : Cx} {c : Expr} {t : TT} (h : PT Y c t) : PF Y [c] t:=fun pins s σ H Q I q=>wpAny_tests_one (h pins s σ H Q I q)
abbrev Blk (α : Type) : Type:=Addr → Shared → Hp → List Addr → α
abbrev CompR (own : List Str) (cap : List Nat) (g : Blk TG) (tf : Blk TT) (te : Blk TE) (σ : St) (Q : VK) (J : It) (H1 : Hp) : Prop :=
  ∃ W : Nat → Nat → List V → Hp → Prop,(∃ m,W 0 m [] H1) ∧ ∀ i m ys H,W i m ys H →
    (J.stop i H ∧ ys.length ≤ sizeLine ∧ ∀ p,H p = none → Q (.ref p) (upd H p (.lst ys))) ∨
    (J.go i H ∧ ys.length < sizeLine ∧ ∀ x H',J.yld i H x H' → ∀ C s₀ H₀ ex,g C s₀ H₀ ex x (capσ own cap σ) H' fun σ2 H2=>tf C s₀ H₀ ex σ2 H2 fun b H3 =>
      if b = true then te C s₀ H₀ ex σ2 H3 fun v H4=>∃ m',m' < m ∧ W (i + 1) m' (ys ++ [v]) H4 else ∃ m',m' < m ∧ W (i + 1) m' ys H3)
def tComp (own : List Str) (cap : List Nat) (wi : TI) (g : Blk TG) (tf : Blk TT) (te : Blk TE) : TE:=fun σ H Q=>wi σ H fun J H1=>CompR own cap g tf te σ Q J H1
section
variable {prog : Program} {w : World} {A : Around} {R : Result → Shared → Prop} {s : Shared}
theorem codeAny_compLoop_any {elt target iter : Expr} {ifs : List Expr} {scope : Scope} {pos : Pos} {it acc : Value} {env : Env} (I : Nat → Shared → Prop)
    (turn : ∀ n s,I n s → wpAny (model prog w) A (pyNext it) (fun r s₁=>match r with
      | none=>R (.ok .next) s₁
      | some v=>wpAny (model prog w) A (letOwnedTupleGo target it v) (fun _ s₁'=>wpAny (model prog w) A (assign target env v) (fun _ s₂ =>
          wpAny (model prog w) A (forIn ifs true fun c r=>if r = true then do let ok ← isTrue c env (eval c env); pure (ForInStep.yield ok) else pure (ForInStep.yield r)) (fun ok s₃ =>
            if ok = true then wpAny (model prog w) A (eval elt env) (fun x s₄ =>
              wpAny (model prog w) A (call (.builtin "list.append") [acc,x]) (fun _ s₅=>∃ m,m < n ∧ I m s₅) (fun _ _=>False) s₄) (fun _ _=>False) s₃
            else ∃ m,m < n ∧ I m s₃) (fun _ _=>False) s₂) (fun _ _=>False) s₁') (fun _ _=>False) s₁) (fun _ _=>False) s)
    (n : Nat) (h : I n s) :
    codeAny (model prog w) A (.compLoop (.ListComp elt [⟨target,iter,ifs,0⟩] scope pos) 0 it acc env) R s:=by
  refine codeAny_loop rfl I (fun n s hI=>?_) n h
  show wpAny _ A ((compTurn (.ListComp elt [⟨target,iter,ifs,0⟩] scope pos) 0 it acc env).onRaise (fun x=>do noteFrame x env; theTreesLotGoes x)) _ _ s
  refine wpAny_noted ?_
  rw [compTurn_list]
  refine wpAny_bind (wpAny_standAt (wpAny_bind (wpAny_mono (turn n s hI) (fun r s₁ h₁=>?_) fun _ _ f=>f.elim)))
  cases r with
  | none=>exact wpAny_pure h₁
  | some v =>
    refine wpAny_bind (wpAny_mono h₁ (fun _ s₁' h₁'=>?_) fun _ _ f=>f.elim)
    refine wpAny_bind (wpAny_mono h₁' (fun _ s₂ h₂=>wpAny_bind (wpAny_mono h₂ (fun ok s₃ h₃=>?_) fun _ _ f=>f.elim)) fun _ _ f=>f.elim)
    cases ok with
    | false=>exact wpAny_pure ⟨rfl,h₃⟩
    | true =>
      exact wpAny_bind (wpAny_bind (wpAny_mono h₃ (fun x s₄ h₄=>wpAny_bind (wpAny_mono h₄ (fun _ s₅ h₅=>wpAny_pure (wpAny_pure ⟨rfl,h₅⟩)) fun _ _ f=>f.elim)) fun _ _ f=>f.elim))
end
section
variable {X : Cx} {elt tg iter : Expr} {ifs : List Expr} {scope : Scope} {cpos : Pos} {own : List Str} {cap : List Nat} {wi : TI} {g : Blk TG} {tf : Blk TT} {te : Blk TE}
theorem join_some {α : Type} {o : Option (Option α)} {v : α} (h : o.join = some v) : o = some (some v):=by
  cases o with
  | none=>cases h
  | some o =>
    cases o with
    | none=>cases h
    | some w=>cases h; rfl
theorem Inv.comp {pins : List (Addr × Obj)} {σ : St} {H : Hp} {s : Shared} {fs : Scope} {fp : List Addr} {C : Addr} {h3 : Heap} (I : Inv X pins σ H s) (hfs : X.env.scope = fs) (hck : compOk fs scope X.N own cap = true) (hfp : ∀ b ∈ fp,FpOk X pins H b)
    (hlt : ∀ b ∈ fp,b < s.heap.objs.size) (hC : s.heap.objs.size ≤ C) (hns : h3.Ns C fun _=>none) (kp : ∀ b o,s.heap.get? b = some o → h3.get? b = some o) (tk : Nat) :
    Inv (cxComp X scope (compN X.N own cap) C s H fp) [] (capσ own cap σ) H { s with heap:=h3,toks:=tk }:=by
  subst hfs
  unfold compOk at hck
  simp only [Bool.and_eq_true] at hck
  obtain ⟨⟨⟨⟨⟨c1,c2⟩,c3⟩,c4⟩,c5⟩,c6⟩:=hck
  have hkind : scope.kind = .function:=by simpa using c1
  have hcell : ∀ y ∈ scope.names,y.2 ≠ .cell:=fun y hy=>by simpa using List.all_eq_true.mp c2 y hy
  have hfree : ∀ y ∈ scope.names,y.2 = .free → X.env.kindOf y.1 = some .cell ∨ X.env.kindOf y.1 = some .free:=fun y hy hk=>by
    have z:=List.all_eq_true.mp c4 y hy
    rw [hk] at z
    simpa [Env.kindOf] using z
  have clsub : ∀ x c,(closOf X.env.cells scope.names []).lookup x = some c → X.env.cells.lookup x = some c:=closOf_sub scope.names [] fun _ _ q=>by cases q
  have exf : ∀ b ∈ fp,b ∉ frs X.stack:=fun b hb z=>by
    obtain ⟨f0,f1,f2,_⟩:=hfp b hb
    rcases List.mem_cons.mp (I.stkSub b z) with e | e
    · exact f1 e
    · exact f2 e
  have HC : H C = none:=I.hok.fresh hC
  refine ⟨⟨I.ok.mod,?_,I.ok.glob,I.ok.blt,hC,?_,?_,?_,I.ok.hd,I.ok.frames,.inl rfl,?_,fun b o e=>I.bs b o e,Nat.le_trans I.ok.bsz I.sz,?_,exf,I.stack,I.stkFree⟩,rfl,I.bare,Un.kept kp,⟨_,hns,?_⟩,?_,HC,?_,?_,I.hok.kept kp,?_⟩
  · exact hkind
  · intro x y c h1 h2
    exact I.ok.inj x y c (clsub x c h1) (clsub y c h2)
  · intro x hx
    have hm:=relabel_has hcell hx
    obtain ⟨c,hc⟩:=I.ok.has x (hfree _ hm rfl)
    exact ⟨c,closOf_at hm hc⟩
  · intro x c h
    have : false = true:=h
    cases this
  · intro b hb
    obtain ⟨f0,f1,f2,f3,f4,f5⟩:=hfp b hb
    exact ⟨Nat.ne_of_lt (Nat.lt_of_lt_of_le (hlt b hb) hC),fun x c e=>f4 x c (clsub x c e)⟩
  · intro b o e hb
    obtain ⟨f0,f1,f2,f3,f4,f5⟩:=hfp b hb
    rcases f3 with z | z
    · exact I.ok.noex b o e z
    · exact absurd (Nat.lt_of_lt_of_le (Heap.lt_size e) (Nat.le_trans I.ok.bsz z)) (Nat.lt_irrefl _)
  · intro i x v h1 h2 h3'
    have h1 : (own ++ cap.map fun i=>X.N.getD i "")[i]? = some x:=h1
    unfold capσ at h2
    by_cases hi : i < own.length
    · rw [List.getElem?_append_left (by simpa using hi),List.getElem?_map] at h2
      cases q : own[i]? with
      | none=>rw [q] at h2; cases h2
      | some y=>rw [q] at h2; cases h2
    · rw [List.getElem?_append_right (by simpa using hi),List.getElem?_map,List.length_map] at h2
      rw [List.getElem?_append_right (by simpa using hi),List.getElem?_map] at h1
      cases q : cap[i - own.length]? with
      | none=>rw [q] at h2; cases h2
      | some i0 =>
        rw [q] at h1 h2
        have h1' : X.N.getD i0 "" = x:=Option.some.inj h1
        have h2' : (σ[i0]?).join = some v:=Option.some.inj h2
        have z:=List.all_eq_true.mp c6 i0 (List.mem_of_getElem? q)
        rw [h1'] at z
        simp only [Bool.and_eq_true,decide_eq_true_eq] at z
        obtain ⟨⟨z1,z2⟩,z3⟩:=z
        have hx2 : scope.names.lookup x = some .free:=by simpa using z2
        have hx3 : X.env.kindOf x = some .cell ∨ X.env.kindOf x = some .free:=by simpa [Env.kindOf] using z3
        have hN : X.N[i0]? = some x:=by
          rw [← h1',List.getD_eq_getElem?_getD]
          cases r : X.N[i0]? with
          | none=>exact absurd z1 (by have:=List.getElem?_eq_none_iff.mp r; omega)
          | some y=>rfl
        obtain ⟨m,hn,hl⟩:=I.loc
        obtain ⟨u,ru,lu⟩:=hl i0 x v hN (join_some h2') (by
          rcases hx3 with y | y
          · exact .inr (.inl y)
          · exact .inr (.inr y))
        refine ⟨u,ru,.inr ⟨relabel_free hx2,?_⟩⟩
        rcases lu with ⟨k,_⟩ | ⟨k,c,e,o,ho,hd⟩
        · rcases hx3 with y | y <;> (rw [k] at y; cases y)
        · exact ⟨c,closOf_at (PySem.mem_of_lookup hx2) e,o,kp _ _ ho,hd⟩
  · intro x c e
    obtain ⟨v,o,ho,hd⟩:=I.cell x c (clsub x c e)
    exact ⟨v,o,kp _ _ ho,hd⟩
  · intro x c e
    exact I.freeC x c (clsub x c e)
  · intro p hp
    exact absurd (show p ∈ ([] : List (Addr × Obj)) from hp) (by simp)
  · simp [capσ,cxComp]
abbrev lstObj (its : List Value) (k : Nat) : Obj:={ cls:=.type "list",data:=.seq its.toArray k }
theorem comp_run {pins : List (Addr × Obj)} {σ : St} {H2 : Hp} {s2 : Shared} {fs : Scope} {fp : List Addr} {it : Addr} {tn : Nat → Heap → Prop} {J : It} {Q : VK} {E : Value → Shared → Prop} {RR : Value → Addr → Result → Shared → Prop}
    (hc : X.calm = true) (hfs : X.env.scope = fs) (hck : compOk fs scope X.N own cap = true)
    (hg : ∀ C s₀ H₀ ex,PG (cxComp X scope (compN X.N own cap) C s₀ H₀ ex) tg (g C s₀ H₀ ex)) (gk : ∀ C s₀ H₀ ex,GK own.length (g C s₀ H₀ ex)) (hf : ∀ C s₀ H₀ ex,PF (cxComp X scope (compN X.N own cap) C s₀ H₀ ex) ifs (tf C s₀ H₀ ex)) (he : ∀ C s₀ H₀ ex,PE (cxComp X scope (compN X.N own cap) C s₀ H₀ ex) elt (te C s₀ H₀ ex))
    (I2 : Inv X pins σ H2 s2) (T : Turn X.prog X.w X.K tg J fp it tn) (st2 : tn 0 s2.heap) (f2 : ∀ b ∈ fp,FpOk X pins H2 b)
    (W : Nat → Nat → List V → Hp → Prop) (w0 : ∃ m,W 0 m [] H2)
    (turn : ∀ i m ys H,W i m ys H → (J.stop i H ∧ ys.length ≤ sizeLine ∧ ∀ p,H p = none → Q (.ref p) (upd H p (.lst ys))) ∨
      (J.go i H ∧ ys.length < sizeLine ∧ ∀ x H',J.yld i H x H' → ∀ C s₀ H₀ ex,g C s₀ H₀ ex x (capσ own cap σ) H' fun σ2 H2=>tf C s₀ H₀ ex σ2 H2 fun b H3 =>
        if b = true then te C s₀ H₀ ex σ2 H3 fun v H4=>∃ m',m' < m ∧ W (i + 1) m' (ys ++ [v]) H4 else ∃ m',m' < m ∧ W (i + 1) m' ys H3))
    (hR : ∀ (D C : Addr) (s4 : Shared) (H3 : Hp) (ys : List V) (oC : Obj) (m : Str → Option Value),Inv X (pins ++ [(C,oC)]) σ (upd H3 D (.lst ys)) s4 → H3 D = none → s4.heap.Ns C m → X.s₀.heap.objs.size ≤ C → (∀ p ∈ X.pn ++ pins,p.1 ≠ C) → Q (.ref D) (upd H3 D (.lst ys)) → RR (.ref D) C (.ok .next) s4) :
    wpAny (model X.prog X.w) X.A (newList []) (fun acc s₃=>wpAny (model X.prog X.w) X.A (newFunctionEnv scope X.env.globals (closOf X.env.cells scope.names []) [] X.env.qual none .none (some X.env)) (fun cenv s₄ =>
      codeAny (model X.prog X.w) X.A (.compStart (.ListComp elt [⟨tg,iter,ifs,0⟩] scope cpos) 0 (.ref it) acc { cenv with scope:=relabel scope X.env }) (RR acc cenv.locals) s₄) E s₃) E s2:=by
  have hck':=hck
  unfold compOk at hck'
  simp only [Bool.and_eq_true] at hck'
  obtain ⟨⟨⟨⟨⟨c1,c2⟩,c3⟩,c4⟩,c5⟩,c6⟩:=hck'
  have hkind : scope.kind = .function:=by simpa using c1
  have hcell : ∀ y ∈ scope.names,y.2 ≠ .cell:=fun y hy=>by simpa using List.all_eq_true.mp c2 y hy
  have hlt : ∀ b ∈ fp,b < s2.heap.objs.size:=fun b hb=>by
    obtain ⟨o,e,_⟩:=T.obj _ _ st2 b hb
    exact Heap.lt_size e
  refine wpAny_newObj_type (wpAny_newFunctionEnv hcell (by intro y hy; simp at hy) (fun h₁ hns₁ hsb₁=>?_) hkind)
  dsimp only at hns₁ hsb₁ ⊢
  generalize hH2 : s2.heap.push { cls:=.type "list",dict:=none,data:=.seq ([] : List Value).toArray } = HH at hns₁ hsb₁ ⊢
  have hC : HH.objs.size = s2.heap.objs.size + 1:=by rw [← hH2,Heap.size_push]
  generalize hCn : HH.objs.size = C at hns₁ hsb₁ hC ⊢
  generalize hDn : s2.heap.objs.size = D at hC hlt ⊢
  have hDC : D ≠ C:=by omega
  have old : ∀ b o,s2.heap.get? b = some o → h₁.get? b = some o:=fun b o e=>hsb₁.extBut b o (neL (by have:=get_lt e; omega)) (Heap.get?_push_of_some _ (hH2 ▸ Heap.get?_push_of_some _ e))
  have hD₁ : h₁.get? D = some (lstObj [] 0):=hsb₁.extBut _ _ hDC (Heap.get?_push_of_some _ (hH2 ▸ hDn ▸ Heap.get?_push_size _ rfl))
  have nsE : h₁.Ns C fun _=>none:=hns₁
  have I3:=I2.comp (own:=own) (cap:=cap) (scope:=scope) (C:=C) (h3:=h₁) hfs hck f2 (by rw [hDn]; exact hlt) (by rw [hDn]; omega) nsE old (s2.toks + ([] : List (Str × Value)).length)
  generalize hY : cxComp X scope (compN X.N own cap) C s2 H2 fp = Y at I3
  have eP : Y.prog = X.prog:=by rw [← hY]; rfl
  have eW : Y.w = X.w:=by rw [← hY]; rfl
  have eK : Y.K = X.K:=by rw [← hY]; rfl
  have eA : Y.A = X.A:=by rw [← hY]; rfl
  have eC : Y.calm = true:=by rw [← hY]; exact hc
  have eL : Y.env.locals = C:=by rw [← hY]; rfl
  have eX : Y.xe = fun _ _=>False:=by rw [← hY]; rfl
  have eE : Y.env = compEnvC scope (closOf X.env.cells scope.names []) C X.env:=by rw [← hY]; rfl
  have eF : Y.fs = frs X.stack:=by rw [← hY]; rfl
  have eS : Y.s₀ = s2:=by rw [← hY]; rfl
  have eN : Y.pn = []:=by rw [← hY]; rfl
  have eEx : Y.ex = fp:=by rw [← hY]; rfl
  have hg' : PG Y tg (g C s2 H2 fp):=hY ▸ hg C s2 H2 fp
  have hf' : PF Y ifs (tf C s2 H2 fp):=hY ▸ hf C s2 H2 fp
  have he' : PE Y elt (te C s2 H2 fp):=hY ▸ he C s2 H2 fp
  have hDs : D = s2.heap.objs.size:=hDn.symm
  have fpN : ∀ b ∈ fp,b ≠ D:=fun b hb=>neL (hlt b hb)
  have cellD : ∀ x c,Y.env.cells.lookup x = some c → c ≠ D:=fun x c e z=>by
    rw [eE] at e
    have q:=closOf_sub scope.names [] (fun _ _ q=>by cases q) x c e
    obtain ⟨v,o,ho,_⟩:=I2.cell x c q
    exact neL (by have:=get_lt ho; omega) z
  have DnF : D ∉ Y.fs:=fun z=>by
    rw [eF] at z
    obtain ⟨_,o,ho,_⟩:=I2.stack.mem z
    have:=get_lt ho
    omega
  have HD2 : H2 D = none:=I2.hok.fresh (by omega)
  have pinD : ∀ {σ' : St} {H' : Hp} {s' : Shared} {pl : List (Addr × Obj)} {its : List Value} {k : Nat},Inv Y pl σ' H' s' → H' D = none → s'.heap.get? D = some (lstObj its k) → Inv Y [(D,lstObj its k)] σ' H' s':=fun {σ' H' s' pl its k} J hn e =>
    J.pins_of fun p hp=>by
      have ep : p = (D,lstObj its k):=by simpa using hp
      subst ep
      exact ⟨e,hn,by rw [eL]; exact hDC,DnF,fun v z=>by cases z⟩
  have fpOk : ∀ {pl : List (Addr × Obj)} {H' : Hp},(∀ b ∈ fp,H' b = none) → (∀ p ∈ pl,∀ b ∈ fp,p.1 ≠ b) → ∀ b ∈ fp,FpOk Y pl H' b:=fun {pl H'} hn hp b hb=>by
    obtain ⟨f0,f1,f2',f3,f4,f5⟩:=f2 b hb
    refine ⟨hn b hb,by rw [eL]; exact neL (Nat.lt_of_lt_of_le (hlt b hb) (by rw [hC]; exact Nat.le_succ _)),fun z=>?_,.inl (by rw [eEx]; exact hb),fun x c e=>?_,fun p hp'=>?_⟩
    · rw [eF] at z
      rcases List.mem_cons.mp (I2.stkSub b z) with e | e
      · exact f1 e
      · exact f2' e
    · rw [eE] at e
      exact f4 x c (closOf_sub scope.names [] (fun _ _ q=>by cases q) x c e)
    · rw [eN] at hp'
      exact hp p (by simpa using hp') b hb
  have loop : ∀ s₃ : Shared,s₃ = { s2 with heap:=h₁,toks:=s2.toks + ([] : List (Str × Value)).length } →
      codeAny (model X.prog X.w) X.A (.compLoop (.ListComp elt [⟨tg,iter,ifs,0⟩] scope cpos) 0 (.ref it) (.ref D) (compEnvC scope (closOf X.env.cells scope.names []) C X.env)) (RR (.ref D) C) s₃:=by
    rintro s₃ rfl
    obtain ⟨m0,w0⟩:=w0
    refine codeAny_compLoop_any (fun n s'=>∃ (i : Nat) (ys : List V) (its : List Value) (k : Nat) (H' : Hp),Inv Y [(D,lstObj its k)] (capσ own cap σ) H' s' ∧ tn i s'.heap ∧ (∀ b ∈ fp,H' b = none) ∧ Vals ys its ∧ W i n ys H') ?_ m0
      ⟨0,[],[],0,H2,pinD I3 HD2 hD₁,T.keep _ _ _ st2 fun b _ o e=>old b o e,fun b hb=>(f2 b hb).1,.nil,w0⟩
    rintro n s3 ⟨i,ys,its,k,H3,J3,st3,fr3,vy,w3⟩
    have pD : ∀ p ∈ [(D,lstObj its k)],∀ b ∈ fp,p.1 ≠ b:=fun p hp b hb=>by
      have ep : p = (D,lstObj its k):=by simpa using hp
      subst ep
      exact Ne.symm (fpN b hb)
    have HD3 : H3 D = none:=(J3.pin (D,lstObj its k) (by rw [eN]; simp)).2.1
    have item:=T.item Y eP eW eK eC i [(D,lstObj its k)] s3 (capσ own cap σ) H3 (fun _ _=>False) J3 (fpOk fr3 pD) st3
    have done:=T.done Y eP eW eK eC i [(D,lstObj its k)] s3 (capσ own cap σ) H3 (fun _ _=>False) J3 (fpOk fr3 pD) st3
    rw [eA] at item done
    rcases turn i n ys H3 w3 with ⟨stop,hyl,qn⟩ | ⟨go,hyl,step⟩
    · refine thn (done stop) fun r s4 ⟨hr,J4⟩=>?_
      subst hr
      show RR (.ref D) C (.ok .next) s4
      have hu : Un (frs X.stack) fp H2 H3 s2.heap s4.heap:=by have q:=J4.base; rw [← hY] at q; exact q
      have hok4 : HOk X.prog X.w H3 s4.heap:=by have q:=J4.hok; rw [eP,eW] at q; exact q
      have I4 : Inv X pins σ H3 s4:=I2.call' (ch:=fp) (by have q:=J4.os; rw [eS] at q; exact q) hu hok4 J4.bare fun b hb=>by
        obtain ⟨f0,f1,f2',f3,f4,f5⟩:=f2 b hb
        exact ⟨f3,f1,f4,f5⟩
      obtain ⟨m,hm,_⟩:=J4.loc
      rw [eL] at hm
      obtain ⟨oC,es,ep,hoC,hdC,hrC⟩:=id hm
      have HC3 : H3 C = none:=by have q:=J4.free; rw [eL] at q; exact q
      have CnF : ∀ b,s2.heap.objs.size ≤ b → b ∉ X.fs:=fun b hb=>I2.nofs hb
      have eD4:=(J4.pin (D,lstObj its k) (by rw [eN]; simp)).1
      have pinNe : ∀ b,s2.heap.objs.size ≤ b → ∀ p ∈ X.pn ++ pins,p.1 ≠ b:=fun b hb p hp z=>by
        exact neL (by have:=get_lt (I2.pin p hp).1; exact Nat.lt_of_lt_of_le this hb) z
      have cellNe : ∀ b,s2.heap.objs.size ≤ b → ∀ x c,X.env.cells.lookup x = some c → c ≠ b:=fun b hb x c e z=>by
        obtain ⟨v,o,ho,_⟩:=I2.cell x c e
        exact neL (Nat.lt_of_lt_of_le (get_lt ho) hb) z
      have locNe : ∀ b,s2.heap.objs.size ≤ b → b ≠ X.env.locals:=fun b hb=>neG (Nat.lt_of_lt_of_le I2.lt hb)
      have I5 : Inv X (pins ++ [(C,oC)]) σ H3 s4:=I4.pins_of fun p hp=>by
        rcases List.mem_append.mp hp with z | z
        · exact I4.pin p (List.mem_append_right _ z)
        · have ep' : p = (C,oC):=by simpa using z
          subst ep'
          exact ⟨hoC,HC3,locNe C (by omega),CnF C (by omega),fun v z=>by rw [hdC] at z; cases z⟩
      have hyl' : ys.length ≤ sizeLine:=hyl
      have I6 : Inv X (pins ++ [(C,oC)]) σ (upd H3 D (.lst ys)) s4:=I5.track' HD3 (locNe D (by omega)) (by have q : Array.size X.s₀.heap.objs ≤ Array.size s2.heap.objs:=I2.sz; cases e : X.s₀.heap.get? D with | none=>rfl | some o=>exact absurd (get_lt e) (by omega)) (cellNe D (by omega)) (fun p hp=>by
        rcases List.mem_append.mp hp with z | z
        · exact pinNe D (by omega) p (List.mem_append_left _ z)
        · rcases List.mem_append.mp z with z | z
          · exact pinNe D (by omega) p (List.mem_append_right _ z)
          · have ep' : p = (C,oC):=by simpa using z
            subst ep'
            exact Ne.symm hDC) ⟨hyl',its,k,vy,eD4⟩
      exact hR D C s4 H3 ys oC m I6 HD3 hm (Nat.le_trans I2.sz (by omega)) (pinNe C (by omega)) (qn D HD3)
    · refine thn (item go) fun r s4 ⟨u,hr,h4⟩=>?_
      subst hr
      refine thn h4 fun _ s5 ⟨x,H5,J5,r5,y5,st5,fr5⟩=>?_
      have J5':=J5.pinned (fpOk fr5 pD) (T.obj _ _ st5)
      have hg2:=hg' _ s5 (capσ own cap σ) H5 x u _ J5' r5 (gk C s2 H2 fp x (capσ own cap σ) H5 _ (fun σ6 H6=>(tf C s2 H2 fp σ6 H6 fun b H3=>if b = true then te C s2 H2 fp σ6 H3 fun v H4=>∃ m',m' < n ∧ W (i + 1) m' (ys ++ [v]) H4 else ∃ m',m' < n ∧ W (i + 1) m' ys H3) ∧ σ6.length = (capσ own cap σ).length ∧ ∀ j,own.length ≤ j → σ6[j]? = (capσ own cap σ)[j]?) (step x H5 y5 C s2 H2 fp) fun σ6 H6 a b c=>⟨a,b,c⟩)
      rw [eP,eW,eA,eX,eE] at hg2
      refine thn hg2 fun _ s6 ⟨σ6,H6,J6,q6,l6,k6⟩=>?_
      have hf2:=hf' _ s6 σ6 H6 _ J6 q6
      rw [eP,eW,eA,eX,eE] at hf2
      refine thn hf2 fun ok s7 ⟨H7,J7,q7⟩=>?_
      have weakσ : ∀ {pl : List (Addr × Obj)} {H' : Hp} {s' : Shared},Inv Y pl σ6 H' s' → Inv Y pl (capσ own cap σ) H' s':=fun {pl H' s'} J=>J.weak l6.symm fun j v e=>by
        by_cases hj : j < own.length
        · unfold capσ at e
          rw [List.getElem?_append_left (by simpa using hj),List.getElem?_map] at e
          cases q : own[j]? with
          | none=>rw [q] at e; cases e
          | some y=>rw [q] at e; cases e
        · rw [k6 j (by omega)]; exact e
      have again : ∀ {H' : Hp} {s' : Shared} {pl : List (Addr × Obj)} {its' : List Value} {k' : Nat},Inv Y (pl ++ pinsAt fp s5.heap) σ6 H' s' → H' D = none → s'.heap.get? D = some (lstObj its' k') →
          Inv Y [(D,lstObj its' k')] (capσ own cap σ) H' s' ∧ tn (i + 1) s'.heap ∧ ∀ b ∈ fp,H' b = none:=fun {H' s' pl its' k'} J hn e=>by
        refine ⟨pinD (weakσ J) hn e,T.keep _ _ _ st5 fun b hb o e=>(J.pin (b,o) (List.mem_append_right _ (List.mem_append_right _ (mem_pinsAt hb e)))).1,fun b hb=>?_⟩
        obtain ⟨o,e,d⟩:=T.obj _ _ st5 b hb
        exact (J.pin (b,o) (List.mem_append_right _ (List.mem_append_right _ (mem_pinsAt hb e)))).2.1
      have getD : ∀ {H' : Hp} {s' : Shared},Inv Y ([(D,lstObj its k)] ++ pinsAt fp s5.heap) σ6 H' s' → s'.heap.get? D = some (lstObj its k) ∧ H' D = none:=fun {H' s'} J=>by
        have q:=J.pin (D,lstObj its k) (by rw [eN]; simp)
        exact ⟨q.1,q.2.1⟩
      cases ok with
      | false =>
        rw [if_neg Bool.false_ne_true] at q7 ⊢
        obtain ⟨m',hm',w7⟩:=q7
        obtain ⟨g1,g2⟩:=getD J7
        obtain ⟨a1,a2,a3⟩:=again J7 g2 g1
        exact ⟨m',hm',i + 1,ys,its,k,H7,a1,a2,a3,vy,w7⟩
      | true =>
        rw [if_pos rfl] at q7 ⊢
        have he2:=he' _ s7 σ6 H7 _ J7 q7
        rw [eP,eW,eA,eX,eE] at he2
        refine thn he2 fun y8 s8 ⟨v8,H8,J8,r8,m',hm',w8⟩=>?_
        obtain ⟨g1,g2⟩:=getD J8
        have hsz : its.toArray.size ≤ sizeLine:=by
          have:=vy.length
          rw [List.size_toArray]
          omega
        refine wpAny_list_append_plain (items:=its.toArray) ⟨k,g1⟩ (fun h9 hl9 hs9=>?_) hsz
        obtain ⟨k9,hk9⟩:=hl9
        have hk9' : h9.get? D = some (lstObj (its ++ [y8]) k9):=by rw [hk9]; simp [lstObj]
        have J9 : Inv Y ([] ++ pinsAt fp s5.heap) σ6 H8 { s8 with heap:=h9 }:=by
          have J8' : Inv Y ([] ++ pinsAt fp s5.heap) σ6 H8 s8:=J8.pins_of fun p hp=>J8.pin p (List.mem_append_right _ (List.mem_append_right _ (by simpa using hp)))
          refine J8'.turned (it:=D) (t':=s8.toks) (fun b o hb e=>hs9.extBut b o hb e) g2 (by rw [eL]; exact hDC) (.inr (by rw [eS]; omega)) cellD fun p hp=>?_
          rw [eN] at hp
          have hp' : p ∈ pinsAt fp s5.heap:=by simpa using hp
          obtain ⟨hb,_⟩:=of_pinsAt hp'
          exact fpN p.1 hb
        obtain ⟨a1,a2,a3⟩:=again J9 g2 hk9'
        exact ⟨m',hm',i + 1,ys ++ [v8],its ++ [y8],k9,H8,a1,a2,a3,vy.append (.cons r8 .nil),w8⟩
  refine codeAny_compStart_list (loop _ rfl) ?_
  exact T.self _ 0 _ _ _ (T.keep _ _ _ st2 fun b _ o e=>old b o e) (loop _ rfl)
theorem pe_comp {fs : Scope} (own : List Str) (cap : List Nat) (hc : X.calm = true) (hfs : X.env.scope = fs) (hck : compOk fs scope X.N own cap = true) (hi : PI X tg iter wi)
    (hg : ∀ C s₀ H₀ ex,PG (cxComp X scope (compN X.N own cap) C s₀ H₀ ex) tg (g C s₀ H₀ ex)) (gk : ∀ C s₀ H₀ ex,GK own.length (g C s₀ H₀ ex)) (hf : ∀ C s₀ H₀ ex,PF (cxComp X scope (compN X.N own cap) C s₀ H₀ ex) ifs (tf C s₀ H₀ ex)) (he : ∀ C s₀ H₀ ex,PE (cxComp X scope (compN X.N own cap) C s₀ H₀ ex) elt (te C s₀ H₀ ex))
    (hs : ∀ x,foldedSetIterable iter X.env x = pure x:=by intro _; rfl) : PE X (.ListComp elt [⟨tg,iter,ifs,0⟩] scope cpos) (tComp own cap wi g tf te):=by
  intro pins s σ H Q I h
  have hck':=hck
  subst hfs
  unfold compOk at hck'
  simp only [Bool.and_eq_true] at hck'
  obtain ⟨⟨⟨⟨⟨c1,c2⟩,c3⟩,c4⟩,c5⟩,c6⟩:=hck'
  have hkind : scope.kind = .function:=by simpa using c1
  have hnames : ∀ y ∈ scope.names,y.2 = .local → scope.names.lookup y.1 = some .local:=fun y hy hk=>by
    have z:=List.all_eq_true.mp c3 y hy
    rw [hk] at z
    simpa using z
  have hfree : ∀ y ∈ scope.names,y.2 = .free → ∃ a,X.env.cells.lookup y.1 = some a:=fun y hy hk=>by
    have z:=List.all_eq_true.mp c4 y hy
    rw [hk] at z
    exact I.ok.has y.1 (by simpa [Env.kindOf] using z)
  rw [eval_ListComp]
  refine wpAny_comprehension_free (use:=none) rfl hs (closureFor_of hfree) hkind hnames (thn (hi pins s σ H _ I h) fun xv s1 h1=>thn h1 fun itv s2 h2=>?_)
  obtain ⟨it,fp,tn,J,H2,e,I2,T,st2,f2,W,w0,turn⟩:=h2
  subst e
  refine comp_run (Q:=Q) (RR:=fun acc C=>compPost (model X.prog X.w) X.A X.xe none (EP X pins σ Q) acc C) hc rfl hck hg gk hf he I2 T st2 f2 W w0 turn ?_
  intro D C s4 H3 ys oC m J4 hn hm hC0 hCp hq
  refine ⟨m,hm,fun h' hs'=>?_⟩
  obtain ⟨p1,p2,p3,p4,p5⟩:=J4.pin (C,oC) (List.mem_append_right _ (List.mem_append_right _ (by simp)))
  have J5 : Inv X pins σ (upd H3 D (.lst ys)) s4:=J4.unpinned
  have J6 : Inv X pins σ (upd H3 D (.lst ys)) { s4 with heap:=h' }:=J5.turned (it:=C) (t':=s4.toks) (fun b o hb e=>hs'.extBut b o hb e) p2 p3 (.inr hC0) (fun x c e z=>by
    obtain ⟨v,o,ho,hd⟩:=J5.cell x c e
    rw [z,p1] at ho
    cases ho
    exact p5 v hd) hCp
  exact ⟨.ref D,_,J6,rfl,hq⟩
theorem ps_setC {fs : Scope} {i : Nat} {x : Str} {pos' pos : Pos} (own : List Str) (cap : List Nat) (hc : X.calm = true) (hfs : X.env.scope = fs) (hck : compOk fs scope X.N own cap = true) (hN : X.N.Nodup) (hix : X.N[i]? = some x) (hx : X.env.scope.names.lookup x = some .local) (hi : PI X tg iter wi)
    (hg : ∀ C s₀ H₀ ex,PG (cxComp X scope (compN X.N own cap) C s₀ H₀ ex) tg (g C s₀ H₀ ex)) (gk : ∀ C s₀ H₀ ex,GK own.length (g C s₀ H₀ ex)) (hf : ∀ C s₀ H₀ ex,PF (cxComp X scope (compN X.N own cap) C s₀ H₀ ex) ifs (tf C s₀ H₀ ex)) (he : ∀ C s₀ H₀ ex,PE (cxComp X scope (compN X.N own cap) C s₀ H₀ ex) elt (te C s₀ H₀ ex))
    (hsw : swapsWith (.ListComp elt [⟨tg,iter,ifs,0⟩] scope cpos) (some (.Name x pos')) pos.line X.env = pure true:=by rfl)
    (hs : ∀ x,foldedSetIterable iter X.env x = pure x:=by intro _; rfl) : PS X (.Assign [.Name x pos'] (.ListComp elt [⟨tg,iter,ifs,0⟩] scope cpos) pos) (tAsg (tComp own cap wi g tf te) (gName i)):=by
  intro pins s σ H D I h
  have hck':=hck
  subst hfs
  unfold compOk at hck'
  simp only [Bool.and_eq_true] at hck'
  obtain ⟨⟨⟨⟨⟨c1,c2⟩,c3⟩,c4⟩,c5⟩,c6⟩:=hck'
  have hkind : scope.kind = .function:=by simpa using c1
  have hnames : ∀ y ∈ scope.names,y.2 = .local → scope.names.lookup y.1 = some .local:=fun y hy hk=>by
    have z:=List.all_eq_true.mp c3 y hy
    rw [hk] at z
    simpa using z
  have hfree : ∀ y ∈ scope.names,y.2 = .free → ∃ a,X.env.cells.lookup y.1 = some a:=fun y hy hk=>by
    have z:=List.all_eq_true.mp c4 y hy
    rw [hk] at z
    exact I.ok.has y.1 (by simpa [Env.kindOf] using z)
  rw [exec_Assign_Name_used _ _ _ _ hsw]
  refine wpAny_bind (wpAny_standAt (wpAny_bind ?_))
  show wpAny _ X.A (do let _ ← comprehension (.ListComp elt [⟨tg,iter,ifs,0⟩] scope cpos) scope X.env _ (newList []) false (eval iter X.env) (some (assign (.Name x pos') X.env))) _ _ s
  refine wpAny_bind (wpAny_mono (wpAny_comprehension_free (use:=some (assign (.Name x pos') X.env)) (Q:=fun _ s'=>SP X pins D .next s') rfl hs (closureFor_of hfree) hkind hnames (thn (hi pins s σ H _ I h) fun xv s1 h1=>thn h1 fun itv s2 h2=>?_)) (fun _ s' hq=>wpAny_pure (wpAny_pure hq)) fun _ _ e=>e)
  obtain ⟨it,fp,tn,J,H2,e,I2,T,st2,f2,W,w0,turn⟩:=h2
  subst e
  refine comp_run (Q:=fun v H'=>gName i v σ H' D.nx) (RR:=fun acc C=>compPost (model X.prog X.w) X.A X.xe (some (assign (.Name x pos') X.env)) (fun _ s'=>SP X pins D .next s') acc C) hc rfl hck hg gk hf he I2 T st2 f2 W w0 turn ?_
  intro D' C s4 H3 ys oC m J4 hn hm hC0 hCp hq
  show wpAny _ X.A (assign (.Name x pos') X.env (.ref D')) _ _ s4
  refine wpAny_assign_Name (store_ok J4 hN hix (.inl hx) (show RelV (.ref D') (.ref D') from rfl) (fun s5 J5=>?_) (.inr hx))
  obtain ⟨p1,p2,p3,p4,p5⟩:=J5.pin (C,oC) (List.mem_append_right _ (List.mem_append_right _ (by simp)))
  obtain ⟨q1,_⟩:=J4.pin (C,oC) (List.mem_append_right _ (List.mem_append_right _ (by simp)))
  refine ⟨m,?_,fun h' hs'=>?_⟩
  · obtain ⟨o,es,ep,ho,r⟩:=hm
    rw [q1] at ho
    cases ho
    exact ⟨_,es,ep,p1,r⟩
  · have J6 : Inv X pins (σ.set i (some (.ref D'))) (upd H3 D' (.lst ys)) { s5 with heap:=h' }:=J5.unpinned.turned (it:=C) (t':=s5.toks) (fun b o hb e=>hs'.extBut b o hb e) p2 p3 (.inr hC0) (fun y c e z=>by
      obtain ⟨v,o,ho,hd⟩:=J5.cell y c e
      rw [z,p1] at ho
      cases ho
      exact p5 v hd) hCp
    exact ⟨_,_,J6,hq⟩
end
end L2
namespace L2
open PySem PySem.Spec PyProof.Rows
def Bt (k : Nat) (n : Int) : Prop:=n.natAbs < 2 ^ k
theorem Bt.mono {k l : Nat} {n : Int} (h : Bt k n) (hk : k ≤ l) : Bt l n:=Nat.lt_of_lt_of_le h (Nat.pow_le_pow_right (by decide) hk)
theorem Bt.bits {k : Nat} {n : Int} (h : Bt k n) : Builtin.Int.intBits n ≤ k:=by
  unfold Builtin.Int.intBits
  by_cases hz : n = 0
  · subst hz
    exact Nat.zero_le _
  · rw [if_neg (by simpa using hz)]
    have h0 : n.natAbs ≠ 0:=by omega
    exact (Nat.log2_lt h0).mpr h
theorem Bt.log {k : Nat} {n : Int} (h : Bt k n) (hk : k ≤ 9000) : n.natAbs.log2 < 9000:=by
  by_cases hz : n.natAbs = 0
  · rw [hz]; decide
  · exact Nat.lt_of_lt_of_le ((Nat.log2_lt hz).mpr h) hk
theorem Bt.add {k : Nat} {a b : Int} (ha : Bt k a) (hb : Bt k b) : Bt (k + 1) (a + b):=by
  unfold Bt at *
  rw [Nat.pow_succ]
  have:=Int.natAbs_add_le a b
  omega
theorem Bt.mul {k l : Nat} {a b : Int} (ha : Bt k a) (hb : Bt l b) : Bt (k + l) (a * b):=by
  unfold Bt at *
  rw [Int.natAbs_mul,Nat.pow_add]
  exact Nat.mul_lt_mul'' ha hb
theorem Bt.le {k : Nat} {a b : Int} (h : a.natAbs ≤ b.natAbs) (hb : Bt k b) : Bt k a:=Nat.lt_of_le_of_lt h hb
section
variable {X : Cx}
def CMulB (i j : Int) : Prop:=∃ k l,k ≤ 1048576 ∧ l ≤ 1048576 ∧ Bt k i ∧ Bt l j
theorem op_mulB : OpR X (binaryOp .Mult) (rI CMulB fun i j=>.int (i * j)):=opI fun _ _ _ _ _ _ _ ⟨k,l,hk,hl,hi,hj⟩ q=>mul_int q (IntMulOk.of_bits (Nat.le_trans hi.bits hk) (Nat.le_trans hj.bits hl))
def CDivB (i j : Int) : Prop:=j ≠ 0 ∧ ∃ k,k ≤ 9000 ∧ Bt k j
theorem op_fdivB : OpR X (binaryOp .FloorDiv) (rI CDivB fun i j=>.int (i.fdiv j)):=opI fun _ _ _ _ _ _ _ ⟨h0,k,hk,hj⟩ q=>floordiv_int h0 q (.inl (PyProof.noPylong_of_log2 (hj.log hk)))
end
mutual
inductive Rep (K : PySem.W.Frag) (H : Hp) : V → PyData → Prop
  | non : Rep K H .non .none
  | bl (b : Bool) : Rep K H (.bl b) (.bool b)
  | int (i : Int) : Rep K H (.int i) (.int i)
  | str (x : Str) : Rep K H (.str x) (.str x)
  | tup {a : Addr} {xs : List V} {ds : List PyData} : SqT K H a xs → Reps K H xs ds → Rep K H (.ref a) (.tuple ds)
  | lst {a : Addr} {xs : List V} {ds : List PyData} : SqL K H a xs → Reps K H xs ds → Rep K H (.ref a) (.list ds)
inductive Reps (K : PySem.W.Frag) (H : Hp) : List V → List PyData → Prop
  | nil : Reps K H [] []
  | cons {x : V} {d : PyData} {xs : List V} {ds : List PyData} : Rep K H x d → Reps K H xs ds → Reps K H (x :: xs) (d :: ds)
end
section
variable {X : Cx} {pins : List (Addr × Obj)} {σ : St} {H : Hp} {s : Shared}
theorem Rep.reads (I : Inv X pins σ H s) {v : V} {d : PyData} (r : Rep X.K H v d) : ∀ u,RelV v u → ∃ as,Reads s.heap u d as:=by
  refine Rep.rec (motive_1:=fun v d _=>∀ u,RelV v u → ∃ as,Reads s.heap u d as) (motive_2:=fun vs ds _=>∀ us,Vals vs us → ∃ as,ReadsAll s.heap us ds as) ?_ ?_ ?_ ?_ ?_ ?_ ?_ ?_ r
  · intro u e
    cases (show u = Value.none from e)
    exact ⟨_,.none⟩
  · intro b u e
    cases (show u = Value.bool b from e)
    exact ⟨_,.bool b⟩
  · intro i u e
    obtain ⟨t,rfl⟩:=(show ∃ t,u = Value.int i t from e)
    exact ⟨_,.int i t⟩
  · intro x u e
    obtain ⟨t,rfl⟩:=(show ∃ t,u = Value.str x t from e)
    exact ⟨_,.str x t⟩
  · intro a xs ds sq _ ih u e
    cases (show u = Value.ref a from e)
    obtain ⟨its,rv,⟨o,ho,hc,n,hd⟩,_⟩:=I.tuple sq
    obtain ⟨as,q⟩:=ih its rv
    exact ⟨as,.tuple ho hc hd (by simpa using q)⟩
  · intro a xs ds sq _ ih u e
    cases (show u = Value.ref a from e)
    obtain ⟨its,rv,p,_⟩:=I.list sq
    obtain ⟨o,ho,hc,n,hd⟩:=p.isList
    obtain ⟨as,q⟩:=ih its rv
    exact ⟨a :: as,.list ho hc hd (by simpa using q)⟩
  · intro us e
    cases e
    exact ⟨_,.nil⟩
  · intro x d xs ds _ _ ih1 ih2 us e
    cases e with
    | cons r1 r2 =>
      obtain ⟨as,q1⟩:=ih1 _ r1
      obtain ⟨bs,q2⟩:=ih2 _ r2
      exact ⟨as ++ bs,.cons q1 q2⟩
def rEqD (K : PySem.W.Frag) (neg : Bool) : R2:=fun x y H Q=>∃ d e,Rep K H x d ∧ Rep K H y e ∧ d.canLay0 = true ∧ e.canLay0 = true ∧ d.depth ≤ 40 ∧ Q (.bl (if neg then !PyData.eqv d e else PyData.eqv d e)) H
theorem op_eqD (hu : X.A.units + 64 < cLine) : OpR X (compareOp .Eq) (rEqD X.K false):=by
  intro pins s σ H x y v u Q I r1 r2 h
  obtain ⟨d,e,p1,p2,c1,c2,hd,q⟩:=h
  obtain ⟨as,z1⟩:=p1.reads I v r1
  obtain ⟨bs,z2⟩:=p2.reads I u r2
  exact SeqAt.compareEq_reads z1 z2 c1 c2 (by omega) ⟨.bl _,H,I,rfl,q⟩
theorem op_neD (hu : X.A.units + 64 < cLine) : OpR X (compareOp .NotEq) (rEqD X.K true):=by
  intro pins s σ H x y v u Q I r1 r2 h
  obtain ⟨d,e,p1,p2,c1,c2,hd,q⟩:=h
  obtain ⟨as,z1⟩:=p1.reads I v r1
  obtain ⟨bs,z2⟩:=p2.reads I u r2
  exact SeqAt.compareNe_reads z1 z2 c1 c2 (by omega) ⟨.bl _,H,I,rfl,q⟩
end
section
variable {X : Cx}
theorem vals_bl : ∀ {bs : List Bool} {us : List Value},Vals (bs.map V.bl) us → ∀ (i : Nat) (v : Value),us[i]? = some v → ∃ b,bs[i]? = some b ∧ v = .bool b
  | [],_,.nil,i,v,e=>by simp at e
  | b :: bs,_,.cons r t,i,v,e=>by
    cases i with
    | zero =>
      simp at e
      subst e
      exact ⟨b,rfl,r⟩
    | succ i=>simpa using vals_bl t i v (by simpa using e)
theorem call_all (hc : X.calm = true) : CallR X (.builtin "all") (fun xs H Q=>∃ (p : Addr) (bs : List Bool),xs = [.ref p] ∧ SqL X.K H p (bs.map V.bl) ∧ Q (.bl (bs.all id)) H):=by
  intro pins s σ H vs us Q I r h
  obtain ⟨p,bs,rfl,sq,q⟩:=h
  cases r with
  | cons r0 rr =>
    cases rr
    cases (show _ = Value.ref p from r0)
    obtain ⟨its,rv,pl,_⟩:=I.list sq
    have hl:=pl.isList
    have hlt : p < s.heap.objs.size:=by obtain ⟨_,e,_⟩:=hl; exact Heap.lt_size e
    have len : its.length = bs.length:=by have:=rv.length; simpa using this.symm
    refine call_all_walk (wpAny_pyIter_list hl ⟨s.heap.objs.size,_,_,_,_,_,fun i=>(bs[i]?).getD true,rfl,Walks.list (A:=X.A.in1) (I.ok.hd hc) _ p (Nat.ne_of_lt hlt) its.toArray,⟨⟨_,Heap.get?_push_size _ rfl,rfl,rfl⟩,hl.push _⟩,fun i v s' Q' E' hP hQ=>?_,fun h' tk hk=>?_⟩)
    · obtain ⟨b,e,rfl⟩:=vals_bl rv i v (by simpa using hP)
      simp only [e,Option.getD_some] at hQ
      exact wpAny_truthy_bool hQ
    · have e : ((List.range its.toArray.size).all fun i=>(bs[i]?).getD true) = bs.all id:=by
        rw [List.size_toArray,len]
        exact LSm.range_all bs
      rw [e]
      exact ⟨.bl _,H,I.kept fun b o z=>hk b o (fun hm=>by rw [List.mem_singleton.mp hm] at z; exact Nat.lt_irrefl _ (Heap.lt_size z)) (Heap.get?_push_of_some _ z),rfl,q⟩
end
end L2
namespace L2
open PySem PySem.Spec PyProof.Rows
section
variable {prog : Program} {w : World} {A : Around} {E : Value → Shared → Prop} {s : Shared}
end
end L2
namespace L2
open PySem PySem.Spec PyProof.Rows PySem.W
structure ErrCls (K : PySem.W.Frag) (C : Addr) : Prop where
  cls : (clsIn K C).isSome = true
  ga : findIn K (.ref C) "__getattribute__" = some (some (.builtin "BaseException.__getattribute__"))
  gt : findIn K (.ref C) "__getattr__" = some none
  cl : findIn K (.ref C) "__class__" = some (some (.builtin "object.__class__"))
  get : specialIn K (.builtin "object.__class__") "__get__" = some (some (.builtin "getset_descriptor.__get__"))
  tk : takesIn K (.builtin "object.__class__") = some true
  ob : mroIn K C (.type "object") = some true
  be : mroIn K C (.type "BaseException") = some true
section
variable {prog : Program} {w : World} {A : Around} {E : Value → Shared → Prop} {s : Shared} {K : Frag} {C a t : Addr} {tb : Value}
theorem exc_inst {h : Heap} (he : h.get? a = some (excO (.ref C) t tb)) : InstAt h a (excO (.ref C) t tb) C none:=⟨he,rfl,rfl,trivial⟩
theorem exc_find (c : ErrCls K C) : findObj K C none "__class__" = some (.bind (.builtin "getset_descriptor.__get__") (.builtin "object.__class__")):=by
  obtain ⟨cd,hc⟩:=Option.isSome_iff_exists.mp c.cls
  unfold findObj
  rw [hc,Option.bind_some,c.cl,Option.bind_some]
  simp [c.get,c.tk]
theorem exc_ga {tk : Tok} {R : Result → Shared → Prop} (c : ErrCls K C) (X : K.In s.heap) (he : s.heap.get? a = some (excO (.ref C) t tb)) (k : R (.ok (.ret (.ref C))) s) :
    codeAny (model prog w) A (.call (.builtin "BaseException.__getattribute__") ⟨[.ref a,.str "__class__" tk],[]⟩) R s:=by
  obtain ⟨hh,g,d,tt,os⟩:=s
  have I:=exc_inst he
  have L0:=I.type (M:=model prog w)
  have L1:=looks_mroIn (M:=model prog w) X c.be
  have L2:=looks_find (M:=model prog w) X I (exc_find c)
  refine codeAny_call_builtin F.excAttr_ValueError.ga.plain F.entry_bexc_ga ?_
  have hk : builtinKind "BaseException.__getattribute__" = some .slot:=by decide +kernel
  have hsp : splitId "BaseException.__getattribute__" = some ("BaseException","__getattribute__"):=by decide +kernel
  have ha:=F.args_bexc_ga (.ref a) (.str "__class__" tk)
  simp only [checkBuiltinCall,hk,hsp]
  have LI : Looks (model prog w) hh (isInstance (.ref a) (.type "BaseException")) true:=L0.andThen L1
  refine wpAny_bind (LI.at ?_)
  rw [if_neg (show ¬ ((!true) = true) by decide)]
  have rest : wpAny (model prog w) A.in1 (Builtin.«object.__getattribute__» ⟨[.ref a,.str "__class__" tk],[]⟩) (fun fin s'=>match fin with | .done f=>R (.ok f) s' | .again c'=>c'.quiet = true ∧ codeAny (model prog w) A c' R s') (fun e s'=>R (.error e) s') ⟨hh,g,d,tt,os⟩:=by
    unfold Builtin.«object.__getattribute__»
    refine wpAny_bind (wpAny_of_eq (a:=(.ref a,[.str "__class__" tk])) rfl ?_)
    refine wpAny_bind (wpAny_of_eq (a:=("__class__" : Str)) rfl ?_)
    refine wpAny_bind (L0.at (wpAny_bind (L2.at ?_)))
    show wpAny (model prog w) A.in1 (holding [.builtin "object.__class__"] (call (.builtin "getset_descriptor.__get__") [.builtin "object.__class__",.ref a,.ref C]) >>= fun v=>ret v) _ _ _
    refine wpAny_bind (wpAny_holding (wpAny_call ?_))
    exact class_get (s:=⟨hh,g,d,tt,os⟩) (ox:=excO (.ref C) t tb) (od:=none) X I c.ob (wpAny_pure k)
  cases hsg : Manifest.signature? "BaseException.__getattribute__" with
  | none=>exact wpAny_pure rest
  | some sig =>
    simp only [argsOk,hsg] at ha
    have ha' : Bind.checkArgs "BaseException.__getattribute__" sig ⟨[.ref a,.str "__class__" tk],[]⟩ = pure ():=ha
    show wpAny _ _ (Bind.checkArgs "BaseException.__getattribute__" sig ⟨[.ref a,.str "__class__" tk],[]⟩) _ _ _
    rw [ha']
    exact wpAny_pure rest
theorem exc_class {Q : Option Value → Shared → Prop} (c : ErrCls K C) (X : K.In s.heap) (he : s.heap.get? a = some (excO (.ref C) t tb)) (k : Q (some (.ref C)) { s with toks:=s.toks + 1 }) : wpAny (model prog w) A (getAttr? (.ref a) "__class__") Q E s:=by
  obtain ⟨hh,g,d,tt,os⟩:=s
  have I:=exc_inst he
  have L0:=I.type (M:=model prog w)
  have L1:=looks_findIn (M:=model prog w) X c.ga
  have L2:=looks_findIn (M:=model prog w) X c.gt
  unfold getAttr? getAttrBy? getAttrBy
  refine wpAny_bind (wpAny_mkText (wpAny_bind (wpAny_attempt (wpAny_holding (wpAny_bind (L0.at (wpAny_bind (L1.at ?_))))))))
  show wpAny (model prog w) A (if (onTheHeap (.ref C) && Value.builtin "BaseException.__getattribute__" == Value.builtin "object.__getattribute__") = true then _ else _) _ _ _
  rw [if_neg (by rw [show (Value.builtin "BaseException.__getattribute__" == Value.builtin "object.__getattribute__") = false by decide +kernel,Bool.and_false]; exact Bool.false_ne_true)]
  unfold getAttrByItsOwn
  refine wpAny_bind ?_
  show wpAny (model prog w) A (typeLookup (.ref C) "__getattr__") _ _ _
  refine L2.at (wpAny_bind (wpAny_attempt (wpAny_holding ?_)))
  show wpAny (model prog w) A (boundAndCalled (.builtin "BaseException.__getattribute__") (.ref a) (.str "__class__" tt)) _ _ _
  unfold boundAndCalled
  refine wpAny_bind (wpAny_of_eq (F.excAttr_ValueError.ga.bind (.ref a)) (wpAny_call ?_))
  refine exc_ga (s:=⟨hh,g,d,tt + 1,os⟩) c X he ?_
  show wpAny (model prog w) A (handedOut (.ref C)) _ _ _
  exact wpAny_pure (wpAny_pure k)
end
end L2
namespace L2
open PySem PySem.Spec PyProof.Rows PySem.W
section
variable {K : Frag} {C a : Addr}
theorem kitx_exc (c : ErrCls K C) : KitX K (.ref a) (.ref C) (fun h=>∃ t tb,h.get? a = some (excO (.ref C) t tb)) where
  ty:=fun _ _ _ ⟨_,_,he⟩=>(exc_inst he).type
  it:=fun M h X _=>by
    obtain ⟨cd,hc⟩:=Option.isSome_iff_exists.mp c.cls
    unfold clsIn at hc
    split at hc
    next hK =>
      intro A Q E s k q
      unfold isType loadHead
      exact wpAny_bind (wpAny_loadPart (k _ _ (X _ _ hK)) (wpAny_pure q))
    next=>cases hc
  ne:=fun h tp dd its n sl X htp=>by
    obtain ⟨cd,hc⟩:=Option.isSome_iff_exists.mp c.cls
    refine Bool.eq_false_iff.mpr fun q=>?_
    cases beq_iff_eq.mp q
    unfold clsIn at hc
    split at hc
    next hK =>
      have z:=(X _ _ hK).symm.trans htp
      cases z
    next=>cases hc
  ca:=fun X ⟨_,_,he⟩ k=>exc_class c X he k
end
inductive TyX (K : PySem.W.Frag) (H : Hp) : V → Value → Prop where
  | of {x : V} {t : Value} : TyOf K H x t → TyX K H x t
  | exc {a C : Addr} : H a = some (ExcAt a (.ref C)) → ErrCls K C → TyX K H (.ref a) (.ref C)
  | tupS {a : Addr} {xs : List V} : SqT K H a xs → TyX K H (.ref a) (.type "tuple")
  | lstS {a : Addr} {xs : List V} : SqL K H a xs → TyX K H (.ref a) (.type "list")
def clsV : V → Option Value
  | .ty n=>some (.type n)
  | .ref a=>some (.ref a)
  | _=>none
def rIsi (K : PySem.W.Frag) : List V → Hp → VK → Prop:=fun xs H Q=>∃ x c cv t b,xs = [x,c] ∧ clsV c = some cv ∧ TyX K H x t ∧ kitOne K t cv = some b ∧ Q (.bl b) H
theorem call_isi {X : Cx} : CallR X (.builtin "isinstance") (rIsi X.K):=by
  intro pins s σ H vs us Q I r h
  obtain ⟨x,c,cv,t,b,rfl,hc,ty,hk,q⟩:=h
  cases r with
  | cons r0 rr =>
    cases rr with
    | cons r1 rr =>
      cases rr
      rename_i u0 u1
      have hu : u1 = cv:=by
        cases c with
        | ty n=>cases hc; exact r1
        | ref n=>cases hc; exact r1
        | _=>cases hc
      subst hu
      cases ty with
      | of ty=>exact isinst_ok I r0 ty hk fun tk=>⟨.bl b,H,I.tok tk,rfl,q⟩
      | @exc a C ha ce =>
        cases (show u0 = Value.ref a from r0)
        obtain ⟨⟨t,tb,he⟩,_⟩:=(show ObjOk X.prog X.w H s.heap a (ExcAt a (.ref C)) from I.hok a _ ha)
        exact kia_one (kitx_exc ce) I.kIn ⟨t,tb,he⟩ hk (fun z=>nomatch z) fun tk=>⟨.bl b,H,I.tok tk,rfl,q⟩
      | @tupS a xs hs =>
        cases (show u0 = Value.ref a from r0)
        obtain ⟨its,_,⟨o,h1,h2,_⟩,_⟩:=I.tuple hs
        exact kia_one kitx_tuple I.kIn ⟨o,h1,h2⟩ hk (fun z=>nomatch z) fun tk=>⟨.bl b,H,I.tok tk,rfl,q⟩
      | @lstS a xs hs =>
        cases (show u0 = Value.ref a from r0)
        obtain ⟨its,_,p,_⟩:=I.list hs
        obtain ⟨o,h1,h2,_⟩:=p.isList
        exact kia_one kitx_list I.kIn ⟨o,h1,h2⟩ hk (fun z=>nomatch z) fun tk=>⟨.bl b,H,I.tok tk,rfl,q⟩
theorem boot_isinstance : bootBuiltins "isinstance" = some (.builtin "isinstance"):=by decide +kernel
theorem pe_isiB {X : Cx} {e : Expr} {te : TE} {T : Str} {n : String} {p pos pT : Pos} (hg : Gl X "isinstance") (hm : X.mg "isinstance" = none) (he : PE X e te) (hgT : Gl X T) (hmT : X.mg T = none) (hT : bootBuiltins T = some (.type n)) (hnT : T ≠ "__name__":=by decide) (hdT : (T == ("__debug__" : Str)) = false:=by decide)
    (h1 : starEach [e,.Name T pT] X.env = (false,eval e X.env) :: starEach [.Name T pT] X.env:=by rfl) : PE X (.Call (.Name "isinstance" p) [e,.Name T pT] [] pos) (tCB (rIsi X.K) (tCons te (tCons (tC (.ty n)) tNil))) :=
  pe_callB call_isi hg hm boot_isinstance (pa_cons he (pa_cons (pe_bltn (v:=.ty n) hgT hmT hT rfl hnT hdT) pa_nil) h1) (he:=h1)
theorem pe_isiO {X : Cx} {e : Expr} {te : TE} {T : Str} {C : Addr} {p pos pT : Pos} (hg : Gl X "isinstance") (hm : X.mg "isinstance" = none) (he : PE X e te) (hgT : Gl X T) (hmT : X.mg T = some (.ref C)) (hdT : (T == ("__debug__" : Str)) = false:=by decide)
    (h1 : starEach [e,.Name T pT] X.env = (false,eval e X.env) :: starEach [.Name T pT] X.env:=by rfl) : PE X (.Call (.Name "isinstance" p) [e,.Name T pT] [] pos) (tCB (rIsi X.K) (tCons te (tCons (tC (.ref C)) tNil))) :=
  pe_callB call_isi hg hm boot_isinstance (pa_cons he (pa_cons (pe_glob (v:=.ref C) hgT hmT rfl hdT) pa_nil) h1) (he:=h1)
end L2
namespace L2
open PySem PySem.Spec PySem.W PyProof.Rows PySem.Calls
end L2
namespace L2
open PySem PySem.Spec PySem.W PyProof.Rows PySem.Calls
section
variable {X : Cx} {pins : List (Addr × Obj)} {σ : St} {H : Hp} {s : Shared} {h' : Heap}
end
end L2
namespace L2
open PySem PySem.Spec PySem.W PyProof.Rows PySem.Calls
section
variable {X : Cx}
end
section
variable {prog : Program} {w : World} {A : Around} {E : Value → Shared → Prop} {s : Shared}
end
section
variable {X : Cx}
end
end L2
namespace L2
open PySem PySem.Spec PySem.W PyProof.Rows PySem.Calls
section
variable {X : Cx}
def two (a b : Int) : Nat → Int:=fun i=>if i = 0 then a else b
theorem two_at {a b : Int} {t u : Tok} (i : Nat) (v : Value) (h : (#[Value.int a t,Value.int b u] : Array Value)[i]? = some v) : ∃ t,v = .int (two a b i) t:=by
  match i,h with
  | 0,h=>cases h; exact ⟨t,rfl⟩
  | 1,h=>cases h; exact ⟨u,rfl⟩
  | i + 2,h=>simp at h
def rMinT (K : PySem.W.Frag) : List V → Hp → VK → Prop:=fun xs H Q=>∃ p a b,xs = [.ref p] ∧ SqT K H p [.int a,.int b] ∧ Q (.int (if b < a then b else a)) H
def rMaxT (K : PySem.W.Frag) : List V → Hp → VK → Prop:=fun xs H Q=>∃ p a b,xs = [.ref p] ∧ SqT K H p [.int a,.int b] ∧ Q (.int (if b > a then b else a)) H
theorem pair_walk {p : Addr} {a b : Int} {t u : Tok} {pins : List (Addr × Obj)} {σ : St} {H : Hp} {s : Shared} {Q : Value → Shared → Prop} {E : Value → Shared → Prop} (op : CmpOp) (f : Int → Int → Bool) (I : Inv X pins σ H s) (hc : X.calm = true) (ht : IsTup s.heap p #[.int a t,.int b u])
    (cm : ∀ P : Nat → Value → Prop,(∀ i v,P i v → ∃ t,v = .int (two a b i) t) → CmpOf X.prog X.w X.A.in1 op P (fun i j=>f (two a b i) (two a b j)))
    (q : ∀ t s',Inv X pins σ H s' → Q (.int (if f b a then b else a) t) s') :
    wpAny (model X.prog X.w) X.A.in1 (pyIter (.ref p)) (fun it s₂=>∃ I fp wr n P St bt,it = .ref I ∧ Walks X.prog X.w X.A.in1 I fp wr n P St ∧ St 0 s₂.heap ∧ (∀ b ∈ fp,b < s₂.heap.objs.size) ∧ 0 < n ∧ CmpOf X.prog X.w X.A.in1 op P bt ∧
      ∀ v h' tk,P (argBest bt (n - 1)) v → (∀ b o,b ∉ wr → s₂.heap.get? b = some o → h'.get? b = some o) → Q v { s₂ with heap:=h',toks:=tk }) E s:=by
  have hlt : p < s.heap.objs.size:=by obtain ⟨_,e,_⟩:=ht; exact Heap.lt_size e
  refine wpAny_pyIter_tuple (show s.heap.IsTuple p _ from ht) ?_
  refine ⟨_,_,_,_,_,_,_,rfl,Walks.tuple (A:=X.A.in1) (I.ok.hd hc) _ p (Nat.ne_of_lt hlt) #[.int a t,.int b u],⟨⟨_,Heap.get?_push_size _ rfl,rfl,rfl⟩,?_⟩,fun c hc=>?_,by show 0 < 2; decide,cm _ two_at,fun v h' tk hP hk=>?_⟩
  · obtain ⟨o,e,r⟩:=ht
    exact ⟨o,Heap.get?_push_of_some _ e,r⟩
  · show c < (s.heap.push _).objs.size
    rw [Heap.size_push]
    rcases List.mem_cons.mp hc with rfl | hc
    · exact Nat.lt_succ_self _
    · rw [List.mem_singleton.mp hc]; exact Nat.lt_succ_of_lt hlt
  · obtain ⟨t',rfl⟩:=two_at _ _ hP
    have e : two a b (argBest (fun i j=>f (two a b i) (two a b j)) 1) = if f b a then b else a:=by
      show two a b (if f (two a b 1) (two a b 0) then 1 else 0) = _
      show two a b (if f b a then 1 else 0) = _
      cases f b a <;> rfl
    show Q (Value.int (two a b (argBest (fun i j=>f (two a b i) (two a b j)) 1)) t') _
    rw [e]
    exact q _ _ (I.kept fun c o hc=>hk c o (fun z=>absurd (Heap.lt_size hc) (by rw [List.mem_singleton.mp z]; exact Nat.lt_irrefl _)) (Heap.get?_push_of_some _ hc))
theorem call_minT (hc : X.calm = true) : CallR X (.builtin "min") (rMinT X.K):=by
  intro pins s σ H xs us Q I r h
  obtain ⟨p,a,b,rfl,hs,q⟩:=h
  obtain ⟨u,rfl,rx⟩:=vals1 r
  cases rx
  obtain ⟨its,rv,ht,_⟩:=I.tuple hs
  cases rv with
  | cons r0 rr =>
    cases rr with
    | cons r1 rr =>
      cases rr
      obtain ⟨t0,rfl⟩:=r0
      obtain ⟨t1,rfl⟩:=r1
      refine call_min_walk (pair_walk .Lt (fun x y=>decide (x < y)) I hc ht (fun P h=>CmpOf.ints_lt (two a b) h) fun t s' I'=>⟨.int _,H,I',⟨t,rfl⟩,?_⟩)
      simpa using q
theorem call_maxT (hc : X.calm = true) : CallR X (.builtin "max") (rMaxT X.K):=by
  intro pins s σ H xs us Q I r h
  obtain ⟨p,a,b,rfl,hs,q⟩:=h
  obtain ⟨u,rfl,rx⟩:=vals1 r
  cases rx
  obtain ⟨its,rv,ht,_⟩:=I.tuple hs
  cases rv with
  | cons r0 rr =>
    cases rr with
    | cons r1 rr =>
      cases rr
      obtain ⟨t0,rfl⟩:=r0
      obtain ⟨t1,rfl⟩:=r1
      refine call_max_walk (pair_walk .Gt (fun x y=>decide (x > y)) I hc ht (fun P h=>CmpOf.ints_gt (two a b) h) fun t s' I'=>⟨.int _,H,I',⟨t,rfl⟩,?_⟩)
      simpa using q
end
end L2
namespace L2
open PySem PySem.Spec PySem.W PyProof.Rows
theorem Same.tup {K : PySem.W.Frag} {H H' : Hp} {a : Addr} {xs : List V} (e : Same H H') (h : SqT K H a xs) : SqT K H' a xs:=by
  rcases h with (z | ⟨o,z⟩) | z
  · exact .inl (.inl (e _ _ z))
  · exact .inl (.inr ⟨o,e _ _ z⟩)
  · exact .inr z
theorem same_upd {H : Hp} {p : Addr} {o : HO} (hp : H p = none) : Same H (upd H p o):=fun b u e=>by rw [upd_ne (ne_of_none e hp)]; exact e
theorem comp_any {own : List Str} {cap : List Nat} {g : Blk TG} {tf : Blk TT} {te : Blk TE} {σ : St} {Q : VK} {J : It} {H1 : Hp} (n : Nat) (Pv : Nat → List V → Hp → Prop) (h0 : Pv 0 [] H1) (hn : n < sizeLine)
    (hl : ∀ i ys H,i ≤ n → Pv i ys H → ys.length ≤ i ∧ (i < n → J.go i H) ∧ (i = n → J.stop i H))
    (turn : ∀ i ys H (N : List V → Hp → Prop),i < n → Pv i ys H → (∀ ys H,Pv (i + 1) ys H → N ys H) → ∀ x H',J.yld i H x H' → ∀ C s₀ H₀ ex,g C s₀ H₀ ex x (capσ own cap σ) H' fun σ2 H2=>tf C s₀ H₀ ex σ2 H2 fun b H3 =>
      if b = true then te C s₀ H₀ ex σ2 H3 fun v H4=>N (ys ++ [v]) H4 else N ys H3)
    (fin : ∀ ys H,Pv n ys H → ∀ p,H p = none → Q (.ref p) (upd H p (.lst ys))) : CompR own cap g tf te σ Q J H1:=by
  refine ⟨fun i m ys H=>m = n - i ∧ i ≤ n ∧ Pv i ys H,⟨n,rfl,Nat.zero_le _,h0⟩,?_⟩
  rintro i m ys H ⟨rfl,hi,hp⟩
  obtain ⟨h1,h2,h3⟩:=hl i ys H hi hp
  by_cases e : i = n
  · subst e
    exact .inl ⟨h3 rfl,by omega,fin ys H hp⟩
  · have hi' : i < n:=by omega
    refine .inr ⟨h2 hi',by omega,fun x H' y C s₀ H₀ ex=>?_⟩
    exact turn i ys H (fun ys H=>∃ m',m' < n - i ∧ (m' = n - (i + 1) ∧ i + 1 ≤ n ∧ Pv (i + 1) ys H)) hi' hp (fun ys' H'' q=>⟨n - (i + 1),by omega,rfl,by omega,q⟩) x H' y C s₀ H₀ ex
theorem comp_list {K : PySem.W.Frag} {a : Addr} {xs : List V} {own : List Str} {cap : List Nat} {g : Blk TG} {tf : Blk TT} {te : Blk TE} {σ : St} {Q : VK} {H1 : Hp} (Pv : Nat → List V → Hp → Prop) (h0 : Pv 0 [] H1) (hn : xs.length < sizeLine)
    (hl : ∀ i ys H,i ≤ xs.length → Pv i ys H → ys.length ≤ i ∧ SqL K H a xs)
    (turn : ∀ i x ys H (N : List V → Hp → Prop),xs[i]? = some x → Pv i ys H → (∀ ys H,Pv (i + 1) ys H → N ys H) → ∀ C s₀ H₀ ex,g C s₀ H₀ ex x (capσ own cap σ) H fun σ2 H2=>tf C s₀ H₀ ex σ2 H2 fun b H3 =>
      if b = true then te C s₀ H₀ ex σ2 H3 fun v H4=>N (ys ++ [v]) H4 else N ys H3)
    (fin : ∀ ys H,Pv xs.length ys H → ∀ p,H p = none → Q (.ref p) (upd H p (.lst ys))) : CompR own cap g tf te σ Q (Itl K a) H1 :=
  comp_any xs.length Pv h0 hn (fun i ys H hi hp=>⟨(hl i ys H hi hp).1,fun h=>⟨xs,_,(hl i ys H hi hp).2,List.getElem?_eq_getElem h⟩,fun e=>⟨xs,(hl i ys H hi hp).2,by omega⟩⟩)
    (fun i ys H N hi hp hN x H' y C s₀ H₀ ex=>by
      obtain ⟨rfl,y⟩:=y
      exact turn i x ys _ N (y _ (hl i ys _ (by omega) hp).2) hp hN C s₀ H₀ ex) fin
end L2
namespace L2
open PySem PySem.Spec PySem.W PyProof.Rows
theorem comp_range {own : List Str} {cap : List Nat} {g : Blk TG} {tf : Blk TT} {te : Blk TE} {σ : St} {Q : VK} {H1 : Hp} {lo : Int} {n : Nat} (Pv : Nat → List V → Hp → Prop) (h0 : Pv 0 [] H1) (hn : n < sizeLine)
    (hl : ∀ i ys H,i ≤ n → Pv i ys H → ys.length ≤ i)
    (turn : ∀ i ys H (N : List V → Hp → Prop),i < n → Pv i ys H → (∀ ys H,Pv (i + 1) ys H → N ys H) → ∀ C s₀ H₀ ex,g C s₀ H₀ ex (.int (lo + i)) (capσ own cap σ) H fun σ2 H2=>tf C s₀ H₀ ex σ2 H2 fun b H3 =>
      if b = true then te C s₀ H₀ ex σ2 H3 fun v H4=>N (ys ++ [v]) H4 else N ys H3)
    (fin : ∀ ys H,Pv n ys H → ∀ p,H p = none → Q (.ref p) (upd H p (.lst ys))) : CompR own cap g tf te σ Q (Itr lo n) H1 :=
  comp_any n Pv h0 hn (fun i ys H hi hp=>⟨hl i ys H hi hp,fun h=>h,fun e=>Nat.le_of_eq e.symm⟩)
    (fun i ys H N hi hp hN x H' y C s₀ H₀ ex=>by
      obtain ⟨rfl,rfl⟩:=y
      exact turn i ys _ N hi hp hN C s₀ H₀ ex) fin
end L2
namespace L2
open PySem PySem.Spec PySem.W PyProof.Rows PySem.Calls
section
variable {X : Cx}
end
section
variable {X : Cx}
end
end L2
namespace L2
open PySem PySem.Spec PySem.W PyProof.Rows PySem.Calls
section
variable {X : Cx}
theorem op_inT2 (hu : X.A.units + 64 < cLine) : OpR X (compareOp .In) (fun x y H Q=>∃ (r p r1 r2 : Addr) (a b c1 d1 c2 d2 : Int),x = .ref r ∧ y = .ref p ∧ SqT X.K H r [.int a,.int b] ∧ SqT X.K H p [.ref r1,.ref r2] ∧ r1 ≠ r2 ∧ SqT X.K H r1 [.int c1,.int d1] ∧ SqT X.K H r2 [.int c2,.int d2] ∧
    Q (.bl ((decide (a = c1) && decide (b = d1)) || (decide (a = c2) && decide (b = d2)))) H):=by
  intro pins s σ H x y v u Q I rx ry h
  obtain ⟨r,p,r1,r2,a,b,c1,d1,c2,d2,rfl,rfl,h0,hp,hne,h1,h2,q⟩:=h
  cases rx
  cases ry
  have rd : ∀ {r : Addr} {a b : Int},SqT X.K H r [.int a,.int b] → ∃ as,Reads s.heap (.ref r) (.tuple [.int a,.int b]) as:=fun h=>Rep.reads I (Rep.tup h (.cons (.int _) (.cons (.int _) .nil))) _ rfl
  have hin : ∀ k,k ≤ 63 → X.A.in1.units + k < cLine:=fun k hk=>by
    have : X.A.in1.units = X.A.units + 1:=rfl
    omega
  obtain ⟨as0,z0⟩:=rd h0
  obtain ⟨as1,z1⟩:=rd h1
  obtain ⟨as2,z2⟩:=rd h2
  obtain ⟨its,rv,pt,_⟩:=I.tuple hp
  cases rv with
  | cons ra rr =>
    cases rr with
    | cons rb rr =>
      cases rr
      cases ra
      cases rb
      let e : Value → Bool:=fun u=>if u = .ref r1 then PyData.eqv (.tuple [.int c1,.int d1]) (.tuple [.int a,.int b]) else PyData.eqv (.tuple [.int c2,.int d2]) (.tuple [.int a,.int b])
      have e1 : e (.ref r1) = PyData.eqv (.tuple [.int c1,.int d1]) (.tuple [.int a,.int b]):=if_pos rfl
      have e2 : e (.ref r2) = PyData.eqv (.tuple [.int c2,.int d2]) (.tuple [.int a,.int b]):=if_neg fun z=>hne (by injection z with z; exact z.symm)
      refine SeqAt.in_tupleAt e pt (fun w hw=>?_) ⟨.bl _,H,I,rfl,?_⟩
      · have hw' : w = .ref r1 ∨ w = .ref r2:=by simpa using hw
        rcases hw' with rfl | rfl
        · rw [e1]
          exact SeqAt.eqAt_reads _ _ _ _ _ _ _ _ z1 z0 rfl rfl (hin _ (by show 1 + 0 ≤ 63 ; decide))
        · rw [e2]
          exact SeqAt.eqAt_reads _ _ _ _ _ _ _ _ z2 z0 rfl rfl (hin _ (by show 1 + 0 ≤ 63 ; decide))
      · have ev : ∀ c d : Int,PyData.eqv (.tuple [.int c,.int d]) (.tuple [.int a,.int b]) = (decide (a = c) && decide (b = d)):=fun c d=>by
          show ((c == a) && ((d == b) && true)) = _
          by_cases x1 : a = c
          · subst x1
            by_cases x2 : b = d
            · subst x2; simp
            · have x3 : ¬ d = b:=fun z=>x2 z.symm
              simp [x2,x3]
          · have x3 : ¬ c = a:=fun z=>x1 z.symm
            simp [x1,x3]
        have : (#[Value.ref r1,Value.ref r2] : Array Value).any e = ((decide (a = c1) && decide (b = d1)) || (decide (a = c2) && decide (b = d2))):=by
          have : (#[Value.ref r1,Value.ref r2] : Array Value).any e = (e (.ref r1) || e (.ref r2)):=by simp
          rw [this,e1,e2,ev,ev]
        rw [show ([Value.ref r1,Value.ref r2].toArray : Array Value) = #[Value.ref r1,Value.ref r2] from rfl,this]
        exact q
end
end L2
namespace L2
end L2
namespace L2
open PySem PySem.Spec PyProof.Rows
section
variable {X : Cx} {o e : Expr} {es : List Expr} {ta : TE} {t : TA} {m : Str} {C C' f f' : Addr} {fd fd' : FuncData} {ps ps' : List Str} {sp sp' : Sp} {k k' : Nat} {CX : CXT} {E : XK} {apos pos : Pos}
end
end L2
namespace L2
open PySem PySem.Spec PyProof.Rows
section
variable {X : Cx}
end
end L2
namespace L2
open PySem PySem.Spec PyProof.Rows
section
variable {X : Cx}
end
end L2
namespace L2
open PySem PySem.Spec PyProof.Rows
section
variable {X : Cx}
end
end L2
namespace L2
open PySem
def nmD : PyData → String
  | .none=>"NoneType"
  | .bool _=>"bool"
  | .int _=>"int"
  | .str _=>"str"
  | .tuple _=>"tuple"
  | _=>"list"
theorem Rep.ty {K : PySem.W.Frag} {H : Hp} {v : V} {d : PyData} (r : Rep K H v d) : TyX K H v (.type (nmD d)):=by
  cases r with
  | non=>exact .of .non
  | bl b=>exact .of (.bl b)
  | int i=>exact .of (.int i)
  | str x=>exact .of (.str x)
  | tup h _=>exact .tupS h
  | lst h _=>exact .lstS h
theorem Reps.len {K : PySem.W.Frag} {H : Hp} : ∀ {xs : List V} {ds : List PyData},Reps K H xs ds → xs.length = ds.length
  | _,_,.nil=>rfl
  | _,_,.cons _ b=>congrArg (· + 1) (Reps.len b)
theorem Reps.get {K : PySem.W.Frag} {H : Hp} : ∀ {xs : List V} {ds : List PyData} {i : Nat} {x : V},Reps K H xs ds → xs[i]? = some x → ∃ d,ds[i]? = some d ∧ Rep K H x d
  | _,_,_,_,.nil,e=>by simp at e
  | _,_,0,_,.cons a _,e=>by simp at e; subst e; exact ⟨_,rfl,a⟩
  | _,_,i + 1,_,.cons _ b,e=>by simpa using Reps.get b (by simpa using e)
theorem Rep.same {K : PySem.W.Frag} {H H' : Hp} (s : Same H H') {v : V} {d : PyData} (r : Rep K H v d) : Rep K H' v d :=
  Rep.rec (motive_1:=fun v d _=>Rep K H' v d) (motive_2:=fun vs ds _=>Reps K H' vs ds) .non .bl .int .str (fun h _ q=>.tup (Same.tup s h) q) (fun h _ q=>.lst (s.seq h) q) .nil (fun _ _ q q'=>.cons q q') r
def isInt : PyData → Bool
  | .int _=>true
  | .bool _=>true
  | _=>false
def isBool : PyData → Bool
  | .bool _=>true
  | _=>false
def isTup : PyData → Bool
  | .tuple _=>true
  | _=>false
def isLst : PyData → Bool
  | .list _=>true
  | _=>false
section
variable {K : PySem.W.Frag} {H : Hp} {v : V} {d : PyData}
theorem Rep.kInt (r : Rep K H v d) : PySem.W.kitOne K (.type (nmD d)) (.type "int") = some (isInt d):=by cases r <;> rfl
theorem Rep.kBool (r : Rep K H v d) : PySem.W.kitOne K (.type (nmD d)) (.type "bool") = some (isBool d):=by cases r <;> rfl
theorem Rep.kTuple (r : Rep K H v d) : PySem.W.kitOne K (.type (nmD d)) (.type "tuple") = some (isTup d):=by cases r <;> rfl
theorem Rep.kList (r : Rep K H v d) : PySem.W.kitOne K (.type (nmD d)) (.type "list") = some (isLst d):=by cases r <;> rfl
end
end L2
namespace L2
open PySem PySem.Spec PySem.W PyProof.Rows PySem.Calls PySem.MeetsSeq
theorem eqGives_bool (a b : Bool) : EqGives (.bool a) (.bool b) (a == b):=fun prog w A E s Q h=>by
  unfold eqBool
  show wpAny _ _ (if (Value.bool a == Value.bool b) = true then _ else _) Q E s
  by_cases hab : (Value.bool a == Value.bool b) = true
  · rw [if_pos hab]
    have e : a = b:=by have:=eq_of_beq hab; injection this
    subst e
    exact wpAny_bind (wpAny_rule (wpAny_pure (by simpa using h)))
  · rw [if_neg hab]
    exact wpAny_bind (show wpAny _ _ (compareOp .Eq (.bool a) (.bool b)) _ _ _ from eq_bool (wpAny_truthy_bool h))
def isB (c : Bool) : Value → Bool
  | .bool b=>b == c
  | _=>false
theorem bools_vals : ∀ {bs : List Bool} {us : List Value},Vals (bs.map V.bl) us → us = bs.map Value.bool
  | [],_,.nil=>rfl
  | b :: r,_,.cons h hr=>by
    cases (show _ = Value.bool b from h)
    rw [bools_vals hr]
    rfl
section
variable {X : Cx}
def rCountB : V → List V → Hp → VK → Prop:=fun x vs H Q=>∃ (l : Addr) (bs : List Bool) (c : Bool),x = .ref l ∧ vs = [.bl c] ∧ H l = some (.lst (bs.map V.bl)) ∧ Q (.int ((bs.countP (· == c) : Nat) : Int)) H
theorem eq_all (bs : List Bool) (c : Bool) : ∀ y,y ∈ (bs.map Value.bool).toArray → EqGives y (.bool c) (isB c y):=fun y hy=>by
  have hy' : y ∈ bs.map Value.bool:=by simpa using hy
  obtain ⟨b,_,rfl⟩:=List.mem_map.mp hy'
  exact eqGives_bool b c
theorem mt_countB : MtM X "list.count" rCountB:=by
  intro pins s σ H x vs v us Q I rx rv h
  obtain ⟨l,bs,c,rfl,rfl,hH,q⟩:=h
  cases rx
  obtain ⟨u,rfl,ru⟩:=rv.one
  cases (show u = Value.bool c from ru)
  obtain ⟨z,its,n,r,hl,e⟩:=I.lstM hH
  cases bools_vals r
  refine call_meets F.slot_list_count ⟨_,e,rfl⟩ F.entry_list_count (F.args_list_count_2 _ _) (MeetsSeq.list_count l (bs.map Value.bool).toArray n (.bool c) (isB c) (eq_all bs c)) ⟨e,?_⟩
  refine ⟨.int _,H,I.tok _,⟨_,rfl⟩,?_⟩
  have e2 : (bs.map Value.bool).toArray.toList.countP (isB c) = bs.countP (· == c):=by
    rw [List.countP_map]
    rfl
  rw [e2]
  exact q
def rIndexB : V → List V → Hp → VK → Prop:=fun x vs H Q=>∃ (l : Addr) (bs : List Bool) (c : Bool) (j : Nat),x = .ref l ∧ vs = [.bl c] ∧ H l = some (.lst (bs.map V.bl)) ∧ j < 1000 ∧ bs[j]? = some c ∧ (∀ i,i < j → bs[i]? ≠ some c) ∧ Q (.int (j : Int)) H
theorem mt_indexB : MtM X "list.index" rIndexB:=by
  intro pins s σ H x vs v us Q I rx rv h
  obtain ⟨l,bs,c,j,rfl,rfl,hH,hj,hc,hb,q⟩:=h
  cases rx
  obtain ⟨u,rfl,ru⟩:=rv.one
  cases (show u = Value.bool c from ru)
  obtain ⟨z,its,n,r,hl,e⟩:=I.lstM hH
  cases bools_vals r
  have hjl : j < bs.length:=(List.getElem?_eq_some_iff.mp hc).1
  have hcj : bs[j] = c:=by rw [List.getElem?_eq_getElem hjl] at hc; exact Option.some.inj hc
  refine call_meets F.slot_list_index ⟨_,e,rfl⟩ F.entry_list_index (F.args_list_index_2 _ _) (MeetsSeq.list_index l (bs.map Value.bool).toArray n (.bool c) (isB c) (eq_all bs c) j (by simpa using hjl) (by omega) ?_ ?_) ⟨e,⟨.int _,H,I.tok _,⟨_,rfl⟩,q⟩⟩
  · have e3 : (bs.map Value.bool).toArray[j]'(by simpa using hjl) = Value.bool c:=by simp [hcj]
    rw [e3]
    simp [isB]
  · intro m hm hmj
    have hml : m < bs.length:=by omega
    have e3 : (bs.map Value.bool).toArray[m]'hm = Value.bool bs[m]:=by simp
    rw [e3]
    have:=hb m hmj
    rw [List.getElem?_eq_getElem hml] at this
    have h5 : bs[m] ≠ c:=fun z=>this (by rw [z])
    simpa [isB] using h5
end
end L2
namespace L2
open PySem PySem.Spec PyProof.Rows
structure RoomH (k : Nat) (A : Around) : Prop where
  dp : A.depth + 3 * k + 5 < recursionLimit
  un : A.units + 16 * k + 200 < cLine
theorem Room.held {j k : Nat} {A : Around} (r : Room k A) (h : j ≤ k) (v : Option Value) : RoomH j (A.mark v):=⟨by have:=r.dp; show A.depth + 3 * j + 5 < _; omega,by have:=r.un; show A.units + 16 * j + 200 < _; omega⟩
structure FnOkH (P : Program) (w : World) (K : PySem.W.Frag) (mg : Str → Option Value) (base : Heap) (k : Nat) (f : Addr) (fd : FuncData) (ps : List Str) (sp : Sp) : Prop where
  len : ∀ vs H Q E,sp vs H Q E → vs.length = ps.length
  run : ∀ (A : Around) (outer : List Env) (s : Shared) (H : Hp) (args : Args) (us : List Value) (vs : List V) (Q : VK) (E : XK),RoomH k A → Env0 P w K mg base A outer s H → BindsTo s fd args (ps.zip us) → Vals vs us → sp vs H Q E →
    codeAny (model P w) A (.call (.ref f) args) (CR CX0 outer P w H s Q E) s
abbrev Cx.hot (X : Cx) : Cx:={ X with calm:=false,xe:=fun _ _=>False }
theorem Fun.okH {P : Program} {w : World} {K : PySem.W.Frag} {mg : Str → Option Value} {base : Heap} {x qual : Str} {st : Stmt} {f : Addr} {fd : FuncData} {N ps : List Str} {k : Nat} {sp : Sp} (F : Fun K x qual st f fd) (S : FnScope N ps (defScope st)) (len : ∀ vs H Q E,sp vs H Q E → vs.length = ps.length)
    (hbody : ∀ (cdv : Value) (A : Around) (outer : List Env) (s : Shared) (H : Hp) (vs : List V) (Q : VK) (E : XK),RoomH k (A.deeper (envOfC qual (defScope st) s.heap.objs.size f cdv)) → sp vs H Q E →
      ∃ t,PSs (cxOf CX0 P w K mg base N qual (defScope st) f cdv A outer s H E).hot (defBody st) t ∧ t { nx:=fun _ H'=>Q .non H',rt:=Q } (start N vs) H) : FnOkH P w K mg base (k + 1) f fd ps sp:=by
  obtain ⟨oc,od,kV,doc,pm,an,cdv,ct,osl,rfl,lk,hcd⟩:=F.ex
  refine ⟨len,fun A outer s H args us vs Q E hr e0 hb r hsp=>?_⟩
  have hl:=len _ _ _ _ hsp
  have KX : K.In s.heap:=e0.mod.kin.keeps fun b o e=>(e0.bs b o e).1
  have lim : s.heap.NoLimit:=e0.mod.nolimit.keeps fun b o e=>(e0.bs b o e).1
  have hkind : ∀ y ∈ ps.zip us,(defScope st).names.lookup y.1 = some .local ∨ ((defScope st).names.lookup y.1 = some .cell ∧ ((cellsFrom (s.heap.objs.size + 1) (defScope st).names []).lookup y.1).isSome = true):=fun ⟨n,v⟩ hy=>by
    rcases S.par n (List.of_mem_zip hy).1 with q | q
    · exact .inl q
    · exact .inr ⟨q,PySem.W.cellsFrom_some _ _ _ (.inl q)⟩
  refine codeAny_call_function (by have:=hr.dp; omega) (KX _ _ lk) rfl S.co S.gen rfl (PySem.W.codeRec_of KX hcd) (hb _ _ _ _ ?_)
  refine wpAny_newFunctionEnv_cells S.kind hkind fun env he s1 x=>?_
  subst he
  refine ⟨lim.keeps x.toInCall.keep,codeAny_func ?_⟩
  obtain ⟨t,ht,hq⟩:=hbody cdv A outer s H vs Q E ⟨by have:=hr.dp; show A.depth + 1 + 3 * k + 5 < _; omega,by have:=hr.un; show A.units + 3 + 16 * k + 200 < _; omega⟩ hsp
  have I0 : Inv (cxOf CX0 P w K mg base N qual (defScope st) f cdv { A with handled:=none } outer s H E) [] (start N vs) H s1:=inv_start S rfl ⟨e0.frames,e0.mod,e0.bs,e0.bsz,e0.funs,e0.frf,e0.hok,e0.bare⟩ hl r x
  have I : Inv (cxOf CX0 P w K mg base N qual (defScope st) f cdv A outer s H E).hot [] (start N vs) H s1 :=
    ⟨⟨I0.ok.mod,I0.ok.kind,I0.ok.glob,I0.ok.blt,I0.ok.above,I0.ok.inj,I0.ok.has,I0.ok.cab,(fun z=>by cases z),I0.ok.frames,I0.ok.stk,I0.ok.exf,I0.ok.bs,I0.ok.bsz,I0.ok.noex,I0.ok.exfs,I0.ok.funs,I0.ok.frf⟩,I0.os,I0.bare,I0.base,I0.loc,I0.cell,I0.free,I0.freeC,I0.pin,I0.hok,I0.len⟩
  refine wpAny_mono (ht [] s1 (start N vs) H _ I hq) (fun fl s' hs=>?_) fun e s' hs=>hs.elim
  have fin : ∀ {σ' : St} {H' : Hp} {v : V} {u : Value},Inv (cxOf CX0 P w K mg base N qual (defScope st) f cdv A outer s H E).hot [] σ' H' s' → RelV v u → Q v H' → CE outer P w H s Q u s' :=
    fun {σ' H' v u} J rv q=>⟨v,H',J.os,J.bare,J.base,J.hok,rv,q⟩
  cases fl with
  | ret u =>
    obtain ⟨v,σ',H',J,rv,q⟩:=hs
    exact fin J rv q
  | next =>
    obtain ⟨σ',H',J,q⟩:=hs
    exact fin (v:=V.non) (u:=Value.none) J rfl q
  | brk =>
    obtain ⟨_,_,_,q⟩:=hs
    exact False.elim q
  | cont =>
    obtain ⟨_,_,_,q⟩:=hs
    exact False.elim q
section
variable {X : Cx} {k : Nat} {f : Addr} {fd : FuncData} {ps : List Str} {sp : Sp} {x : Str} {p pos : Pos} {e : Expr} {es : List Expr} {t : TA}
theorem pe_callH (F : FnOkH X.prog X.w X.K X.mg X.base k f fd ps sp) (hr : RoomH k X.A) (hg : Gl X x) (hm : X.mg x = some (.ref f)) (hk : PySem.W.keepIn X.K (.ref f) = true) (hb : Binds X.K fd ps [])
    (ha : PA X (e :: es) t) (hdb : (x == ("__debug__" : Str)) = false:=by decide) (he : starEach (e :: es) X.env = (false,eval e X.env) :: starEach es X.env:=by rfl) (hpl : (backTo pos (starEach es X.env)).any (·.1) = false:=by rfl) :
    PE X (.Call (.Name x p) (e :: es) [] pos) (tCall sp [] E0 t):=by
  intro pins s σ H Q I h
  refine wpAny_Call_Name_kw (ld_glob I hg hm ?_ hdb)
  refine PySem.W.callWith_K (h₀:=X.base) I.ok.mod.kin hk (thn (ha pos pins s σ H _ I h) fun us s1 ⟨vs,H1,I1,r,q⟩=>⟨I1.kIn,?_⟩) he hpl
  have q' : sp vs H1 Q E0:=by rw [← List.append_nil vs]; exact q
  have hl : (us ++ []).length = ps.length:=by rw [List.append_nil,← r.length]; exact F.len _ _ _ _ q'
  refine wpAny_call (codeAny_mono (F.run X.A X.stack s1 H1 ⟨us,[]⟩ us vs Q E0 hr I1.env0 ?_ r q') fun r s' hq=>?_)
  · have:=hb s1 us I1.kIn hl
    rw [List.append_nil] at this
    exact this
  cases r with
  | error e=>exact False.elim hq
  | ok fl =>
    cases fl with
    | ret u=>exact I1.after hq
    | next=>exact False.elim hq
    | brk=>exact False.elim hq
    | cont=>exact False.elim hq
end
end L2
namespace My
theorem gcd_turn (x y : Int) (hx : 0 ≤ x) (hy : 0 < y) : Nat.gcd y.natAbs (x % y).natAbs = Nat.gcd x.natAbs y.natAbs:=by
  obtain ⟨m,rfl⟩:=Int.eq_ofNat_of_zero_le hx
  obtain ⟨n,rfl⟩:=Int.eq_ofNat_of_zero_le (Int.le_of_lt hy)
  have e : ((m : Int) % (n : Int)) = ((m % n : Nat) : Int):=(Int.natCast_emod m n).symm
  rw [e]
  simp only [Int.natAbs_natCast]
  rw [Nat.gcd_comm n,← Nat.gcd_rec,Nat.gcd_comm]
theorem gcd_pos (a b : Int) (hb : b ≠ 0) : 0 < Int.gcd a b:=Int.gcd_pos_of_ne_zero_right a hb
def dv (a b : Int) : Int:=if b < 0 then -(Int.gcd a b : Int) else (Int.gcd a b : Int)
theorem dv_ne (a b : Int) (hb : b ≠ 0) : dv a b ≠ 0:=by
  have:=gcd_pos a b hb
  unfold dv
  split <;> omega
theorem dv_abs (a b : Int) : (dv a b).natAbs = Int.gcd a b:=by
  unfold dv
  split <;> simp
theorem fdiv_exact {a d : Int} (h : d ∣ a) : a.fdiv d = a / d:=by
  rw [Int.fdiv_eq_ediv_of_dvd h]
theorem made_num (a b : Int) (hb : b ≠ 0) : a.fdiv (dv a b) = (Rat.divInt a b).num:=by
  have hg : (Int.gcd a b : Int) ∣ a:=Int.gcd_dvd_left a b
  have g0:=gcd_pos a b hb
  rw [Rat.num_divInt,Int.gcd_comm b a]
  unfold dv
  by_cases h : b < 0
  · rw [if_pos h,Int.sign_eq_neg_one_of_neg h,fdiv_exact (Int.neg_dvd.mpr hg),Int.ediv_neg,Int.neg_one_mul,Int.neg_ediv_of_dvd hg]
  · rw [if_neg h,Int.sign_eq_one_of_pos (by omega),fdiv_exact hg,Int.one_mul]
theorem made_den (a b : Int) (hb : b ≠ 0) : b.fdiv (dv a b) = ((Rat.divInt a b).den : Int):=by
  have hg : (Int.gcd a b : Int) ∣ b:=Int.gcd_dvd_right a b
  have g0:=gcd_pos a b hb
  rw [Rat.den_divInt,if_neg hb,Int.gcd_comm b a]
  unfold dv
  rw [Int.natCast_ediv]
  by_cases h : b < 0
  · rw [if_pos h,fdiv_exact (Int.neg_dvd.mpr hg),Int.ediv_neg]
    rw [← Int.neg_ediv_of_dvd hg]
    congr 1
    omega
  · rw [if_neg h,fdiv_exact hg]
    congr 1
    omega
theorem num_le (a b : Int) (hb : b ≠ 0) : (Rat.divInt a b).num.natAbs ≤ a.natAbs:=by
  rw [← made_num a b hb]
  have hg : dv a b ∣ a:=by
    have h:=Int.gcd_dvd_left a b
    unfold dv
    split
    · exact Int.neg_dvd.mpr h
    · exact h
  rw [fdiv_exact hg,Int.natAbs_ediv_of_dvd hg]
  exact Nat.div_le_self _ _
theorem den_le (a b : Int) (hb : b ≠ 0) : (Rat.divInt a b).den ≤ b.natAbs:=by
  have e:=made_den a b hb
  have hg : dv a b ∣ b:=by
    have h:=Int.gcd_dvd_right a b
    unfold dv
    split
    · exact Int.neg_dvd.mpr h
    · exact h
  have : ((Rat.divInt a b).den : Int).natAbs ≤ b.natAbs:=by
    rw [← e,fdiv_exact hg,Int.natAbs_ediv_of_dvd hg]
    exact Nat.div_le_self _ _
  simpa using this
theorem add_div (a b c d : Int) (hb : b ≠ 0) (hd : d ≠ 0) : Rat.divInt a b + Rat.divInt c d = Rat.divInt (a * d + c * b) (b * d):=Rat.divInt_add_divInt _ _ hb hd
theorem sub_div (a b c d : Int) (hb : b ≠ 0) (hd : d ≠ 0) : Rat.divInt a b - Rat.divInt c d = Rat.divInt (a * d - c * b) (b * d):=Rat.divInt_sub_divInt _ _ hb hd
theorem mul_div (a b c d : Int) : Rat.divInt a b * Rat.divInt c d = Rat.divInt (a * c) (b * d):=Rat.divInt_mul_divInt _ _ ..
theorem div_div (a b c d : Int) : Rat.divInt a b / Rat.divInt c d = Rat.divInt (a * d) (b * c):=by
  rw [Rat.div_def,Rat.inv_divInt,mul_div]
theorem same (q : Rat) : Rat.divInt q.num q.den = q:=Rat.num_divInt_den q
end My
namespace Mp
structure Pipe where
  u : Int
  w : Int
  a : Int
  b : Int
def Adj (ps : List Pipe) (x y : Int) : Prop:=∃ p ∈ ps,(p.u = x ∧ p.w = y) ∨ (p.w = x ∧ p.u = y)
inductive Reach (ps : List Pipe) (s : Int) : Int → Prop
  | refl : Reach ps s s
  | step {x y : Int} : Reach ps s x → Adj ps x y → Reach ps s y
def Fits (n : Int) (ps : List Pipe) : Prop:=∀ p ∈ ps,(0 ≤ p.u ∧ p.u < n) ∧ (0 ≤ p.w ∧ p.w < n)
theorem Adj.symm {ps : List Pipe} {x y : Int} (h : Adj ps x y) : Adj ps y x:=by
  obtain ⟨p,hp,q⟩:=h
  rcases q with ⟨a,b⟩ | ⟨a,b⟩
  · exact ⟨p,hp,.inr ⟨b,a⟩⟩
  · exact ⟨p,hp,.inl ⟨b,a⟩⟩
theorem Reach.trans {ps : List Pipe} {x y z : Int} (h : Reach ps x y) (k : Reach ps y z) : Reach ps x z:=by
  induction k with
  | refl=>exact h
  | step _ a ih=>exact .step ih a
theorem Reach.symm {ps : List Pipe} {x y : Int} (h : Reach ps x y) : Reach ps y x:=by
  induction h with
  | refl=>exact .refl
  | step _ a ih=>exact Reach.trans (.step .refl a.symm) ih
structure Good (n : Int) (ps : List Pipe) (s : Int) (S : List Int) : Prop where
  has : s ∈ S
  nd : S.Nodup
  rch : ∀ x ∈ S,Reach ps s x
  fit : ∀ x ∈ S,0 ≤ x ∧ x < n
end Mp
namespace Mp
def nb (ps : List Pipe) (x : Int) : List Int:=(ps.filter fun p=>decide (p.u = x)).map (·.w) ++ (ps.filter fun p=>decide (p.w = x)).map (·.u)
structure Walk (n : Int) (ps : List Pipe) (s : Int) (R W : List Int) : Prop where
  good : Good n ps s R
  sub : ∀ x ∈ W,x ∈ R
  don : ∀ x ∈ R,x ∉ W → ∀ y,Adj ps x y → y ∈ R
structure Turn (n : Int) (ps : List Pipe) (s : Int) (z : Int) (i : Nat) (R W : List Int) : Prop where
  good : Good n ps s R
  sub : ∀ x ∈ W,x ∈ R
  inn : z ∈ R
  don : ∀ x ∈ R,x ∉ W → x = z ∨ ∀ y,Adj ps x y → y ∈ R
  saw : ∀ j,j < i → ∀ y,(nb ps z)[j]? = some y → y ∈ R
end Mp
namespace Mp
end Mp
namespace Bz
abbrev Vec:=Nat → Rat
def ex (F : List Vec → Rat) (k : Nat) : List Vec → List Vec → Rat
  | _,[]=>0
  | pre,v :: vs=>v k * F (pre ++ vs) - ex F k (pre ++ [v]) vs
def D0 : List Vec → Rat
  | []=>1
  | _ :: _=>0
def D : Nat → List Vec → Rat
  | 0,vs=>D0 vs
  | k + 1,vs=>ex (D k) k [] vs
def sm : Nat → (Nat → Rat) → Rat
  | 0,_=>0
  | n + 1,f=>sm n f + f n
theorem sm_zero : ∀ (n : Nat) {f : Nat → Rat},(∀ i,i < n → f i = 0) → sm n f = 0
  | 0,_,_=>rfl
  | n + 1,f,h=>by simp only [sm]; rw [sm_zero n fun i hi=>h i (by omega),h n (by omega)]; grind
theorem sm_add (f g : Nat → Rat) : ∀ (n : Nat),sm n (fun i=>f i + g i) = sm n f + sm n g
  | 0=>by simp only [sm]; grind
  | n + 1=>by simp only [sm]; rw [sm_add f g n]; grind
theorem sm_one {f : Nat → Rat} {k : Nat} : ∀ (n : Nat),k < n → (∀ i,i < n → i ≠ k → f i = 0) → sm n f = f k
  | 0,h,_=>by omega
  | n + 1,h,z=>by
    simp only [sm]
    by_cases e : k = n
    · subst e
      rw [sm_zero k fun i hi=>z i (by omega) (by omega)]
      grind
    · rw [sm_one n (by omega) fun i hi hk=>z i (by omega) hk,z n (by omega) (by omega)]
      grind
section
variable (A : Nat → Nat → Rat)
def col (l : Nat) : Vec:=fun r=>A r l
def colsFrom (i : Nat) : Nat → List Vec
  | 0=>[]
  | k + 1=>if k < i then [] else col A k :: colsFrom i k
abbrev cols (k : Nat) : List Vec:=colsFrom A 0 k
end
end Bz
namespace Bz
def st (R : Nat → Nat → Int) (k : Nat) (d : Int) : Nat → Nat → Int:=fun i j=>if i = k then R k j else (R k k * R i j - R i k * R k j).fdiv d
def RD (A : Nat → Nat → Int) : Nat → (Nat → Nat → Int) × Int
  | 0=>(A,1)
  | k + 1=>(st (RD A k).1 k (RD A k).2,(RD A k).1 k k)
abbrev toQ (A : Nat → Nat → Int) : Nat → Nat → Rat:=fun i j=>(A i j : Rat)
structure Elim (A : Nat → Nat → Int) (m k : Nat) (ρ : Nat → Nat → Rat) : Prop where
  sol : ∀ j r,r < k → (A r j : Rat) = sm k (fun l=>(A r l : Rat) * ρ l j)
  det : ((RD A k).2 : Rat) = D k (cols (toQ A) k)
  nz : (RD A k).2 ≠ 0
  up : ∀ i j,i < k → j ≤ m → ((RD A k).1 i j : Rat) = ((RD A k).2 : Rat) * ρ i j
  lo : ∀ i j,k ≤ i → i < m → j ≤ m → ((RD A k).1 i j : Rat) = ((RD A k).2 : Rat) * ((A i j : Rat) - sm k (fun l=>(A i l : Rat) * ρ l j))
theorem cast_ne {z : Int} (h : z ≠ 0) : (z : Rat) ≠ 0:=fun e=>h (by exact_mod_cast e)
end Bz
namespace St
open Mp Bz
def sp {α : Type} : List α → (α → Rat) → Rat
  | [],_=>0
  | p :: r,f=>f p + sp r f
theorem sp_cong {α : Type} {f g : α → Rat} : ∀ {ps : List α},(∀ p ∈ ps,f p = g p) → sp ps f = sp ps g
  | [],_=>rfl
  | p :: r,h=>by simp only [sp]; rw [h p (by simp),sp_cong fun q hq=>h q (by simp [hq])]
theorem sp_mul {α : Type} (c : Rat) (f : α → Rat) : ∀ (ps : List α),sp ps (fun p=>c * f p) = c * sp ps f
  | []=>by simp only [sp]; grind
  | p :: r=>by simp only [sp]; rw [sp_mul c f r]; grind
theorem sp_zero {α : Type} {f : α → Rat} : ∀ {ps : List α},(∀ p ∈ ps,f p = 0) → sp ps f = 0
  | [],_=>rfl
  | p :: r,h=>by simp only [sp]; rw [h p (by simp),sp_zero fun q hq=>h q (by simp [hq])]; grind
theorem sp_nonneg {α : Type} {f : α → Rat} : ∀ {ps : List α},(∀ p ∈ ps,0 ≤ f p) → 0 ≤ sp ps f
  | [],_=>by simp only [sp]; grind
  | p :: r,h=>by
    have h1:=h p (by simp)
    have h2:=sp_nonneg (f:=f) (ps:=r) fun q hq=>h q (List.mem_cons_of_mem _ hq)
    simp only [sp]
    grind
theorem sp_append {α : Type} (f : α → Rat) : ∀ (ps qs : List α),sp (ps ++ qs) f = sp ps f + sp qs f
  | [],qs=>by simp only [sp,List.nil_append]; grind
  | p :: r,qs=>by simp only [sp,List.cons_append]; rw [sp_append f r qs]; grind
theorem sm_sp {α : Type} (f : Nat → α → Rat) (n : Nat) : ∀ (ps : List α),sm n (fun i=>sp ps (f i)) = sp ps (fun p=>sm n (fun i=>f i p))
  | []=>sm_zero n fun _ _=>rfl
  | p :: r=>by simp only [sp]; rw [sm_add,sm_sp f n r]
def ind (c : Prop) [Decidable c] : Rat:=if c then 1 else 0
theorem ind_t {c : Prop} [Decidable c] (h : c) : ind c = 1:=if_pos h
theorem ind_f {c : Prop} [Decidable c] (h : ¬ c) : ind c = 0:=if_neg h
def ease (p : Pipe) : Rat:=(p.b : Rat) / (p.a : Rat)
def hard (p : Pipe) : Rat:=(p.a : Rat) / (p.b : Rat)
def sg (p : Pipe) (i : Int) : Rat:=ind (p.u = i) - ind (p.w = i)
def Lap (ps : List Pipe) (h : Int → Rat) (i : Int) : Rat:=sp ps (fun p=>sg p i * (ease p * (h p.u - h p.w)))
structure Nice (n : Nat) (ps : List Pipe) : Prop where
  fits : Fits n ps
  ne : ∀ p ∈ ps,p.u ≠ p.w
  a1 : ∀ p ∈ ps,1 ≤ p.a
  b1 : ∀ p ∈ ps,1 ≤ p.b
theorem intpos {a : Int} (h : 1 ≤ a) : (0 : Rat) < (a : Rat):=by exact_mod_cast (show (0 : Int) < a by omega)
theorem ease_pos {p : Pipe} (ha : 1 ≤ p.a) (hb : 1 ≤ p.b) : 0 < ease p:=by
  have h1:=intpos ha
  have h2:=intpos hb
  unfold ease
  rw [Rat.div_def]
  exact Rat.mul_pos h2 (Rat.inv_pos.mpr h1)
theorem hard_pos {p : Pipe} (ha : 1 ≤ p.a) (hb : 1 ≤ p.b) : 0 < hard p:=by
  have h1:=intpos ha
  have h2:=intpos hb
  unfold hard
  rw [Rat.div_def]
  exact Rat.mul_pos h1 (Rat.inv_pos.mpr h2)
theorem ease_hard {p : Pipe} (ha : 1 ≤ p.a) (hb : 1 ≤ p.b) : ease p * hard p = 1:=by
  have h1:=intpos ha
  have h2:=intpos hb
  unfold ease hard
  grind
theorem Lap_mul (ps : List Pipe) (c : Rat) (h : Int → Rat) (i : Int) : Lap ps (fun x=>c * h x) i = c * Lap ps h i:=by
  unfold Lap
  rw [← sp_mul]
  exact sp_cong fun p _=>by grind
structure IsH (n : Nat) (ps : List Pipe) (one other : Int) (h : Int → Rat) : Prop where
  far : ∀ x,x = other ∨ ¬ Reach ps other x → h x = 0
  har : ∀ i : Int,0 ≤ i ∧ i < n → Lap ps h i = ind (i = one) - ind (i = other)
def touch (y : Int) (p : Pipe) : Bool:=decide (y = p.u) || decide (y = p.w)
def betw (y z : Int) (p : Pipe) : Bool:=(decide (p.u = y) && decide (p.w = z)) || (decide (p.u = z) && decide (p.w = y))
section
variable {n : Nat} {ps : List Pipe} {other : Int} {fr : List Int} {S : Int}
structure Free (ps : List Pipe) (other : Int) (fr : List Int) : Prop where
  nd : fr.Nodup
  mem : ∀ x,x ∈ fr ↔ Reach ps other x ∧ x ≠ other
end
end St
namespace St
open Mp Bz
open Classical in
noncomputable def hOf (n : Nat) (ps : List Pipe) (one other : Int) : Int → Rat:=if h : ∃ g,IsH n ps one other g then Classical.choose h else fun _=>0
section
variable {n : Nat} {ps : List Pipe} {other one : Int} {fr : List Int} {S : Int} {ks kb : Nat}
structure Sized (ps : List Pipe) (S : Int) (ks kb : Nat) : Prop where
  pos : 0 < S
  le : S ≤ 2 ^ ks
  dv : ∀ p ∈ ps,p.a ∣ S
  b2 : ∀ p ∈ ps,p.b ≤ 2 ^ kb
  len : ps.length ≤ 31
end
end St
namespace St
open Mp Bz
end St
namespace St
open Mp Bz
section
variable {n : Nat} {ps : List Pipe} {one other : Int} {g h : Int → Rat}
open Classical in
theorem IsH.rev (nc : Nice n ps) (hh : IsH n ps one other h) (hr : Reach ps other one) : IsH n ps other one (fun x=>if Reach ps other x then h one - h x else 0):=by
  refine ⟨fun x hx=>?_,fun i hi=>?_⟩
  · rcases hx with rfl | hx
    · show (if Reach ps other x then h x - h x else 0) = 0
      split <;> grind
    · show (if Reach ps other x then h one - h x else 0) = 0
      rw [if_neg fun r=>hx (hr.symm.trans r)]
  · have hL : Lap ps (fun x=>if Reach ps other x then h one - h x else 0) i = - Lap ps h i:=by
      have : Lap ps (fun x=>if Reach ps other x then h one - h x else 0) i = Lap ps (fun x=>(-1) * h x) i:=by
        unfold Lap
        refine sp_cong fun p hp=>?_
        by_cases r : Reach ps other p.u
        · have r2 : Reach ps other p.w:=.step r ⟨p,hp,.inl ⟨rfl,rfl⟩⟩
          simp only [r,r2,if_true]
          grind
        · have r2 : ¬ Reach ps other p.w:=fun z=>r (.step z ⟨p,hp,.inr ⟨rfl,rfl⟩⟩)
          simp only [r,r2,if_false]
          rw [hh.far _ (.inr r),hh.far _ (.inr r2)]
          grind
      rw [this,Lap_mul]
      grind
    rw [hL,hh.har i hi]
    grind
end
def Dn (N : Int) (B : Nat) (q : Rat) : Prop:=∃ z : Int,q * (N : Rat) = (z : Rat) ∧ z.natAbs ≤ B
theorem Dn.add {N : Int} {B C : Nat} {q r : Rat} (h : Dn N B q) (k : Dn N C r) : Dn N (B + C) (q + r):=by
  obtain ⟨z,e,b⟩:=h
  obtain ⟨y,e',c⟩:=k
  exact ⟨z + y,by rw [Rat.intCast_add,← e,← e']; grind,by omega⟩
theorem Dn.sum {N : Int} {B : Nat} : ∀ {qs : List Rat},(∀ q ∈ qs,Dn N B q) → Dn N (qs.length * B) qs.sum
  | [],_=>⟨0,by rw [List.sum_nil]; grind,by simp⟩
  | q :: r,h=>by
    have h1:=(h q (by simp)).add (Dn.sum (qs:=r) fun x hx=>h x (by simp [hx]))
    rw [List.sum_cons,List.length_cons,Nat.succ_mul,Nat.add_comm]
    exact h1
theorem Dn.le {N : Int} {B : Nat} {q : Rat} (h : Dn N B q) (h0 : N ≠ 0) : q.num.natAbs ≤ B ∧ q.den ≤ N.natAbs:=by
  obtain ⟨z,e,b⟩:=h
  have : q = Rat.divInt z N:=by
    rw [Rat.divInt_eq_div,← e]
    have:=cast_ne h0
    grind
  rw [this]
  exact ⟨Nat.le_trans (My.num_le z N h0) b,My.den_le z N h0⟩
end St
namespace St
open Mp Bz
section
variable {n : Nat} {ps ps' : List Pipe} {one other third : Int} {g h h' : Int → Rat}
theorem Adj.mono {ps ps' : List Pipe} (hs : ∀ p ∈ ps,p ∈ ps') {x y : Int} (h : Adj ps x y) : Adj ps' x y:=by
  obtain ⟨p,hp,q⟩:=h
  exact ⟨p,hs p hp,q⟩
theorem Reach.monoP {ps ps' : List Pipe} (hs : ∀ x y,Adj ps x y → Adj ps' x y) {x y : Int} (h : Reach ps x y) : Reach ps' x y:=by
  induction h with
  | refl=>exact .refl
  | step _ a ih=>exact .step ih (hs _ _ a)
theorem Lap_append (ps qs : List Pipe) (g : Int → Rat) (i : Int) : Lap (ps ++ qs) g i = Lap ps g i + Lap qs g i:=sp_append _ ps qs
theorem Lap_one (p : Pipe) (g : Int → Rat) (i : Int) : Lap [p] g i = sg p i * (ease p * (g p.u - g p.w)):=by
  unfold Lap
  simp only [sp]
  grind
open Classical in
theorem isH_first (nc : Nice n ps) (hr : ¬ Reach ps one other) {p : Pipe} (hu : p.u = one) (hw : p.w = other) (ha : 1 ≤ p.a) (hb : 1 ≤ p.b) : IsH n (ps ++ [p]) one other (fun x=>if Reach ps one x then hard p else 0):=by
  have e1:=ease_hard ha hb
  have hp : Adj (ps ++ [p]) other one:=⟨p,by simp,.inr ⟨hw,hu⟩⟩
  refine ⟨fun x hx=>?_,fun i hi=>?_⟩
  · show (if Reach ps one x then hard p else 0) = 0
    rw [if_neg fun r=>?_]
    rcases hx with rfl | hx
    · exact hr r
    · exact hx ((Reach.step .refl hp).trans (Reach.monoP (fun _ _=>Adj.mono fun _ h=>List.mem_append_left _ h) r))
  · have hL : Lap ps (fun x=>if Reach ps one x then hard p else 0) i = 0:=sp_zero fun q hq=>by
      by_cases r : Reach ps one q.u
      · have r2 : Reach ps one q.w:=.step r ⟨q,hq,.inl ⟨rfl,rfl⟩⟩
        simp only [r,r2,if_true]
        grind
      · have r2 : ¬ Reach ps one q.w:=fun z=>r (.step z ⟨q,hq,.inr ⟨rfl,rfl⟩⟩)
        simp only [r,r2,if_false]
        grind
    rw [Lap_append,hL,Lap_one,hu,hw]
    have e2 : (if Reach ps one one then hard p else 0) = hard p:=if_pos .refl
    have e3 : (if Reach ps one other then hard p else 0) = 0:=if_neg hr
    rw [e2,e3]
    have e5 : ∀ a b : Int,ind (a = b) = ind (b = a):=fun a b=>by
      by_cases q : a = b
      · rw [ind_t q,ind_t q.symm]
      · rw [ind_f q,ind_f fun z=>q z.symm]
    unfold sg
    rw [hu,hw,e5 one i,e5 other i]
    grind
end
end St
namespace St
open Bz Mp
def ez (ps : List Pipe) (x y : Int) : Rat:=sp ps (fun p=>if betw x y p = true then ease p else 0)
def et (ps : List Pipe) (x : Int) : Rat:=sp ps (fun p=>if touch x p = true then ease p else 0)
theorem betw_iff {x y : Int} {p : Pipe} : betw x y p = true ↔ (p.u = x ∧ p.w = y) ∨ (p.u = y ∧ p.w = x):=by
  unfold betw
  simp
theorem touch_iff {x : Int} {p : Pipe} : touch x p = true ↔ p.u = x ∨ p.w = x:=by
  unfold touch
  rw [Bool.or_eq_true,decide_eq_true_eq,decide_eq_true_eq]
  exact or_congr eq_comm eq_comm
theorem ez_nn {n : Nat} {ps : List Pipe} (nc : Nice n ps) (x y : Int) : 0 ≤ ez ps x y:=sp_nonneg fun p hp=>by
  split
  · have:=ease_pos (nc.a1 p hp) (nc.b1 p hp)
    grind
  · grind
theorem sm_betw {n : Nat} {ps : List Pipe} (nc : Nice n ps) (y : Int) (g : Pipe → Int → Rat) : sm n (fun z=>sp ps (fun p=>if betw y (z : Int) p = true then g p z else 0)) = sp ps (fun p=>if p.u = y then g p p.w else if p.w = y then g p p.u else 0):=by
  rw [sm_sp]
  refine sp_cong fun p hp=>?_
  obtain ⟨fu,fw⟩:=nc.fits p hp
  have hne:=nc.ne p hp
  by_cases hu : p.u = y
  · rw [if_pos hu]
    have e : ((p.w.toNat : Nat) : Int) = p.w:=by omega
    rw [sm_one (k:=p.w.toNat) n (by omega) (fun i _ hi=>if_neg fun h=>by
      rcases betw_iff.mp h with q | q
      · omega
      · exact hne (hu.trans q.2.symm)),if_pos (betw_iff.mpr (.inl ⟨hu,e.symm⟩)),e]
  · rw [if_neg hu]
    by_cases hw : p.w = y
    · rw [if_pos hw]
      have e : ((p.u.toNat : Nat) : Int) = p.u:=by omega
      rw [sm_one (k:=p.u.toNat) n (by omega) (fun i _ hi=>if_neg fun h=>by
        rcases betw_iff.mp h with q | q
        · exact hu q.1
        · omega),if_pos (betw_iff.mpr (.inr ⟨e.symm,hw⟩)),e]
    · rw [if_neg hw]
      refine sm_zero n fun i _=>if_neg fun h=>?_
      rcases betw_iff.mp h with q | q
      · exact hu q.1
      · exact hw q.2
theorem et_ez {n : Nat} {ps : List Pipe} (nc : Nice n ps) (y : Int) : et ps y = sm n (fun z=>ez ps y z):=by
  have:=sm_betw nc y (fun p _=>ease p)
  unfold ez
  rw [this]
  unfold et
  refine sp_cong fun p _=>?_
  by_cases hu : p.u = y
  · rw [if_pos hu,if_pos (touch_iff.mpr (.inl hu))]
  · rw [if_neg hu]
    by_cases hw : p.w = y
    · rw [if_pos hw,if_pos (touch_iff.mpr (.inr hw))]
    · rw [if_neg hw,if_neg fun h=>by rcases touch_iff.mp h with q | q; exact hu q; exact hw q]
theorem sm_nonneg {f : Nat → Rat} : ∀ (n : Nat),(∀ i,i < n → 0 ≤ f i) → 0 ≤ sm n f
  | 0,_=>by simp only [sm]; grind
  | n + 1,h=>by
    have h1:=sm_nonneg n fun i hi=>h i (by omega)
    have h2:=h n (by omega)
    simp only [sm]
    grind
theorem sm_all_zero {f : Nat → Rat} : ∀ (n : Nat),(∀ i,i < n → 0 ≤ f i) → sm n f = 0 → ∀ i,i < n → f i = 0
  | 0,_,_,i,hi=>by omega
  | n + 1,h,e,i,hi=>by
    have h1:=sm_nonneg n fun i hi=>h i (by omega)
    have h2:=h n (by omega)
    simp only [sm] at e
    by_cases q : i = n
    · subst q; grind
    · exact sm_all_zero n (fun i hi=>h i (by omega)) (by grind) i (by omega)
theorem et_zero {n : Nat} {ps : List Pipe} (nc : Nice n ps) {x : Int} (h : et ps x = 0) {y : Int} (hy : 0 ≤ y ∧ y < n) : ez ps x y = 0:=by
  rw [et_ez nc] at h
  have:=sm_all_zero n (fun i _=>ez_nn nc x i) h y.toNat (by omega)
  rwa [show ((y.toNat : Nat) : Int) = y by omega] at this
def lft (t x : Int) : Int:=if x < t then x else x + 1
theorem lft_fits {t x : Int} {m : Nat} (hx : 0 ≤ x ∧ x < m) : 0 ≤ lft t x ∧ lft t x < (m + 1 : Nat):=by unfold lft; split <;> omega
def prs (m : Nat) : List (Nat × Nat):=(List.range m).flatMap fun i=>(List.range (m - (i + 1))).map fun j=>(i,i + 1 + j)
def mesh (E : Int → Int → Rat) (l : List (Nat × Nat)) : List Pipe:=(l.filter fun q=>!decide (E q.1 q.2 = 0)).map fun q=>⟨q.1,q.2,(1 / E q.1 q.2).num,((1 / E q.1 q.2).den : Int)⟩
theorem prs_mem {m : Nat} {q : Nat × Nat} (h : q ∈ prs m) : q.1 < q.2 ∧ q.2 < m:=by
  unfold prs at h
  rw [List.mem_flatMap] at h
  obtain ⟨i,hi,h⟩:=h
  obtain ⟨j,hj,rfl⟩:=List.mem_map.mp h
  have h1:=List.mem_range.mp hi
  have h2:=List.mem_range.mp hj
  exact ⟨by simp only; omega,by simp only; omega⟩
theorem sp_filt {α : Type} (b : α → Bool) (g : α → Rat) : ∀ l : List α,sp (l.filter b) g = sp l (fun x=>if b x = true then g x else 0)
  | []=>rfl
  | a :: l=>by
    rw [List.filter_cons]
    simp only [sp]
    rw [← sp_filt b g l]
    split
    · rfl
    · grind
def eo (ps : List Pipe) (t x y : Int) : Rat:=ez ps x y + ez ps x t * ez ps t y / et ps t
section
variable {m : Nat} {ps : List Pipe} {t : Int}
def outP (ps : List Pipe) (t : Int) (m : Nat) : List Pipe:=mesh (fun x y=>eo ps t (lft t x) (lft t y)) (prs m)
end
end St
namespace K2
open PySem L2 Mp
def top (i : Nat) : Stmt:=PySem.Challenge.pw_splitstream_k12_refused.main.body.getD i (.Pass ⟨0,0,0,0⟩)
abbrev s_is_whole : Stmt:=top 10
theorem sc_is_whole : FnScope ["value"] ["value"] (defScope s_is_whole):=⟨rfl,rfl,rfl,by decide +kernel,rfl,by decide +kernel,by decide +kernel⟩
abbrev s_is_fraction : Stmt:=top 11
theorem sc_is_fraction : FnScope ["value"] ["value"] (defScope s_is_fraction):=⟨rfl,rfl,rfl,by decide +kernel,rfl,by decide +kernel,by decide +kernel⟩
abbrev s_common_divisor : Stmt:=top 12
theorem sc_common_divisor : FnScope ["a","b","one","other","rest"] ["a","b"] (defScope s_common_divisor):=⟨rfl,rfl,rfl,by decide +kernel,rfl,by decide +kernel,by decide +kernel⟩
abbrev s_made : Stmt:=top 13
theorem sc_made : FnScope ["a","b","divisor"] ["a","b"] (defScope s_made):=⟨rfl,rfl,rfl,by decide +kernel,rfl,by decide +kernel,by decide +kernel⟩
abbrev s_plus : Stmt:=top 14
theorem sc_plus : FnScope ["one","other"] ["one","other"] (defScope s_plus):=⟨rfl,rfl,rfl,by decide +kernel,rfl,by decide +kernel,by decide +kernel⟩
abbrev s_minus : Stmt:=top 15
theorem sc_minus : FnScope ["one","other"] ["one","other"] (defScope s_minus):=⟨rfl,rfl,rfl,by decide +kernel,rfl,by decide +kernel,by decide +kernel⟩
abbrev s_times : Stmt:=top 16
theorem sc_times : FnScope ["one","other"] ["one","other"] (defScope s_times):=⟨rfl,rfl,rfl,by decide +kernel,rfl,by decide +kernel,by decide +kernel⟩
abbrev s_over : Stmt:=top 17
theorem sc_over : FnScope ["one","other"] ["one","other"] (defScope s_over):=⟨rfl,rfl,rfl,by decide +kernel,rfl,by decide +kernel,by decide +kernel⟩
abbrev s_total : Stmt:=top 18
theorem sc_total : FnScope ["fractions","result","fraction"] ["fractions"] (defScope s_total):=⟨rfl,rfl,rfl,by decide +kernel,rfl,by decide +kernel,by decide +kernel⟩
abbrev s_counts_one_of : Stmt:=top 23
theorem sc_counts_one_of : FnScope ["value","many"] ["value","many"] (defScope s_counts_one_of):=⟨rfl,rfl,rfl,by decide +kernel,rfl,by decide +kernel,by decide +kernel⟩
abbrev s_is_hardness : Stmt:=top 24
theorem sc_is_hardness : FnScope ["value"] ["value"] (defScope s_is_hardness):=⟨rfl,rfl,rfl,by decide +kernel,rfl,by decide +kernel,by decide +kernel⟩
abbrev s_is_pipe : Stmt:=top 25
theorem sc_is_pipe : FnScope ["value","places"] ["value","places"] (defScope s_is_pipe):=⟨rfl,rfl,rfl,by decide +kernel,rfl,by decide +kernel,by decide +kernel⟩
abbrev s_is_net : Stmt:=top 26
theorem sc_is_net : FnScope ["places","pipes"] ["places","pipes"] (defScope s_is_net):=⟨rfl,rfl,rfl,by decide +kernel,rfl,by decide +kernel,by decide +kernel⟩
abbrev s_Net___init__ : Stmt:=inClass (top 28) 0
theorem sc_Net___init__ : FnScope ["self","places","pipes"] ["self","places","pipes"] (defScope s_Net___init__):=⟨rfl,rfl,rfl,by decide +kernel,rfl,by decide +kernel,by decide +kernel⟩
abbrev s_Net_pipes : Stmt:=inClass (top 28) 1
theorem sc_Net_pipes : FnScope ["self"] ["self"] (defScope s_Net_pipes):=⟨rfl,rfl,rfl,by decide +kernel,rfl,by decide +kernel,by decide +kernel⟩
abbrev s_Net_part : Stmt:=inClass (top 28) 2
theorem sc_Net_part : FnScope ["self","at","reached","waiting","place","neighbour"] ["self","at"] (defScope s_Net_part):=⟨rfl,rfl,rfl,by decide +kernel,rfl,by decide +kernel,by decide +kernel⟩
abbrev s_with_pipe : Stmt:=top 29
theorem sc_with_pipe : FnScope ["net","one","other","hardness"] ["net","one","other","hardness"] (defScope s_with_pipe):=⟨rfl,rfl,rfl,by decide +kernel,rfl,by decide +kernel,by decide +kernel⟩
abbrev s_without_pipe : Stmt:=top 30
theorem sc_without_pipe : FnScope ["net","at","pipes"] ["net","at"] (defScope s_without_pipe):=⟨rfl,rfl,rfl,by decide +kernel,rfl,by decide +kernel,by decide +kernel⟩
abbrev s_ease_between : Stmt:=top 32
theorem sc_ease_between : FnScope ["pipes","one","other","ways"] ["pipes","one","other"] (defScope s_ease_between):=⟨rfl,rfl,rfl,by decide +kernel,rfl,by decide +kernel,by decide +kernel⟩
abbrev s_ease_at : Stmt:=top 33
theorem sc_ease_at : FnScope ["pipes","at"] ["pipes","at"] (defScope s_ease_at):=⟨rfl,rfl,rfl,by decide +kernel,rfl,by decide +kernel,by decide +kernel⟩
abbrev s_ease_by_way_of : Stmt:=top 34
theorem sc_ease_by_way_of : FnScope ["pipes","one","at","other","product"] ["pipes","one","at","other"] (defScope s_ease_by_way_of):=⟨rfl,rfl,rfl,by decide +kernel,rfl,by decide +kernel,by decide +kernel⟩
abbrev s_pairs : Stmt:=top 35
theorem sc_pairs : FnScope ["many","result","one","other"] ["many"] (defScope s_pairs):=⟨rfl,rfl,rfl,by decide +kernel,rfl,by decide +kernel,by decide +kernel⟩
abbrev s_net_of_eases : Stmt:=top 36
theorem sc_net_of_eases : FnScope ["places","eases"] ["places","eases"] (defScope s_net_of_eases):=⟨rfl,rfl,rfl,by decide +kernel,rfl,by decide +kernel,by decide +kernel⟩
abbrev s_slim : Stmt:=top 37
theorem sc_slim : FnScope ["net","pipes"] ["net"] (defScope s_slim):=⟨rfl,rfl,rfl,by decide +kernel,rfl,by decide +kernel,by decide +kernel⟩
abbrev s_ease_without : Stmt:=top 38
theorem sc_ease_without : FnScope ["pipes","one","at","other"] ["pipes","one","at","other"] (defScope s_ease_without):=⟨rfl,rfl,rfl,by decide +kernel,rfl,by decide +kernel,by decide +kernel⟩
abbrev s_taken_out : Stmt:=top 39
theorem sc_taken_out : FnScope ["net","at","pipes","left"] ["net","at"] (defScope s_taken_out):=⟨rfl,rfl,rfl,by decide +kernel,rfl,by decide +kernel,by decide +kernel⟩
abbrev s_are_fractions : Stmt:=top 50
theorem sc_are_fractions : FnScope ["value","many"] ["value","many"] (defScope s_are_fractions):=⟨rfl,rfl,rfl,by decide +kernel,rfl,by decide +kernel,by decide +kernel⟩
abbrev s_are_places : Stmt:=top 51
theorem sc_are_places : FnScope ["net","places"] ["net","places"] (defScope s_are_places):=⟨rfl,rfl,rfl,by decide +kernel,rfl,by decide +kernel,by decide +kernel⟩
abbrev s_check_places : Stmt:=top 52
theorem sc_check_places : FnScope ["net","places"] ["net","places"] (defScope s_check_places):=⟨rfl,rfl,rfl,by decide +kernel,rfl,by decide +kernel,by decide +kernel⟩
abbrev s_check_flows : Stmt:=top 53
theorem sc_check_flows : FnScope ["net","flows"] ["net","flows"] (defScope s_check_flows):=⟨rfl,rfl,rfl,by decide +kernel,rfl,by decide +kernel,by decide +kernel⟩
abbrev s_sums_of : Stmt:=top 55
theorem sc_sums_of : FnScope ["net","flows"] ["net","flows"] (defScope s_sums_of):=⟨rfl,rfl,rfl,by decide +kernel,rfl,by decide +kernel,by decide +kernel⟩
abbrev s_heat : Stmt:=top 56
theorem sc_heat : FnScope ["net","flows"] ["net","flows"] (defScope s_heat):=⟨rfl,rfl,rfl,by decide +kernel,rfl,by decide +kernel,by decide +kernel⟩
abbrev s_stream : Stmt:=top 63
theorem sc_stream : FnScope ["net","one","other","part","heights","flows"] ["net","one","other"] (defScope s_stream):=⟨rfl,rfl,rfl,by decide +kernel,rfl,by decide +kernel,by decide +kernel⟩
abbrev s_hardness_of : Stmt:=top 64
theorem sc_hardness_of : FnScope ["net","one","other"] ["net","one","other"] (defScope s_hardness_of):=⟨rfl,rfl,rfl,by decide +kernel,rfl,by decide +kernel,by decide +kernel⟩
abbrev s_chance : Stmt:=top 65
theorem sc_chance : FnScope ["net","start","one","other","part","heights"] ["net","start","one","other"] (defScope s_chance):=⟨rfl,rfl,rfl,by decide +kernel,rfl,by decide +kernel,by decide +kernel⟩
abbrev s_share : Stmt:=top 67
theorem sc_share : FnScope ["net","at","pipes","pipe"] ["net","at"] (defScope s_share):=⟨rfl,rfl,rfl,by decide +kernel,rfl,by decide +kernel,by decide +kernel⟩
abbrev s__law_cell_at : Stmt:=top 69
theorem sc__law_cell_at : FnScope ["_law_script","_law_k"] ["_law_script","_law_k"] (defScope s__law_cell_at):=⟨rfl,rfl,rfl,by decide +kernel,rfl,by decide +kernel,by decide +kernel⟩
abbrev s__law_sort : Stmt:=top 71
theorem sc__law_sort : FnScope ["_law_error","_law_kinds"] ["_law_error"] (defScope s__law_sort):=⟨rfl,rfl,rfl,by decide +kernel,rfl,by decide +kernel,by decide +kernel⟩
abbrev s__law_net : Stmt:=top 72
theorem sc__law_net : FnScope ["_law_places","_law_pipes","_law_error"] ["_law_places","_law_pipes"] (defScope s__law_net):=⟨rfl,rfl,rfl,by decide +kernel,rfl,by decide +kernel,by decide +kernel⟩
abbrev s__law_ask : Stmt:=top 73
theorem sc__law_ask : FnScope ["_law_net_here","_law_way","_law_thing"] ["_law_net_here","_law_way","_law_thing"] (defScope s__law_ask):=⟨rfl,rfl,rfl,by decide +kernel,rfl,by decide +kernel,by decide +kernel⟩
abbrev s__law_asked : Stmt:=top 74
theorem sc__law_asked : FnScope ["_law_net_here","_law_way","_law_thing","_law_error"] ["_law_net_here","_law_way","_law_thing"] (defScope s__law_asked):=⟨rfl,rfl,rfl,by decide +kernel,rfl,by decide +kernel,by decide +kernel⟩
abbrev s__law_told : Stmt:=top 75
theorem sc__law_told : FnScope ["_law_net_here","_law_thing","_law_error"] ["_law_net_here","_law_thing"] (defScope s__law_told):=⟨rfl,rfl,rfl,by decide +kernel,rfl,by decide +kernel,by decide +kernel⟩
abbrev s__law_come : Stmt:=top 76
theorem sc__law_come : FnScope ["_law_way","_law_hard","_law_pairs","_law_error"] ["_law_way","_law_hard"] (defScope s__law_come):=⟨rfl,rfl,rfl,by decide +kernel,rfl,by decide +kernel,by decide +kernel⟩
abbrev s_law : Stmt:=top 77
theorem sc_law : FnScope ["_law_script","_law_far","_law_one","_law_places","_law_bad","_law_pipes","_law_great","_law_hardness","_law_pipe","_law_net_here","_law_thing","_law_way","_law_flows"] ["_law_script"] (defScope s_law):=⟨rfl,rfl,rfl,by decide +kernel,rfl,by decide +kernel,by decide +kernel⟩
theorem bt_int : bootBuiltins "int" = some (.type "int"):=by decide +kernel
theorem bt_bool : bootBuiltins "bool" = some (.type "bool"):=by decide +kernel
theorem bt_tuple : bootBuiltins "tuple" = some (.type "tuple"):=by decide +kernel
theorem bt_list : bootBuiltins "list" = some (.type "list"):=by decide +kernel
theorem bt_abs : bootBuiltins "abs" = some (.builtin "abs"):=by decide +kernel
theorem bt_len : bootBuiltins "len" = some (.builtin "len"):=by decide +kernel
theorem bt_min : bootBuiltins "min" = some (.builtin "min"):=by decide +kernel
theorem bt_max : bootBuiltins "max" = some (.builtin "max"):=by decide +kernel
theorem bt_all : bootBuiltins "all" = some (.builtin "all"):=by decide +kernel
theorem bt_ValueError : bootBuiltins "ValueError" = some (.type "ValueError"):=by decide +kernel
theorem ps_never {X : Cx} {st : Stmt} : PS X st (fun _ _ _=>False):=fun _ _ _ _ _ _ h=>h.elim
structure Txt (K : PySem.W.Frag) (mg : Str → Option Value) (C : Addr) (t1 t2 t3 : Tok) : Prop where
  n_isinstance : mg "isinstance" = none
  n_int : mg "int" = none
  n_bool : mg "bool" = none
  n_abs : mg "abs" = none
  n_len : mg "len" = none
  n_tuple : mg "tuple" = none
  n_list : mg "list" = none
  n_min : mg "min" = none
  n_max : mg "max" = none
  n_range : mg "range" = none
  n_all : mg "all" = none
  n_sorted : mg "sorted" = none
  n_enumerate : mg "enumerate" = none
  n_reversed : mg "reversed" = none
  n_zip : mg "zip" = none
  n_sum : mg "sum" = none
  n_any : mg "any" = none
  n_ValueError : mg "ValueError" = none
  m_MOST_PLACES : mg "MOST_PLACES" = some (.int 8 t1)
  m_MOST_PIPES : mg "MOST_PIPES" = some (.int 28 t2)
  m_MOST_IN_HARDNESS : mg "MOST_IN_HARDNESS" = some (.int 1000000000 t3)
  c_Net : Cls K C
  a_size : NoAttr K C "size"
  a_laid : NoAttr K C "laid"
def PipeAt (K : PySem.W.Frag) (H : Hp) (v : V) (p : Pipe) : Prop:=∃ x y,v = .ref x ∧ SqT K H x [.int p.u,.int p.w,.ref y] ∧ SqT K H y [.int p.a,.int p.b]
abbrev PipesAt (K : PySem.W.Frag) (H : Hp) : List V → List Pipe → Prop:=Paired (PipeAt K H)
structure PipeOk (n : Int) (p : Pipe) : Prop where
  u0 : 0 ≤ p.u
  un : p.u < n
  w0 : 0 ≤ p.w
  wn : p.w < n
  ne : p.u ≠ p.w
  a1 : 1 ≤ p.a
  aM : p.a ≤ 1000000000
  b1 : 1 ≤ p.b
  bM : p.b ≤ 1000000000
  gc : Int.gcd p.a p.b = 1
structure NetOk (n : Int) (ps : List Pipe) : Prop where
  n1 : 1 ≤ n
  n8 : n ≤ 8
  ok : ∀ p ∈ ps,PipeOk n p
  le : ps.length ≤ 28
def spWhole : Sp:=fun vs H Q _=>∃ i : Int,vs = [.int i] ∧ Q (.bl true) H
def spGcd : Sp:=fun vs H Q _=>∃ a b : Int,vs = [.int a,.int b] ∧ Q (.int (Int.gcd a b : Int)) H
def spFraction (K : PySem.W.Frag) : Sp:=fun vs H Q _=>∃ (y : Addr) (a b : Int),vs = [.ref y] ∧ SqT K H y [.int a,.int b] ∧ 0 < b ∧ Int.gcd a b = 1 ∧ Q (.bl true) H
def spCounts : Sp:=fun vs H Q _=>∃ i n : Int,vs = [.int i,.int n] ∧ 0 ≤ i ∧ i < n ∧ Q (.bl true) H
def spHard (K : PySem.W.Frag) : Sp:=fun vs H Q _=>∃ (y : Addr) (a b : Int),vs = [.ref y] ∧ SqT K H y [.int a,.int b] ∧ (1 ≤ a ∧ a ≤ 1000000000) ∧ (1 ≤ b ∧ b ≤ 1000000000) ∧ Int.gcd a b = 1 ∧ Q (.bl true) H
def spPipe (K : PySem.W.Frag) : Sp:=fun vs H Q _=>∃ (v : V) (n : Int) (p : Pipe),vs = [v,.int n] ∧ PipeAt K H v p ∧ PipeOk n p ∧ Q (.bl true) H
section
variable {K : PySem.W.Frag}
theorem ty_int {H : Hp} (i : Int) : TyX K H (.int i) (.type "int"):=.of (.int i)
theorem ii : PySem.W.kitOne K (.type "int") (.type "int") = some true:=by rfl
theorem ib : PySem.W.kitOne K (.type "int") (.type "bool") = some false:=by rfl
theorem tt : PySem.W.kitOne K (.type "tuple") (.type "tuple") = some true:=by rfl
end
section
variable {P : Program} {w : World} {K : PySem.W.Frag} {mg : Str → Option Value} {base : Heap} {C f fw fg ff fc fh fp : Addr} {fd fdw fdg fdf fdc fdh fdp : FuncData} {t1 t2 t3 : Tok}
theorem ok_whole (F : Fun K "is_whole" "is_whole" s_is_whole f fd) (T : Txt K mg C t1 t2 t3) : FnOk P w K mg base CX0 1 f fd ["value"] spWhole:=by
  refine F.ok sc_is_whole (fun vs H Q E h=>?_) (fun cdv A outer s H vs Q E hr h=>?_)
  · obtain ⟨i,rfl,_⟩:=h
    rfl
  · obtain ⟨i,rfl,q⟩:=h
    refine ⟨_,(pss_one (ps_ret (pe_and (pe_isiB rfl T.n_isinstance (pv 0) rfl T.n_int bt_int) (pe_one (pe_not (pe_isiB rfl T.n_isinstance (pv 0) rfl T.n_bool bt_bool)))))),?_⟩
    exact ⟨_,rfl,_,_,_,_,_,rfl,rfl,ty_int i,ii,_,rfl,iteT ⟨_,rfl,_,_,_,_,_,rfl,rfl,ty_int i,ib,_,rfl,q⟩⟩
theorem ok_gcd (F : Fun K "common_divisor" "common_divisor" s_common_divisor f fd) (T : Txt K mg C t1 t2 t3) : FnOk P w K mg base CX0 1 f fd ["a","b"] spGcd:=by
  refine F.ok sc_common_divisor (fun vs H Q E h=>?_) (fun cdv A outer s H vs Q E hr h=>?_)
  · obtain ⟨a,b,rfl,_⟩:=h
    rfl
  · obtain ⟨a,b,rfl,q⟩:=h
    refine ⟨_,(pss_cons (ps_set (i:=2) sc_common_divisor.nd rfl (Or.inl rfl) (pe_callB call_abs (by rfl) T.n_abs bt_abs (pa_cons (pv 0) pa_nil)))
      (pss_cons (ps_set (i:=3) sc_common_divisor.nd rfl (Or.inl rfl) (pe_callB call_abs (by rfl) T.n_abs bt_abs (pa_cons (pv 1) pa_nil)))
      (pss_cons (ps_while PassesOwn.never (pt_cmpR op_ne (pv 3) pe_int (nomark _)) (pss_cons (ps_set (i:=4) sc_common_divisor.nd rfl (Or.inl rfl) (pe_op op_mod (pv 2) (pv 3)))
      (pss_cons (ps_set (i:=2) sc_common_divisor.nd rfl (Or.inl rfl) (pv 3))
      (pss_one (ps_set (i:=3) sc_common_divisor.nd rfl (Or.inl rfl) (pv 4))))))
      (pss_one (ps_ret (pv 2)))))),?_⟩
    refine ⟨_,rfl,a,rfl,_,rfl,b,rfl,?_⟩
    refine while_by (fun σ H'=>∃ (x y : Int) (z : Option V),σ = [some (.int a),some (.int b),some (.int x),some (.int y),z] ∧ H' = H ∧ 0 ≤ x ∧ 0 ≤ y ∧ Nat.gcd x.natAbs y.natAbs = Int.gcd a b)
      (fun σ _=>match σ with | [_,_,_,some (.int y),_]=>y.natAbs | _=>0) ⟨_,_,none,rfl,rfl,?_,?_,?_⟩ ?_ ?_
    · split <;> omega
    · split <;> omega
    · unfold Int.gcd
      congr 1 <;> (split <;> omega)
    · rintro σ H' ⟨x,y,z,rfl,rfl,hx,hy,hg⟩
      refine ⟨_,rfl,rfl,_,rfl,?_⟩
      refine ite2 (fun h=>?_) (fun h=>?_)
      · have hy' : 0 < y:=by
          have : ¬ y = 0:=by simpa using h
          omega
        refine ⟨_,rfl,_,rfl,_,_,rfl,rfl,hy',_,rfl,_,rfl,⟨y,x % y,_,rfl,rfl,hy,Int.emod_nonneg _ (by omega),?_⟩,?_⟩
        · rw [My.gcd_turn x y hx hy',hg]
        · show (x % y).natAbs < y.natAbs
          have h1:=Int.emod_nonneg x (show y ≠ 0 by omega)
          have h2:=Int.emod_lt_of_pos x hy'
          omega
      · have hy' : y = 0:=by
          have : ¬ ¬ y = 0:=by simpa using h
          exact Classical.not_not.mp this
        subst hy'
        have e : x = (Int.gcd a b : Int):=by
          simp at hg
          omega
        subst e
        exact ⟨_,rfl,q⟩
    · rintro σ H' Q1 Q2 f ⟨v,e1,e2,k',e3,q'⟩
      exact ⟨v,e1,e2,k',e3,f _ _ q'⟩
theorem ok_fraction (F : Fun K "is_fraction" "is_fraction" s_is_fraction f fd) (T : Txt K mg C t1 t2 t3) (m_is_whole : mg "is_whole" = some (.ref fw)) (k_is_whole : PySem.W.keepIn K (.ref fw) = true) (b_is_whole : Binds K fdw ["value"] []) (G_is_whole : FnOk P w K mg base CX0 1 fw fdw ["value"] spWhole)
    (m_common_divisor : mg "common_divisor" = some (.ref fg)) (k_common_divisor : PySem.W.keepIn K (.ref fg) = true) (b_common_divisor : Binds K fdg ["a","b"] []) (G_common_divisor : FnOk P w K mg base CX0 1 fg fdg ["a","b"] spGcd) : FnOk P w K mg base CX0 2 f fd ["value"] (spFraction K):=by
  refine F.ok sc_is_fraction (fun vs H Q E h=>?_) (fun cdv A outer s H vs Q E hr h=>?_)
  · obtain ⟨y,a,b,rfl,_⟩:=h
    rfl
  · obtain ⟨y,a,b,rfl,hy,hb,hg,q⟩:=h
    refine ⟨_,(pss_cons (ps_if (PW.pt (pw_or (pt_not (pt_val (pe_isiB rfl T.n_isinstance (pv 0) rfl T.n_tuple bt_tuple))) (pw_or1 (pt_cmpR op_ne (pe_callB call_len_seq (by rfl) T.n_len bt_len (pa_cons (pv 0) pa_nil)) pe_int (nomark _))))) (pss_one (ps_ret pe_bl)) pss_nil)
      (pss_cons (ps_if (PW.pt (pw_or (pt_not (pt_val (pe_call G_is_whole (hr.mono (by decide)) rfl m_is_whole k_is_whole b_is_whole .nil pass0 (pa_cons (pe_ix ix_tup (pv 0) pe_int (fun _ _=>rfl)) pa_nil)))) (pw_or1 (pt_not (pt_val (pe_call G_is_whole (hr.mono (by decide)) rfl m_is_whole k_is_whole b_is_whole .nil pass0 (pa_cons (pe_ix ix_tup (pv 0) pe_int (fun _ _=>rfl)) pa_nil))))))) (pss_one (ps_ret pe_bl)) pss_nil)
      (pss_one (ps_ret (pe_and (pe_cmpR op_gt (pe_ix ix_tup (pv 0) pe_int (fun _ _=>rfl)) pe_int (nomark _)) (pe_one (pe_cmpR op_eq (pe_call G_common_divisor (hr.mono (by decide)) rfl m_common_divisor k_common_divisor b_common_divisor .nil pass0 (pa_cons (pe_ix ix_tup (pv 0) pe_int (fun _ _=>rfl)) (pa_cons (pe_ix ix_tup (pv 0) pe_int (fun _ _=>rfl)) pa_nil))) pe_int (nomark _)))))))),?_⟩
    refine ⟨_,rfl,_,_,_,_,_,rfl,rfl,TyX.tupS hy,tt,_,rfl,iteF ?_⟩
    refine ⟨_,rfl,y,_,rfl,.inr hy,rfl,_,rfl,iteF ?_⟩
    refine ⟨_,rfl,y,_,_,_,rfl,rfl,hy,rfl,a,rfl,_,rfl,iteF ?_⟩
    refine ⟨_,rfl,y,_,_,_,rfl,rfl,hy,rfl,b,rfl,_,rfl,iteF ?_⟩
    refine ⟨_,rfl,y,_,_,_,rfl,rfl,hy,rfl,_,_,rfl,rfl,_,rfl,?_⟩
    rw [decide_eq_true hb]
    refine iteT ?_
    refine ⟨_,rfl,y,_,_,_,rfl,rfl,hy,rfl,_,rfl,y,_,_,_,rfl,rfl,hy,rfl,a,b,rfl,rfl,?_⟩
    have e : decide (V.int (Int.gcd a b : Int) = V.int 1) = true:=decide_eq_true (by rw [hg]; rfl)
    rw [e]
    exact q
theorem ok_counts (F : Fun K "counts_one_of" "counts_one_of" s_counts_one_of f fd) (T : Txt K mg C t1 t2 t3) (m_is_whole : mg "is_whole" = some (.ref fw)) (k_is_whole : PySem.W.keepIn K (.ref fw) = true) (b_is_whole : Binds K fdw ["value"] []) (G_is_whole : FnOk P w K mg base CX0 1 fw fdw ["value"] spWhole) : FnOk P w K mg base CX0 2 f fd ["value","many"] spCounts:=by
  refine F.ok sc_counts_one_of (fun vs H Q E h=>?_) (fun cdv A outer s H vs Q E hr h=>?_)
  · obtain ⟨i,n,rfl,_⟩:=h
    rfl
  · obtain ⟨i,n,rfl,h0,hn,q⟩:=h
    refine ⟨_,(pss_one (ps_ret (pe_and (pe_call G_is_whole (hr.mono (by decide)) rfl m_is_whole k_is_whole b_is_whole .nil pass0 (pa_cons (pv 0) pa_nil)) (pe_one (pe_chain op_le op_lt pe_int (pv 0) (pv 1)))))),?_⟩
    refine ⟨_,rfl,i,rfl,_,rfl,iteT ?_⟩
    refine ⟨_,rfl,_,_,rfl,rfl,_,rfl,?_⟩
    rw [decide_eq_true h0]
    refine iteT ⟨_,rfl,_,_,rfl,rfl,?_⟩
    show Q (.bl (decide (i < n))) H
    rw [decide_eq_true hn]
    exact q
theorem ok_hard (F : Fun K "is_hardness" "is_hardness" s_is_hardness f fd) (T : Txt K mg C t1 t2 t3) (m_is_fraction : mg "is_fraction" = some (.ref ff)) (k_is_fraction : PySem.W.keepIn K (.ref ff) = true) (b_is_fraction : Binds K fdf ["value"] []) (G_is_fraction : FnOk P w K mg base CX0 2 ff fdf ["value"] (spFraction K)) : FnOk P w K mg base CX0 3 f fd ["value"] (spHard K):=by
  refine F.ok sc_is_hardness (fun vs H Q E h=>?_) (fun cdv A outer s H vs Q E hr h=>?_)
  · obtain ⟨y,a,b,rfl,_⟩:=h
    rfl
  · obtain ⟨y,a,b,rfl,hy,⟨a1,aM⟩,⟨b1,bM⟩,hg,q⟩:=h
    refine ⟨_,(pss_one (ps_ret (pe_and (pe_call G_is_fraction (hr.mono (by decide)) rfl m_is_fraction k_is_fraction b_is_fraction .nil pass0 (pa_cons (pv 0) pa_nil)) (pe_and (pe_cmpR op_ge (pe_callB (call_minT rfl) (by rfl) T.n_min bt_min (pa_cons (pv 0) pa_nil)) pe_int (nomark _)) (pe_one (pe_cmpR op_le (pe_callB (call_maxT rfl) (by rfl) T.n_max bt_max (pa_cons (pv 0) pa_nil)) (pe_glob (v:=.int 1000000000) rfl T.m_MOST_IN_HARDNESS ⟨_,rfl⟩) (nomark _))))))),?_⟩
    refine ⟨_,rfl,y,a,b,rfl,hy,by omega,hg,_,rfl,iteT ?_⟩
    refine ⟨_,rfl,y,a,b,rfl,hy,_,_,rfl,rfl,_,rfl,?_⟩
    rw [decide_eq_true (show (if b < a then b else a) ≥ 1 by split <;> omega)]
    refine iteT ?_
    refine ⟨_,rfl,y,a,b,rfl,hy,_,_,rfl,rfl,?_⟩
    show Q (.bl (decide ((if b > a then b else a) ≤ 1000000000))) H
    rw [decide_eq_true (show (if b > a then b else a) ≤ 1000000000 by split <;> omega)]
    exact q
theorem ok_pipe (F : Fun K "is_pipe" "is_pipe" s_is_pipe f fd) (T : Txt K mg C t1 t2 t3) (m_counts_one_of : mg "counts_one_of" = some (.ref fc)) (k_counts_one_of : PySem.W.keepIn K (.ref fc) = true) (b_counts_one_of : Binds K fdc ["value","many"] []) (G_counts_one_of : FnOk P w K mg base CX0 2 fc fdc ["value","many"] spCounts)
    (m_is_hardness : mg "is_hardness" = some (.ref fh)) (k_is_hardness : PySem.W.keepIn K (.ref fh) = true) (b_is_hardness : Binds K fdh ["value"] []) (G_is_hardness : FnOk P w K mg base CX0 3 fh fdh ["value"] (spHard K)) : FnOk P w K mg base CX0 4 f fd ["value","places"] (spPipe K):=by
  refine F.ok sc_is_pipe (fun vs H Q E h=>?_) (fun cdv A outer s H vs Q E hr h=>?_)
  · obtain ⟨v,n,p,rfl,_⟩:=h
    rfl
  · obtain ⟨v,n,p,rfl,⟨x,y,rfl,hx,hy⟩,ok,q⟩:=h
    refine ⟨_,(pss_cons (ps_if (PW.pt (pw_or (pt_not (pt_val (pe_isiB rfl T.n_isinstance (pv 0) rfl T.n_tuple bt_tuple))) (pw_or1 (pt_cmpR op_ne (pe_callB call_len_seq (by rfl) T.n_len bt_len (pa_cons (pv 0) pa_nil)) pe_int (nomark _))))) (pss_one (ps_ret pe_bl)) pss_nil)
      (pss_cons (ps_if (PW.pt (pw_or (pt_not (pt_val (pe_call G_counts_one_of (hr.mono (by decide)) rfl m_counts_one_of k_counts_one_of b_counts_one_of .nil pass0 (pa_cons (pe_ix ix_tup (pv 0) pe_int (fun _ _=>rfl)) (pa_cons (pv 1) pa_nil))))) (pw_or1 (pt_not (pt_val (pe_call G_counts_one_of (hr.mono (by decide)) rfl m_counts_one_of k_counts_one_of b_counts_one_of .nil pass0 (pa_cons (pe_ix ix_tup (pv 0) pe_int (fun _ _=>rfl)) (pa_cons (pv 1) pa_nil)))))))) (pss_one (ps_ret pe_bl)) pss_nil)
      (pss_one (ps_ret (pe_and (pe_cmpR op_ne (pe_ix ix_tup (pv 0) pe_int (fun _ _=>rfl)) (pe_ix ix_tup (pv 0) pe_int (fun _ _=>rfl)) (nomark _)) (pe_one (pe_call G_is_hardness (hr.mono (by decide)) rfl m_is_hardness k_is_hardness b_is_hardness .nil pass0 (pa_cons (pe_ix ix_tup (pv 0) pe_int (fun _ _=>rfl)) pa_nil)))))))),?_⟩
    refine ⟨_,rfl,_,_,_,_,_,rfl,rfl,TyX.tupS hx,tt,_,rfl,iteF ?_⟩
    refine ⟨_,rfl,x,_,rfl,.inr hx,rfl,_,rfl,iteF ?_⟩
    refine ⟨_,rfl,x,_,_,_,rfl,rfl,hx,rfl,_,rfl,p.u,n,rfl,ok.u0,ok.un,_,rfl,iteF ?_⟩
    refine ⟨_,rfl,x,_,_,_,rfl,rfl,hx,rfl,_,rfl,p.w,n,rfl,ok.w0,ok.wn,_,rfl,iteF ?_⟩
    refine ⟨_,rfl,x,_,_,_,rfl,rfl,hx,rfl,_,rfl,x,_,_,_,rfl,rfl,hx,rfl,rfl,_,rfl,?_⟩
    have e : decide (V.int p.u = V.int p.w) = false:=decide_eq_false fun z=>by injection z with z; exact ok.ne z
    rw [e]
    refine iteT ?_
    exact ⟨_,rfl,x,_,_,_,rfl,rfl,hx,rfl,y,p.a,p.b,rfl,hy,⟨ok.a1,ok.aM⟩,⟨ok.b1,ok.bM⟩,ok.gc,q⟩
end
end K2
namespace K2
open PySem L2 Mp
theorem PipeAt.same {K : PySem.W.Frag} {H H' : Hp} {v : V} {p : Pipe} (s : Same H H') (h : PipeAt K H v p) : PipeAt K H' v p:=by
  obtain ⟨x,y,rfl,hx,hy⟩:=h
  exact ⟨x,y,rfl,Same.tup s hx,Same.tup s hy⟩
theorem PipesAt.same {K : PySem.W.Frag} {H H' : Hp} (s : Same H H') : ∀ {us : List V} {ps : List Pipe},PipesAt K H us ps → PipesAt K H' us ps
  | _,_,.nil=>.nil
  | _,_,.cons a b=>.cons (a.same s) (PipesAt.same s b)
theorem PipesAt.get {K : PySem.W.Frag} {H : Hp} : ∀ {us : List V} {ps : List Pipe} {i : Nat} {v : V},PipesAt K H us ps → us[i]? = some v → ∃ p,ps[i]? = some p ∧ PipeAt K H v p
  | _,_,_,_,.nil,e=>by simp at e
  | _,_,0,_,.cons a _,e=>by simp at e; subst e; exact ⟨_,rfl,a⟩
  | _,_,i + 1,_,.cons _ b,e=>by simpa using PipesAt.get b (by simpa using e)
section
variable {P : Program} {w : World} {K : PySem.W.Frag} {mg : Str → Option Value} {base : Heap} {C f fw fg ff fc fh fp : Addr} {fd fdw fdg fdf fdc fdh fdp : FuncData} {t1 t2 t3 : Tok}
end
end K2
namespace K2
open PySem L2 Mp
theorem sl : ¬ (("size" : Str) = "laid"):=by decide +kernel
def flds (n : Int) (L : Addr) : List (Str × V):=putF "laid" (.ref L) (putF "size" (.int n) [])
theorem flds_size (n : Int) (L : Addr) : (flds n L).lookup ("size" : Str) = some (.int n):=by
  unfold flds
  rw [lookup_putF,if_neg sl,lookup_putF,if_pos rfl]
theorem flds_laid (n : Int) (L : Addr) : (flds n L).lookup ("laid" : Str) = some (.ref L):=by
  unfold flds
  rw [lookup_putF,if_pos rfl]
theorem flds_no (n : Int) (L : Addr) {m : Str} (h1 : ¬ m = "laid") (h2 : ¬ m = "size") : (flds n L).lookup m = none:=by
  unfold flds
  rw [lookup_putF,if_neg h1,lookup_putF,if_neg h2]
  all_goals rfl
structure NetAt (K : PySem.W.Frag) (C : Addr) (H : Hp) (x L : Addr) (n : Int) (ps : List Pipe) : Prop where
  ob : ∃ dx,H x = some (.ins C dx (flds n L))
  pi : ∃ us,H L = some (.lst us) ∧ PipesAt K H us ps
theorem NetAt.same {K : PySem.W.Frag} {C : Addr} {H H' : Hp} {x L : Addr} {n : Int} {ps : List Pipe} (s : Same H H') (h : NetAt K C H x L n ps) : NetAt K C H' x L n ps:=by
  obtain ⟨⟨dx,h1⟩,us,h2,h3⟩:=h
  exact ⟨⟨dx,s _ _ h1⟩,us,s _ _ h2,PipesAt.same s h3⟩
def spPipes (K : PySem.W.Frag) (C : Addr) : Sp:=fun vs H Q _=>∃ (x L : Addr) (n : Int) (ps : List Pipe),vs = [.ref x] ∧ NetAt K C H x L n ps ∧ ∀ (r : Addr) (us : List V),H r = none → PipesAt K H us ps → Q (.ref r) (upd H r (.lst us))
section
variable {P : Program} {w : World} {K : PySem.W.Frag} {mg : Str → Option Value} {base : Heap} {C f fn fb fc : Addr} {fd fdn fdb fdc : FuncData} {t1 t2 t3 : Tok}
theorem PipeAt.ne {H : Hp} {v : V} {p : Pipe} {x : Addr} {o o' : HO} (h : PipeAt K H v p) (hx : H x = some o) (n1 : ∀ ys,o ≠ .tup ys) (n2 : ∀ ob ys,o ≠ .frz ob (.tup ys)) : PipeAt K (upd H x o') v p:=by
  obtain ⟨a,b,rfl,h1,h2⟩:=h
  have key : ∀ {c : Addr} {xs : List V},SqT K H c xs → SqT K (upd H x o') c xs:=fun {c xs} h=>by
    rcases h with (z | ⟨ob,z⟩) | z
    · exact .inl (.inl (by rw [upd_ne (ne_of z hx (fun e=>n1 _ e.symm))]; exact z))
    · exact .inl (.inr ⟨ob,by rw [upd_ne (ne_of z hx (fun e=>n2 _ _ e.symm))]; exact z⟩)
    · exact .inr z
  exact ⟨a,b,rfl,key h1,key h2⟩
theorem PipesAt.ne {H : Hp} {x : Addr} {o o' : HO} (hx : H x = some o) (n1 : ∀ ys,o ≠ .tup ys) (n2 : ∀ ob ys,o ≠ .frz ob (.tup ys)) : ∀ {us : List V} {ps : List Pipe},PipesAt K H us ps → PipesAt K (upd H x o') us ps
  | _,_,.nil=>.nil
  | _,_,.cons a b=>.cons (a.ne hx n1 n2) (PipesAt.ne hx n1 n2 b)
theorem PipesAt.snoc {H : Hp} : ∀ {us : List V} {ps : List Pipe} {v : V} {p : Pipe},PipesAt K H us ps → PipeAt K H v p → PipesAt K H (us ++ [v]) (ps ++ [p])
  | _,_,_,_,.nil,h=>.cons h .nil
  | _,_,_,_,.cons a b,h=>.cons a (PipesAt.snoc b h)
theorem SqL.ne {H : Hp} {x l : Addr} {o o' : HO} {xs : List V} (h : SqL K H l xs) (hx : H x = some o) (n1 : ∀ ys,o ≠ .lst ys) (n2 : ∀ ob ys,o ≠ .frz ob (.lst ys)) : SqL K (upd H x o') l xs:=by
  rcases h with (z | ⟨ob,z⟩) | z
  · exact .inl (.inl (by rw [upd_ne (ne_of z hx (fun e=>n1 _ e.symm))]; exact z))
  · exact .inl (.inr ⟨ob,by rw [upd_ne (ne_of z hx (fun e=>n2 _ _ e.symm))]; exact z⟩)
  · exact .inr z
theorem ok_pipes (F : Fun K "pipes" "Net.pipes" s_Net_pipes f fd) (T : Txt K mg C t1 t2 t3) : FnOk P w K mg base CX0 1 f fd ["self"] (spPipes K C):=by
  refine F.ok sc_Net_pipes (fun vs H Q E h=>?_) (fun cdv A outer s H vs Q E hr h=>?_)
  · obtain ⟨x,L,n,ps,rfl,_⟩:=h
    rfl
  · obtain ⟨x,L,n,ps,rfl,⟨⟨dx,h1⟩,us,h2,h3⟩,q⟩:=h
    refine ⟨_,(pss_one (ps_ret (pe_callTy call_list_of (by rfl) T.n_list bt_list (pa_cons (pe_fld (pv 0) rfl) pa_nil)))),?_⟩
    exact ⟨_,rfl,x,C,dx,_,_,rfl,h1,T.c_Net,T.a_laid,flds_laid _ _,L,us,rfl,.inl (SqL.of h2),fun r hr'=>q r us hr' h3⟩
end
end K2
namespace K2
open PySem L2 Mp
def wholeD : PyData → Bool
  | .int _=>true
  | _=>false
def countsD (d : PyData) (n : Int) : Bool:=match d with
  | .int i=>decide (0 ≤ i ∧ i < n)
  | _=>false
def fracD : PyData → Bool
  | .tuple [.int a,.int b]=>decide (0 < b ∧ Int.gcd a b = 1)
  | _=>false
def hardD : PyData → Bool
  | .tuple [.int a,.int b]=>decide ((1 ≤ a ∧ a ≤ 1000000000) ∧ (1 ≤ b ∧ b ≤ 1000000000) ∧ Int.gcd a b = 1)
  | _=>false
def pipeD (n : Int) : PyData → Bool
  | .tuple [.int u,.int w,h]=>decide ((0 ≤ u ∧ u < n) ∧ (0 ≤ w ∧ w < n) ∧ u ≠ w) && hardD h
  | _=>false
def netD : PyData → PyData → Bool
  | .int n,.list ds=>decide (1 ≤ n ∧ n ≤ 8 ∧ ds.length ≤ 28) && ds.all (pipeD n)
  | _,_=>false
def spWholeD (K : PySem.W.Frag) : Sp:=fun vs H Q _=>∃ (v : V) (d : PyData),vs = [v] ∧ Rep K H v d ∧ Q (.bl (wholeD d)) H
def spCountsD (K : PySem.W.Frag) : Sp:=fun vs H Q _=>∃ (v : V) (d : PyData) (n : Int),vs = [v,.int n] ∧ Rep K H v d ∧ Q (.bl (countsD d n)) H
def spFracD (K : PySem.W.Frag) : Sp:=fun vs H Q _=>∃ (v : V) (d : PyData),vs = [v] ∧ Rep K H v d ∧ Q (.bl (fracD d)) H
def spHardD (K : PySem.W.Frag) : Sp:=fun vs H Q _=>∃ (v : V) (d : PyData),vs = [v] ∧ Rep K H v d ∧ Q (.bl (hardD d)) H
def spPipeD (K : PySem.W.Frag) : Sp:=fun vs H Q _=>∃ (v : V) (d : PyData) (n : Int),vs = [v,.int n] ∧ Rep K H v d ∧ Q (.bl (pipeD n d)) H
def spNetD (K : PySem.W.Frag) : Sp:=fun vs H Q _=>∃ (v u : V) (d e : PyData),vs = [v,u] ∧ Rep K H v d ∧ Rep K H u e ∧ ∀ H',Same H H' → Q (.bl (netD d e)) H'
section
variable {P : Program} {w : World} {K : PySem.W.Frag} {mg : Str → Option Value} {base : Heap} {C f fw fg ff fc fh fp : Addr} {fd fdw fdg fdf fdc fdh fdp : FuncData} {t1 t2 t3 : Tok}
theorem ok_wholeD (F : Fun K "is_whole" "is_whole" s_is_whole f fd) (T : Txt K mg C t1 t2 t3) : FnOk P w K mg base CX0 1 f fd ["value"] (spWholeD K):=by
  refine F.ok sc_is_whole (fun vs H Q E h=>?_) (fun cdv A outer s H vs Q E hr h=>?_)
  · obtain ⟨v,d,rfl,_⟩:=h
    rfl
  · obtain ⟨v,d,rfl,r,q⟩:=h
    refine ⟨_,(pss_one (ps_ret (pe_and (pe_isiB rfl T.n_isinstance (pv 0) rfl T.n_int bt_int) (pe_one (pe_not (pe_isiB rfl T.n_isinstance (pv 0) rfl T.n_bool bt_bool)))))),?_⟩
    refine ⟨_,rfl,_,_,_,_,_,rfl,rfl,r.ty,r.kInt,_,rfl,?_⟩
    cases r with
    | int i=>exact iteT ⟨_,rfl,_,_,_,_,_,rfl,rfl,.of (.int i),(Rep.int (H:=H) i).kBool,_,rfl,q⟩
    | bl b=>exact iteT ⟨_,rfl,_,_,_,_,_,rfl,rfl,.of (.bl b),(Rep.bl (H:=H) b).kBool,_,rfl,q⟩
    | _=>exact iteF q
theorem ok_countsD (F : Fun K "counts_one_of" "counts_one_of" s_counts_one_of f fd) (T : Txt K mg C t1 t2 t3) (m_is_whole : mg "is_whole" = some (.ref fw)) (k_is_whole : PySem.W.keepIn K (.ref fw) = true) (b_is_whole : Binds K fdw ["value"] []) (G_is_whole : FnOk P w K mg base CX0 1 fw fdw ["value"] (spWholeD K)) : FnOk P w K mg base CX0 2 f fd ["value","many"] (spCountsD K):=by
  refine F.ok sc_counts_one_of (fun vs H Q E h=>?_) (fun cdv A outer s H vs Q E hr h=>?_)
  · obtain ⟨v,d,n,rfl,_⟩:=h
    rfl
  · obtain ⟨v,d,n,rfl,r,q⟩:=h
    refine ⟨_,(pss_one (ps_ret (pe_and (pe_call G_is_whole (hr.mono (by decide)) rfl m_is_whole k_is_whole b_is_whole .nil pass0 (pa_cons (pv 0) pa_nil)) (pe_one (pe_chain op_le op_lt pe_int (pv 0) (pv 1)))))),?_⟩
    refine ⟨_,rfl,v,d,rfl,r,_,rfl,?_⟩
    cases r with
    | int i =>
      refine iteT ?_
      refine ⟨_,rfl,_,_,rfl,rfl,_,rfl,?_⟩
      by_cases h0 : 0 ≤ i
      · rw [decide_eq_true h0]
        refine iteT ⟨_,rfl,_,_,rfl,rfl,?_⟩
        have e : countsD (.int i) n = decide (i < n):=by
          show decide (0 ≤ i ∧ i < n) = _
          simp [h0]
        rw [e] at q
        exact q
      · rw [decide_eq_false h0]
        have e : countsD (.int i) n = false:=decide_eq_false fun z=>h0 z.1
        rw [e] at q
        exact iteF q
    | _=>exact iteF q
theorem ok_fracD (F : Fun K "is_fraction" "is_fraction" s_is_fraction f fd) (T : Txt K mg C t1 t2 t3) (m_is_whole : mg "is_whole" = some (.ref fw)) (k_is_whole : PySem.W.keepIn K (.ref fw) = true) (b_is_whole : Binds K fdw ["value"] []) (G_is_whole : FnOk P w K mg base CX0 1 fw fdw ["value"] (spWholeD K))
    (m_common_divisor : mg "common_divisor" = some (.ref fg)) (k_common_divisor : PySem.W.keepIn K (.ref fg) = true) (b_common_divisor : Binds K fdg ["a","b"] []) (G_common_divisor : FnOk P w K mg base CX0 1 fg fdg ["a","b"] spGcd) : FnOk P w K mg base CX0 2 f fd ["value"] (spFracD K):=by
  refine F.ok sc_is_fraction (fun vs H Q E h=>?_) (fun cdv A outer s H vs Q E hr h=>?_)
  · obtain ⟨v,d,rfl,_⟩:=h
    rfl
  · obtain ⟨v,d,rfl,r,q⟩:=h
    refine ⟨_,(pss_cons (ps_if (PW.pt (pw_or (pt_not (pt_val (pe_isiB rfl T.n_isinstance (pv 0) rfl T.n_tuple bt_tuple))) (pw_or1 (pt_cmpR op_ne (pe_callB call_len_seq (by rfl) T.n_len bt_len (pa_cons (pv 0) pa_nil)) pe_int (nomark _))))) (pss_one (ps_ret pe_bl)) pss_nil)
      (pss_cons (ps_if (PW.pt (pw_or (pt_not (pt_val (pe_call G_is_whole (hr.mono (by decide)) rfl m_is_whole k_is_whole b_is_whole .nil pass0 (pa_cons (pe_ix ix_tup (pv 0) pe_int (fun _ _=>rfl)) pa_nil)))) (pw_or1 (pt_not (pt_val (pe_call G_is_whole (hr.mono (by decide)) rfl m_is_whole k_is_whole b_is_whole .nil pass0 (pa_cons (pe_ix ix_tup (pv 0) pe_int (fun _ _=>rfl)) pa_nil))))))) (pss_one (ps_ret pe_bl)) pss_nil)
      (pss_one (ps_ret (pe_and (pe_cmpR op_gt (pe_ix ix_tup (pv 0) pe_int (fun _ _=>rfl)) pe_int (nomark _)) (pe_one (pe_cmpR op_eq (pe_call G_common_divisor (hr.mono (by decide)) rfl m_common_divisor k_common_divisor b_common_divisor .nil pass0 (pa_cons (pe_ix ix_tup (pv 0) pe_int (fun _ _=>rfl)) (pa_cons (pe_ix ix_tup (pv 0) pe_int (fun _ _=>rfl)) pa_nil))) pe_int (nomark _)))))))),?_⟩
    refine ⟨_,rfl,_,_,_,_,_,rfl,rfl,r.ty,r.kTuple,_,rfl,?_⟩
    cases r with
    | @tup y xs ds hy rs =>
      refine iteF ?_
      refine ⟨_,rfl,y,_,rfl,.inr hy,rfl,_,rfl,?_⟩
      have hl:=rs.len
      by_cases h2 : xs.length = 2
      · rw [decide_eq_true (show V.int (xs.length : Int) = V.int 2 by rw [h2]; rfl)]
        refine iteF ?_
        cases rs with
        | nil=>cases h2
        | cons r0 rs =>
          cases rs with
          | nil=>cases h2
          | cons r1 rs =>
            cases rs with
            | cons _ _=>simp at h2
            | nil =>
              rename_i x0 d0 x1 d1
              refine ⟨_,rfl,y,_,_,_,rfl,rfl,hy,rfl,x0,d0,rfl,r0,_,rfl,?_⟩
              cases r0 with
              | int a =>
                refine iteF ?_
                refine ⟨_,rfl,y,_,_,_,rfl,rfl,hy,rfl,x1,d1,rfl,r1,_,rfl,?_⟩
                cases r1 with
                | int b =>
                  refine iteF ?_
                  refine ⟨_,rfl,y,_,_,_,rfl,rfl,hy,rfl,_,_,rfl,rfl,_,rfl,?_⟩
                  by_cases hb : 0 < b
                  · rw [decide_eq_true hb]
                    refine iteT ?_
                    refine ⟨_,rfl,y,_,_,_,rfl,rfl,hy,rfl,_,rfl,y,_,_,_,rfl,rfl,hy,rfl,a,b,rfl,rfl,?_⟩
                    have e : fracD (.tuple [.int a,.int b]) = decide (V.int (Int.gcd a b : Int) = V.int 1):=by
                      show decide (0 < b ∧ Int.gcd a b = 1) = _
                      by_cases hg : Int.gcd a b = 1
                      · rw [decide_eq_true ⟨hb,hg⟩,decide_eq_true (by rw [hg]; rfl)]
                      · rw [decide_eq_false (fun z=>hg z.2),decide_eq_false (fun z=>hg (by injection z with z; omega))]
                    rw [e] at q
                    exact q
                  · rw [decide_eq_false hb]
                    have e : fracD (.tuple [.int a,.int b]) = false:=decide_eq_false fun z=>hb z.1
                    rw [e] at q
                    exact iteF q
                | _=>exact iteT q
              | _=>exact iteT q
      · rw [decide_eq_false (show ¬ V.int (xs.length : Int) = V.int 2 from fun z=>h2 (by injection z with z; omega))]
        have e : fracD (.tuple ds) = false:=by
          match ds,hl with
          | [],_=>rfl
          | [x],_=>cases x <;> rfl
          | [_,_],hl=>exact absurd hl h2
          | a :: b :: c :: r,_=>cases a <;> cases b <;> rfl
        rw [e] at q
        exact iteT q
    | _=>exact iteT q
end
end K2
namespace K2
open PySem L2 Mp
theorem fracD_inv {d : PyData} (h : fracD d = true) : ∃ a b,d = .tuple [.int a,.int b] ∧ 0 < b ∧ Int.gcd a b = 1:=by
  unfold fracD at h
  split at h
  · exact ⟨_,_,rfl,(of_decide_eq_true h).1,(of_decide_eq_true h).2⟩
  · cases h
theorem hardD_frac {d : PyData} (h : fracD d = false) : hardD d = false:=by
  unfold hardD
  split
  · rename_i a b
    refine decide_eq_false fun z=>?_
    have : fracD (.tuple [.int a,.int b]) = true:=decide_eq_true ⟨by omega,z.2.2⟩
    rw [this] at h
    cases h
  · rfl
theorem pair_of {K : PySem.W.Frag} {H : Hp} {v : V} {a b : Int} (r : Rep K H v (.tuple [.int a,.int b])) : ∃ y,v = .ref y ∧ SqT K H y [.int a,.int b]:=by
  cases r with
  | tup hy rs =>
    cases rs with
    | cons r0 rs =>
      cases rs with
      | cons r1 rs =>
        cases rs
        cases r0
        cases r1
        exact ⟨_,rfl,hy⟩
section
variable {P : Program} {w : World} {K : PySem.W.Frag} {mg : Str → Option Value} {base : Heap} {C f fw fg ff fc fh fp : Addr} {fd fdw fdg fdf fdc fdh fdp : FuncData} {t1 t2 t3 : Tok}
theorem ok_hardD (F : Fun K "is_hardness" "is_hardness" s_is_hardness f fd) (T : Txt K mg C t1 t2 t3) (m_is_fraction : mg "is_fraction" = some (.ref ff)) (k_is_fraction : PySem.W.keepIn K (.ref ff) = true) (b_is_fraction : Binds K fdf ["value"] []) (G_is_fraction : FnOk P w K mg base CX0 2 ff fdf ["value"] (spFracD K)) : FnOk P w K mg base CX0 3 f fd ["value"] (spHardD K):=by
  refine F.ok sc_is_hardness (fun vs H Q E h=>?_) (fun cdv A outer s H vs Q E hr h=>?_)
  · obtain ⟨v,d,rfl,_⟩:=h
    rfl
  · obtain ⟨v,d,rfl,r,q⟩:=h
    refine ⟨_,(pss_one (ps_ret (pe_and (pe_call G_is_fraction (hr.mono (by decide)) rfl m_is_fraction k_is_fraction b_is_fraction .nil pass0 (pa_cons (pv 0) pa_nil)) (pe_and (pe_cmpR op_ge (pe_callB (call_minT rfl) (by rfl) T.n_min bt_min (pa_cons (pv 0) pa_nil)) pe_int (nomark _)) (pe_one (pe_cmpR op_le (pe_callB (call_maxT rfl) (by rfl) T.n_max bt_max (pa_cons (pv 0) pa_nil)) (pe_glob (v:=.int 1000000000) rfl T.m_MOST_IN_HARDNESS ⟨_,rfl⟩) (nomark _))))))),?_⟩
    refine ⟨_,rfl,v,d,rfl,r,_,rfl,?_⟩
    by_cases hf : fracD d = true
    · rw [hf]
      refine iteT ?_
      obtain ⟨a,b,rfl,hb,hg⟩:=fracD_inv hf
      obtain ⟨y,rfl,hy⟩:=pair_of r
      refine ⟨_,rfl,y,a,b,rfl,hy,_,_,rfl,rfl,_,rfl,?_⟩
      by_cases hm : (if b < a then b else a) ≥ 1
      · rw [decide_eq_true hm]
        refine iteT ?_
        refine ⟨_,rfl,y,a,b,rfl,hy,_,_,rfl,rfl,?_⟩
        have e : hardD (.tuple [.int a,.int b]) = decide ((if b > a then b else a) ≤ 1000000000):=by
          show decide _ = _
          apply decide_eq_decide.mpr
          constructor
          · intro z
            split <;> omega
          · intro z
            refine ⟨?_,?_,hg⟩ <;> (split at z <;> split at hm <;> omega)
        rw [e] at q
        exact q
      · rw [decide_eq_false hm]
        have e : hardD (.tuple [.int a,.int b]) = false:=decide_eq_false fun z=>hm (by split <;> omega)
        rw [e] at q
        exact iteF q
    · have hf' : fracD d = false:=by simpa using hf
      rw [hf']
      rw [hardD_frac hf'] at q
      exact iteF q
theorem ok_pipeD (F : Fun K "is_pipe" "is_pipe" s_is_pipe f fd) (T : Txt K mg C t1 t2 t3) (m_counts_one_of : mg "counts_one_of" = some (.ref fc)) (k_counts_one_of : PySem.W.keepIn K (.ref fc) = true) (b_counts_one_of : Binds K fdc ["value","many"] []) (G_counts_one_of : FnOk P w K mg base CX0 2 fc fdc ["value","many"] (spCountsD K))
    (m_is_hardness : mg "is_hardness" = some (.ref fh)) (k_is_hardness : PySem.W.keepIn K (.ref fh) = true) (b_is_hardness : Binds K fdh ["value"] []) (G_is_hardness : FnOk P w K mg base CX0 3 fh fdh ["value"] (spHardD K)) : FnOk P w K mg base CX0 4 f fd ["value","places"] (spPipeD K):=by
  refine F.ok sc_is_pipe (fun vs H Q E h=>?_) (fun cdv A outer s H vs Q E hr h=>?_)
  · obtain ⟨v,d,n,rfl,_⟩:=h
    rfl
  · obtain ⟨v,d,n,rfl,r,q⟩:=h
    refine ⟨_,(pss_cons (ps_if (PW.pt (pw_or (pt_not (pt_val (pe_isiB rfl T.n_isinstance (pv 0) rfl T.n_tuple bt_tuple))) (pw_or1 (pt_cmpR op_ne (pe_callB call_len_seq (by rfl) T.n_len bt_len (pa_cons (pv 0) pa_nil)) pe_int (nomark _))))) (pss_one (ps_ret pe_bl)) pss_nil)
      (pss_cons (ps_if (PW.pt (pw_or (pt_not (pt_val (pe_call G_counts_one_of (hr.mono (by decide)) rfl m_counts_one_of k_counts_one_of b_counts_one_of .nil pass0 (pa_cons (pe_ix ix_tup (pv 0) pe_int (fun _ _=>rfl)) (pa_cons (pv 1) pa_nil))))) (pw_or1 (pt_not (pt_val (pe_call G_counts_one_of (hr.mono (by decide)) rfl m_counts_one_of k_counts_one_of b_counts_one_of .nil pass0 (pa_cons (pe_ix ix_tup (pv 0) pe_int (fun _ _=>rfl)) (pa_cons (pv 1) pa_nil)))))))) (pss_one (ps_ret pe_bl)) pss_nil)
      (pss_one (ps_ret (pe_and (pe_cmpR op_ne (pe_ix ix_tup (pv 0) pe_int (fun _ _=>rfl)) (pe_ix ix_tup (pv 0) pe_int (fun _ _=>rfl)) (nomark _)) (pe_one (pe_call G_is_hardness (hr.mono (by decide)) rfl m_is_hardness k_is_hardness b_is_hardness .nil pass0 (pa_cons (pe_ix ix_tup (pv 0) pe_int (fun _ _=>rfl)) pa_nil)))))))),?_⟩
    refine ⟨_,rfl,_,_,_,_,_,rfl,rfl,r.ty,r.kTuple,_,rfl,?_⟩
    cases r with
    | @tup x xs ds hx rs =>
      refine iteF ?_
      refine ⟨_,rfl,x,_,rfl,.inr hx,rfl,_,rfl,?_⟩
      have hl:=rs.len
      by_cases h3 : xs.length = 3
      · rw [decide_eq_true (show V.int (xs.length : Int) = V.int 3 by rw [h3]; rfl)]
        refine iteF ?_
        cases rs with
        | nil=>cases h3
        | cons r0 rs =>
          cases rs with
          | nil=>cases h3
          | cons r1 rs =>
            cases rs with
            | nil=>cases h3
            | cons r2 rs =>
              cases rs with
              | cons _ _=>simp at h3
              | nil =>
                rename_i x0 d0 x1 d1 x2 d2
                refine ⟨_,rfl,x,_,_,_,rfl,rfl,hx,rfl,_,rfl,x0,d0,n,rfl,r0,_,rfl,?_⟩
                by_cases c0 : countsD d0 n = true
                · rw [c0]
                  refine iteF ?_
                  refine ⟨_,rfl,x,_,_,_,rfl,rfl,hx,rfl,_,rfl,x1,d1,n,rfl,r1,_,rfl,?_⟩
                  by_cases c1 : countsD d1 n = true
                  · rw [c1]
                    refine iteF ?_
                    cases r0 with
                    | int u =>
                      cases r1 with
                      | int w' =>
                        have b0:=of_decide_eq_true (show decide (0 ≤ u ∧ u < n) = true from c0)
                        have b1:=of_decide_eq_true (show decide (0 ≤ w' ∧ w' < n) = true from c1)
                        refine ⟨_,rfl,x,_,_,_,rfl,rfl,hx,rfl,_,rfl,x,_,_,_,rfl,rfl,hx,rfl,rfl,_,rfl,?_⟩
                        by_cases e : u = w'
                        · rw [decide_eq_true (show V.int u = V.int w' by rw [e])]
                          have eq : pipeD n (.tuple [.int u,.int w',d2]) = false:=by
                            show (decide _ && _) = false
                            rw [decide_eq_false (fun z=>z.2.2 e)]
                            rfl
                          rw [eq] at q
                          exact iteF q
                        · rw [decide_eq_false (show ¬ V.int u = V.int w' from fun z=>e (by injection z))]
                          refine iteT ?_
                          have eq : pipeD n (.tuple [.int u,.int w',d2]) = hardD d2:=by
                            show (decide _ && _) = hardD d2
                            rw [decide_eq_true ⟨b0,b1,e⟩]
                            rfl
                          rw [eq] at q
                          exact ⟨_,rfl,x,_,_,_,rfl,rfl,hx,rfl,x2,d2,rfl,r2,q⟩
                      | _=>cases c1
                    | _=>cases c0
                  · have c1' : countsD d1 n = false:=by simpa using c1
                    rw [c1']
                    have eq : pipeD n (.tuple [d0,d1,d2]) = false:=by
                      cases d0 <;> cases d1 <;> first
                        | rfl
                        | (show (decide _ && _) = false
                           rw [decide_eq_false (fun z=>absurd (decide_eq_true z.2.1) c1)]
                           rfl)
                    rw [eq] at q
                    exact iteT q
                · have c0' : countsD d0 n = false:=by simpa using c0
                  rw [c0']
                  have eq : pipeD n (.tuple [d0,d1,d2]) = false:=by
                    cases d0 <;> cases d1 <;> first
                      | rfl
                      | (show (decide _ && _) = false
                         rw [decide_eq_false (fun z=>absurd (decide_eq_true z.1) c0)]
                         rfl)
                  rw [eq] at q
                  exact iteT q
      · rw [decide_eq_false (show ¬ V.int (xs.length : Int) = V.int 3 from fun z=>h3 (by injection z with z; omega))]
        have e : pipeD n (.tuple ds) = false:=by
          match ds,hl with
          | [],_=>rfl
          | [x],_=>cases x <;> rfl
          | [x,y],_=>cases x <;> cases y <;> rfl
          | [_,_,_],hl=>exact absurd hl h3
          | a :: b :: c :: d :: r,_=>cases a <;> cases b <;> rfl
        rw [e] at q
        exact iteT q
    | _=>exact iteT q
theorem ok_netD (F : Fun K "is_net" "is_net" s_is_net f fd) (T : Txt K mg C t1 t2 t3) (m_is_whole : mg "is_whole" = some (.ref fw)) (k_is_whole : PySem.W.keepIn K (.ref fw) = true) (b_is_whole : Binds K fdw ["value"] []) (G_is_whole : FnOk P w K mg base CX0 1 fw fdw ["value"] (spWholeD K))
    (m_is_pipe : mg "is_pipe" = some (.ref fp)) (k_is_pipe : PySem.W.keepIn K (.ref fp) = true) (b_is_pipe : Binds K fdp ["value","places"] []) (G_is_pipe : FnOk P w K mg base CX0 4 fp fdp ["value","places"] (spPipeD K)) : FnOk P w K mg base CX0 5 f fd ["places","pipes"] (spNetD K):=by
  refine F.ok sc_is_net (fun vs H Q E h=>?_) (fun cdv A outer s H vs Q E hr h=>?_)
  · obtain ⟨v,u,d,e,rfl,_⟩:=h
    rfl
  · obtain ⟨v,u,d,e,rfl,r,r',q⟩:=h
    refine ⟨_,(pss_cons (ps_if (PW.pt (pw_or (pt_not (pt_val (pe_call G_is_whole (hr.mono (by decide)) rfl m_is_whole k_is_whole b_is_whole .nil pass0 (pa_cons (pv 0) pa_nil)))) (pw_or1 (pt_not (pt_chain op_le op_le pe_int (pv 0) (pe_glob (v:=.int 8) rfl T.m_MOST_PLACES ⟨_,rfl⟩)))))) (pss_one (ps_ret pe_bl)) pss_nil)
      (pss_cons (ps_if (PW.pt (pw_or (pt_not (pt_val (pe_isiB rfl T.n_isinstance (pv 1) rfl T.n_list bt_list))) (pw_or1 (pt_cmpR op_gt (pe_callB call_len_seq (by rfl) T.n_len bt_len (pa_cons (pv 1) pa_nil)) (pe_glob (v:=.int 28) rfl T.m_MOST_PIPES ⟨_,rfl⟩) (nomark _))))) (pss_one (ps_ret pe_bl)) pss_nil)
      (pss_one (ps_ret (pe_callB (call_all rfl) (by rfl) T.n_all bt_all (pa_cons (pe_comp ["pipe"] [0] rfl rfl (by kernel_rfl) (pi_list (pv 1)) (fun _ _ _ _=>(pg_name (i:=0) (show (["pipe","places"] : List Str).Nodup by decide +kernel) rfl (Or.inl rfl))) (fun _ _ _ _=>gk_name) (fun _ _ _ _=>pf_nil) (fun _ _ _ _=>(pe_call G_is_pipe (hr.mono (by decide)) rfl m_is_pipe k_is_pipe b_is_pipe .nil pass0 (pa_cons (pv 0) (pa_cons (pv 1) pa_nil))))) pa_nil)))))),?_⟩
    refine ⟨_,rfl,v,d,rfl,r,_,rfl,?_⟩
    cases r with
    | int n =>
      refine iteF ?_
      refine ⟨_,rfl,_,_,rfl,rfl,_,rfl,?_⟩
      by_cases n1 : 1 ≤ n
      · rw [decide_eq_true n1]
        refine iteT ?_
        refine ⟨_,_,rfl,rfl,_,rfl,?_⟩
        by_cases n8 : n ≤ 8
        · rw [decide_eq_true n8]
          refine iteF ?_
          refine ⟨_,rfl,_,_,_,_,_,rfl,rfl,r'.ty,r'.kList,_,rfl,?_⟩
          cases r' with
          | @lst l us ds hl rs =>
            refine iteF ?_
            have hlen:=rs.len
            refine ⟨_,rfl,l,_,rfl,.inl hl,_,_,rfl,rfl,_,rfl,?_⟩
            by_cases h28 : (us.length : Int) > 28
            · rw [decide_eq_true h28]
              have eq : netD (.int n) (.list ds) = false:=by
                show (decide _ && _) = false
                rw [decide_eq_false (fun z=>by omega)]
                rfl
              rw [eq] at q
              exact iteT (q _ (Same.refl _))
            · rw [decide_eq_false h28]
              refine iteF ?_
              have eq : netD (.int n) (.list ds) = ds.all (pipeD n):=by
                show (decide _ && _) = _
                rw [decide_eq_true ⟨n1,n8,by omega⟩]
                rfl
              rw [eq] at q
              refine ⟨_,rfl,l,rfl,⟨_,hl⟩,comp_list (K:=K) (a:=l) (xs:=us) (fun i ys H'=>H' = H ∧ ys = (ds.take i).map (fun d=>V.bl (pipeD n d))) ⟨rfl,rfl⟩ (small1000 (by omega)) (fun i ys H' hi ⟨e,e'⟩=>⟨by rw [e',List.length_map,List.length_take]; omega,e ▸ hl⟩) ?_ ?_⟩
              · rintro i x ys H' N hx ⟨rfl,rfl⟩ hN C s₀ H₀ ex
                obtain ⟨d,hdi,rd⟩:=rs.get hx
                dsimp only [tNoTest,gName]
                refine iteT ?_
                refine ⟨_,rfl,_,rfl,x,d,n,rfl,rd,?_⟩
                refine hN _ _ ⟨rfl,?_⟩
                rw [List.take_succ,hdi]
                simp
              · rintro ys H' ⟨rfl,rfl⟩ p hp'
                refine ⟨p,ds.map (pipeD n),rfl,SqL.of (by rw [upd_same,hlen,List.take_length,List.map_map]; rfl),?_⟩
                have e : (ds.map (pipeD n)).all id = ds.all (pipeD n):=by rw [List.all_map]; rfl
                rw [e]
                exact q _ (same_upd hp')
          | _=>exact iteT (q _ (Same.refl _))
        · rw [decide_eq_false n8]
          have eq : ∀ e,netD (.int n) e = false:=fun e=>by
            cases e <;> first
              | rfl
              | (show (decide _ && _) = false
                 rw [decide_eq_false (fun z=>n8 z.2.1)]
                 rfl)
          rw [eq] at q
          exact iteT (q _ (Same.refl _))
      · rw [decide_eq_false n1]
        have eq : ∀ e,netD (.int n) e = false:=fun e=>by
          cases e <;> first
            | rfl
            | (show (decide _ && _) = false
               rw [decide_eq_false (fun z=>n1 z.1)]
               rfl)
        rw [eq] at q
        exact iteF ⟨_,rfl,iteT (q _ (Same.refl _))⟩
    | _=>exact iteT (q _ (Same.refl _))
end
end K2
namespace K2
open PySem L2 Mp
theorem PipeAt.rep {K : PySem.W.Frag} {H : Hp} {v : V} {p : Pipe} (h : PipeAt K H v p) : Rep K H v (.tuple [.int p.u,.int p.w,.tuple [.int p.a,.int p.b]]):=by
  obtain ⟨x,y,rfl,hx,hy⟩:=h
  exact .tup hx (.cons (.int _) (.cons (.int _) (.cons (.tup hy (.cons (.int _) (.cons (.int _) .nil))) .nil)))
def pipesD (ps : List Pipe) : List PyData:=ps.map fun p=>.tuple [.int p.u,.int p.w,.tuple [.int p.a,.int p.b]]
theorem PipesAt.reps {K : PySem.W.Frag} {H : Hp} : ∀ {us : List V} {ps : List Pipe},PipesAt K H us ps → Reps K H us (pipesD ps)
  | _,_,.nil=>.nil
  | _,_,.cons a b=>.cons a.rep (PipesAt.reps b)
theorem pipesD_inj : ∀ {ps qs : List Pipe},pipesD ps = pipesD qs → ps = qs
  | [],[],_=>rfl
  | [],_ :: _,h=>nomatch h
  | _ :: _,[],h=>nomatch h
  | ⟨u,w,a,b⟩ :: ps,⟨u',w',a',b'⟩ :: qs,h=>by
    have h' : PyData.tuple [.int u,.int w,.tuple [.int a,.int b]] :: pipesD ps = .tuple [.int u',.int w',.tuple [.int a',.int b']] :: pipesD qs:=h
    injection h' with h1 h2
    rw [pipesD_inj h2]
    injection h1 with h1
    injection h1 with x1 h1
    injection h1 with x2 h1
    injection h1 with x3 _
    injection x1 with x1
    injection x2 with x2
    injection x3 with x3
    injection x3 with y1 x3
    injection x3 with y2 _
    injection y1 with y1
    injection y2 with y2
    rw [x1,x2,y1,y2]
theorem hardD_inv {d : PyData} (h : hardD d = true) : ∃ a b,d = .tuple [.int a,.int b] ∧ (1 ≤ a ∧ a ≤ 1000000000) ∧ (1 ≤ b ∧ b ≤ 1000000000) ∧ Int.gcd a b = 1:=by
  unfold hardD at h
  split at h
  · exact ⟨_,_,rfl,of_decide_eq_true h⟩
  · cases h
theorem pipeD_inv {n : Int} {d : PyData} (h : pipeD n d = true) : ∃ p : Pipe,d = .tuple [.int p.u,.int p.w,.tuple [.int p.a,.int p.b]] ∧ PipeOk n p:=by
  unfold pipeD at h
  split at h
  · rename_i u w hd
    have h1:=(Bool.and_eq_true _ _).mp h
    obtain ⟨⟨u0,un⟩,⟨w0,wn⟩,ne⟩:=of_decide_eq_true h1.1
    obtain ⟨a,b,rfl,⟨a1,aM⟩,⟨b1,bM⟩,gc⟩:=hardD_inv h1.2
    exact ⟨⟨u,w,a,b⟩,rfl,u0,un,w0,wn,ne,a1,aM,b1,bM,gc⟩
  · cases h
theorem pipe_of {K : PySem.W.Frag} {H : Hp} {v : V} {p : Pipe} (r : Rep K H v (.tuple [.int p.u,.int p.w,.tuple [.int p.a,.int p.b]])) : PipeAt K H v p:=by
  cases r with
  | tup hy rs =>
    cases rs with
    | cons r0 rs =>
      cases rs with
      | cons r1 rs =>
        cases rs with
        | cons r2 rs =>
          cases rs
          cases r0
          cases r1
          obtain ⟨y,rfl,h2⟩:=pair_of r2
          exact ⟨_,y,rfl,hy,h2⟩
theorem pipes_of {K : PySem.W.Frag} {H : Hp} {n : Int} : ∀ {us : List V} {ds : List PyData},Reps K H us ds → ds.all (pipeD n) = true → ∃ ps : List Pipe,PipesAt K H us ps ∧ (∀ p ∈ ps,PipeOk n p) ∧ ps.length = ds.length ∧ ds = pipesD ps
  | _,_,.nil,_=>⟨[],.nil,(fun _ h=>nomatch h),rfl,rfl⟩
  | _,_,.cons a b,h=>by
    rw [List.all_cons] at h
    have h1:=(Bool.and_eq_true _ _).mp h
    obtain ⟨p,rfl,okp⟩:=pipeD_inv h1.1
    obtain ⟨ps,hp,ok,hl,rfl⟩:=pipes_of b h1.2
    refine ⟨p :: ps,.cons (pipe_of a) hp,fun q hq=>?_,by rw [List.length_cons,List.length_cons,hl],rfl⟩
    rcases List.mem_cons.mp hq with rfl | hq
    · exact okp
    · exact ok q hq
theorem netD_inv {K : PySem.W.Frag} {H : Hp} {v u : V} {d e : PyData} (r : Rep K H v d) (r' : Rep K H u e) (h : netD d e = true) : ∃ (n : Int) (l : Addr) (us : List V) (ps : List Pipe),v = .int n ∧ u = .ref l ∧ SqL K H l us ∧ PipesAt K H us ps ∧ NetOk n ps ∧ d = .int n ∧ e = .list (pipesD ps):=by
  unfold netD at h
  split at h
  · rename_i n ds
    have h1:=(Bool.and_eq_true _ _).mp h
    obtain ⟨n1,n8,le⟩:=of_decide_eq_true h1.1
    cases r
    cases r' with
    | lst hl rs =>
      obtain ⟨ps,hp,ok,hle,rfl⟩:=pipes_of rs h1.2
      exact ⟨n,_,_,ps,rfl,rfl,hl,hp,⟨n1,n8,ok,by omega⟩,rfl,rfl⟩
  · cases h
def spInitX (K : PySem.W.Frag) (C CB : Addr) : Sp:=fun vs H Q E=>∃ (x dx : Addr) (v u : V) (d e : PyData),vs = [.ref x,v,u] ∧ H x = some (.ins C dx []) ∧ Rep K H v d ∧ Rep K H u e ∧
  (netD d e = false → ∀ H',Same H H' → E (.ref CB) none H') ∧
  (netD d e = true → ∀ (n : Int) (ps : List Pipe) (H' : Hp) (L : Addr),d = .int n → e = .list (pipesD ps) → NetOk n ps → H L = none → NetAt K C H' x L n ps → (∀ b o,H b = some o → b ≠ x → H' b = some o) → Q .non H')
structure TxtN (K : PySem.W.Frag) (mg : Str → Option Value) (C CB : Addr) : Prop where
  n_tuple : mg "tuple" = none
  c_Net : Cls K C
  a_size : NoAttr K C "size"
  a_laid : NoAttr K C "laid"
  e_BadNet : IsErr K CB
  m_BadNet : mg "BadNet" = some (.ref CB)
section
variable {P : Program} {w : World} {K : PySem.W.Frag} {mg : Str → Option Value} {base : Heap} {C CB f fn : Addr} {fd fdn : FuncData} {t1 t2 t3 : Tok}
theorem ok_initX (F : Fun K "__init__" "Net.__init__" s_Net___init__ f fd) (T : TxtN K mg C CB) (m_is_net : mg "is_net" = some (.ref fn)) (k_is_net : PySem.W.keepIn K (.ref fn) = true) (b_is_net : Binds K fdn ["places","pipes"] []) (G_is_net : FnOk P w K mg base CX0 5 fn fdn ["places","pipes"] (spNetD K)) : FnOk P w K mg base (CXX P w) 6 f fd ["self","places","pipes"] (spInitX K C CB):=by
  refine F.okX sc_Net___init__ (fun vs H Q E h=>?_) (fun cdv A outer s H vs Q E hr h=>?_)
  · obtain ⟨x,dx,v,u,d,e,rfl,_⟩:=h
    rfl
  · have hRs:=raises_cx (P:=P) (w:=w) (K:=K) (mg:=mg) (base:=base) (N:=["self","places","pipes"]) (qual:="Net.__init__") (scope:=defScope s_Net___init__) (f:=f) (cd:=cdv) (A:=A) (outer:=outer) (s₀:=s) (H₀:=H) (E:=E)
    obtain ⟨x,dx,v,u,d,e,rfl,hx,r,r',qF,qT⟩:=h
    refine ⟨_,(pss_cons (ps_if (pt_not (pt_val (pe_call G_is_net (hr.mono (by decide)) rfl m_is_net k_is_net b_is_net .nil pass0 (pa_cons (pv 1) (pa_cons (pv 2) pa_nil))))) (pss_one (ps_raise T.e_BadNet T.m_BadNet rfl hRs rfl (pa_cons pe_str pa_nil))) pss_nil)
      (pss_cons (ps_fld (pv 0) (pv 1) rfl)
      (pss_one (ps_fld (pv 0) (pe_comp ["one","other","hardness"] [] rfl rfl (by kernel_rfl) (pi_list (pv 2)) (fun _ _ _ _=>(pg_tup (n:=3) rfl (pgs_cons (pg_name (i:=0) (show (["one","other","hardness"] : List Str).Nodup by decide +kernel) rfl (Or.inl rfl)) (pgs_cons (pg_name (i:=1) (show (["one","other","hardness"] : List Str).Nodup by decide +kernel) rfl (Or.inl rfl)) (pgs_cons (pg_name (i:=2) (show (["one","other","hardness"] : List Str).Nodup by decide +kernel) rfl (Or.inl rfl)) pgs_nil))))) (fun _ _ _ _=>(gk_tup (gks_cons gk_name (gks_cons gk_name (gks_cons gk_name gks_nil))))) (fun _ _ _ _=>pf_nil) (fun _ _ _ _=>(pe_tup (pa_cons (pv 0) (pa_cons (pv 1) (pa_cons (pe_callTy call_tuple_of (by rfl) T.n_tuple bt_tuple (pa_cons (pv 2) pa_nil)) pa_nil)))))) rfl)))),?_⟩
    refine ⟨_,rfl,_,rfl,v,u,d,e,rfl,r,r',fun H1 s1=>⟨_,rfl,?_⟩⟩
    by_cases hn : netD d e = true
    · rw [hn]
      refine iteF ?_
      obtain ⟨n,l,us,ps,rfl,rfl,hl,hp,ok,ed,ee⟩:=netD_inv r r' hn
      have q:=fun H' L=>qT hn n ps H' L ed ee ok
      have hlen : us.length = ps.length:=Paired.length hp
      have hle:=ok.le
      refine ⟨_,rfl,_,rfl,x,C,dx,[],rfl,s1 _ _ hx,T.c_Net,T.a_size,(by show 0 < 1000; decide),?_⟩
      have hx2 : (upd H1 x (.ins C dx (putF "size" (.int n) []))) x = some (.ins C dx (putF "size" (.int n) [])):=upd_same
      have hl2 : SqL K (upd H1 x (.ins C dx (putF "size" (.int n) []))) l us:=SqL.ne (s1.seq hl) (s1 _ _ hx) (fun _=>nofun) (fun _ _=>nofun)
      have hp2 : PipesAt K (upd H1 x (.ins C dx (putF "size" (.int n) []))) us ps:=PipesAt.ne (s1 _ _ hx) (fun _=>nofun) (fun _ _=>nofun) (PipesAt.same s1 hp)
      have s2 : ∀ b o,H b = some o → b ≠ x → (upd H1 x (.ins C dx (putF "size" (.int n) []))) b = some o:=fun b o e hb=>by rw [upd_ne hb]; exact s1 _ _ e
      generalize upd H1 x (.ins C dx (putF "size" (.int n) [])) = H2 at hx2 hl2 hp2 s2 ⊢
      refine ⟨_,rfl,l,rfl,⟨_,hl2⟩,comp_list (K:=K) (a:=l) (xs:=us) (fun i ys H'=>Same H2 H' ∧ PipesAt K H' ys (ps.take i) ∧ ys.length = i) ⟨Same.refl _,.nil,rfl⟩ (small1000 (by omega)) ?_ ?_ ?_⟩
      · rintro i ys H' hi ⟨s3,_,e⟩
        exact ⟨by omega,s3.seq hl2⟩
      · rintro i v ys H' N hv ⟨s3,h3,e3⟩ hN C' s₀ H₀ ex
        obtain ⟨p,hpi,⟨y,z,rfl,hy,hz⟩⟩:=hp2.get hv
        have ht : ps.take (i + 1) = ps.take i ++ [p]:=by rw [List.take_succ,hpi]; rfl
        refine ⟨y,_,rfl,Same.tup s3 hy,rfl,_,_,rfl,_,_,rfl,_,_,rfl,rfl,?_⟩
        dsimp only [tNoTest]
        refine iteT ?_
        refine ⟨_,rfl,_,rfl,_,rfl,z,_,rfl,.inr ⟨Same.tup s3 hz,(by show 3 ≤ sizeLine; decide),fun t ht'=>?_⟩⟩
        have s4:=same_upd (o:=.tup [.int p.u,.int p.w,.ref z]) ht'
        exact hN _ _ ⟨s3.trans s4,by rw [ht]; exact PipesAt.snoc (PipesAt.same s4 h3) ⟨t,z,rfl,SqT.of upd_same,Same.tup (s3.trans s4) hz⟩,by rw [List.length_append]; simp; omega⟩
      · rintro ys H' ⟨s3,h3,e3⟩ L hL
        rw [hlen,List.take_length] at h3
        have s4:=same_upd (o:=.lst ys) hL
        refine ⟨_,rfl,x,C,dx,_,rfl,s4 _ _ (s3 _ _ hx2),T.c_Net,T.a_laid,(by show 1 < 1000; decide),?_⟩
        have nx : L ≠ x:=(ne_of_none (s3 _ _ hx2) hL).symm
        have hLn : H L = none:=by
          cases e : H L with
          | none=>rfl
          | some o=>exact absurd hL (by rw [s3 _ _ (s2 _ _ e nx)]; exact nofun)
        refine q _ L hLn ⟨⟨dx,upd_same⟩,ys,by rw [upd_ne nx]; exact upd_same,PipesAt.ne (s4 _ _ (s3 _ _ hx2)) (fun _=>nofun) (fun _ _=>nofun) (PipesAt.same s4 h3)⟩ fun b o e hb=>?_
        rw [upd_ne hb]
        exact s4 _ _ (s3 _ _ (s2 _ _ e hb))
    · have hn' : netD d e = false:=by simpa using hn
      rw [hn']
      exact iteT ⟨by show 1 ≤ sizeLine; decide,qF hn' _ s1⟩
end
end K2
namespace K2
open PySem L2 Mp
structure TxtP (K : PySem.W.Frag) (mg : Str → Option Value) (C CN c3 c4 : Addr) : Prop where
  n_len : mg "len" = none
  n_all : mg "all" = none
  n_isinstance : mg "isinstance" = none
  n_list : mg "list" = none
  c_Net : Cls K C
  a_size : NoAttr K C "size"
  e_NoPlace : IsErr K CN
  m_NoPlace : mg "NoPlace" = some (.ref CN)
  e_NoPipe : IsErr K c3
  m_NoPipe : mg "NoPipe" = some (.ref c3)
  e_BadFlows : IsErr K c4
  m_BadFlows : mg "BadFlows" = some (.ref c4)
def spPartX (K : PySem.W.Frag) (C CN : Addr) : Sp:=fun vs H _ E=>∃ (x L : Addr) (n : Int) (ps : List Pipe) (v : V) (d : PyData),vs = [.ref x,v] ∧ NetAt K C H x L n ps ∧ Rep K H v d ∧ countsD d n = false ∧ ∀ H',Same H H' → E (.ref CN) none H'
def spAreD (K : PySem.W.Frag) (C : Addr) : Sp:=fun vs H Q _=>∃ (x L l : Addr) (n : Int) (ps : List Pipe) (us : List V) (ds : List PyData),vs = [.ref x,.ref l] ∧ NetAt K C H x L n ps ∧ SqL K H l us ∧ Reps K H us ds ∧ ds.length ≤ 8 ∧ ∀ H',Same H H' → Q (.bl (ds.all fun d=>countsD d n)) H'
def spCheckX (K : PySem.W.Frag) (C CN : Addr) : Sp:=fun vs H _ E=>∃ (x L l : Addr) (n : Int) (ps : List Pipe) (us : List V) (ds : List PyData),vs = [.ref x,.ref l] ∧ NetAt K C H x L n ps ∧ SqL K H l us ∧ Reps K H us ds ∧ ds.length ≤ 8 ∧ (ds.all fun d=>countsD d n) = false ∧ ∀ H',Same H H' → E (.ref CN) none H'
def spTwoX (K : PySem.W.Frag) (C CN : Addr) : Sp:=fun vs H _ E=>∃ (x L : Addr) (n : Int) (ps : List Pipe) (v u : V) (d e : PyData),vs = [.ref x,v,u] ∧ NetAt K C H x L n ps ∧ Rep K H v d ∧ Rep K H u e ∧ (countsD d n && countsD e n) = false ∧ ∀ H',Same H H' → E (.ref CN) none H'
def spThreeX (K : PySem.W.Frag) (C CN : Addr) : Sp:=fun vs H _ E=>∃ (x L : Addr) (n : Int) (ps : List Pipe) (v u t : V) (d e g : PyData),vs = [.ref x,v,u,t] ∧ NetAt K C H x L n ps ∧ Rep K H v d ∧ Rep K H u e ∧ Rep K H t g ∧ (countsD d n && (countsD e n && countsD g n)) = false ∧ ∀ H',Same H H' → E (.ref CN) none H'
def spPipeX (K : PySem.W.Frag) (C c3 : Addr) : Sp:=fun vs H _ E=>∃ (x L : Addr) (n : Int) (ps : List Pipe) (v : V) (d : PyData),vs = [.ref x,v] ∧ NetAt K C H x L n ps ∧ Rep K H v d ∧ countsD d ps.length = false ∧ ∀ H',Same H H' → E (.ref c3) none H'
def flowsD (d : PyData) (m : Int) : Bool:=match d with
  | .list ds=>decide ((ds.length : Int) = m) && ds.all fracD
  | _=>false
def spAreF (K : PySem.W.Frag) : Sp:=fun vs H Q _=>∃ (v : V) (d : PyData) (m : Int),vs = [v,.int m] ∧ m ≤ 28 ∧ Rep K H v d ∧ ∀ H',Same H H' → Q (.bl (flowsD d m)) H'
def spFlowsX (K : PySem.W.Frag) (C c4 : Addr) : Sp:=fun vs H _ E=>∃ (x L : Addr) (n : Int) (ps : List Pipe) (v : V) (d : PyData),vs = [.ref x,v] ∧ NetAt K C H x L n ps ∧ ps.length ≤ 28 ∧ Rep K H v d ∧ flowsD d ps.length = false ∧ ∀ H',Same H H' → E (.ref c4) none H'
section
variable {P : Program} {w : World} {K : PySem.W.Frag} {mg : Str → Option Value} {base : Heap} {C CN c3 c4 f fc fa fp : Addr} {fd fdc fda fdp : FuncData} {t1 t2 t3 : Tok}
theorem ok_partX (F : Fun K "part" "Net.part" s_Net_part f fd) (T : TxtP K mg C CN c3 c4) (m_counts_one_of : mg "counts_one_of" = some (.ref fc)) (k_counts_one_of : PySem.W.keepIn K (.ref fc) = true) (b_counts_one_of : Binds K fdc ["value","many"] []) (G_counts_one_of : FnOk P w K mg base CX0 2 fc fdc ["value","many"] (spCountsD K)) : FnOk P w K mg base (CXX P w) 3 f fd ["self","at"] (spPartX K C CN):=by
  refine F.okX sc_Net_part (fun vs H Q E h=>?_) (fun cdv A outer s H vs Q E hr h=>?_)
  · obtain ⟨x,L,n,ps,v,d,rfl,_⟩:=h
    rfl
  · have hRs:=raises_cx (P:=P) (w:=w) (K:=K) (mg:=mg) (base:=base) (N:=["self","at","reached","waiting","place","neighbour"]) (qual:="Net.part") (scope:=defScope s_Net_part) (f:=f) (cd:=cdv) (A:=A) (outer:=outer) (s₀:=s) (H₀:=H) (E:=E)
    obtain ⟨x,L,n,ps,v,d,rfl,net,r,hc,q⟩:=h
    obtain ⟨⟨dx,h1⟩,_⟩:=id net
    refine ⟨_,(pss_cons (ps_if (pt_not (pt_val (pe_call G_counts_one_of (hr.mono (by decide)) rfl m_counts_one_of k_counts_one_of b_counts_one_of .nil pass0 (pa_cons (pv 1) (pa_cons (pe_fld (pv 0) rfl) pa_nil))))) (pss_one (ps_raise T.e_NoPlace T.m_NoPlace rfl hRs rfl (pa_cons pe_str pa_nil))) pss_nil)
      (pss_cons ps_never
      (pss_cons ps_never
      (pss_cons ps_never
      (pss_one ps_never))))),?_⟩
    refine ⟨_,rfl,_,rfl,x,C,dx,_,_,rfl,h1,T.c_Net,T.a_size,flds_size _ _,v,d,n,rfl,r,_,rfl,?_⟩
    rw [hc]
    exact iteT ⟨by show 1 ≤ sizeLine; decide,q _ (Same.refl _)⟩
theorem ok_areD (F : Fun K "are_places" "are_places" s_are_places f fd) (T : TxtP K mg C CN c3 c4) (m_counts_one_of : mg "counts_one_of" = some (.ref fc)) (k_counts_one_of : PySem.W.keepIn K (.ref fc) = true) (b_counts_one_of : Binds K fdc ["value","many"] []) (G_counts_one_of : FnOk P w K mg base CX0 2 fc fdc ["value","many"] (spCountsD K)) : FnOk P w K mg base CX0 3 f fd ["net","places"] (spAreD K C):=by
  refine F.ok sc_are_places (fun vs H Q E h=>?_) (fun cdv A outer s H vs Q E hr h=>?_)
  · obtain ⟨x,L,l,n,ps,us,ds,rfl,_⟩:=h
    rfl
  · obtain ⟨x,L,l,n,ps,us,ds,rfl,net,hl,rs,h8,q⟩:=h
    obtain ⟨⟨dx,h1⟩,_⟩:=id net
    have hlen:=rs.len
    refine ⟨_,(pss_one (ps_ret (pe_callB (call_all rfl) (by rfl) T.n_all bt_all (pa_cons (pe_comp ["place"] [0] rfl rfl (by kernel_rfl) (pi_list (pv 1)) (fun _ _ _ _=>(pg_name (i:=0) (show (["place","net"] : List Str).Nodup by decide +kernel) rfl (Or.inl rfl))) (fun _ _ _ _=>gk_name) (fun _ _ _ _=>pf_nil) (fun _ _ _ _=>(pe_call G_counts_one_of (hr.mono (by decide)) rfl m_counts_one_of k_counts_one_of b_counts_one_of .nil pass0 (pa_cons (pv 0) (pa_cons (pe_fld (pv 1) rfl) pa_nil))))) pa_nil)))),?_⟩
    refine ⟨_,rfl,l,rfl,⟨_,hl⟩,comp_list (K:=K) (a:=l) (xs:=us) (fun i ys H'=>H' = H ∧ ys = (ds.take i).map (fun d=>V.bl (countsD d n))) ⟨rfl,rfl⟩ (small1000 (by omega)) (fun i ys H' hi ⟨e,e'⟩=>⟨by rw [e',List.length_map,List.length_take]; omega,e ▸ hl⟩) ?_ ?_⟩
    · rintro i v ys H' N hv ⟨rfl,rfl⟩ hN C' s₀ H₀ ex
      obtain ⟨d,hdi,rd⟩:=rs.get hv
      dsimp only [tNoTest,gName]
      refine iteT ?_
      refine ⟨_,rfl,_,rfl,x,C,dx,_,_,rfl,h1,T.c_Net,T.a_size,flds_size _ _,v,d,n,rfl,rd,hN _ _ ⟨rfl,?_⟩⟩
      rw [List.take_succ,hdi]
      simp
    · rintro ys H' ⟨rfl,rfl⟩ p hp'
      refine ⟨p,ds.map (fun d=>countsD d n),rfl,SqL.of (by rw [upd_same,hlen,List.take_length,List.map_map]; rfl),?_⟩
      have e : (ds.map (fun d=>countsD d n)).all id = ds.all (fun d=>countsD d n):=by rw [List.all_map]; rfl
      rw [e]
      exact q _ (same_upd hp')
theorem ok_checkX (F : Fun K "check_places" "check_places" s_check_places f fd) (T : TxtP K mg C CN c3 c4) (m_are_places : mg "are_places" = some (.ref fa)) (k_are_places : PySem.W.keepIn K (.ref fa) = true) (b_are_places : Binds K fda ["net","places"] []) (G_are_places : FnOk P w K mg base CX0 3 fa fda ["net","places"] (spAreD K C)) : FnOk P w K mg base (CXX P w) 4 f fd ["net","places"] (spCheckX K C CN):=by
  refine F.okX sc_check_places (fun vs H Q E h=>?_) (fun cdv A outer s H vs Q E hr h=>?_)
  · obtain ⟨x,L,l,n,ps,us,ds,rfl,_⟩:=h
    rfl
  · have hRs:=raises_cx (P:=P) (w:=w) (K:=K) (mg:=mg) (base:=base) (N:=["net","places"]) (qual:="check_places") (scope:=defScope s_check_places) (f:=f) (cd:=cdv) (A:=A) (outer:=outer) (s₀:=s) (H₀:=H) (E:=E)
    obtain ⟨x,L,l,n,ps,us,ds,rfl,net,hl,rs,h8,hc,q⟩:=h
    refine ⟨_,(pss_one (ps_if (pt_not (pt_val (pe_call G_are_places (hr.mono (by decide)) rfl m_are_places k_are_places b_are_places .nil pass0 (pa_cons (pv 0) (pa_cons (pv 1) pa_nil))))) (pss_one (ps_raise T.e_NoPlace T.m_NoPlace rfl hRs rfl (pa_cons pe_str pa_nil))) pss_nil)),?_⟩
    refine ⟨_,rfl,_,rfl,x,L,l,n,ps,us,ds,rfl,net,hl,rs,h8,fun H1 s1=>⟨_,rfl,?_⟩⟩
    rw [hc]
    exact iteT ⟨by show 1 ≤ sizeLine; decide,q _ s1⟩
theorem ok_streamX (F : Fun K "stream" "stream" s_stream f fd) (m_check_places : mg "check_places" = some (.ref fc)) (k_check_places : PySem.W.keepIn K (.ref fc) = true) (b_check_places : Binds K fdc ["net","places"] []) (G_check_places : FnOk P w K mg base (CXX P w) 4 fc fdc ["net","places"] (spCheckX K C CN)) : FnOk P w K mg base (CXX P w) 5 f fd ["net","one","other"] (spTwoX K C CN):=by
  refine F.okX sc_stream (fun vs H Q E h=>?_) (fun cdv A outer s H vs Q E hr h=>?_)
  · obtain ⟨x,L,n,ps,v,u,d,e,rfl,_⟩:=h
    rfl
  · obtain ⟨x,L,n,ps,v,u,d,e,rfl,net,r,r',hc,q⟩:=h
    refine ⟨_,(pss_cons (ps_expr (pe_call G_check_places (hr.mono (by decide)) rfl m_check_places k_check_places b_check_places .nil passes_cx (pa_cons (pv 0) (pa_cons (pe_lst (pa_cons (pv 1) (pa_cons (pv 2) pa_nil))) pa_nil))))
      (pss_cons ps_never
      (pss_cons ps_never
      (pss_cons ps_never
      (pss_cons ps_never
      (pss_one ps_never)))))),?_⟩
    refine ⟨_,rfl,_,rfl,_,rfl,by show 2 ≤ sizeLine; decide,fun l hl=>?_⟩
    have s1:=same_upd (o:=.lst [v,u]) hl
    exact ⟨x,L,l,n,ps,[v,u],[d,e],rfl,net.same s1,SqL.of upd_same,.cons (r.same s1) (.cons (r'.same s1) .nil),by show 2 ≤ 8; decide,by simpa using hc,fun H' s'=>q _ (s1.trans s')⟩
theorem ok_hardness_ofX (F : Fun K "hardness_of" "hardness_of" s_hardness_of f fd) (m_check_places : mg "check_places" = some (.ref fc)) (k_check_places : PySem.W.keepIn K (.ref fc) = true) (b_check_places : Binds K fdc ["net","places"] []) (G_check_places : FnOk P w K mg base (CXX P w) 4 fc fdc ["net","places"] (spCheckX K C CN)) : FnOk P w K mg base (CXX P w) 5 f fd ["net","one","other"] (spTwoX K C CN):=by
  refine F.okX sc_hardness_of (fun vs H Q E h=>?_) (fun cdv A outer s H vs Q E hr h=>?_)
  · obtain ⟨x,L,n,ps,v,u,d,e,rfl,_⟩:=h
    rfl
  · obtain ⟨x,L,n,ps,v,u,d,e,rfl,net,r,r',hc,q⟩:=h
    refine ⟨_,(pss_cons (ps_expr (pe_call G_check_places (hr.mono (by decide)) rfl m_check_places k_check_places b_check_places .nil passes_cx (pa_cons (pv 0) (pa_cons (pe_lst (pa_cons (pv 1) (pa_cons (pv 2) pa_nil))) pa_nil))))
      (pss_cons ps_never
      (pss_one ps_never))),?_⟩
    refine ⟨_,rfl,_,rfl,_,rfl,by show 2 ≤ sizeLine; decide,fun l hl=>?_⟩
    have s1:=same_upd (o:=.lst [v,u]) hl
    exact ⟨x,L,l,n,ps,[v,u],[d,e],rfl,net.same s1,SqL.of upd_same,.cons (r.same s1) (.cons (r'.same s1) .nil),by show 2 ≤ 8; decide,by simpa using hc,fun H' s'=>q _ (s1.trans s')⟩
theorem ok_chanceX (F : Fun K "chance" "chance" s_chance f fd) (m_check_places : mg "check_places" = some (.ref fc)) (k_check_places : PySem.W.keepIn K (.ref fc) = true) (b_check_places : Binds K fdc ["net","places"] []) (G_check_places : FnOk P w K mg base (CXX P w) 4 fc fdc ["net","places"] (spCheckX K C CN)) : FnOk P w K mg base (CXX P w) 5 f fd ["net","start","one","other"] (spThreeX K C CN):=by
  refine F.okX sc_chance (fun vs H Q E h=>?_) (fun cdv A outer s H vs Q E hr h=>?_)
  · obtain ⟨x,L,n,ps,v,u,t,d,e,g,rfl,_⟩:=h
    rfl
  · obtain ⟨x,L,n,ps,v,u,t,d,e,g,rfl,net,r,r',r'',hc,q⟩:=h
    refine ⟨_,(pss_cons (ps_expr (pe_call G_check_places (hr.mono (by decide)) rfl m_check_places k_check_places b_check_places .nil passes_cx (pa_cons (pv 0) (pa_cons (pe_lst (pa_cons (pv 1) (pa_cons (pv 2) (pa_cons (pv 3) pa_nil)))) pa_nil))))
      (pss_cons ps_never
      (pss_cons ps_never
      (pss_cons ps_never
      (pss_cons ps_never
      (pss_one ps_never)))))),?_⟩
    refine ⟨_,rfl,_,rfl,_,rfl,_,rfl,by show 3 ≤ sizeLine; decide,fun l hl=>?_⟩
    have s1:=same_upd (o:=.lst [v,u,t]) hl
    exact ⟨x,L,l,n,ps,[v,u,t],[d,e,g],rfl,net.same s1,SqL.of upd_same,.cons (r.same s1) (.cons (r'.same s1) (.cons (r''.same s1) .nil)),by show 3 ≤ 8; decide,by simpa using hc,fun H' s'=>q _ (s1.trans s')⟩
theorem ok_shareX (F : Fun K "share" "share" s_share f fd) (T : TxtP K mg C CN c3 c4) (t_pipes : Meth K C "pipes" fp) (b_pipes : Binds K fdp ["self"] []) (G_pipes : FnOk P w K mg base CX0 1 fp fdp ["self"] (spPipes K C))
    (m_counts_one_of : mg "counts_one_of" = some (.ref fc)) (k_counts_one_of : PySem.W.keepIn K (.ref fc) = true) (b_counts_one_of : Binds K fdc ["value","many"] []) (G_counts_one_of : FnOk P w K mg base CX0 2 fc fdc ["value","many"] (spCountsD K)) : FnOk P w K mg base (CXX P w) 3 f fd ["net","at"] (spPipeX K C c3):=by
  refine F.okX sc_share (fun vs H Q E h=>?_) (fun cdv A outer s H vs Q E hr h=>?_)
  · obtain ⟨x,L,n,ps,v,d,rfl,_⟩:=h
    rfl
  · have hRs:=raises_cx (P:=P) (w:=w) (K:=K) (mg:=mg) (base:=base) (N:=["net","at","pipes","pipe"]) (qual:="share") (scope:=defScope s_share) (f:=f) (cd:=cdv) (A:=A) (outer:=outer) (s₀:=s) (H₀:=H) (E:=E)
    obtain ⟨x,L,n,ps,v,d,rfl,net,r,hc,q⟩:=h
    obtain ⟨⟨dx,h1⟩,_⟩:=id net
    refine ⟨_,(pss_cons (ps_set (i:=2) sc_share.nd rfl (Or.inl rfl) (pe_meth0 (pv 0) T.c_Net t_pipes G_pipes (hr.mono (by decide)) b_pipes .nil pass0))
      (pss_cons (ps_if (pt_not (pt_val (pe_call G_counts_one_of (hr.mono (by decide)) rfl m_counts_one_of k_counts_one_of b_counts_one_of .nil pass0 (pa_cons (pv 1) (pa_cons (pe_callB call_len_seq (by rfl) T.n_len bt_len (pa_cons (pv 2) pa_nil)) pa_nil))))) (pss_one (ps_raise T.e_NoPipe T.m_NoPipe rfl hRs rfl (pa_cons pe_str pa_nil))) pss_nil)
      (pss_cons ps_never
      (pss_one ps_never)))),?_⟩
    refine ⟨_,rfl,x,dx,_,rfl,h1,flds_no _ _ (by decide +kernel) (by decide +kernel),x,L,n,ps,rfl,net,fun rr us hr1 pa=>?_⟩
    have s1:=same_upd (o:=.lst us) hr1
    have hr2 : (upd H rr (.lst us)) rr = some (.lst us):=upd_same
    have hus : us.length = ps.length:=Paired.length pa
    generalize upd H rr (.lst us) = H1 at s1 hr2 ⊢
    refine ⟨_,rfl,_,rfl,rr,_,rfl,.inl (SqL.of hr2),v,d,us.length,rfl,r.same s1,_,rfl,?_⟩
    rw [hus,hc]
    exact iteT ⟨by show 1 ≤ sizeLine; decide,q _ s1⟩
theorem ok_without_pipeX (F : Fun K "without_pipe" "without_pipe" s_without_pipe f fd) (T : TxtP K mg C CN c3 c4) (t_pipes : Meth K C "pipes" fp) (b_pipes : Binds K fdp ["self"] []) (G_pipes : FnOk P w K mg base CX0 1 fp fdp ["self"] (spPipes K C))
    (m_counts_one_of : mg "counts_one_of" = some (.ref fc)) (k_counts_one_of : PySem.W.keepIn K (.ref fc) = true) (b_counts_one_of : Binds K fdc ["value","many"] []) (G_counts_one_of : FnOk P w K mg base CX0 2 fc fdc ["value","many"] (spCountsD K)) : FnOk P w K mg base (CXX P w) 3 f fd ["net","at"] (spPipeX K C c3):=by
  refine F.okX sc_without_pipe (fun vs H Q E h=>?_) (fun cdv A outer s H vs Q E hr h=>?_)
  · obtain ⟨x,L,n,ps,v,d,rfl,_⟩:=h
    rfl
  · have hRs:=raises_cx (P:=P) (w:=w) (K:=K) (mg:=mg) (base:=base) (N:=["net","at","pipes"]) (qual:="without_pipe") (scope:=defScope s_without_pipe) (f:=f) (cd:=cdv) (A:=A) (outer:=outer) (s₀:=s) (H₀:=H) (E:=E)
    obtain ⟨x,L,n,ps,v,d,rfl,net,r,hc,q⟩:=h
    obtain ⟨⟨dx,h1⟩,_⟩:=id net
    refine ⟨_,(pss_cons (ps_set (i:=2) sc_without_pipe.nd rfl (Or.inl rfl) (pe_meth0 (pv 0) T.c_Net t_pipes G_pipes (hr.mono (by decide)) b_pipes .nil pass0))
      (pss_cons (ps_if (pt_not (pt_val (pe_call G_counts_one_of (hr.mono (by decide)) rfl m_counts_one_of k_counts_one_of b_counts_one_of .nil pass0 (pa_cons (pv 1) (pa_cons (pe_callB call_len_seq (by rfl) T.n_len bt_len (pa_cons (pv 2) pa_nil)) pa_nil))))) (pss_one (ps_raise T.e_NoPipe T.m_NoPipe rfl hRs rfl (pa_cons pe_str pa_nil))) pss_nil)
      (pss_one ps_never))),?_⟩
    refine ⟨_,rfl,x,dx,_,rfl,h1,flds_no _ _ (by decide +kernel) (by decide +kernel),x,L,n,ps,rfl,net,fun rr us hr1 pa=>?_⟩
    have s1:=same_upd (o:=.lst us) hr1
    have hr2 : (upd H rr (.lst us)) rr = some (.lst us):=upd_same
    have hus : us.length = ps.length:=Paired.length pa
    generalize upd H rr (.lst us) = H1 at s1 hr2 ⊢
    refine ⟨_,rfl,_,rfl,rr,_,rfl,.inl (SqL.of hr2),v,d,us.length,rfl,r.same s1,_,rfl,?_⟩
    rw [hus,hc]
    exact iteT ⟨by show 1 ≤ sizeLine; decide,q _ s1⟩
theorem ok_areF (F : Fun K "are_fractions" "are_fractions" s_are_fractions f fd) (T : TxtP K mg C CN c3 c4) (m_is_fraction : mg "is_fraction" = some (.ref fa)) (k_is_fraction : PySem.W.keepIn K (.ref fa) = true) (b_is_fraction : Binds K fda ["value"] []) (G_is_fraction : FnOk P w K mg base CX0 2 fa fda ["value"] (spFracD K)) : FnOk P w K mg base CX0 3 f fd ["value","many"] (spAreF K):=by
  refine F.ok sc_are_fractions (fun vs H Q E h=>?_) (fun cdv A outer s H vs Q E hr h=>?_)
  · obtain ⟨v,d,m,rfl,_⟩:=h
    rfl
  · obtain ⟨v,d,m,rfl,m28,r,q⟩:=h
    refine ⟨_,(pss_one (ps_ret (pe_and (pe_isiB rfl T.n_isinstance (pv 0) rfl T.n_list bt_list) (pe_and (pe_cmpR op_eq (pe_callB call_len_seq (by rfl) T.n_len bt_len (pa_cons (pv 0) pa_nil)) (pv 1) (nomark _)) (pe_one (pe_callB (call_all rfl) (by rfl) T.n_all bt_all (pa_cons (pe_comp ["entry"] [] rfl rfl (by kernel_rfl) (pi_list (pv 0)) (fun _ _ _ _=>(pg_name (i:=0) (show (["entry"] : List Str).Nodup by decide +kernel) rfl (Or.inl rfl))) (fun _ _ _ _=>gk_name) (fun _ _ _ _=>pf_nil) (fun _ _ _ _=>(pe_call G_is_fraction (hr.mono (by decide)) rfl m_is_fraction k_is_fraction b_is_fraction .nil pass0 (pa_cons (pv 0) pa_nil)))) pa_nil))))))),?_⟩
    refine ⟨_,rfl,_,_,_,_,_,rfl,rfl,r.ty,r.kList,_,rfl,?_⟩
    cases r with
    | @lst l us ds hl rs =>
      refine iteT ?_
      have hlen:=rs.len
      refine ⟨_,rfl,l,_,rfl,.inl hl,_,rfl,rfl,_,rfl,?_⟩
      by_cases hm : (us.length : Int) = m
      · rw [decide_eq_true (show V.int (us.length : Int) = V.int m by rw [hm])]
        refine iteT ?_
        have eq : flowsD (.list ds) m = ds.all fracD:=by
          show (decide _ && _) = _
          rw [decide_eq_true (by omega)]
          rfl
        rw [eq] at q
        refine ⟨_,rfl,l,rfl,⟨_,hl⟩,comp_list (K:=K) (a:=l) (xs:=us) (fun i ys H'=>H' = H ∧ ys = (ds.take i).map (fun d=>V.bl (fracD d))) ⟨rfl,rfl⟩ (small1000 (by omega)) (fun i ys H' hi ⟨e,e'⟩=>⟨by rw [e',List.length_map,List.length_take]; omega,e ▸ hl⟩) ?_ ?_⟩
        · rintro i v ys H' N hv ⟨rfl,rfl⟩ hN C' s₀ H₀ ex
          obtain ⟨d,hdi,rd⟩:=rs.get hv
          dsimp only [tNoTest,gName]
          refine iteT ?_
          refine ⟨_,rfl,v,d,rfl,rd,hN _ _ ⟨rfl,?_⟩⟩
          rw [List.take_succ,hdi]
          simp
        · rintro ys H' ⟨rfl,rfl⟩ p hp'
          refine ⟨p,ds.map fracD,rfl,SqL.of (by rw [upd_same,hlen,List.take_length,List.map_map]; rfl),?_⟩
          have e : (ds.map fracD).all id = ds.all fracD:=by rw [List.all_map]; rfl
          rw [e]
          exact q _ (same_upd hp')
      · rw [decide_eq_false (show ¬ V.int (us.length : Int) = V.int m from fun z=>hm (by injection z))]
        have eq : flowsD (.list ds) m = false:=by
          show (decide _ && _) = false
          rw [decide_eq_false (fun z=>hm (by omega))]
          rfl
        rw [eq] at q
        exact iteF (q _ (Same.refl _))
    | _=>exact iteF (q _ (Same.refl _))
theorem ok_checkflX (F : Fun K "check_flows" "check_flows" s_check_flows f fd) (T : TxtP K mg C CN c3 c4) (t_pipes : Meth K C "pipes" fp) (b_pipes : Binds K fdp ["self"] []) (G_pipes : FnOk P w K mg base CX0 1 fp fdp ["self"] (spPipes K C))
    (m_are_fractions : mg "are_fractions" = some (.ref fa)) (k_are_fractions : PySem.W.keepIn K (.ref fa) = true) (b_are_fractions : Binds K fda ["value","many"] []) (G_are_fractions : FnOk P w K mg base CX0 3 fa fda ["value","many"] (spAreF K)) : FnOk P w K mg base (CXX P w) 4 f fd ["net","flows"] (spFlowsX K C c4):=by
  refine F.okX sc_check_flows (fun vs H Q E h=>?_) (fun cdv A outer s H vs Q E hr h=>?_)
  · obtain ⟨x,L,n,ps,v,d,rfl,_⟩:=h
    rfl
  · have hRs:=raises_cx (P:=P) (w:=w) (K:=K) (mg:=mg) (base:=base) (N:=["net","flows"]) (qual:="check_flows") (scope:=defScope s_check_flows) (f:=f) (cd:=cdv) (A:=A) (outer:=outer) (s₀:=s) (H₀:=H) (E:=E)
    obtain ⟨x,L,n,ps,v,d,rfl,net,h28,r,hc,q⟩:=h
    obtain ⟨⟨dx,h1⟩,_⟩:=id net
    refine ⟨_,(pss_one (ps_if (pt_not (pt_val (pe_call G_are_fractions (hr.mono (by decide)) rfl m_are_fractions k_are_fractions b_are_fractions .nil pass0 (pa_cons (pv 1) (pa_cons (pe_callB call_len_seq (by rfl) T.n_len bt_len (pa_cons (pe_meth0 (pv 0) T.c_Net t_pipes G_pipes (hr.mono (by decide)) b_pipes .nil pass0) pa_nil)) pa_nil))))) (pss_one (ps_raise T.e_BadFlows T.m_BadFlows rfl hRs rfl (pa_cons pe_str pa_nil))) pss_nil)),?_⟩
    refine ⟨_,rfl,_,rfl,x,dx,_,rfl,h1,flds_no _ _ (by decide +kernel) (by decide +kernel),x,L,n,ps,rfl,net,fun rr us hr1 pa=>?_⟩
    have s1:=same_upd (o:=.lst us) hr1
    have hr2 : (upd H rr (.lst us)) rr = some (.lst us):=upd_same
    have hus : us.length = ps.length:=Paired.length pa
    generalize upd H rr (.lst us) = H1 at s1 hr2 ⊢
    refine ⟨rr,_,rfl,.inl (SqL.of hr2),v,d,us.length,rfl,by omega,r.same s1,fun H2 s2=>⟨_,rfl,?_⟩⟩
    rw [hus,hc]
    exact iteT ⟨by show 1 ≤ sizeLine; decide,q _ (s1.trans s2)⟩
theorem ok_heatX (F : Fun K "heat" "heat" s_heat f fd) (m_check_flows : mg "check_flows" = some (.ref fc)) (k_check_flows : PySem.W.keepIn K (.ref fc) = true) (b_check_flows : Binds K fdc ["net","flows"] []) (G_check_flows : FnOk P w K mg base (CXX P w) 4 fc fdc ["net","flows"] (spFlowsX K C c4)) : FnOk P w K mg base (CXX P w) 5 f fd ["net","flows"] (spFlowsX K C c4):=by
  refine F.okX sc_heat (fun vs H Q E h=>?_) (fun cdv A outer s H vs Q E hr h=>?_)
  · obtain ⟨x,L,n,ps,v,d,rfl,_⟩:=h
    rfl
  · obtain ⟨x,L,n,ps,v,d,rfl,net,h28,r,hc,q⟩:=h
    refine ⟨_,(pss_cons (ps_expr (pe_call G_check_flows (hr.mono (by decide)) rfl m_check_flows k_check_flows b_check_flows .nil passes_cx (pa_cons (pv 0) (pa_cons (pv 1) pa_nil))))
      (pss_one ps_never)),?_⟩
    exact ⟨_,rfl,_,rfl,x,L,n,ps,v,d,rfl,net,h28,r,hc,q⟩
theorem ok_sums_ofX (F : Fun K "sums_of" "sums_of" s_sums_of f fd) (m_check_flows : mg "check_flows" = some (.ref fc)) (k_check_flows : PySem.W.keepIn K (.ref fc) = true) (b_check_flows : Binds K fdc ["net","flows"] []) (G_check_flows : FnOk P w K mg base (CXX P w) 4 fc fdc ["net","flows"] (spFlowsX K C c4)) : FnOk P w K mg base (CXX P w) 5 f fd ["net","flows"] (spFlowsX K C c4):=by
  refine F.okX sc_sums_of (fun vs H Q E h=>?_) (fun cdv A outer s H vs Q E hr h=>?_)
  · obtain ⟨x,L,n,ps,v,d,rfl,_⟩:=h
    rfl
  · obtain ⟨x,L,n,ps,v,d,rfl,net,h28,r,hc,q⟩:=h
    refine ⟨_,(pss_cons (ps_expr (pe_call G_check_flows (hr.mono (by decide)) rfl m_check_flows k_check_flows b_check_flows .nil passes_cx (pa_cons (pv 0) (pa_cons (pv 1) pa_nil))))
      (pss_one ps_never)),?_⟩
    exact ⟨_,rfl,_,rfl,x,L,n,ps,v,d,rfl,net,h28,r,hc,q⟩
end
end K2
namespace K2
open PySem L2 Mp
theorem inV_int (x : Int) (S : List Int) : inV (.int x) (S.map V.int) = decide (x ∈ S):=by
  unfold inV
  rw [List.any_map]
  show S.any (fun a=>a == x) = decide (x ∈ S)
  induction S with
  | nil=>simp
  | cons a S ih =>
    rw [List.any_cons,ih]
    by_cases e : a = x
    · simp [e]
    · have e' : ¬ x = a:=fun h=>e h.symm
      simp [e,e']
def Fq (K : PySem.W.Frag) (H : Hp) (v : V) (q : Rat) : Prop:=∃ p,v = .ref p ∧ SqT K H p [.int q.num,.int (q.den : Int)]
def spMade (K : PySem.W.Frag) : Sp:=fun vs H Q _=>∃ (a b : Int) (k : Nat),vs = [.int a,.int b] ∧ b ≠ 0 ∧ k ≤ 9000 ∧ Bt k b ∧ ∀ p,H p = none → Q (.ref p) (upd H p (.tup [.int (Rat.divInt a b).num,.int ((Rat.divInt a b).den : Int)]))
section
variable {P : Program} {w : World} {K : PySem.W.Frag} {mg : Str → Option Value} {base : Heap} {C f : Addr} {fd : FuncData} {t1 t2 t3 : Tok}
theorem ok_made {f1 f2 : Addr} {fd1 fd2 : FuncData} (F : Fun K "made" "made" s_made f fd) (T : Txt K mg C t1 t2 t3) (m_is_whole : mg "is_whole" = some (.ref f1)) (k_is_whole : PySem.W.keepIn K (.ref f1) = true) (b_is_whole : Binds K fd1 ["value"] []) (G_is_whole : FnOk P w K mg base CX0 1 f1 fd1 ["value"] spWhole)
    (m_common_divisor : mg "common_divisor" = some (.ref f2)) (k_common_divisor : PySem.W.keepIn K (.ref f2) = true) (b_common_divisor : Binds K fd2 ["a","b"] []) (G_common_divisor : FnOk P w K mg base CX0 1 f2 fd2 ["a","b"] spGcd) :
    FnOk P w K mg base CX0 2 f fd ["a","b"] (spMade K):=by
  refine F.ok sc_made (fun vs H Q E h=>?_) (fun cdv A outer s H vs Q E hr h=>?_)
  · obtain ⟨a,b,k,rfl,_⟩:=h
    rfl
  · obtain ⟨a,b,k,rfl,hb,hk,hB,q⟩:=h
    refine ⟨_,(pss_cons (ps_if (PW.pt (pw_or (pt_not (pt_val (pe_call G_is_whole (hr.mono (by decide)) rfl m_is_whole k_is_whole b_is_whole .nil pass0 (pa_cons (pv 0) pa_nil)))) (pw_or (pt_not (pt_val (pe_call G_is_whole (hr.mono (by decide)) rfl m_is_whole k_is_whole b_is_whole .nil pass0 (pa_cons (pv 1) pa_nil)))) (pw_or1 (pt_cmpR op_eq (pv 1) pe_int (nomark _)))))) (pss_one ps_never) pss_nil)
      (pss_cons (ps_set (i:=2) sc_made.nd rfl (Or.inl rfl) (pe_call G_common_divisor (hr.mono (by decide)) rfl m_common_divisor k_common_divisor b_common_divisor .nil pass0 (pa_cons (pv 0) (pa_cons (pv 1) pa_nil))))
      (pss_cons (ps_if (pt_cmpR op_lt (pv 1) pe_int (nomark _)) (pss_one (ps_set (i:=2) sc_made.nd rfl (Or.inl rfl) (pe_un un_neg (pv 2)))) pss_nil)
      (pss_one (ps_ret (pe_tup (pa_cons (pe_op op_fdivB (pv 0) (pv 2)) (pa_cons (pe_op op_fdivB (pv 1) (pv 2)) pa_nil)))))))),?_⟩
    refine ⟨_,rfl,a,rfl,_,rfl,iteF ?_⟩
    refine ⟨_,rfl,b,rfl,_,rfl,iteF ?_⟩
    refine ⟨_,rfl,rfl,_,rfl,?_⟩
    refine ite2 (fun h=>?_) (fun _=>?_)
    · have h':=of_decide_eq_true h
      injection h' with h'
      exact absurd h' hb
    · refine ⟨_,rfl,_,rfl,a,b,rfl,?_⟩
      have hd : Bt k (My.dv a b):=Bt.le (by rw [My.dv_abs]; exact Nat.le_of_dvd (by omega) (Int.gcd_dvd_natAbs_right a b)) hB
      have fin : ∀ σ : St,σ = [some (.int a),some (.int b),some (.int (My.dv a b))] → tRet (tTup (tCons (tOp (rI CDivB fun i j=>.int (i.fdiv j)) (tVar 0) (tVar 2)) (tCons (tOp (rI CDivB fun i j=>.int (i.fdiv j)) (tVar 1) (tVar 2)) tNil))) { nx:=fun _ H'=>Q .non H',rt:=Q } σ H:=by
        rintro σ rfl
        refine ⟨_,rfl,_,rfl,_,_,rfl,rfl,⟨My.dv_ne a b hb,k,hk,hd⟩,_,rfl,_,rfl,_,_,rfl,rfl,⟨My.dv_ne a b hb,k,hk,hd⟩,by show 2 ≤ sizeLine; decide,fun p hp=>?_⟩
        dsimp only
        rw [My.made_num a b hb,My.made_den a b hb]
        exact q p hp
      refine ⟨_,rfl,_,_,rfl,rfl,_,rfl,?_⟩
      refine ite2 (fun h=>?_) (fun h=>?_)
      · have h' : b < 0:=of_decide_eq_true h
        refine ⟨_,rfl,_,rfl,?_⟩
        exact fin _ (by unfold My.dv; rw [if_pos h']; rfl)
      · have h' : ¬ b < 0:=fun z=>h (decide_eq_true z)
        exact fin _ (by unfold My.dv; rw [if_neg h']; rfl)
end
def BtQ (k : Nat) (q : Rat) : Prop:=Bt k q.num ∧ Bt k (q.den : Int)
theorem den_ne (q : Rat) : (q.den : Int) ≠ 0:=by have:=q.den_nz; omega
def spBin (K : PySem.W.Frag) (op : Rat → Rat → Rat) (ok : Rat → Prop) : Sp:=fun vs H Q _=>∃ (u v : V) (q r : Rat) (k : Nat),vs = [u,v] ∧ Fq K H u q ∧ Fq K H v r ∧ ok r ∧ k ≤ 4000 ∧ BtQ k q ∧ BtQ k r ∧ ∀ p,H p = none → Q (.ref p) (upd H p (.tup [.int (op q r).num,.int ((op q r).den : Int)]))
theorem add_as (q r : Rat) : Rat.divInt (q.num * r.den + r.num * q.den) (q.den * r.den) = q + r:=by
  rw [← My.add_div _ _ _ _ (den_ne q) (den_ne r),My.same,My.same]
theorem sub_as (q r : Rat) : Rat.divInt (q.num * r.den - r.num * q.den) (q.den * r.den) = q - r:=by
  rw [← My.sub_div _ _ _ _ (den_ne q) (den_ne r),My.same,My.same]
theorem mul_as (q r : Rat) : Rat.divInt (q.num * r.num) (q.den * r.den) = q * r:=by
  rw [← My.mul_div,My.same,My.same]
theorem div_as (q r : Rat) : Rat.divInt (q.num * r.den) (q.den * r.num) = q / r:=by
  rw [← My.div_div,My.same,My.same]
theorem mulne {a b : Int} (ha : a ≠ 0) (hb : b ≠ 0) : a * b ≠ 0:=Int.mul_ne_zero ha hb
theorem num_ne {r : Rat} (h : r ≠ 0) : r.num ≠ 0:=fun z=>h (Rat.num_eq_zero.mp z)
section
variable {P : Program} {w : World} {K : PySem.W.Frag} {mg : Str → Option Value} {base : Heap} {f fm : Addr} {fd fdm : FuncData}
theorem ok_plus (F : Fun K "plus" "plus" s_plus f fd) (m_made : mg "made" = some (.ref fm)) (k_made : PySem.W.keepIn K (.ref fm) = true) (b_made : Binds K fdm ["a","b"] []) (G_made : FnOk P w K mg base CX0 2 fm fdm ["a","b"] (spMade K)) : FnOk P w K mg base CX0 3 f fd ["one","other"] (spBin K (· + ·) fun _=>True):=by
  refine F.ok sc_plus (fun vs H Q E h=>?_) (fun cdv A outer s H vs Q E hr h=>?_)
  · obtain ⟨u,v,q,r,k,rfl,_⟩:=h
    rfl
  · obtain ⟨u,v,q,r,k,rfl,⟨p,rfl,hp⟩,⟨p',rfl,hp'⟩,_,hk,⟨q1,q2⟩,⟨r1,r2⟩,kq⟩:=h
    refine ⟨_,(pss_one (ps_ret (pe_call G_made (hr.mono (by decide)) rfl m_made k_made b_made .nil pass0 (pa_cons (pe_op op_add (pe_op op_mulB (pe_ix ix_tup (pv 0) pe_int (fun _ _=>rfl)) (pe_ix ix_tup (pv 1) pe_int (fun _ _=>rfl))) (pe_op op_mulB (pe_ix ix_tup (pv 1) pe_int (fun _ _=>rfl)) (pe_ix ix_tup (pv 0) pe_int (fun _ _=>rfl)))) (pa_cons (pe_op op_mulB (pe_ix ix_tup (pv 0) pe_int (fun _ _=>rfl)) (pe_ix ix_tup (pv 1) pe_int (fun _ _=>rfl))) pa_nil))))),?_⟩
    refine ⟨_,rfl,p,_,_,_,rfl,rfl,hp,rfl,_,rfl,p',_,_,_,rfl,rfl,hp',rfl,_,_,rfl,rfl,⟨k,k,by omega,by omega,q1,r2⟩,_,rfl,p',_,_,_,rfl,rfl,hp',rfl,_,rfl,p,_,_,_,rfl,rfl,hp,rfl,_,_,rfl,rfl,⟨k,k,by omega,by omega,r1,q2⟩,_,_,rfl,rfl,?_⟩
    refine ⟨_,rfl,p,_,_,_,rfl,rfl,hp,rfl,_,rfl,p',_,_,_,rfl,rfl,hp',rfl,_,_,rfl,rfl,⟨k,k,by omega,by omega,q2,r2⟩,?_⟩
    refine ⟨_,_,k + k,rfl,mulne (den_ne q) (den_ne r),by omega,q2.mul r2,fun a ha=>?_⟩
    rw [add_as]
    exact kq a ha
theorem ok_minus (F : Fun K "minus" "minus" s_minus f fd) (m_made : mg "made" = some (.ref fm)) (k_made : PySem.W.keepIn K (.ref fm) = true) (b_made : Binds K fdm ["a","b"] []) (G_made : FnOk P w K mg base CX0 2 fm fdm ["a","b"] (spMade K)) : FnOk P w K mg base CX0 3 f fd ["one","other"] (spBin K (· - ·) fun _=>True):=by
  refine F.ok sc_minus (fun vs H Q E h=>?_) (fun cdv A outer s H vs Q E hr h=>?_)
  · obtain ⟨u,v,q,r,k,rfl,_⟩:=h
    rfl
  · obtain ⟨u,v,q,r,k,rfl,⟨p,rfl,hp⟩,⟨p',rfl,hp'⟩,_,hk,⟨q1,q2⟩,⟨r1,r2⟩,kq⟩:=h
    refine ⟨_,(pss_one (ps_ret (pe_call G_made (hr.mono (by decide)) rfl m_made k_made b_made .nil pass0 (pa_cons (pe_op op_sub (pe_op op_mulB (pe_ix ix_tup (pv 0) pe_int (fun _ _=>rfl)) (pe_ix ix_tup (pv 1) pe_int (fun _ _=>rfl))) (pe_op op_mulB (pe_ix ix_tup (pv 1) pe_int (fun _ _=>rfl)) (pe_ix ix_tup (pv 0) pe_int (fun _ _=>rfl)))) (pa_cons (pe_op op_mulB (pe_ix ix_tup (pv 0) pe_int (fun _ _=>rfl)) (pe_ix ix_tup (pv 1) pe_int (fun _ _=>rfl))) pa_nil))))),?_⟩
    refine ⟨_,rfl,p,_,_,_,rfl,rfl,hp,rfl,_,rfl,p',_,_,_,rfl,rfl,hp',rfl,_,_,rfl,rfl,⟨k,k,by omega,by omega,q1,r2⟩,_,rfl,p',_,_,_,rfl,rfl,hp',rfl,_,rfl,p,_,_,_,rfl,rfl,hp,rfl,_,_,rfl,rfl,⟨k,k,by omega,by omega,r1,q2⟩,_,_,rfl,rfl,?_⟩
    refine ⟨_,rfl,p,_,_,_,rfl,rfl,hp,rfl,_,rfl,p',_,_,_,rfl,rfl,hp',rfl,_,_,rfl,rfl,⟨k,k,by omega,by omega,q2,r2⟩,?_⟩
    refine ⟨_,_,k + k,rfl,mulne (den_ne q) (den_ne r),by omega,q2.mul r2,fun a ha=>?_⟩
    rw [sub_as]
    exact kq a ha
theorem ok_times (F : Fun K "times" "times" s_times f fd) (m_made : mg "made" = some (.ref fm)) (k_made : PySem.W.keepIn K (.ref fm) = true) (b_made : Binds K fdm ["a","b"] []) (G_made : FnOk P w K mg base CX0 2 fm fdm ["a","b"] (spMade K)) : FnOk P w K mg base CX0 3 f fd ["one","other"] (spBin K (· * ·) fun _=>True):=by
  refine F.ok sc_times (fun vs H Q E h=>?_) (fun cdv A outer s H vs Q E hr h=>?_)
  · obtain ⟨u,v,q,r,k,rfl,_⟩:=h
    rfl
  · obtain ⟨u,v,q,r,k,rfl,⟨p,rfl,hp⟩,⟨p',rfl,hp'⟩,_,hk,⟨q1,q2⟩,⟨r1,r2⟩,kq⟩:=h
    refine ⟨_,(pss_one (ps_ret (pe_call G_made (hr.mono (by decide)) rfl m_made k_made b_made .nil pass0 (pa_cons (pe_op op_mulB (pe_ix ix_tup (pv 0) pe_int (fun _ _=>rfl)) (pe_ix ix_tup (pv 1) pe_int (fun _ _=>rfl))) (pa_cons (pe_op op_mulB (pe_ix ix_tup (pv 0) pe_int (fun _ _=>rfl)) (pe_ix ix_tup (pv 1) pe_int (fun _ _=>rfl))) pa_nil))))),?_⟩
    refine ⟨_,rfl,p,_,_,_,rfl,rfl,hp,rfl,_,rfl,p',_,_,_,rfl,rfl,hp',rfl,_,_,rfl,rfl,⟨k,k,by omega,by omega,q1,r1⟩,?_⟩
    refine ⟨_,rfl,p,_,_,_,rfl,rfl,hp,rfl,_,rfl,p',_,_,_,rfl,rfl,hp',rfl,_,_,rfl,rfl,⟨k,k,by omega,by omega,q2,r2⟩,?_⟩
    refine ⟨_,_,k + k,rfl,mulne (den_ne q) (den_ne r),by omega,q2.mul r2,fun a ha=>?_⟩
    rw [mul_as]
    exact kq a ha
theorem ok_over (F : Fun K "over" "over" s_over f fd) (m_made : mg "made" = some (.ref fm)) (k_made : PySem.W.keepIn K (.ref fm) = true) (b_made : Binds K fdm ["a","b"] []) (G_made : FnOk P w K mg base CX0 2 fm fdm ["a","b"] (spMade K)) : FnOk P w K mg base CX0 3 f fd ["one","other"] (spBin K (· / ·) fun r=>r ≠ 0):=by
  refine F.ok sc_over (fun vs H Q E h=>?_) (fun cdv A outer s H vs Q E hr h=>?_)
  · obtain ⟨u,v,q,r,k,rfl,_⟩:=h
    rfl
  · obtain ⟨u,v,q,r,k,rfl,⟨p,rfl,hp⟩,⟨p',rfl,hp'⟩,h0,hk,⟨q1,q2⟩,⟨r1,r2⟩,kq⟩:=h
    refine ⟨_,(pss_one (ps_ret (pe_call G_made (hr.mono (by decide)) rfl m_made k_made b_made .nil pass0 (pa_cons (pe_op op_mulB (pe_ix ix_tup (pv 0) pe_int (fun _ _=>rfl)) (pe_ix ix_tup (pv 1) pe_int (fun _ _=>rfl))) (pa_cons (pe_op op_mulB (pe_ix ix_tup (pv 0) pe_int (fun _ _=>rfl)) (pe_ix ix_tup (pv 1) pe_int (fun _ _=>rfl))) pa_nil))))),?_⟩
    refine ⟨_,rfl,p,_,_,_,rfl,rfl,hp,rfl,_,rfl,p',_,_,_,rfl,rfl,hp',rfl,_,_,rfl,rfl,⟨k,k,by omega,by omega,q1,r2⟩,?_⟩
    refine ⟨_,rfl,p,_,_,_,rfl,rfl,hp,rfl,_,rfl,p',_,_,_,rfl,rfl,hp',rfl,_,_,rfl,rfl,⟨k,k,by omega,by omega,q2,r1⟩,?_⟩
    refine ⟨_,_,k + k,rfl,mulne (den_ne q) (num_ne h0),by omega,q2.mul r1,fun a ha=>?_⟩
    rw [div_as]
    exact kq a ha
end
theorem Fq.same {K : PySem.W.Frag} {H H' : Hp} {v : V} {q : Rat} (h : Fq K H v q) (e : Same H H') : Fq K H' v q:=by
  obtain ⟨p,rfl,sq⟩:=h
  exact ⟨p,rfl,Same.tup e sq⟩
theorem Fq.new {K : PySem.W.Frag} {H : Hp} {p : Addr} {q : Rat} : Fq K (upd H p (.tup [.int q.num,.int (q.den : Int)])) (.ref p) q:=⟨p,rfl,SqT.of upd_same⟩
abbrev Fqs (K : PySem.W.Frag) (H : Hp) : List V → List Rat → Prop:=Paired (Fq K H)
theorem Fqs.same {K : PySem.W.Frag} {H H' : Hp} {vs : List V} {qs : List Rat} (h : Fqs K H vs qs) (e : Same H H') : Fqs K H' vs qs:=Paired.mapP h fun _ _ z=>z.same e
theorem Fqs.get {K : PySem.W.Frag} {H : Hp} : ∀ {vs : List V} {qs : List Rat} {i : Nat} {v : V},Fqs K H vs qs → vs[i]? = some v → ∃ q,qs[i]? = some q ∧ Fq K H v q
  | _,_,_,_,.nil,e=>by simp at e
  | _,_,0,_,.cons r _,e=>by simp at e; subst e; exact ⟨_,rfl,r⟩
  | _,_,i + 1,_,.cons _ t,e=>by simpa using Fqs.get (i:=i) t (by simpa using e)
theorem Fqs.snoc {K : PySem.W.Frag} {H : Hp} : ∀ {us : List V} {ps : List Rat} {v : V} {p : Rat},Fqs K H us ps → Fq K H v p → Fqs K H (us ++ [v]) (ps ++ [p])
  | _,_,_,_,.nil,h=>.cons h .nil
  | _,_,_,_,.cons a b,h=>.cons a (Fqs.snoc b h)
theorem Fqs.len {K : PySem.W.Frag} {H : Hp} {vs : List V} {qs : List Rat} (h : Fqs K H vs qs) : vs.length = qs.length:=Paired.length h
theorem BtQ.mono {k l : Nat} {q : Rat} (a : BtQ k q) (h : k ≤ l) : BtQ l q:=⟨a.1.mono h,a.2.mono h⟩
theorem BtQ.add {k l : Nat} {q r : Rat} (a : BtQ k q) (b : BtQ l r) : BtQ (k + l + 1) (q + r):=by
  have hz:=mulne (den_ne q) (den_ne r)
  rw [← add_as]
  refine ⟨Bt.le (My.num_le _ _ hz) ?_,Bt.le (by have:=My.den_le (q.num * r.den + r.num * q.den) (q.den * r.den) hz; simpa using this) ?_⟩
  · exact Bt.add (a.1.mul b.2) ((b.1.mul a.2).mono (by omega))
  · exact (a.2.mul b.2).mono (by omega)
theorem BtQ.mul {k l : Nat} {q r : Rat} (a : BtQ k q) (b : BtQ l r) : BtQ (k + l) (q * r):=by
  have hz:=mulne (den_ne q) (den_ne r)
  rw [← mul_as]
  exact ⟨Bt.le (My.num_le _ _ hz) (a.1.mul b.1),Bt.le (by have:=My.den_le (q.num * r.num) (q.den * r.den) hz; simpa using this) (a.2.mul b.2)⟩
theorem BtQ.div {k l : Nat} {q r : Rat} (a : BtQ k q) (b : BtQ l r) (h : r ≠ 0) : BtQ (k + l) (q / r):=by
  have hz:=mulne (den_ne q) (num_ne h)
  rw [← div_as]
  exact ⟨Bt.le (My.num_le _ _ hz) (a.1.mul b.2),Bt.le (by have:=My.den_le (q.num * r.den) (q.den * r.num) hz; simpa using this) (a.2.mul b.1)⟩
theorem frac_eq (q r : Rat) : PyData.eqv (.tuple [.int q.num,.int (q.den : Int)]) (.tuple [.int r.num,.int (r.den : Int)]) = decide (q = r):=by
  show ((q.num == r.num) && (((q.den : Int) == (r.den : Int)) && true)) = _
  by_cases e : q = r
  · subst e; simp
  · have : ¬ (q.num = r.num ∧ q.den = r.den):=fun h=>e (Rat.ext h.1 h.2)
    rw [decide_eq_false e]
    by_cases h1 : q.num = r.num
    · have h2 : ¬ q.den = r.den:=fun z=>this ⟨h1,z⟩
      simp [h1]
      omega
    · simp [h1]
theorem Fq.rep {K : PySem.W.Frag} {H : Hp} {v : V} {q : Rat} (h : Fq K H v q) : Rep K H v (.tuple [.int q.num,.int (q.den : Int)]):=by
  obtain ⟨p,rfl,hp⟩:=h
  exact .tup hp (.cons (.int _) (.cons (.int _) .nil))
theorem rEq_frac {K : PySem.W.Frag} {H : Hp} {u v : V} {q r : Rat} {Q : V → Hp → Prop} (hu : Fq K H u q) (hv : Fq K H v r) (k : Q (.bl (decide (q = r))) H) : rEqD K false u v H Q :=
  ⟨_,_,hu.rep,hv.rep,rfl,rfl,(by show 0 + 1 ≤ 40; decide),by rw [if_neg Bool.false_ne_true,frac_eq]; exact k⟩
theorem rNe_frac {K : PySem.W.Frag} {H : Hp} {u v : V} {q r : Rat} {Q : V → Hp → Prop} (hu : Fq K H u q) (hv : Fq K H v r) (k : Q (.bl (!decide (q = r))) H) : rEqD K true u v H Q :=
  ⟨_,_,hu.rep,hv.rep,rfl,rfl,(by show 0 + 1 ≤ 40; decide),by rw [if_pos rfl,frac_eq]; exact k⟩
theorem btq0 : BtQ 1 (0 : Rat):=⟨by show (0 : Int).natAbs < 2; decide,by show (1 : Int).natAbs < 2; decide⟩
theorem sum_take (qs : List Rat) (i : Nat) (q : Rat) (h : qs[i]? = some q) : (qs.take (i + 1)).sum = (qs.take i).sum + q:=by
  rw [List.take_add_one,h]
  simp [List.sum_append,Rat.add_zero]
def spTotal (K : PySem.W.Frag) : Sp:=fun vs H Q _=>∃ (p : Addr) (us : List V) (qs : List Rat),vs = [.ref p] ∧ SqL K H p us ∧ Fqs K H us qs ∧ (∀ q ∈ qs,BtQ 4000 q) ∧ (∀ i,i ≤ qs.length → BtQ 4000 (qs.take i).sum) ∧ ∀ v H',Same H H' → Fq K H' v qs.sum → Q v H'
section
variable {P : Program} {w : World} {K : PySem.W.Frag} {mg : Str → Option Value} {base : Heap} {f fm : Addr} {fd fdm : FuncData}
theorem ok_total (F : Fun K "total" "total" s_total f fd) (m_plus : mg "plus" = some (.ref fm)) (k_plus : PySem.W.keepIn K (.ref fm) = true) (b_plus : Binds K fdm ["one","other"] []) (G_plus : FnOk P w K mg base CX0 3 fm fdm ["one","other"] (spBin K (· + ·) fun _=>True)) : FnOk P w K mg base CX0 4 f fd ["fractions"] (spTotal K):=by
  refine F.ok sc_total (fun vs H Q E h=>?_) (fun cdv A outer s H vs Q E hr h=>?_)
  · obtain ⟨p,us,qs,rfl,_⟩:=h
    rfl
  · obtain ⟨p,us,qs,rfl,sq,fq,hb,hs,k⟩:=h
    refine ⟨_,(pss_cons (ps_set (i:=1) sc_total.nd rfl (Or.inl rfl) (pe_tup (pa_cons pe_int (pa_cons pe_int pa_nil))))
      (pss_cons (ps_for PassesOwn.never rfl (pi_list (pv 0)) (pg_name (i:=2) sc_total.nd rfl (Or.inl rfl)) (pss_one (ps_set (i:=1) sc_total.nd rfl (Or.inl rfl) (pe_call G_plus (hr.mono (by decide)) rfl m_plus k_plus b_plus .nil pass0 (pa_cons (pv 1) (pa_cons (pv 2) pa_nil))))))
      (pss_one (ps_ret (pv 1))))),?_⟩
    refine ⟨by show 2 ≤ sizeLine; decide,fun p0 hp0=>?_⟩
    have s0 : Same H (upd H p0 (.tup [.int 0,.int 1])):=same_upd hp0
    refine ⟨_,rfl,p,rfl,⟨_,s0.seq sq⟩,for_list (K:=K) (a:=p) (xs:=us) (fun i σ H'=>∃ (v : V) (x : Option V),σ = [some (.ref p),some v,x] ∧ Same H H' ∧ Fq K H' v (qs.take i).sum)
      ⟨.ref p0,none,rfl,s0,⟨p0,rfl,SqT.of upd_same⟩⟩ (fun i σ H' _ ⟨_,_,_,z,_⟩=>z.seq sq) ?_ ?_⟩
    · rintro i x σ H' hi ⟨v,y,rfl,se,fv⟩
      obtain ⟨q,hq,fx⟩:=(fq.same se).get hi
      have hil : i < qs.length:=(List.getElem?_eq_some_iff.mp hq).1
      refine ⟨_,rfl,_,rfl,v,x,_,_,4000,rfl,fv,fx,trivial,Nat.le_refl _,hs i (by omega),hb q (List.mem_of_getElem? hq),fun a ha=>?_⟩
      refine ⟨.ref a,_,rfl,se.trans (same_upd ha),?_⟩
      rw [sum_take qs i q hq]
      exact Fq.new
    · rintro σ H' ⟨v,y,rfl,se,fv⟩
      refine ⟨_,rfl,k v H' se ?_⟩
      rw [fq.len,List.take_length] at fv
      exact fv
end
end K2
namespace K2
open PySem L2 Mp St Bz
theorem NetOk.fits {n : Int} {ps : List Pipe} (h : NetOk n ps) : Fits n ps:=fun p hp=>⟨⟨(h.ok p hp).u0,(h.ok p hp).un⟩,⟨(h.ok p hp).w0,(h.ok p hp).wn⟩⟩
theorem NetOk.nice {n : Nat} {ps : List Pipe} (h : NetOk n ps) : Nice n ps:=⟨h.fits,fun p hp=>(h.ok p hp).ne,fun p hp=>(h.ok p hp).a1,fun p hp=>(h.ok p hp).b1⟩
theorem inV2 (y u w : Int) : inV (.int y) [.int u,.int w] = (decide (y = u) || decide (y = w)):=by
  have:=inV_int y [u,w]
  simp only [List.map_cons,List.map_nil] at this
  rw [this]
  by_cases h1 : y = u <;> by_cases h2 : y = w <;> simp [h1,h2]
theorem btq_of {q : Rat} {N : Int} {B k : Nat} (h : Dn N B q) (h0 : N ≠ 0) (hN : N.natAbs < 2 ^ k) (hB : B < 2 ^ k) : BtQ k q:=by
  obtain ⟨a,b⟩:=h.le h0
  exact ⟨Nat.lt_of_le_of_lt a hB,by show ((q.den : Int)).natAbs < 2 ^ k; rw [Int.natAbs_natCast]; exact Nat.lt_of_le_of_lt b hN⟩
theorem PipeOk.hardq {n : Int} {p : Pipe} (h : PipeOk n p) : (hard p).num = p.a ∧ ((hard p).den : Int) = p.b:=by
  have hb:=h.b1
  have e : hard p = Rat.divInt p.a p.b:=(Rat.divInt_eq_div _ _).symm
  have g:=h.gc
  rw [e]
  constructor
  · rw [← My.made_num p.a p.b (by omega)]
    unfold My.dv
    rw [if_neg (by omega),g]
    simp
  · rw [← My.made_den p.a p.b (by omega)]
    unfold My.dv
    rw [if_neg (by omega),g]
    simp
theorem PipeOk.fq {K : PySem.W.Frag} {H : Hp} {n : Int} {p : Pipe} {y : Addr} (h : PipeOk n p) (hy : SqT K H y [.int p.a,.int p.b]) : Fq K H (.ref y) (hard p):=by
  obtain ⟨e1,e2⟩:=h.hardq
  exact ⟨y,rfl,by rw [e1,e2]; exact hy⟩
theorem ease_as {p : Pipe} (ha : 1 ≤ p.a) (hb : 1 ≤ p.b) : (1 : Rat) / hard p = ease p:=by
  have h1:=ease_hard ha hb
  have h2:=hard_pos ha hb
  grind
theorem hard_ne {p : Pipe} (ha : 1 ≤ p.a) (hb : 1 ≤ p.b) : hard p ≠ 0:=fun z=>by
  have:=hard_pos ha hb
  rw [z] at this
  grind
theorem PipeOk.btq {n : Int} {p : Pipe} (h : PipeOk n p) {k : Nat} (ha : p.a < 2 ^ k) (hb : p.b < 2 ^ k) : BtQ k (hard p) ∧ BtQ k (ease p):=by
  have a1:=h.a1
  have b1:=h.b1
  have h2k : ((2 ^ k : Nat) : Int) = 2 ^ k:=by norm_cast
  have t1 : Bt k p.a:=by show p.a.natAbs < 2 ^ k; omega
  have t2 : Bt k p.b:=by show p.b.natAbs < 2 ^ k; omega
  have e : ease p = Rat.divInt p.b p.a:=(Rat.divInt_eq_div _ _).symm
  have e' : hard p = Rat.divInt p.a p.b:=(Rat.divInt_eq_div _ _).symm
  constructor
  · rw [e']
    exact ⟨Bt.le (My.num_le _ _ (by omega)) t1,Bt.le (by have:=My.den_le p.a p.b (by omega); simpa using this) t2⟩
  · rw [e]
    exact ⟨Bt.le (My.num_le _ _ (by omega)) t2,Bt.le (by have:=My.den_le p.b p.a (by omega); simpa using this) t1⟩
theorem one_fq {K : PySem.W.Frag} {H : Hp} {p : Addr} (h : H p = some (.tup [.int 1,.int 1])) : Fq K H (.ref p) 1:=⟨p,rfl,SqT.of h⟩
theorem zero_fq {K : PySem.W.Frag} {H : Hp} {p : Addr} (h : H p = some (.tup [.int 0,.int 1])) : Fq K H (.ref p) 0:=⟨p,rfl,SqT.of h⟩
theorem btq1 : BtQ 1 (1 : Rat):=⟨by show (1 : Int).natAbs < 2; decide,by show (1 : Int).natAbs < 2; decide⟩
section
variable {C : Addr}
theorem made_same {H H' : Hp} {x' dx' : Addr} {n : Int} (nx : H x' = none) (ndx : H dx' = none) (kp : ∀ b o,(upd (upd H dx' (.own x')) x' (.ins C dx' [])) b = some o → b ≠ x' → H' b = some o) : Same H H':=fun b o e=>by
  refine kp b o ?_ (ne_of_none e nx)
  rw [upd_ne (ne_of_none e nx),upd_ne (ne_of_none e ndx)]
  exact e
theorem made_s0 {H : Hp} {x' dx' : Addr} (nx : H x' = none) (ndx : H dx' = none) : Same H (upd (upd H dx' (.own x')) x' (.ins C dx' [])):=fun b o e=>by
  rw [upd_ne (ne_of_none e nx),upd_ne (ne_of_none e ndx)]
  exact e
end
theorem pipesD_ok {n : Int} : ∀ {ps : List Pipe},(∀ p ∈ ps,PipeOk n p) → (pipesD ps).all (pipeD n) = true
  | [],_=>rfl
  | p :: ps,h=>by
    show (pipeD n (.tuple [.int p.u,.int p.w,.tuple [.int p.a,.int p.b]]) && (pipesD ps).all (pipeD n)) = true
    obtain ⟨u0,un,w0,wn,ne,a1,aM,b1,bM,gc⟩:=h p (by simp)
    rw [pipesD_ok fun q hq=>h q (by simp [hq]),Bool.and_true]
    show (decide _ && decide _) = true
    rw [decide_eq_true ⟨⟨u0,un⟩,⟨w0,wn⟩,ne⟩,decide_eq_true ⟨⟨a1,aM⟩,⟨b1,bM⟩,gc⟩]
    rfl
theorem pipesD_len (ps : List Pipe) : (pipesD ps).length = ps.length:=List.length_map ..
theorem netD_ok {n : Int} {ps : List Pipe} (ok : NetOk n ps) : netD (.int n) (.list (pipesD ps)) = true:=by
  show (decide _ && _) = true
  rw [decide_eq_true ⟨ok.n1,ok.n8,by rw [pipesD_len]; exact ok.le⟩,pipesD_ok ok.ok]
  rfl
theorem pipesD_inv {n : Int} : ∀ {ps : List Pipe},(pipesD ps).all (pipeD n) = true → ∀ p ∈ ps,PipeOk n p
  | [],_,_,h=>nomatch h
  | q :: ps,h,p,hp=>by
    have h' : (pipeD n (.tuple [.int q.u,.int q.w,.tuple [.int q.a,.int q.b]]) && (pipesD ps).all (pipeD n)) = true:=h
    have h1:=(Bool.and_eq_true _ _).mp h'
    rcases List.mem_cons.mp hp with rfl | hp
    · have h2 : (decide _ && decide _) = true:=h1.1
      have h3:=(Bool.and_eq_true _ _).mp h2
      obtain ⟨⟨u0,un⟩,⟨w0,wn⟩,ne⟩:=of_decide_eq_true h3.1
      obtain ⟨⟨a1,aM⟩,⟨b1,bM⟩,gc⟩:=of_decide_eq_true h3.2
      exact ⟨u0,un,w0,wn,ne,a1,aM,b1,bM,gc⟩
    · exact pipesD_inv h1.2 p hp
theorem netD_net {n : Int} {ps : List Pipe} (h : netD (.int n) (.list (pipesD ps)) = true) : NetOk n ps:=by
  have h' : (decide _ && _) = true:=h
  have h1:=(Bool.and_eq_true _ _).mp h'
  obtain ⟨n1,n8,le⟩:=of_decide_eq_true h1.1
  exact ⟨n1,n8,pipesD_inv h1.2,by rw [pipesD_len] at le; exact le⟩
end K2
namespace K2
open PySem L2 Mp St Bz
def EzSm (ps : List Pipe) : Prop:=∃ (N : Int) (B : Nat),N ≠ 0 ∧ N.natAbs < 2 ^ 900 ∧ 28 * B < 2 ^ 900 ∧ ∀ p ∈ ps,Dn N B (ease p)
theorem EzSm.sum {ps : List Pipe} (h : EzSm ps) (hl : ps.length ≤ 28) {qs : List Pipe} (hs : qs.Sublist ps) : BtQ 900 (qs.map ease).sum:=by
  obtain ⟨N,B,h0,hN,hB,hd⟩:=h
  have d : Dn N ((qs.map ease).length * B) (qs.map ease).sum:=Dn.sum fun q hq=>by
    obtain ⟨p,hp,rfl⟩:=List.mem_map.mp hq
    exact hd p (hs.subset hp)
  refine btq_of d h0 hN (Nat.lt_of_le_of_lt (Nat.mul_le_mul_right _ ?_) hB)
  rw [List.length_map]
  exact Nat.le_trans hs.length_le hl
theorem sum_sp (ps : List Pipe) (f : Pipe → Rat) : (ps.map f).sum = sp ps f:=by
  induction ps with
  | nil=>rfl
  | cons p r ih=>rw [List.map_cons,List.sum_cons,ih]; rfl
theorem ez_sum (ps : List Pipe) (x y : Int) : ((ps.filter (betw x y)).map ease).sum = ez ps x y:=by
  rw [sum_sp,sp_filt]
  rfl
theorem et_sum (ps : List Pipe) (x : Int) : ((ps.filter (touch x)).map ease).sum = et ps x:=by
  rw [sum_sp,sp_filt]
  rfl
theorem EzSm.ez {ps : List Pipe} (h : EzSm ps) (hl : ps.length ≤ 28) (x y : Int) : BtQ 900 (ez ps x y):=by
  rw [← ez_sum]
  exact h.sum hl List.filter_sublist
theorem EzSm.et {ps : List Pipe} (h : EzSm ps) (hl : ps.length ≤ 28) (x : Int) : BtQ 900 (et ps x):=by
  rw [← et_sum]
  exact h.sum hl List.filter_sublist
def spEzb (K : PySem.W.Frag) : Sp:=fun vs H Q _=>∃ (l : Addr) (us : List V) (n : Nat) (ps : List Pipe) (x y : Int),vs = [.ref l,.int x,.int y] ∧ SqL K H l us ∧ PipesAt K H us ps ∧ NetOk n ps ∧ EzSm ps ∧ ∀ (H' : Hp) (v : V),Same H H' → Fq K H' v (ez ps x y) → Q v H'
def spEza (K : PySem.W.Frag) : Sp:=fun vs H Q _=>∃ (l : Addr) (us : List V) (n : Nat) (ps : List Pipe) (x : Int),vs = [.ref l,.int x] ∧ SqL K H l us ∧ PipesAt K H us ps ∧ NetOk n ps ∧ EzSm ps ∧ ∀ (H' : Hp) (v : V),Same H H' → Fq K H' v (et ps x) → Q v H'
def spEzw (K : PySem.W.Frag) (g : List Pipe → Int → Int → Int → Rat) : Sp:=fun vs H Q _=>∃ (l : Addr) (us : List V) (n : Nat) (ps : List Pipe) (x t y : Int),vs = [.ref l,.int x,.int t,.int y] ∧ SqL K H l us ∧ PipesAt K H us ps ∧ NetOk n ps ∧ EzSm ps ∧ (0 ≤ y ∧ y < n) ∧ ∀ (H' : Hp) (v : V),Same H H' → Fq K H' v (g ps x t y) → Q v H'
def PrAt (H : Hp) (v : V) (q : Nat × Nat) : Prop:=∃ a,v = .ref a ∧ H a = some (.tup [.int (q.1 : Int),.int (q.2 : Int)])
abbrev PrsAt (H : Hp) : List V → List (Nat × Nat) → Prop:=Paired (PrAt H)
theorem PrsAt.same {H H' : Hp} {us : List V} {l : List (Nat × Nat)} (h : PrsAt H us l) (s : Same H H') : PrsAt H' us l:=Paired.mapP h fun _ _ ⟨a,e,z⟩=>⟨a,e,s _ _ z⟩
theorem PrsAt.put {H : Hp} {us : List V} {l : List (Nat × Nat)} {r : Addr} {xs ys : List V} (h : PrsAt H us l) (hr : H r = some (.lst xs)) : PrsAt (upd H r (.lst ys)) us l:=Paired.mapP h fun _ _ ⟨a,e,z⟩=>⟨a,e,by rw [upd_ne (fun q=>by rw [q,hr] at z; cases z)]; exact z⟩
theorem Paired.snoc' {α β : Type} {R : α → β → Prop} : ∀ {us : List α} {ps : List β} {v : α} {p : β},Paired R us ps → R v p → Paired R (us ++ [v]) (ps ++ [p])
  | _,_,_,_,.nil,h=>.cons h .nil
  | _,_,_,_,.cons a b,h=>.cons a (Paired.snoc' b h)
theorem Paired.get' {α β : Type} {R : α → β → Prop} : ∀ {us : List α} {ps : List β} {i : Nat} {v : α},Paired R us ps → us[i]? = some v → ∃ p,ps[i]? = some p ∧ R v p
  | _,_,_,_,.nil,e=>by simp at e
  | _,_,0,_,.cons a _,e=>by simp at e; subst e; exact ⟨_,rfl,a⟩
  | _,_,i + 1,_,.cons _ b,e=>by simpa using Paired.get' b (by simpa using e)
def prsTo (m i : Nat) : List (Nat × Nat):=(List.range i).flatMap fun i=>(List.range (m - (i + 1))).map fun j=>(i,i + 1 + j)
theorem prsTo_succ (m i : Nat) : prsTo m (i + 1) = prsTo m i ++ (List.range (m - (i + 1))).map fun j=>(i,i + 1 + j):=by
  unfold prsTo
  rw [List.range_succ,List.flatMap_append,List.flatMap_cons,List.flatMap_nil,List.append_nil]
theorem prsTo_len (m : Nat) : ∀ i,(prsTo m i).length ≤ m * i
  | 0=>Nat.le_refl _
  | i + 1=>by
    have:=prsTo_len m i
    rw [prsTo_succ,List.length_append,List.length_map,List.length_range,Nat.mul_succ]
    omega
theorem prs_len : ∀ m,m ≤ 8 → (prs m).length ≤ 28:=by
  intro m hm
  have : m = 0 ∨ m = 1 ∨ m = 2 ∨ m = 3 ∨ m = 4 ∨ m = 5 ∨ m = 6 ∨ m = 7 ∨ m = 8:=by omega
  rcases this with rfl | rfl | rfl | rfl | rfl | rfl | rfl | rfl | rfl <;> decide
def spPairs : Sp:=fun vs H Q _=>∃ m : Nat,vs = [.int (m : Int)] ∧ m ≤ 8 ∧ ∀ (H' : Hp) (r : Addr) (us : List V),Same H H' → H r = none → H' r = some (.lst us) → PrsAt H' us (prs m) → Q (.ref r) H'
def EsAt (K : PySem.W.Frag) (E : Int → Int → Rat) (H : Hp) (v : V) (q : Nat × Nat) : Prop:=∃ a e,v = .ref a ∧ H a = some (.tup [.int (q.1 : Int),.int (q.2 : Int),e]) ∧ Fq K H e (E q.1 q.2)
theorem EsAt.same {K : PySem.W.Frag} {E : Int → Int → Rat} {H H' : Hp} {us : List V} {l : List (Nat × Nat)} (h : Paired (EsAt K E H) us l) (s : Same H H') : Paired (EsAt K E H') us l:=Paired.mapP h fun _ _ ⟨a,e,z1,z2,z3⟩=>⟨a,e,z1,s _ _ z2,z3.same s⟩
theorem mesh_snoc (E : Int → Int → Rat) (l : List (Nat × Nat)) (q : Nat × Nat) : mesh E (l ++ [q]) = mesh E l ++ (if E q.1 q.2 = 0 then [] else [⟨q.1,q.2,(1 / E q.1 q.2).num,((1 / E q.1 q.2).den : Int)⟩]):=by
  unfold mesh
  rw [List.filter_append,List.map_append]
  by_cases h : E q.1 q.2 = 0 <;> simp [h]
def spNoe (K : PySem.W.Frag) (C CB : Addr) : Sp:=fun vs H Q X=>∃ (l : Addr) (us : List V) (m : Nat) (E : Int → Int → Rat),vs = [.int (m : Int),.ref l] ∧ SqL K H l us ∧ Paired (EsAt K E H) us (prs m) ∧ m ≤ 8 ∧ (∀ q ∈ prs m,BtQ 4000 (E q.1 q.2)) ∧ (¬ NetOk m (mesh E (prs m)) → ∀ H',Same H H' → X (.ref CB) none H') ∧ (NetOk m (mesh E (prs m)) → ∀ (H' : Hp) (x : Addr),Same H H' → Q (.ref x) H')
def spSlim (K : PySem.W.Frag) (C CB : Addr) : Sp:=fun vs H Q X=>∃ (x L : Addr) (n : Nat) (ps : List Pipe),vs = [.ref x] ∧ NetAt K C H x L n ps ∧ NetOk n ps ∧ EzSm ps ∧ (¬ NetOk n (mesh (ez ps) (prs n)) → ∀ H',Same H H' → X (.ref CB) none H') ∧ (NetOk n (mesh (ez ps) (prs n)) → ∀ (H' : Hp) (x : Addr),Same H H' → Q (.ref x) H')
def spOut (K : PySem.W.Frag) (C CN CB : Addr) : Sp:=fun vs H Q X=>∃ (x L : Addr) (n : Nat) (ps : List Pipe) (v : V) (d : PyData),vs = [.ref x,v] ∧ NetAt K C H x L n ps ∧ NetOk n ps ∧ Rep K H v d ∧ 2 ≤ n ∧
  (countsD d n = false → ∀ H',Same H H' → X (.ref CN) none H') ∧
  (countsD d n = true → EzSm ps ∧ ∀ (m k : Nat),n = m + 1 → v = .int (k : Int) → (¬ NetOk m (outP ps k m) → ∀ H',Same H H' → X (.ref CB) none H') ∧ (NetOk m (outP ps k m) → ∀ (H' : Hp) (x' : Addr),Same H H' → Q (.ref x') H'))
structure TxtO (K : PySem.W.Frag) (mg : Str → Option Value) (C CN : Addr) : Prop where
  n_range : mg "range" = none
  n_len : mg "len" = none
  c_Net : Cls K C
  a_size : NoAttr K C "size"
  e_NoPlace : IsErr K CN
  m_NoPlace : mg "NoPlace" = some (.ref CN)
section
variable {P : Program} {w : World} {K : PySem.W.Frag} {mg : Str → Option Value} {base : Heap} {C CN CB f fa fb fc fe fi fn fp fq fo ft : Addr} {fd fda fdb fdc fde fdi fdn fdp fdq fdo fdt : FuncData} {t1 t2 t3 : Tok}
theorem ok_ezb (F : Fun K "ease_between" "ease_between" s_ease_between f fd)
    (m_total : mg "total" = some (.ref ft)) (k_total : PySem.W.keepIn K (.ref ft) = true) (b_total : Binds K fdt ["fractions"] []) (G_total : FnOk P w K mg base CX0 4 ft fdt ["fractions"] (spTotal K))
    (m_over : mg "over" = some (.ref fo)) (k_over : PySem.W.keepIn K (.ref fo) = true) (b_over : Binds K fdo ["one","other"] []) (G_over : FnOk P w K mg base CX0 3 fo fdo ["one","other"] (spBin K (· / ·) fun r=>r ≠ 0)) : FnOk P w K mg base CX0 5 f fd ["pipes","one","other"] (spEzb K):=by
  refine F.ok sc_ease_between (fun vs H Q E h=>?_) (fun cdv A outer s H vs Q E hr h=>?_)
  · obtain ⟨l,us,n,ps,x,y,rfl,_⟩:=h
    rfl
  · obtain ⟨l,us,n,ps,y,z,rfl,hl,hp,ok,sm,q⟩:=h
    have hus : us.length = ps.length:=Paired.length hp
    have hle:=ok.le
    refine ⟨_,(pss_cons (ps_set (i:=3) sc_ease_between.nd rfl (Or.inr rfl) (pe_tup (pa_cons (pe_tup (pa_cons (pv 1) (pa_cons (pv 2) pa_nil))) (pa_cons (pe_tup (pa_cons (pv 2) (pa_cons (pv 1) pa_nil))) pa_nil))))
      (pss_one (ps_ret (pe_call G_total (hr.mono (by decide)) rfl m_total k_total b_total .nil pass0 (pa_cons (pe_comp ["start","end","hardness"] [3] rfl rfl (by kernel_rfl) (pi_list (pv 0)) (fun _ _ _ _=>(pg_tup (n:=3) rfl (pgs_cons (pg_name (i:=0) (show (["start","end","hardness","ways"] : List Str).Nodup by decide +kernel) rfl (Or.inl rfl)) (pgs_cons (pg_name (i:=1) (show (["start","end","hardness","ways"] : List Str).Nodup by decide +kernel) rfl (Or.inl rfl)) (pgs_cons (pg_name (i:=2) (show (["start","end","hardness","ways"] : List Str).Nodup by decide +kernel) rfl (Or.inl rfl)) pgs_nil))))) (fun _ _ _ _=>(gk_tup (gks_cons gk_name (gks_cons gk_name (gks_cons gk_name gks_nil))))) (fun _ _ _ _=>(pf_one (pt_cmpR (op_inT2 hr.units) (pe_tup (pa_cons (pv 0) (pa_cons (pv 1) pa_nil))) (pv 3) rfl))) (fun _ _ _ _=>(pe_call G_over (hr.mono (by decide)) rfl m_over k_over b_over .nil pass0 (pa_cons (pe_tup (pa_cons pe_int (pa_cons pe_int pa_nil))) (pa_cons (pv 2) pa_nil))))) pa_nil))))),?_⟩
    refine ⟨_,rfl,_,rfl,by show 2 ≤ sizeLine; decide,fun r1 hr1=>⟨_,rfl,_,rfl,by show 2 ≤ sizeLine; decide,fun r2 hr2=>⟨by show 2 ≤ sizeLine; decide,fun wt hwt=>?_⟩⟩⟩
    have s1:=same_upd (o:=.tup [.int y,.int z]) hr1
    have s2:=same_upd (o:=.tup [.int z,.int y]) hr2
    have s3:=same_upd (o:=.tup [.ref r1,.ref r2]) hwt
    have h1:=s3 _ _ (s2 _ _ (upd_same (H:=H) (a:=r1) (o:=.tup [.int y,.int z])))
    have h2:=s3 _ _ (upd_same (H:=upd H r1 (.tup [.int y,.int z])) (a:=r2) (o:=.tup [.int z,.int y]))
    have h3 : (upd (upd (upd H r1 (.tup [.int y,.int z])) r2 (.tup [.int z,.int y])) wt (.tup [.ref r1,.ref r2])) wt = some (.tup [.ref r1,.ref r2]):=upd_same
    have hne : r1 ≠ r2:=ne_of_none (upd_same (H:=H) (a:=r1) (o:=.tup [.int y,.int z])) hr2
    have s0:=(s1.trans s2).trans s3
    generalize upd (upd (upd H r1 (.tup [.int y,.int z])) r2 (.tup [.int z,.int y])) wt (.tup [.ref r1,.ref r2]) = H1 at h1 h2 h3 s0 ⊢
    refine ⟨_,rfl,l,rfl,⟨_,s0.seq hl⟩,comp_list (K:=K) (a:=l) (xs:=us) (fun i ys H'=>Same H1 H' ∧ Fqs K H' ys (((ps.take i).filter (betw y z)).map ease)) ⟨Same.refl _,.nil⟩ (small1000 (by omega)) ?_ ?_ ?_⟩
    · rintro i ys H' hi ⟨s4,hY⟩
      refine ⟨?_,(s0.trans s4).seq hl⟩
      rw [hY.len,List.length_map]
      exact Nat.le_trans (List.length_filter_le _ _) (by rw [List.length_take]; omega)
    · rintro i x ys H' N hx ⟨s4,hY⟩ hN C' s₀ H₀ ex
      obtain ⟨p,hpi,⟨x,yy,rfl,hx3,hy⟩⟩:=(PipesAt.same (s0.trans s4) hp).get hx
      have pok:=ok.ok p (List.mem_of_getElem? hpi)
      have ht : ps.take (i + 1) = ps.take i ++ [p]:=by rw [List.take_succ,hpi]; rfl
      refine ⟨x,_,rfl,hx3,rfl,_,_,rfl,_,_,rfl,_,_,rfl,rfl,?_⟩
      refine ⟨_,rfl,_,rfl,by show 2 ≤ sizeLine; decide,fun t htt=>?_⟩
      have s5:=same_upd (o:=.tup [.int p.u,.int p.w]) htt
      have s45:=s4.trans s5
      refine ⟨_,rfl,t,wt,r1,r2,p.u,p.w,y,z,z,y,rfl,rfl,SqT.of upd_same,SqT.of (s45 _ _ h3),hne,SqT.of (s45 _ _ h1),SqT.of (s45 _ _ h2),_,rfl,?_⟩
      show if betw y z p = true then _ else _
      by_cases e : betw y z p = true
      · rw [e]
        refine iteT ?_
        obtain ⟨bh,_⟩:=pok.btq (k:=31) (by have:=pok.aM; omega) (by have:=pok.bM; omega)
        refine ⟨by show 2 ≤ sizeLine; decide,fun t1 ht1=>?_⟩
        have s6:=same_upd (o:=.tup [.int 1,.int 1]) ht1
        refine ⟨_,rfl,.ref t1,.ref yy,1,hard p,4000,rfl,one_fq upd_same,pok.fq (Same.tup s6 (Same.tup s5 hy)),hard_ne pok.a1 pok.b1,by decide,btq1.mono (by decide),bh.mono (by decide),fun c hc=>?_⟩
        have s7:=same_upd (o:=.tup [.int (1 / hard p : Rat).num,.int ((1 / hard p : Rat).den : Int)]) hc
        refine hN _ _ ⟨(s45.trans s6).trans s7,?_⟩
        rw [ht,List.filter_append,List.map_append]
        have e2 : [p].filter (betw y z) = [p]:=by simp [e]
        rw [e2,List.map_cons,List.map_nil,← ease_as pok.a1 pok.b1]
        exact Fqs.snoc (hY.same ((s5.trans s6).trans s7)) Fq.new
      · have e' : betw y z p = false:=by simpa using e
        rw [e']
        refine iteF (hN _ _ ⟨s45,?_⟩)
        rw [ht,List.filter_append,List.map_append]
        have e2 : [p].filter (betw y z) = []:=by simp [e']
        rw [e2,List.map_nil,List.append_nil]
        exact hY.same s5
    · rintro ys H' ⟨s4,hY⟩ pl hpl
      rw [hus,List.take_length] at hY
      have s5:=same_upd (o:=.lst ys) hpl
      refine ⟨pl,ys,_,rfl,SqL.of upd_same,hY.same s5,fun q hq=>?_,fun i hi=>?_,fun v H2 s6 f6=>q _ _ ((s0.trans s4).trans (s5.trans s6)) ?_⟩
      · obtain ⟨p,hp,rfl⟩:=List.mem_map.mp hq
        have pok:=ok.ok p (List.mem_filter.mp hp).1
        obtain ⟨_,be⟩:=pok.btq (k:=31) (by have:=pok.aM; omega) (by have:=pok.bM; omega)
        exact be.mono (by decide)
      · rw [← List.map_take]
        exact (sm.sum hle ((List.take_sublist _ _).trans List.filter_sublist)).mono (by decide)
      · rw [← ez_sum]
        exact f6
theorem ok_eza (F : Fun K "ease_at" "ease_at" s_ease_at f fd)
    (m_total : mg "total" = some (.ref ft)) (k_total : PySem.W.keepIn K (.ref ft) = true) (b_total : Binds K fdt ["fractions"] []) (G_total : FnOk P w K mg base CX0 4 ft fdt ["fractions"] (spTotal K))
    (m_over : mg "over" = some (.ref fo)) (k_over : PySem.W.keepIn K (.ref fo) = true) (b_over : Binds K fdo ["one","other"] []) (G_over : FnOk P w K mg base CX0 3 fo fdo ["one","other"] (spBin K (· / ·) fun r=>r ≠ 0)) : FnOk P w K mg base CX0 5 f fd ["pipes","at"] (spEza K):=by
  refine F.ok sc_ease_at (fun vs H Q E h=>?_) (fun cdv A outer s H vs Q E hr h=>?_)
  · obtain ⟨l,us,n,ps,x,rfl,_⟩:=h
    rfl
  · obtain ⟨l,us,n,ps,y,rfl,hl,hp,ok,sm,q⟩:=h
    have hus : us.length = ps.length:=Paired.length hp
    have hle:=ok.le
    refine ⟨_,(pss_one (ps_ret (pe_call G_total (hr.mono (by decide)) rfl m_total k_total b_total .nil pass0 (pa_cons (pe_comp ["start","end","hardness"] [1] rfl rfl (by kernel_rfl) (pi_list (pv 0)) (fun _ _ _ _=>(pg_tup (n:=3) rfl (pgs_cons (pg_name (i:=0) (show (["start","end","hardness","at"] : List Str).Nodup by decide +kernel) rfl (Or.inl rfl)) (pgs_cons (pg_name (i:=1) (show (["start","end","hardness","at"] : List Str).Nodup by decide +kernel) rfl (Or.inl rfl)) (pgs_cons (pg_name (i:=2) (show (["start","end","hardness","at"] : List Str).Nodup by decide +kernel) rfl (Or.inl rfl)) pgs_nil))))) (fun _ _ _ _=>(gk_tup (gks_cons gk_name (gks_cons gk_name (gks_cons gk_name gks_nil))))) (fun _ _ _ _=>(pf_one (pt_cmpR op_in_seq (pv 3) (pe_tup (pa_cons (pv 0) (pa_cons (pv 1) pa_nil))) rfl))) (fun _ _ _ _=>(pe_call G_over (hr.mono (by decide)) rfl m_over k_over b_over .nil pass0 (pa_cons (pe_tup (pa_cons pe_int (pa_cons pe_int pa_nil))) (pa_cons (pv 2) pa_nil))))) pa_nil)))),?_⟩
    refine ⟨_,rfl,l,rfl,⟨_,hl⟩,comp_list (K:=K) (a:=l) (xs:=us) (fun i ys H'=>Same H H' ∧ Fqs K H' ys (((ps.take i).filter (touch y)).map ease)) ⟨Same.refl _,.nil⟩ (small1000 (by omega)) ?_ ?_ ?_⟩
    · rintro i ys H' hi ⟨s4,hY⟩
      refine ⟨?_,s4.seq hl⟩
      rw [hY.len,List.length_map]
      exact Nat.le_trans (List.length_filter_le _ _) (by rw [List.length_take]; omega)
    · rintro i x ys H' N hx ⟨s4,hY⟩ hN C' s₀ H₀ ex
      obtain ⟨p,hpi,⟨x,yy,rfl,hx3,hy⟩⟩:=(PipesAt.same s4 hp).get hx
      have pok:=ok.ok p (List.mem_of_getElem? hpi)
      have ht : ps.take (i + 1) = ps.take i ++ [p]:=by rw [List.take_succ,hpi]; rfl
      refine ⟨x,_,rfl,hx3,rfl,_,_,rfl,_,_,rfl,_,_,rfl,rfl,?_⟩
      refine ⟨_,rfl,_,rfl,_,rfl,by show 2 ≤ sizeLine; decide,fun t htt=>?_⟩
      have s5:=same_upd (o:=.tup [.int p.u,.int p.w]) htt
      have s45:=s4.trans s5
      refine ⟨t,_,rfl,.inr (SqT.of upd_same),rfl,rfl,_,rfl,?_⟩
      show if inV (.int y) [.int p.u,.int p.w] = true then _ else _
      rw [inV2]
      show if touch y p = true then _ else _
      by_cases e : touch y p = true
      · rw [e]
        refine iteT ?_
        obtain ⟨bh,_⟩:=pok.btq (k:=31) (by have:=pok.aM; omega) (by have:=pok.bM; omega)
        refine ⟨by show 2 ≤ sizeLine; decide,fun t1 ht1=>?_⟩
        have s6:=same_upd (o:=.tup [.int 1,.int 1]) ht1
        refine ⟨_,rfl,.ref t1,.ref yy,1,hard p,4000,rfl,one_fq upd_same,pok.fq (Same.tup s6 (Same.tup s5 hy)),hard_ne pok.a1 pok.b1,by decide,btq1.mono (by decide),bh.mono (by decide),fun c hc=>?_⟩
        have s7:=same_upd (o:=.tup [.int (1 / hard p : Rat).num,.int ((1 / hard p : Rat).den : Int)]) hc
        refine hN _ _ ⟨(s45.trans s6).trans s7,?_⟩
        rw [ht,List.filter_append,List.map_append]
        have e2 : [p].filter (touch y) = [p]:=by simp [e]
        rw [e2,List.map_cons,List.map_nil,← ease_as pok.a1 pok.b1]
        exact Fqs.snoc (hY.same ((s5.trans s6).trans s7)) Fq.new
      · have e' : touch y p = false:=by simpa using e
        rw [e']
        refine iteF (hN _ _ ⟨s45,?_⟩)
        rw [ht,List.filter_append,List.map_append]
        have e2 : [p].filter (touch y) = []:=by simp [e']
        rw [e2,List.map_nil,List.append_nil]
        exact hY.same s5
    · rintro ys H' ⟨s4,hY⟩ pl hpl
      rw [hus,List.take_length] at hY
      have s5:=same_upd (o:=.lst ys) hpl
      refine ⟨pl,ys,_,rfl,SqL.of upd_same,hY.same s5,fun q hq=>?_,fun i hi=>?_,fun v H2 s6 f6=>q _ _ (s4.trans (s5.trans s6)) ?_⟩
      · obtain ⟨p,hp,rfl⟩:=List.mem_map.mp hq
        have pok:=ok.ok p (List.mem_filter.mp hp).1
        obtain ⟨_,be⟩:=pok.btq (k:=31) (by have:=pok.aM; omega) (by have:=pok.bM; omega)
        exact be.mono (by decide)
      · rw [← List.map_take]
        exact (sm.sum hle ((List.take_sublist _ _).trans List.filter_sublist)).mono (by decide)
      · rw [← et_sum]
        exact f6
theorem ok_ezw (F : Fun K "ease_by_way_of" "ease_by_way_of" s_ease_by_way_of f fd)
    (m_ease_between : mg "ease_between" = some (.ref fb)) (k_ease_between : PySem.W.keepIn K (.ref fb) = true) (b_ease_between : Binds K fdb ["pipes","one","other"] []) (G_ease_between : FnOk P w K mg base CX0 5 fb fdb ["pipes","one","other"] (spEzb K))
    (m_ease_at : mg "ease_at" = some (.ref fa)) (k_ease_at : PySem.W.keepIn K (.ref fa) = true) (b_ease_at : Binds K fda ["pipes","at"] []) (G_ease_at : FnOk P w K mg base CX0 5 fa fda ["pipes","at"] (spEza K))
    (m_times : mg "times" = some (.ref ft)) (k_times : PySem.W.keepIn K (.ref ft) = true) (b_times : Binds K fdt ["one","other"] []) (G_times : FnOk P w K mg base CX0 3 ft fdt ["one","other"] (spBin K (· * ·) fun _=>True))
    (m_over : mg "over" = some (.ref fo)) (k_over : PySem.W.keepIn K (.ref fo) = true) (b_over : Binds K fdo ["one","other"] []) (G_over : FnOk P w K mg base CX0 3 fo fdo ["one","other"] (spBin K (· / ·) fun r=>r ≠ 0)) : FnOk P w K mg base CX0 6 f fd ["pipes","one","at","other"] (spEzw K fun ps x t y=>ez ps x t * ez ps t y / et ps t):=by
  refine F.ok sc_ease_by_way_of (fun vs H Q E h=>?_) (fun cdv A outer s H vs Q E hr h=>?_)
  · obtain ⟨l,us,n,ps,x,t,y,rfl,_⟩:=h
    rfl
  · obtain ⟨l,us,n,ps,x,t,y,rfl,hl,hp,ok,sm,hy,q⟩:=h
    have hle:=ok.le
    refine ⟨_,(pss_cons (ps_set (i:=4) sc_ease_by_way_of.nd rfl (Or.inl rfl) (pe_call G_times (hr.mono (by decide)) rfl m_times k_times b_times .nil pass0 (pa_cons (pe_call G_ease_between (hr.mono (by decide)) rfl m_ease_between k_ease_between b_ease_between .nil pass0 (pa_cons (pv 0) (pa_cons (pv 1) (pa_cons (pv 2) pa_nil)))) (pa_cons (pe_call G_ease_between (hr.mono (by decide)) rfl m_ease_between k_ease_between b_ease_between .nil pass0 (pa_cons (pv 0) (pa_cons (pv 2) (pa_cons (pv 3) pa_nil)))) pa_nil))))
      (pss_cons (ps_if (pt_cmpR (op_eqD hr.units) (pv 4) (pe_tup (pa_cons pe_int (pa_cons pe_int pa_nil))) (nomark _)) (pss_one (ps_ret (pv 4))) pss_nil)
      (pss_one (ps_ret (pe_call G_over (hr.mono (by decide)) rfl m_over k_over b_over .nil pass0 (pa_cons (pv 4) (pa_cons (pe_call G_ease_at (hr.mono (by decide)) rfl m_ease_at k_ease_at b_ease_at .nil pass0 (pa_cons (pv 0) (pa_cons (pv 2) pa_nil))) pa_nil))))))),?_⟩
    refine ⟨_,rfl,_,rfl,_,rfl,l,us,n,ps,x,t,rfl,hl,hp,ok,sm,fun H1 v1 s1 f1=>?_⟩
    refine ⟨_,rfl,_,rfl,_,rfl,l,us,n,ps,t,y,rfl,s1.seq hl,PipesAt.same s1 hp,ok,sm,fun H2 v2 s2 f2=>?_⟩
    refine ⟨v1,v2,_,_,4000,rfl,f1.same s2,f2,trivial,by decide,(sm.ez hle _ _).mono (by decide),(sm.ez hle _ _).mono (by decide),fun pc hpc=>?_⟩
    have bp : BtQ 1800 (ez ps x t * ez ps t y):=(sm.ez hle _ _).mul (sm.ez hle _ _)
    have s3:=same_upd (o:=.tup [.int (ez ps x t * ez ps t y).num,.int ((ez ps x t * ez ps t y).den : Int)]) hpc
    have f3 : Fq K (upd H2 pc (.tup [.int (ez ps x t * ez ps t y).num,.int ((ez ps x t * ez ps t y).den : Int)])) (.ref pc) (ez ps x t * ez ps t y):=Fq.new
    have s03:=(s1.trans s2).trans s3
    generalize upd H2 pc (.tup [.int (ez ps x t * ez ps t y).num,.int ((ez ps x t * ez ps t y).den : Int)]) = H3 at s3 f3 s03 ⊢
    refine ⟨_,rfl,by show 2 ≤ sizeLine; decide,fun tz htz=>rEq_frac (f3.same (same_upd htz)) (zero_fq upd_same) ⟨_,rfl,?_⟩⟩
    have s4:=same_upd (o:=.tup [.int 0,.int 1]) htz
    have f4:=f3.same s4
    have s04:=s03.trans s4
    generalize upd H3 tz (.tup [.int 0,.int 1]) = H4 at s4 f4 s04 ⊢
    by_cases e : ez ps x t * ez ps t y = 0
    · rw [decide_eq_true e]
      refine iteT ⟨_,rfl,q _ _ s04 ?_⟩
      have e2 : ez ps x t * ez ps t y / et ps t = ez ps x t * ez ps t y:=by rw [e]; grind
      show Fq K H4 (.ref pc) (ez ps x t * ez ps t y / et ps t)
      rw [e2]
      exact f4
    · rw [decide_eq_false e]
      refine iteF ?_
      have hne : et ps t ≠ 0:=fun z=>e (by rw [et_zero ok.nice z hy]; grind)
      refine ⟨_,rfl,_,rfl,_,rfl,l,us,n,ps,t,rfl,s04.seq hl,PipesAt.same s04 hp,ok,sm,fun H5 v5 s5 f5=>?_⟩
      refine ⟨.ref pc,v5,_,_,4000,rfl,f4.same s5,f5,hne,by decide,bp.mono (by decide),(sm.et hle _).mono (by decide),fun c hc=>q _ _ ((s04.trans s5).trans (same_upd hc)) Fq.new⟩
theorem ok_ezo (F : Fun K "ease_without" "ease_without" s_ease_without f fd)
    (m_ease_between : mg "ease_between" = some (.ref fb)) (k_ease_between : PySem.W.keepIn K (.ref fb) = true) (b_ease_between : Binds K fdb ["pipes","one","other"] []) (G_ease_between : FnOk P w K mg base CX0 5 fb fdb ["pipes","one","other"] (spEzb K))
    (m_ease_by_way_of : mg "ease_by_way_of" = some (.ref fa)) (k_ease_by_way_of : PySem.W.keepIn K (.ref fa) = true) (b_ease_by_way_of : Binds K fda ["pipes","one","at","other"] []) (G_ease_by_way_of : FnOk P w K mg base CX0 6 fa fda ["pipes","one","at","other"] (spEzw K fun ps x t y=>ez ps x t * ez ps t y / et ps t))
    (m_plus : mg "plus" = some (.ref ft)) (k_plus : PySem.W.keepIn K (.ref ft) = true) (b_plus : Binds K fdt ["one","other"] []) (G_plus : FnOk P w K mg base CX0 3 ft fdt ["one","other"] (spBin K (· + ·) fun _=>True)) : FnOk P w K mg base CX0 7 f fd ["pipes","one","at","other"] (spEzw K fun ps x t y=>eo ps t x y):=by
  refine F.ok sc_ease_without (fun vs H Q E h=>?_) (fun cdv A outer s H vs Q E hr h=>?_)
  · obtain ⟨l,us,n,ps,x,t,y,rfl,_⟩:=h
    rfl
  · obtain ⟨l,us,n,ps,x,t,y,rfl,hl,hp,ok,sm,hy,q⟩:=h
    have hle:=ok.le
    refine ⟨_,(pss_one (ps_ret (pe_call G_plus (hr.mono (by decide)) rfl m_plus k_plus b_plus .nil pass0 (pa_cons (pe_call G_ease_between (hr.mono (by decide)) rfl m_ease_between k_ease_between b_ease_between .nil pass0 (pa_cons (pv 0) (pa_cons (pv 1) (pa_cons (pv 3) pa_nil)))) (pa_cons (pe_call G_ease_by_way_of (hr.mono (by decide)) rfl m_ease_by_way_of k_ease_by_way_of b_ease_by_way_of .nil pass0 (pa_cons (pv 0) (pa_cons (pv 1) (pa_cons (pv 2) (pa_cons (pv 3) pa_nil))))) pa_nil))))),?_⟩
    refine ⟨_,rfl,_,rfl,_,rfl,l,us,n,ps,x,y,rfl,hl,hp,ok,sm,fun H1 v1 s1 f1=>?_⟩
    refine ⟨_,rfl,_,rfl,_,rfl,_,rfl,l,us,n,ps,x,t,y,rfl,s1.seq hl,PipesAt.same s1 hp,ok,sm,hy,fun H2 v2 s2 f2=>?_⟩
    have b2 : BtQ 2700 (ez ps x t * ez ps t y / et ps t):=by
      by_cases z : et ps t = 0
      · have : ez ps x t * ez ps t y / et ps t = 0:=by rw [z]; grind
        rw [this]
        exact btq0.mono (by decide)
      · exact ((sm.ez hle _ _).mul (sm.ez hle _ _)).div (sm.et hle _) z
    exact ⟨v1,v2,_,_,4000,rfl,f1.same s2,f2,trivial,by decide,(sm.ez hle _ _).mono (by decide),b2.mono (by decide),fun c hc=>q _ _ ((s1.trans s2).trans (same_upd hc)) Fq.new⟩
theorem ok_pairs (F : Fun K "pairs" "pairs" s_pairs f fd) (T : Txt K mg C t1 t2 t3) : FnOk P w K mg base CX0 1 f fd ["many"] spPairs:=by
  refine F.ok sc_pairs (fun vs H Q E h=>?_) (fun cdv A outer s H vs Q E hr h=>?_)
  · obtain ⟨m,rfl,_⟩:=h
    rfl
  · obtain ⟨m,rfl,hm,q⟩:=h
    refine ⟨_,(pss_cons (ps_set (i:=1) sc_pairs.nd rfl (Or.inl rfl) (pe_lst pa_nil))
      (pss_cons (ps_for PassesOwn.never rfl (pi_range1 rfl T.n_range (pa_cons (pv 0) pa_nil)) (pg_name (i:=2) sc_pairs.nd rfl (Or.inl rfl)) (pss_one (ps_for PassesOwn.never rfl (pi_range2 rfl T.n_range (pa_cons (pe_op op_add (pv 2) pe_int) (pa_cons (pv 0) pa_nil))) (pg_name (i:=3) sc_pairs.nd rfl (Or.inl rfl)) (pss_one (ps_expr (pe_bm PySem.F.plainAttrs_list PySem.F.slot_list_append PySem.F.type_list_append mt_append (pv 1) (pa_cons (pe_tup (pa_cons (pv 2) (pa_cons (pv 3) pa_nil))) pa_nil)))))))
      (pss_one (ps_ret (pv 1))))),?_⟩
    refine ⟨by show 0 ≤ sizeLine; decide,fun r hr'=>?_⟩
    have s1:=same_upd (o:=.lst []) hr'
    have hr1 : (upd H r (.lst [])) r = some (.lst []):=upd_same
    generalize upd H r (.lst []) = H1 at s1 hr1 ⊢
    refine ⟨_,rfl,(m : Int),rfl,by omega,by omega,?_⟩
    rw [Int.toNat_natCast]
    refine for_range (lo:=0) (n:=m) (fun i σ H'=>∃ (us : List V) (v2 v3 : Option V),σ = [some (.int (m : Int)),some (.ref r),v2,v3] ∧ Same H H' ∧ H' r = some (.lst us) ∧ PrsAt H' us (prsTo m i))
      ⟨[],none,none,rfl,s1,hr1,.nil⟩ ?_ ?_
    · rintro i σ H' hi ⟨us,v2,v3,rfl,s2,hr2,hp⟩
      dsimp only [gName]
      rw [Int.zero_add]
      refine ⟨_,rfl,_,_,rfl,rfl,_,rfl,(i : Int) + 1,(m : Int),rfl,⟨by omega,by omega,by omega,by omega⟩,?_⟩
      have en : ((m : Int) - ((i : Int) + 1)).toNat = m - (i + 1):=by omega
      rw [en]
      have hlen:=prsTo_len m i
      have h64 : m * i ≤ 64:=Nat.mul_le_mul (show m ≤ 8 by omega) (show i ≤ 8 by omega)
      refine for_range (lo:=(i : Int) + 1) (n:=m - (i + 1)) (fun j σ H'=>∃ (us : List V) (v3 : Option V),σ = [some (.int (m : Int)),some (.ref r),some (.int (i : Int)),v3] ∧ Same H H' ∧ H' r = some (.lst us) ∧ PrsAt H' us (prsTo m i ++ (List.range j).map fun j=>(i,i + 1 + j)))
        ⟨us,v3,rfl,s2,hr2,by rw [List.range_zero,List.map_nil,List.append_nil]; exact hp⟩ ?_ ?_
      · rintro j σ H3 hj ⟨us,v3,rfl,s3,hr3,hp3⟩
        have hul : us.length = (prsTo m i).length + j:=by rw [Paired.length hp3,List.length_append,List.length_map,List.length_range]
        refine ⟨_,rfl,.inl ⟨rfl,_,SqL.of hr3⟩,_,rfl,_,rfl,by show 2 ≤ sizeLine; decide,fun t ht=>?_⟩
        have s4:=same_upd (o:=.tup [.int (i : Int),.int ((i : Int) + 1 + (j : Int))]) ht
        have ht4 : (upd H3 t (.tup [.int (i : Int),.int ((i : Int) + 1 + (j : Int))])) t = some (.tup [.int (i : Int),.int ((i : Int) + 1 + (j : Int))]):=upd_same
        have hr4:=s4 _ _ hr3
        have hp4:=hp3.same s4
        have s04:=s3.trans s4
        generalize upd H3 t (.tup [.int (i : Int),.int ((i : Int) + 1 + (j : Int))]) = H4 at s4 ht4 hr4 hp4 s04 ⊢
        refine ⟨r,us,.ref t,rfl,rfl,hr4,small1000 (by omega),?_⟩
        have et : ((i + 1 + j : Nat) : Int) = (i : Int) + 1 + (j : Int):=by omega
        refine ⟨us ++ [.ref t],_,rfl,fun b o eb=>by rw [upd_ne (ne_of_none eb hr')]; exact s04 _ _ eb,upd_same,?_⟩
        rw [List.range_succ,List.map_append,← List.append_assoc]
        exact Paired.snoc' (hp4.put hr4) ⟨t,rfl,by rw [upd_ne (fun z=>by rw [z,hr4] at ht4; cases ht4)]; show _ = some (HO.tup [.int (i : Int),.int ((i + 1 + j : Nat) : Int)]); rw [et]; exact ht4⟩
      · rintro σ H3 ⟨us,v3,rfl,s3,hr3,hp3⟩
        exact ⟨us,_,_,rfl,s3,hr3,by rw [prsTo_succ]; exact hp3⟩
    · rintro σ H' ⟨us,v2,v3,rfl,s2,hr2,hp⟩
      exact ⟨_,rfl,q _ r us s2 hr' hr2 hp⟩
theorem ok_noe (F : Fun K "net_of_eases" "net_of_eases" s_net_of_eases f fd) (M_Net : Mk K C fi) (m_Net : mg "Net" = some (.ref C)) (b_Net : Binds K fdi ["self","places","pipes"] []) (G_Net : FnOk P w K mg base (CXX P w) 6 fi fdi ["self","places","pipes"] (spInitX K C CB))
    (m_over : mg "over" = some (.ref fo)) (k_over : PySem.W.keepIn K (.ref fo) = true) (b_over : Binds K fdo ["one","other"] []) (G_over : FnOk P w K mg base CX0 3 fo fdo ["one","other"] (spBin K (· / ·) fun r=>r ≠ 0)) : FnOk P w K mg base (CXX P w) 9 f fd ["places","eases"] (spNoe K C CB):=by
  refine F.okX sc_net_of_eases (fun vs H Q E h=>?_) (fun cdv A outer s H vs Q E hr h=>?_)
  · obtain ⟨l,us,m,E,rfl,_⟩:=h
    rfl
  · obtain ⟨l,us,m,E,rfl,hl,hE,hm,hb,qF,qT⟩:=h
    have hpl:=prs_len m hm
    have hus : us.length = (prs m).length:=Paired.length hE
    refine ⟨_,(pss_one (ps_ret (pe_make M_Net G_Net (hr.mono (by decide)) rfl m_Net b_Net .nil passes_cx (pa_cons (pv 0) (pa_cons (pe_comp ["one","other","ease"] [] rfl rfl (by kernel_rfl) (pi_list (pv 1)) (fun _ _ _ _=>(pg_tup (n:=3) rfl (pgs_cons (pg_name (i:=0) (show (["one","other","ease"] : List Str).Nodup by decide +kernel) rfl (Or.inl rfl)) (pgs_cons (pg_name (i:=1) (show (["one","other","ease"] : List Str).Nodup by decide +kernel) rfl (Or.inl rfl)) (pgs_cons (pg_name (i:=2) (show (["one","other","ease"] : List Str).Nodup by decide +kernel) rfl (Or.inl rfl)) pgs_nil))))) (fun _ _ _ _=>(gk_tup (gks_cons gk_name (gks_cons gk_name (gks_cons gk_name gks_nil))))) (fun _ _ _ _=>(pf_one (pt_cmpR (op_neD hr.units) (pv 2) (pe_tup (pa_cons pe_int (pa_cons pe_int pa_nil))) (nomark _)))) (fun _ _ _ _=>(pe_tup (pa_cons (pv 0) (pa_cons (pv 1) (pa_cons (pe_call G_over (hr.mono (by decide)) rfl m_over k_over b_over .nil pass0 (pa_cons (pe_tup (pa_cons pe_int (pa_cons pe_int pa_nil))) (pa_cons (pv 2) pa_nil))) pa_nil)))))) pa_nil))))),?_⟩
    refine ⟨_,rfl,_,rfl,l,rfl,⟨_,hl⟩,comp_list (K:=K) (a:=l) (xs:=us) (fun i ys H'=>Same H H' ∧ PipesAt K H' ys (mesh E ((prs m).take i)) ∧ ys.length ≤ i) ⟨Same.refl _,.nil,Nat.le_refl _⟩ (small1000 (by omega)) ?_ ?_ ?_⟩
    · rintro i ys H' hi ⟨s2,hY,hl2⟩
      exact ⟨hl2,s2.seq hl⟩
    · rintro i v ys H' N hv ⟨s2,hY,hl2⟩ hN C' s₀ H₀ ex
      obtain ⟨p,hpi,⟨a,e,rfl,ha,fe⟩⟩:=Paired.get' (EsAt.same hE s2) hv
      have ht : (prs m).take (i + 1) = (prs m).take i ++ [p]:=by rw [List.take_succ,hpi]; rfl
      have bE:=hb p (List.mem_of_getElem? hpi)
      refine ⟨a,_,rfl,SqT.of ha,rfl,_,_,rfl,_,_,rfl,_,_,rfl,rfl,?_⟩
      refine ⟨_,rfl,by show 2 ≤ sizeLine; decide,fun tz htz=>rNe_frac (fe.same (same_upd htz)) (zero_fq upd_same) ⟨_,rfl,?_⟩⟩
      have s3:=same_upd (o:=.tup [.int 0,.int 1]) htz
      have fe3:=fe.same s3
      generalize upd H' tz (.tup [.int 0,.int 1]) = H3 at s3 fe3 ⊢
      rw [ht,mesh_snoc] at hN
      by_cases z : E p.1 p.2 = 0
      · rw [decide_eq_true z]
        rw [if_pos z,List.append_nil] at hN
        exact iteF (hN _ _ ⟨s2.trans s3,PipesAt.same s3 hY,by omega⟩)
      · rw [decide_eq_false z]
        rw [if_neg z] at hN
        refine iteT ?_
        refine ⟨_,rfl,_,rfl,by show 2 ≤ sizeLine; decide,fun t1 ht1=>?_⟩
        have s4:=same_upd (o:=.tup [.int 1,.int 1]) ht1
        refine ⟨_,rfl,.ref t1,e,1,_,4000,rfl,one_fq upd_same,fe3.same s4,z,by decide,btq1.mono (by decide),bE,fun c hc=>?_⟩
        have s5:=same_upd (o:=.tup [.int (1 / E p.1 p.2 : Rat).num,.int ((1 / E p.1 p.2 : Rat).den : Int)]) hc
        refine ⟨by show 3 ≤ sizeLine; decide,fun t6 ht6=>?_⟩
        have s6:=same_upd (o:=.tup [.int (p.1 : Int),.int (p.2 : Int),.ref c]) ht6
        have sA:=((s3.trans s4).trans s5).trans s6
        exact hN _ _ ⟨s2.trans sA,PipesAt.snoc (PipesAt.same sA hY) ⟨t6,c,rfl,SqT.of upd_same,SqT.of (s6 _ _ upd_same)⟩,by rw [List.length_append]; simp; omega⟩
    · rintro ys H2 ⟨s2,hY,_⟩ r hr2
      rw [hus,List.take_length] at hY
      have s3:=same_upd (o:=.lst ys) hr2
      have hr3 : (upd H2 r (.lst ys)) r = some (.lst ys):=upd_same
      have hY3:=PipesAt.same s3 hY
      have s03:=s2.trans s3
      generalize upd H2 r (.lst ys) = H3 at s3 hr3 hY3 s03 ⊢
      intro x' dx' nx ndx nex
      have s0:=made_s0 (C:=C) nx ndx
      have hY4:=PipesAt.same s0 hY3
      refine ⟨x',dx',.int m,.ref r,.int m,.list (pipesD (mesh E (prs m))),rfl,upd_same,.int _,.lst (SqL.of (s0 _ _ hr3)) hY4.reps,fun hn H4 s4=>qF (fun ok=>?_) _ (s03.trans (s0.trans s4)),fun hn n' ps' H4 L' e1 e2 ok' hL net' kp=>⟨rfl,?_⟩⟩
      · rw [netD_ok ok] at hn
        cases hn
      · have s4:=made_same (n:=(m : Int)) nx ndx kp
        exact qT (netD_net hn) _ x' (s03.trans s4)
theorem ok_slim (F : Fun K "slim" "slim" s_slim f fd) (T : Txt K mg C t1 t2 t3)
    (t_pipes : Meth K C "pipes" fp) (b_pipes : Binds K fdp ["self"] []) (G_pipes : FnOk P w K mg base CX0 1 fp fdp ["self"] (spPipes K C))
    (m_net_of_eases : mg "net_of_eases" = some (.ref fn)) (k_net_of_eases : PySem.W.keepIn K (.ref fn) = true) (b_net_of_eases : Binds K fdn ["places","eases"] []) (G_net_of_eases : FnOk P w K mg base (CXX P w) 9 fn fdn ["places","eases"] (spNoe K C CB))
    (m_pairs : mg "pairs" = some (.ref fq)) (k_pairs : PySem.W.keepIn K (.ref fq) = true) (b_pairs : Binds K fdq ["many"] []) (G_pairs : FnOk P w K mg base CX0 1 fq fdq ["many"] spPairs)
    (m_ease_between : mg "ease_between" = some (.ref fb)) (k_ease_between : PySem.W.keepIn K (.ref fb) = true) (b_ease_between : Binds K fdb ["pipes","one","other"] []) (G_ease_between : FnOk P w K mg base CX0 5 fb fdb ["pipes","one","other"] (spEzb K)) : FnOk P w K mg base (CXX P w) 10 f fd ["net"] (spSlim K C CB):=by
  refine F.okX sc_slim (fun vs H Q E h=>?_) (fun cdv A outer s H vs Q E hr h=>?_)
  · obtain ⟨x,L,n,ps,rfl,_⟩:=h
    rfl
  · obtain ⟨x,L,n,ps,rfl,net,ok,sm,qF,qT⟩:=h
    obtain ⟨⟨dx,h1⟩,_⟩:=id net
    have n8:=ok.n8
    have hle:=ok.le
    refine ⟨_,(pss_cons (ps_set (i:=1) sc_slim.nd rfl (Or.inr rfl) (pe_meth0 (pv 0) T.c_Net t_pipes G_pipes (hr.mono (by decide)) b_pipes .nil pass0))
      (pss_one (ps_ret (pe_call G_net_of_eases (hr.mono (by decide)) rfl m_net_of_eases k_net_of_eases b_net_of_eases .nil passes_cx (pa_cons (pe_fld (pv 0) rfl) (pa_cons (pe_comp ["one","other"] [1] rfl rfl (by kernel_rfl) (pi_list (pe_call G_pairs (hr.mono (by decide)) rfl m_pairs k_pairs b_pairs .nil pass0 (pa_cons (pe_fld (pv 0) rfl) pa_nil))) (fun _ _ _ _=>(pg_tup (n:=2) rfl (pgs_cons (pg_name (i:=0) (show (["one","other","pipes"] : List Str).Nodup by decide +kernel) rfl (Or.inl rfl)) (pgs_cons (pg_name (i:=1) (show (["one","other","pipes"] : List Str).Nodup by decide +kernel) rfl (Or.inl rfl)) pgs_nil)))) (fun _ _ _ _=>(gk_tup (gks_cons gk_name (gks_cons gk_name gks_nil)))) (fun _ _ _ _=>pf_nil) (fun _ _ _ _=>(pe_tup (pa_cons (pv 0) (pa_cons (pv 1) (pa_cons (pe_call G_ease_between (hr.mono (by decide)) rfl m_ease_between k_ease_between b_ease_between .nil pass0 (pa_cons (pv 2) (pa_cons (pv 0) (pa_cons (pv 1) pa_nil)))) pa_nil)))))) pa_nil)))))),?_⟩
    refine ⟨_,rfl,x,dx,_,rfl,h1,flds_no _ _ (by decide +kernel) (by decide +kernel),x,L,n,ps,rfl,net,fun r us hr1 pa=>?_⟩
    have s1:=same_upd (o:=.lst us) hr1
    have hrl : (upd H r (.lst us)) r = some (.lst us):=upd_same
    have pa1:=PipesAt.same s1 pa
    generalize upd H r (.lst us) = H1 at s1 hrl pa1 ⊢
    refine ⟨_,rfl,x,C,dx,_,_,rfl,s1 _ _ h1,T.c_Net,T.a_size,flds_size _ _,?_⟩
    refine ⟨_,rfl,x,C,dx,_,_,rfl,s1 _ _ h1,T.c_Net,T.a_size,flds_size _ _,n,rfl,by omega,fun H2 rp up s2 hrp h2 hp2=>?_⟩
    have hpl:=prs_len n (by omega)
    have hup : up.length = (prs n).length:=Paired.length hp2
    refine ⟨rp,rfl,⟨_,SqL.of h2⟩,comp_list (K:=K) (a:=rp) (xs:=up) (fun i ys H'=>Same H2 H' ∧ Paired (EsAt K (ez ps) H') ys ((prs n).take i)) ⟨Same.refl _,.nil⟩ (small1000 (by omega)) ?_ ?_ ?_⟩
    · rintro i ys H' hi ⟨s3,hY⟩
      exact ⟨by rw [Paired.length hY,List.length_take]; exact Nat.min_le_left _ _,SqL.of (s3 _ _ h2)⟩
    · rintro i v ys H' N hv ⟨s3,hY⟩ hN C' s₀ H₀ ex
      obtain ⟨p,hpi,⟨a,rfl,ha⟩⟩:=Paired.get' (hp2.same s3) hv
      have ht : (prs n).take (i + 1) = (prs n).take i ++ [p]:=by rw [List.take_succ,hpi]; rfl
      refine ⟨a,_,rfl,SqT.of ha,rfl,_,_,rfl,_,_,rfl,rfl,?_⟩
      dsimp only [tNoTest]
      refine iteT ?_
      refine ⟨_,rfl,_,rfl,_,rfl,_,rfl,_,rfl,r,us,n,ps,(p.1 : Int),(p.2 : Int),rfl,SqL.of ((s2.trans s3) _ _ hrl),PipesAt.same (s2.trans s3) pa1,ok,sm,fun H4 v4 s4 f4=>?_⟩
      refine ⟨by show 3 ≤ sizeLine; decide,fun t6 ht6=>?_⟩
      have s6:=same_upd (o:=.tup [.int (p.1 : Int),.int (p.2 : Int),v4]) ht6
      refine hN _ _ ⟨(s3.trans s4).trans s6,?_⟩
      rw [ht]
      exact Paired.snoc' (EsAt.same hY (s4.trans s6)) ⟨t6,v4,rfl,upd_same,f4.same s6⟩
    · rintro ys H3 ⟨s3,hY⟩ le hle3
      rw [hup,List.take_length] at hY
      have s4:=same_upd (o:=.lst ys) hle3
      refine ⟨le,ys,n,ez ps,rfl,SqL.of upd_same,EsAt.same hY s4,by omega,fun q hq=>(sm.ez hle _ _).mono (by decide),fun hn H5 s5=>qF hn _ (((s1.trans s2).trans s3).trans (s4.trans s5)),fun hn H5 x' s5=>qT hn _ x' (((s1.trans s2).trans s3).trans (s4.trans s5))⟩
theorem ok_out (F : Fun K "taken_out" "taken_out" s_taken_out f fd) (T : TxtO K mg C CN)
    (t_pipes : Meth K C "pipes" fp) (b_pipes : Binds K fdp ["self"] []) (G_pipes : FnOk P w K mg base CX0 1 fp fdp ["self"] (spPipes K C))
    (m_counts_one_of : mg "counts_one_of" = some (.ref fc)) (k_counts_one_of : PySem.W.keepIn K (.ref fc) = true) (b_counts_one_of : Binds K fdc ["value","many"] []) (G_counts_one_of : FnOk P w K mg base CX0 2 fc fdc ["value","many"] (spCountsD K))
    (m_net_of_eases : mg "net_of_eases" = some (.ref fn)) (k_net_of_eases : PySem.W.keepIn K (.ref fn) = true) (b_net_of_eases : Binds K fdn ["places","eases"] []) (G_net_of_eases : FnOk P w K mg base (CXX P w) 9 fn fdn ["places","eases"] (spNoe K C CB))
    (m_pairs : mg "pairs" = some (.ref fq)) (k_pairs : PySem.W.keepIn K (.ref fq) = true) (b_pairs : Binds K fdq ["many"] []) (G_pairs : FnOk P w K mg base CX0 1 fq fdq ["many"] spPairs)
    (m_ease_without : mg "ease_without" = some (.ref fb)) (k_ease_without : PySem.W.keepIn K (.ref fb) = true) (b_ease_without : Binds K fdb ["pipes","one","at","other"] []) (G_ease_without : FnOk P w K mg base CX0 7 fb fdb ["pipes","one","at","other"] (spEzw K fun ps x t y=>eo ps t x y)) : FnOk P w K mg base (CXX P w) 10 f fd ["net","at"] (spOut K C CN CB):=by
  refine F.okX sc_taken_out (fun vs H Q E h=>?_) (fun cdv A outer s H vs Q E hr h=>?_)
  · obtain ⟨x,L,n,ps,v,d,rfl,_⟩:=h
    rfl
  · have hRs:=raises_cx (P:=P) (w:=w) (K:=K) (mg:=mg) (base:=base) (N:=["net","at","pipes","left"]) (qual:="taken_out") (scope:=defScope s_taken_out) (f:=f) (cd:=cdv) (A:=A) (outer:=outer) (s₀:=s) (H₀:=H) (E:=E)
    obtain ⟨x,L,n,ps,v,d,rfl,net,ok,r0,n2,qC,qO⟩:=h
    obtain ⟨⟨dx,h1⟩,_⟩:=id net
    have n8:=ok.n8
    have hle:=ok.le
    refine ⟨_,(pss_cons (ps_if (PW.pt (pw_or (pt_not (pt_val (pe_call G_counts_one_of (hr.mono (by decide)) rfl m_counts_one_of k_counts_one_of b_counts_one_of .nil pass0 (pa_cons (pv 1) (pa_cons (pe_fld (pv 0) rfl) pa_nil))))) (pw_or1 (pt_cmpR op_eq (pe_fld (pv 0) rfl) pe_int (nomark _))))) (pss_one (ps_raise T.e_NoPlace T.m_NoPlace rfl hRs rfl (pa_cons pe_str pa_nil))) pss_nil)
      (pss_cons (ps_set (i:=2) sc_taken_out.nd rfl (Or.inr rfl) (pe_meth0 (pv 0) T.c_Net t_pipes G_pipes (hr.mono (by decide)) b_pipes .nil pass0))
      (pss_cons (ps_set (i:=3) sc_taken_out.nd rfl (Or.inr rfl) (pe_comp ["place"] [1] rfl rfl (by kernel_rfl) (pi_range1 rfl T.n_range (pa_cons (pe_fld (pv 0) rfl) pa_nil)) (fun _ _ _ _=>(pg_name (i:=0) (show (["place","at"] : List Str).Nodup by decide +kernel) rfl (Or.inl rfl))) (fun _ _ _ _=>gk_name) (fun _ _ _ _=>(pf_one (pt_cmpR op_ne (pv 0) (pv 1) (nomark _)))) (fun _ _ _ _=>(pv 0))))
      (pss_one (ps_ret (pe_call G_net_of_eases (hr.mono (by decide)) rfl m_net_of_eases k_net_of_eases b_net_of_eases .nil passes_cx (pa_cons (pe_callB call_len_seq (by rfl) T.n_len bt_len (pa_cons (pv 3) pa_nil)) (pa_cons (pe_comp ["one","other"] [2,1,3] rfl rfl (by kernel_rfl) (pi_list (pe_call G_pairs (hr.mono (by decide)) rfl m_pairs k_pairs b_pairs .nil pass0 (pa_cons (pe_callB call_len_seq (by rfl) T.n_len bt_len (pa_cons (pv 3) pa_nil)) pa_nil))) (fun _ _ _ _=>(pg_tup (n:=2) rfl (pgs_cons (pg_name (i:=0) (show (["one","other","pipes","at","left"] : List Str).Nodup by decide +kernel) rfl (Or.inl rfl)) (pgs_cons (pg_name (i:=1) (show (["one","other","pipes","at","left"] : List Str).Nodup by decide +kernel) rfl (Or.inl rfl)) pgs_nil)))) (fun _ _ _ _=>(gk_tup (gks_cons gk_name (gks_cons gk_name gks_nil)))) (fun _ _ _ _=>pf_nil) (fun _ _ _ _=>(pe_tup (pa_cons (pv 0) (pa_cons (pv 1) (pa_cons (pe_call G_ease_without (hr.mono (by decide)) rfl m_ease_without k_ease_without b_ease_without .nil pass0 (pa_cons (pv 2) (pa_cons (pe_ix ix_list (pv 4) (pv 0) (fun _ _=>rfl)) (pa_cons (pv 3) (pa_cons (pe_ix ix_list (pv 4) (pv 1) (fun _ _=>rfl)) pa_nil))))) pa_nil)))))) pa_nil)))))))),?_⟩
    refine ⟨_,rfl,_,rfl,x,C,dx,_,_,rfl,h1,T.c_Net,T.a_size,flds_size _ _,v,d,n,rfl,r0,_,rfl,?_⟩
    by_cases hc : countsD d n = true
    case neg =>
      have hc' : countsD d n = false:=by simpa using hc
      rw [hc']
      exact iteT ⟨by show 1 ≤ sizeLine; decide,qC hc' _ (Same.refl _)⟩
    rw [hc]
    obtain ⟨sm,qO⟩:=qO hc
    obtain ⟨k,rfl,htn⟩ : ∃ k : Nat,v = .int (k : Int) ∧ (k : Int) < n:=by
      cases r0 with
      | int i =>
        have:=of_decide_eq_true (show decide (0 ≤ i ∧ i < (n : Int)) = true from hc)
        exact ⟨i.toNat,by rw [Int.toNat_of_nonneg this.1],by omega⟩
      | _=>cases hc
    obtain ⟨m,rfl⟩ : ∃ m,n = m + 1:=⟨n - 1,by omega⟩
    have m1 : 1 ≤ m:=by omega
    obtain ⟨qF,qT⟩:=qO m k rfl rfl
    refine iteF ⟨_,rfl,x,C,dx,_,_,rfl,h1,T.c_Net,T.a_size,flds_size _ _,rfl,_,rfl,?_⟩
    rw [decide_eq_false (show ¬ V.int ((m + 1 : Nat) : Int) = V.int 1 from fun z=>by injection z with z; omega)]
    refine iteF ?_
    refine ⟨_,rfl,x,dx,_,rfl,h1,flds_no _ _ (by decide +kernel) (by decide +kernel),x,L,(m + 1 : Nat),ps,rfl,net,fun r us hr1 pa=>?_⟩
    have s1:=same_upd (o:=.lst us) hr1
    have hrl : (upd H r (.lst us)) r = some (.lst us):=upd_same
    have pa1:=PipesAt.same s1 pa
    generalize upd H r (.lst us) = H1 at s1 hrl pa1 ⊢
    refine ⟨_,rfl,x,C,dx,_,_,rfl,s1 _ _ h1,T.c_Net,T.a_size,flds_size _ _,((m + 1 : Nat) : Int),rfl,by omega,by omega,?_⟩
    rw [Int.toNat_natCast]
    refine comp_range (fun i ys H'=>H' = H1 ∧ ys = (List.range (if i ≤ k then i else i - 1)).map fun j : Nat=>V.int (lft (k : Int) (j : Int))) ⟨rfl,rfl⟩ (small1000 (by omega)) ?_ ?_ ?_
    · rintro i ys H' hi ⟨_,rfl⟩
      rw [List.length_map,List.length_range]
      split <;> omega
    · rintro i ys H' N hi ⟨rfl,rfl⟩ hN C' s₀ H₀ ex
      dsimp only [gName]
      rw [Int.zero_add]
      refine ⟨_,rfl,_,rfl,rfl,_,rfl,?_⟩
      by_cases e : i = k
      · rw [decide_eq_true (show V.int (i : Int) = V.int (k : Int) by rw [e])]
        refine iteF (hN _ _ ⟨rfl,?_⟩)
        rw [if_pos (by omega),if_neg (by omega),Nat.add_sub_cancel]
      · rw [decide_eq_false (show ¬ V.int (i : Int) = V.int (k : Int) from fun z=>e (by injection z with z; omega))]
        refine iteT ⟨_,rfl,hN _ _ ⟨rfl,?_⟩⟩
        by_cases e2 : i < k
        · rw [if_pos (by omega),if_pos (by omega),List.range_succ,List.map_append]
          congr 1
          show [V.int (i : Int)] = [V.int (lft (k : Int) (i : Int))]
          unfold lft
          rw [if_pos (by omega)]
        · obtain ⟨j,rfl⟩ : ∃ j,i = j + 1:=⟨i - 1,by omega⟩
          rw [if_neg (by omega),if_neg (by omega),Nat.add_sub_cancel,Nat.add_sub_cancel,List.range_succ,List.map_append]
          congr 1
          show [V.int ((j + 1 : Nat) : Int)] = [V.int (lft (k : Int) (j : Int))]
          unfold lft
          rw [if_neg (by omega)]
          congr 2
    rintro ys H2 ⟨rfl,rfl⟩ ll hll
    rw [if_neg (show ¬ m + 1 ≤ k by omega),Nat.add_sub_cancel]
    have s2:=same_upd (o:=.lst ((List.range m).map fun j : Nat=>V.int (lft (k : Int) (j : Int)))) hll
    have hl2 : (upd H2 ll (.lst ((List.range m).map fun j : Nat=>V.int (lft (k : Int) (j : Int))))) ll = some (.lst ((List.range m).map fun j : Nat=>V.int (lft (k : Int) (j : Int)))):=upd_same
    have s12:=s1.trans s2
    have hrl2:=s2 _ _ hrl
    have pa2:=PipesAt.same s2 pa1
    generalize upd H2 ll (.lst ((List.range m).map fun j : Nat=>V.int (lft (k : Int) (j : Int)))) = H3 at s2 hl2 s12 hrl2 pa2 ⊢
    have hll3 : ((List.range m).map fun j : Nat=>V.int (lft (k : Int) (j : Int))).length = m:=by rw [List.length_map,List.length_range]
    refine ⟨_,rfl,ll,_,rfl,.inl (SqL.of hl2),?_⟩
    rw [hll3]
    refine ⟨_,rfl,ll,_,rfl,.inl (SqL.of hl2),m,by rw [hll3]; rfl,by omega,fun H4 rp up s4 hrp h4 hp4=>?_⟩
    have hpl:=prs_len m (by omega)
    have hup : up.length = (prs m).length:=Paired.length hp4
    refine ⟨rp,rfl,⟨_,SqL.of h4⟩,comp_list (K:=K) (a:=rp) (xs:=up) (fun i ys H'=>Same H4 H' ∧ Paired (EsAt K (fun x y=>eo ps k (lft k x) (lft k y)) H') ys ((prs m).take i)) ⟨Same.refl _,.nil⟩ (small1000 (by omega)) ?_ ?_ ?_⟩
    · rintro i ys H' hi ⟨s5,hY⟩
      exact ⟨by rw [Paired.length hY,List.length_take]; exact Nat.min_le_left _ _,SqL.of (s5 _ _ h4)⟩
    · rintro i v ys H' N hv ⟨s5,hY⟩ hN C' s₀ H₀ ex
      obtain ⟨p,hpi,⟨a,rfl,ha⟩⟩:=Paired.get' (hp4.same s5) hv
      obtain ⟨pl1,pl2⟩:=prs_mem (List.mem_of_getElem? hpi)
      have ht : (prs m).take (i + 1) = (prs m).take i ++ [p]:=by rw [List.take_succ,hpi]; rfl
      have s35:=s4.trans s5
      have atl : ∀ j : Nat,j < m → atI ((List.range m).map fun j : Nat=>V.int (lft (k : Int) (j : Int))) (j : Int) = some (V.int (lft (k : Int) (j : Int))):=fun j hj=>atI_nat (j:=j) (by rw [List.getElem?_map,List.getElem?_range hj]; rfl)
      refine ⟨a,_,rfl,SqT.of ha,rfl,_,_,rfl,_,_,rfl,rfl,?_⟩
      dsimp only [tNoTest]
      refine iteT ?_
      refine ⟨_,rfl,_,rfl,_,rfl,_,rfl,_,rfl,ll,_,_,_,rfl,rfl,SqL.of (s35 _ _ hl2),atl p.1 (by omega),_,rfl,_,rfl,_,rfl,ll,_,_,_,rfl,rfl,SqL.of (s35 _ _ hl2),atl p.2 pl2,?_⟩
      refine ⟨r,us,(m + 1 : Nat),ps,lft k p.1,k,lft k p.2,rfl,SqL.of (s35 _ _ hrl2),PipesAt.same s35 pa2,ok,sm,lft_fits ⟨by omega,by omega⟩,fun H6 v6 s6 f6=>?_⟩
      refine ⟨by show 3 ≤ sizeLine; decide,fun t6 ht6=>?_⟩
      have s7:=same_upd (o:=.tup [.int (p.1 : Int),.int (p.2 : Int),v6]) ht6
      refine hN _ _ ⟨(s5.trans s6).trans s7,?_⟩
      rw [ht]
      exact Paired.snoc' (EsAt.same hY (s6.trans s7)) ⟨t6,v6,rfl,upd_same,f6.same s7⟩
    · rintro ys H5 ⟨s5,hY⟩ le hle5
      rw [hup,List.take_length] at hY
      have s6:=same_upd (o:=.lst ys) hle5
      have bE : ∀ x y,BtQ 4000 (eo ps k x y):=fun x y=>by
        have b2 : BtQ 2700 (ez ps x k * ez ps k y / et ps k):=by
          by_cases z : et ps k = 0
          · have : ez ps x k * ez ps k y / et ps k = 0:=by rw [z]; grind
            rw [this]
            exact btq0.mono (by decide)
          · exact ((sm.ez hle _ _).mul (sm.ez hle _ _)).div (sm.et hle _) z
        exact ((sm.ez hle x y).add b2).mono (by decide)
      exact ⟨le,ys,m,_,rfl,SqL.of upd_same,EsAt.same hY s6,by omega,fun q hq=>bE _ _,fun hn H7 s7=>qF hn _ (((s12.trans s4).trans s5).trans (s6.trans s7)),fun hn H7 x' s7=>qT hn _ x' (((s12.trans s4).trans s5).trans (s6.trans s7))⟩
end
end K2
namespace K2
open PySem L2 Mp
structure TxtS (K : PySem.W.Frag) (mg : Str → Option Value) (CB CN c3 c4 CE c5 c6 : Addr) : Prop where
  n_isinstance : mg "isinstance" = none
  n_ValueError : mg "ValueError" = none
  m_BadNet : mg "BadNet" = some (.ref CB)
  m_NoPlace : mg "NoPlace" = some (.ref CN)
  m_NoPipe : mg "NoPipe" = some (.ref c3)
  m_BadFlows : mg "BadFlows" = some (.ref c4)
  m_BadFraction : mg "BadFraction" = some (.ref CE)
  m_BadRow : mg "BadRow" = some (.ref c5)
  m_NetError : mg "NetError" = some (.ref c6)
  ce_BadNet : ErrCls K CB
  i_BadNet_BadNet : PySem.W.kitOne K (.ref CB) (.ref CB) = some true
  i_BadNet_NoPlace : PySem.W.kitOne K (.ref CB) (.ref CN) = some false
  i_BadNet_NoPipe : PySem.W.kitOne K (.ref CB) (.ref c3) = some false
  i_BadNet_BadFlows : PySem.W.kitOne K (.ref CB) (.ref c4) = some false
  i_BadNet_BadFraction : PySem.W.kitOne K (.ref CB) (.ref CE) = some false
  i_BadNet_BadRow : PySem.W.kitOne K (.ref CB) (.ref c5) = some false
  v_BadNet : PySem.W.kitOne K (.ref CB) (.type "ValueError") = some true
  x_BadNet : PySem.W.exmOne K (.ref CB) (.ref c6) = some true
  ce_NoPlace : ErrCls K CN
  i_NoPlace_BadNet : PySem.W.kitOne K (.ref CN) (.ref CB) = some false
  i_NoPlace_NoPlace : PySem.W.kitOne K (.ref CN) (.ref CN) = some true
  i_NoPlace_NoPipe : PySem.W.kitOne K (.ref CN) (.ref c3) = some false
  i_NoPlace_BadFlows : PySem.W.kitOne K (.ref CN) (.ref c4) = some false
  i_NoPlace_BadFraction : PySem.W.kitOne K (.ref CN) (.ref CE) = some false
  i_NoPlace_BadRow : PySem.W.kitOne K (.ref CN) (.ref c5) = some false
  v_NoPlace : PySem.W.kitOne K (.ref CN) (.type "ValueError") = some true
  x_NoPlace : PySem.W.exmOne K (.ref CN) (.ref c6) = some true
  ce_NoPipe : ErrCls K c3
  i_NoPipe_BadNet : PySem.W.kitOne K (.ref c3) (.ref CB) = some false
  i_NoPipe_NoPlace : PySem.W.kitOne K (.ref c3) (.ref CN) = some false
  i_NoPipe_NoPipe : PySem.W.kitOne K (.ref c3) (.ref c3) = some true
  i_NoPipe_BadFlows : PySem.W.kitOne K (.ref c3) (.ref c4) = some false
  i_NoPipe_BadFraction : PySem.W.kitOne K (.ref c3) (.ref CE) = some false
  i_NoPipe_BadRow : PySem.W.kitOne K (.ref c3) (.ref c5) = some false
  v_NoPipe : PySem.W.kitOne K (.ref c3) (.type "ValueError") = some true
  x_NoPipe : PySem.W.exmOne K (.ref c3) (.ref c6) = some true
  ce_BadFlows : ErrCls K c4
  i_BadFlows_BadNet : PySem.W.kitOne K (.ref c4) (.ref CB) = some false
  i_BadFlows_NoPlace : PySem.W.kitOne K (.ref c4) (.ref CN) = some false
  i_BadFlows_NoPipe : PySem.W.kitOne K (.ref c4) (.ref c3) = some false
  i_BadFlows_BadFlows : PySem.W.kitOne K (.ref c4) (.ref c4) = some true
  i_BadFlows_BadFraction : PySem.W.kitOne K (.ref c4) (.ref CE) = some false
  i_BadFlows_BadRow : PySem.W.kitOne K (.ref c4) (.ref c5) = some false
  v_BadFlows : PySem.W.kitOne K (.ref c4) (.type "ValueError") = some true
  x_BadFlows : PySem.W.exmOne K (.ref c4) (.ref c6) = some true
structure Kind (K : PySem.W.Frag) (CB CN c3 c4 CE c5 c6 c : Addr) (w : Nat) : Prop where
  lt : w < 4
  ce : ErrCls K c
  k0 : PySem.W.kitOne K (.ref c) (.ref CB) = some (w == 0)
  k1 : PySem.W.kitOne K (.ref c) (.ref CN) = some (w == 1)
  k2 : PySem.W.kitOne K (.ref c) (.ref c3) = some (w == 2)
  k3 : PySem.W.kitOne K (.ref c) (.ref c4) = some (w == 3)
  k4 : PySem.W.kitOne K (.ref c) (.ref CE) = some false
  k5 : PySem.W.kitOne K (.ref c) (.ref c5) = some false
  kv : PySem.W.kitOne K (.ref c) (.type "ValueError") = some true
  kx : PySem.W.exmOne K (.ref c) (.ref c6) = some true
def nmW : Nat → Str
  | 0=>"net"
  | 1=>"place"
  | 2=>"pipe"
  | _=>"flows"
section
variable {K : PySem.W.Frag} {mg : Str → Option Value} {CB CN c3 c4 CE c5 c6 : Addr} (T : TxtS K mg CB CN c3 c4 CE c5 c6)
theorem TxtS.k0 (T : TxtS K mg CB CN c3 c4 CE c5 c6) : Kind K CB CN c3 c4 CE c5 c6 CB 0:=⟨by decide,T.ce_BadNet,T.i_BadNet_BadNet,T.i_BadNet_NoPlace,T.i_BadNet_NoPipe,T.i_BadNet_BadFlows,T.i_BadNet_BadFraction,T.i_BadNet_BadRow,T.v_BadNet,T.x_BadNet⟩
theorem TxtS.k1 (T : TxtS K mg CB CN c3 c4 CE c5 c6) : Kind K CB CN c3 c4 CE c5 c6 CN 1:=⟨by decide,T.ce_NoPlace,T.i_NoPlace_BadNet,T.i_NoPlace_NoPlace,T.i_NoPlace_NoPipe,T.i_NoPlace_BadFlows,T.i_NoPlace_BadFraction,T.i_NoPlace_BadRow,T.v_NoPlace,T.x_NoPlace⟩
theorem TxtS.k2 (T : TxtS K mg CB CN c3 c4 CE c5 c6) : Kind K CB CN c3 c4 CE c5 c6 c3 2:=⟨by decide,T.ce_NoPipe,T.i_NoPipe_BadNet,T.i_NoPipe_NoPlace,T.i_NoPipe_NoPipe,T.i_NoPipe_BadFlows,T.i_NoPipe_BadFraction,T.i_NoPipe_BadRow,T.v_NoPipe,T.x_NoPipe⟩
theorem TxtS.k3 (T : TxtS K mg CB CN c3 c4 CE c5 c6) : Kind K CB CN c3 c4 CE c5 c6 c4 3:=⟨by decide,T.ce_BadFlows,T.i_BadFlows_BadNet,T.i_BadFlows_NoPlace,T.i_BadFlows_NoPipe,T.i_BadFlows_BadFlows,T.i_BadFlows_BadFraction,T.i_BadFlows_BadRow,T.v_BadFlows,T.x_BadFlows⟩
end
theorem pickW : ∀ w : Nat,w < 4 → ([w == 0,w == 1,w == 2,w == 3,false,false].countP (· == true) = 1) ∧ [w == 0,w == 1,w == 2,w == 3,false,false][w]? = some true ∧ (∀ i,i < w → [w == 0,w == 1,w == 2,w == 3,false,false][i]? ≠ some true) ∧ ([V.str "net",V.str "place",V.str "pipe",V.str "flows",V.str "wrong",V.str "wrong"] : List V)[w]? = some (V.str (nmW w)):=by
  intro w h
  rcases (show w = 0 ∨ w = 1 ∨ w = 2 ∨ w = 3 by omega) with rfl | rfl | rfl | rfl
  · exact ⟨rfl,rfl,fun i hi=>absurd hi (Nat.not_lt_zero _),rfl⟩
  · refine ⟨rfl,rfl,fun i hi=>?_,rfl⟩
    rcases (show i = 0 by omega) with rfl
    decide
  · refine ⟨rfl,rfl,fun i hi=>?_,rfl⟩
    rcases (show i = 0 ∨ i = 1 by omega) with rfl | rfl <;> decide
  · refine ⟨rfl,rfl,fun i hi=>?_,rfl⟩
    rcases (show i = 0 ∨ i = 1 ∨ i = 2 by omega) with rfl | rfl | rfl <;> decide
def spSort (K : PySem.W.Frag) (CB CN c3 c4 CE c5 c6 : Addr) : Sp:=fun vs H Q _=>∃ (a c : Addr) (w : Nat),vs = [.ref a] ∧ H a = some (ExcAt a (.ref c)) ∧ Kind K CB CN c3 c4 CE c5 c6 c w ∧ ∀ H',Same H H' → Q (.str (nmW w)) H'
section
variable {P : Program} {w : World} {K : PySem.W.Frag} {mg : Str → Option Value} {base : Heap} {C CB CN c3 c4 CE c5 c6 f fi f0 f1 f2 f3 f4 f5 f6 f7 f8 f9 : Addr} {fd fdi fd0 fd1 fd2 fd3 fd4 fd5 fd6 fd7 fd8 fd9 : FuncData} {t1 t2 t3 : Tok}
theorem ok_sort (F : Fun K "_law_sort" "_law_sort" s__law_sort f fd) (T : TxtS K mg CB CN c3 c4 CE c5 c6) : FnOkH P w K mg base 1 f fd ["_law_error"] (spSort K CB CN c3 c4 CE c5 c6):=by
  refine F.okH sc__law_sort (fun vs H Q E h=>?_) (fun cdv A outer s H vs Q E hr h=>?_)
  · obtain ⟨a,c,w,rfl,_⟩:=h
    rfl
  · obtain ⟨a,c,w,rfl,ha,kd,q⟩:=h
    have ty : ∀ {H1 : Hp},Same H H1 → TyX K H1 (.ref a) (.ref c):=fun e=>.exc (e _ _ ha) kd.ce
    refine ⟨_,(pss_cons (ps_set (i:=1) sc__law_sort.nd rfl (Or.inl rfl) (pe_lst (pa_cons (pe_isiO rfl T.n_isinstance (pv 0) rfl T.m_BadNet) (pa_cons (pe_isiO rfl T.n_isinstance (pv 0) rfl T.m_NoPlace) (pa_cons (pe_isiO rfl T.n_isinstance (pv 0) rfl T.m_NoPipe) pa_nil)))))
      (pss_cons (ps_set (i:=1) sc__law_sort.nd rfl (Or.inl rfl) (pe_op op_cat (pv 1) (pe_lst (pa_cons (pe_isiO rfl T.n_isinstance (pv 0) rfl T.m_BadFlows) (pa_cons (pe_isiO rfl T.n_isinstance (pv 0) rfl T.m_BadFraction) (pa_cons (pe_isiO rfl T.n_isinstance (pv 0) rfl T.m_BadRow) pa_nil))))))
      (pss_cons (ps_if (PW.pt (pw_or (pt_cmpR op_ne (pe_bm PySem.F.plainAttrs_list PySem.F.slot_list_count PySem.F.type_list_count mt_countB (pv 1) (pa_cons pe_bl pa_nil)) pe_int (nomark _)) (pw_or1 (pt_not (pt_val (pe_isiB rfl T.n_isinstance (pv 0) rfl T.n_ValueError bt_ValueError)))))) (pss_one (ps_ret pe_str)) pss_nil)
      (pss_one (ps_ret (pe_ix ix_list (pe_lst (pa_cons pe_str (pa_cons pe_str (pa_cons pe_str (pa_cons pe_str (pa_cons pe_str (pa_cons pe_str pa_nil))))))) (pe_bm PySem.F.plainAttrs_list PySem.F.slot_list_index PySem.F.type_list_index mt_indexB (pv 1) (pa_cons pe_bl pa_nil)) (fun _ _=>rfl))))))),?_⟩
    refine ⟨_,rfl,_,_,_,_,_,rfl,rfl,ty (Same.refl _),kd.k0,_,rfl,_,_,_,_,_,rfl,rfl,ty (Same.refl _),kd.k1,_,rfl,_,_,_,_,_,rfl,rfl,ty (Same.refl _),kd.k2,(by show 3 ≤ sizeLine; decide),fun l hl=>?_⟩
    have s1:=same_upd (o:=.lst [.bl (w == 0),.bl (w == 1),.bl (w == 2)]) hl
    have e1 : (upd H l (.lst [.bl (w == 0),.bl (w == 1),.bl (w == 2)])) l = some (.lst [.bl (w == 0),.bl (w == 1),.bl (w == 2)]):=upd_same
    generalize upd H l (.lst [.bl (w == 0),.bl (w == 1),.bl (w == 2)]) = H1 at s1 e1 ⊢
    refine ⟨_,rfl,_,rfl,_,_,_,_,_,rfl,rfl,ty s1,kd.k3,_,rfl,_,_,_,_,_,rfl,rfl,ty s1,kd.k4,_,rfl,_,_,_,_,_,rfl,rfl,ty s1,kd.k5,(by show 3 ≤ sizeLine; decide),fun l2 hl2=>?_⟩
    have s2:=same_upd (o:=.lst [.bl (w == 3),.bl false,.bl false]) hl2
    have e2 : (upd H1 l2 (.lst [.bl (w == 3),.bl false,.bl false])) l2 = some (.lst [.bl (w == 3),.bl false,.bl false]):=upd_same
    generalize upd H1 l2 (.lst [.bl (w == 3),.bl false,.bl false]) = H2 at s2 e2 ⊢
    refine ⟨l,l2,_,_,rfl,rfl,s2 _ _ e1,e2,(by show 6 ≤ sizeLine; decide),fun l3 hl3=>?_⟩
    have s3:=same_upd (o:=.lst ([.bl (w == 0),.bl (w == 1),.bl (w == 2)] ++ [.bl (w == 3),.bl false,.bl false])) hl3
    have e3 : (upd H2 l3 (.lst ([.bl (w == 0),.bl (w == 1),.bl (w == 2)] ++ [.bl (w == 3),.bl false,.bl false]))) l3 = some (.lst ([w == 0,w == 1,w == 2,w == 3,false,false].map V.bl)):=upd_same
    generalize upd H2 l3 (.lst ([.bl (w == 0),.bl (w == 1),.bl (w == 2)] ++ [.bl (w == 3),.bl false,.bl false])) = H3 at s3 e3 ⊢
    have s03:=(s1.trans s2).trans s3
    have hw:=pickW w kd.lt
    refine ⟨_,rfl,.inl ⟨rfl,_,SqL.of e3⟩,l3,_,true,rfl,rfl,e3,?_⟩
    rw [hw.1]
    refine ⟨rfl,_,rfl,?_⟩
    rw [decide_eq_true (show V.int ((1 : Nat) : Int) = V.int 1 from rfl)]
    refine iteF ?_
    refine ⟨_,rfl,_,_,_,_,_,rfl,rfl,ty s03,kd.kv,_,rfl,iteF ?_⟩
    refine ⟨by show 6 ≤ sizeLine; decide,fun l4 hl4=>?_⟩
    have s4:=same_upd (o:=.lst [.str "net",.str "place",.str "pipe",.str "flows",.str "wrong",.str "wrong"]) hl4
    refine ⟨_,rfl,.inl ⟨rfl,_,SqL.of (s4 _ _ e3)⟩,l3,_,true,w,rfl,rfl,s4 _ _ e3,by have:=kd.lt; omega,hw.2.1,hw.2.2.1,l4,_,_,_,rfl,rfl,SqL.of upd_same,atI_nat (j:=w) hw.2.2.2,q _ (s03.trans s4)⟩
end
end K2
namespace K2
open PySem L2 Mp St Bz
def nilS : Str:=""
def spLawNet (K : PySem.W.Frag) : Sp:=fun vs H Q _=>∃ (v u : V) (d e : PyData),vs = [v,u] ∧ Rep K H v d ∧ Rep K H u e ∧ ∀ H',Same H H' → Q (.str (if netD d e = true then nilS else nmW 0)) H'
def Due (d : PyData) (n m : Int) (way w : Nat) : Prop:=(way < 8 ∧ countsD d n = false ∧ w = 1) ∨ (8 ≤ way ∧ way < 10 ∧ countsD d m = false ∧ w = 2) ∨ (10 ≤ way ∧ way < 12 ∧ flowsD d m = false ∧ w = 3)
def clsW (CB CN c3 c4 : Addr) : Nat → Addr
  | 0=>CB
  | 1=>CN
  | 2=>c3
  | _=>c4
def spAsk (K : PySem.W.Frag) (C CB CN c3 c4 : Addr) : Sp:=fun vs H _ E=>∃ (x L : Addr) (n : Nat) (ps : List Pipe) (v : V) (d : PyData) (way w : Nat),vs = [.ref x,.int (way : Int),v] ∧ NetAt K C H x L n ps ∧ NetOk n ps ∧ 2 ≤ n ∧ Rep K H v d ∧ Due d n ps.length way w ∧ ∀ H',Same H H' → E (.ref (clsW CB CN c3 c4 w)) none H'
def spAsked (K : PySem.W.Frag) (C : Addr) : Sp:=fun vs H Q _=>∃ (x L : Addr) (n : Nat) (ps : List Pipe) (v : V) (d : PyData) (way w : Nat),vs = [.ref x,.int (way : Int),v] ∧ NetAt K C H x L n ps ∧ NetOk n ps ∧ 2 ≤ n ∧ Rep K H v d ∧ Due d n ps.length way w ∧ ∀ H',Same H H' → Q (.str (nmW w)) H'
def spTold12 (K : PySem.W.Frag) (C : Addr) : Sp:=fun vs H Q _=>∃ (x L : Addr) (n : Nat) (ps : List Pipe) (v : V) (d : PyData),vs = [.ref x,v] ∧ NetAt K C H x L n ps ∧ Rep K H v d ∧ countsD d n = false ∧ ∀ H',Same H H' → Q (.str (nmW 1)) H'
section
variable {P : Program} {w : World} {K : PySem.W.Frag} {mg : Str → Option Value} {base : Heap} {C CB CN c3 c4 CE c5 c6 f fi f0 f1 f2 f3 f4 f5 f6 f7 f8 f9 : Addr} {fd fdi fd0 fd1 fd2 fd3 fd4 fd5 fd6 fd7 fd8 fd9 : FuncData} {t1 t2 t3 : Tok}
theorem ok_lawnet (F : Fun K "_law_net" "_law_net" s__law_net f fd) (T : TxtS K mg CB CN c3 c4 CE c5 c6) (m__law_sort : mg "_law_sort" = some (.ref f0)) (k__law_sort : PySem.W.keepIn K (.ref f0) = true) (b__law_sort : Binds K fd0 ["_law_error"] []) (G__law_sort : FnOkH P w K mg base 1 f0 fd0 ["_law_error"] (spSort K CB CN c3 c4 CE c5 c6))
    (M_Net : Mk K C fi) (m_Net : mg "Net" = some (.ref C)) (b_Net : Binds K fdi ["self","places","pipes"] []) (G_Net : FnOk P w K mg base (CXX P w) 6 fi fdi ["self","places","pipes"] (spInitX K C CB)) : FnOk P w K mg base CX0 9 f fd ["_law_places","_law_pipes"] (spLawNet K):=by
  refine F.ok sc__law_net (fun vs H Q E h=>?_) (fun cdv A outer s H vs Q E hr h=>?_)
  · obtain ⟨v,u,d,e,rfl,_⟩:=h
    rfl
  · obtain ⟨v,u,d,e,rfl,r,r',q⟩:=h
    refine ⟨_,(pss_cons (ps_try (i:=2) rfl rfl rfl rfl rfl rfl sc__law_net.nd rfl rfl rfl T.m_NetError (fun E pn xe hPs=>(pss_one (ps_expr (pe_make M_Net G_Net (hr.mono (by decide)) rfl m_Net b_Net .nil hPs (pa_cons (pv 0) (pa_cons (pv 1) pa_nil)))))) (fun a=>(pss_one (ps_ret (pe_callH G__law_sort (hr.held (by decide) _) rfl m__law_sort k__law_sort b__law_sort (pa_cons (pv 2) pa_nil))))))
      (pss_one (ps_ret pe_str))),?_⟩
    refine ⟨fun cls _ H'=>cls = .ref CB ∧ Same H H' ∧ netD d e = false,⟨_,rfl,_,rfl,?_⟩,?_⟩
    · intro x dx nx ndx nex
      have s0:=made_s0 (C:=C) nx ndx
      refine ⟨x,dx,v,u,d,e,rfl,upd_same,r.same s0,r'.same s0,fun hn H' s'=>⟨rfl,s0.trans s',hn⟩,fun hn n ps H' L e1 e2 ok hL net kp=>⟨rfl,?_⟩⟩
      have q':=q H' (made_same (n:=n) nx ndx kp)
      rw [if_pos hn] at q'
      exact q'
    rintro a cls H' ⟨rfl,s0,hn⟩ ha
    refine ⟨T.x_BadNet,?_⟩
    have s1 : Same H' (upd H' a (ExcAt a (.ref CB))):=same_upd ha
    refine ⟨_,rfl,a,CB,0,rfl,upd_same,T.k0,fun H2 s2=>?_⟩
    have q':=q H2 ((s0.trans s1).trans s2)
    rw [hn] at q'
    exact q'
theorem ok_told12 (F : Fun K "_law_told" "_law_told" s__law_told f fd) (T : TxtS K mg CB CN c3 c4 CE c5 c6) (m__law_sort : mg "_law_sort" = some (.ref f0)) (k__law_sort : PySem.W.keepIn K (.ref f0) = true) (b__law_sort : Binds K fd0 ["_law_error"] []) (G__law_sort : FnOkH P w K mg base 1 f0 fd0 ["_law_error"] (spSort K CB CN c3 c4 CE c5 c6))
    (m_hardness_of : mg "hardness_of" = some (.ref f1)) (k_hardness_of : PySem.W.keepIn K (.ref f1) = true) (b_hardness_of : Binds K fd1 ["net","one","other"] []) (G_hardness_of : FnOk P w K mg base (CXX P w) 5 f1 fd1 ["net","one","other"] (spTwoX K C CN)) : FnOk P w K mg base CX0 6 f fd ["_law_net_here","_law_thing"] (spTold12 K C):=by
  refine F.ok sc__law_told (fun vs H Q E h=>?_) (fun cdv A outer s H vs Q E hr h=>?_)
  · obtain ⟨x,L,n,ps,v,d,rfl,_⟩:=h
    rfl
  · obtain ⟨x,L,n,ps,v,d,rfl,net,r,hc,q⟩:=h
    refine ⟨_,(pss_cons (ps_try (i:=2) rfl rfl rfl rfl rfl rfl sc__law_told.nd rfl rfl rfl T.m_NetError (fun E pn xe hPs=>(pss_one (ps_expr (pe_call G_hardness_of (hr.mono (by decide)) rfl m_hardness_of k_hardness_of b_hardness_of .nil hPs (pa_cons (pv 0) (pa_cons pe_int (pa_cons (pv 1) pa_nil))))))) (fun a=>(pss_one (ps_ret (pe_callH G__law_sort (hr.held (by decide) _) rfl m__law_sort k__law_sort b__law_sort (pa_cons (pv 2) pa_nil))))))
      (pss_one (ps_ret pe_str))),?_⟩
    refine ⟨fun cls _ H'=>cls = .ref CN ∧ Same H H',⟨_,rfl,_,rfl,x,L,n,ps,.int 0,v,.int 0,d,rfl,net,.int 0,r,by rw [hc,Bool.and_false],fun H' s'=>⟨rfl,s'⟩⟩,?_⟩
    rintro a cls H' ⟨rfl,s0⟩ ha
    refine ⟨T.x_NoPlace,?_⟩
    have s1 : Same H' (upd H' a (ExcAt a (.ref CN))):=same_upd ha
    exact ⟨_,rfl,a,CN,1,rfl,upd_same,T.k1,fun H2 s2=>q H2 ((s0.trans s1).trans s2)⟩
theorem ok_asked (F : Fun K "_law_asked" "_law_asked" s__law_asked f fd) (T : TxtS K mg CB CN c3 c4 CE c5 c6) (m__law_sort : mg "_law_sort" = some (.ref f0)) (k__law_sort : PySem.W.keepIn K (.ref f0) = true) (b__law_sort : Binds K fd0 ["_law_error"] []) (G__law_sort : FnOkH P w K mg base 1 f0 fd0 ["_law_error"] (spSort K CB CN c3 c4 CE c5 c6))
    (m__law_ask : mg "_law_ask" = some (.ref f1)) (k__law_ask : PySem.W.keepIn K (.ref f1) = true) (b__law_ask : Binds K fd1 ["_law_net_here","_law_way","_law_thing"] []) (G__law_ask : FnOk P w K mg base (CXX P w) 12 f1 fd1 ["_law_net_here","_law_way","_law_thing"] (spAsk K C CB CN c3 c4)) : FnOk P w K mg base CX0 14 f fd ["_law_net_here","_law_way","_law_thing"] (spAsked K C):=by
  refine F.ok sc__law_asked (fun vs H Q E h=>?_) (fun cdv A outer s H vs Q E hr h=>?_)
  · obtain ⟨x,L,n,ps,v,d,way,k,rfl,_⟩:=h
    rfl
  · obtain ⟨x,L,n,ps,v,d,way,k,rfl,net,ok,n2,r,due,q⟩:=h
    refine ⟨_,(pss_cons (ps_try (i:=3) rfl rfl rfl rfl rfl rfl sc__law_asked.nd rfl rfl rfl T.m_NetError (fun E pn xe hPs=>(pss_one (ps_expr (pe_call G__law_ask (hr.mono (by decide)) rfl m__law_ask k__law_ask b__law_ask .nil hPs (pa_cons (pv 0) (pa_cons (pv 1) (pa_cons (pv 2) pa_nil))))))) (fun a=>(pss_one (ps_ret (pe_callH G__law_sort (hr.held (by decide) _) rfl m__law_sort k__law_sort b__law_sort (pa_cons (pv 3) pa_nil))))))
      (pss_one (ps_ret pe_str))),?_⟩
    refine ⟨fun cls _ H'=>cls = .ref (clsW CB CN c3 c4 k) ∧ Same H H',⟨_,rfl,_,rfl,_,rfl,x,L,n,ps,v,d,way,k,rfl,net,ok,n2,r,due,fun H' s'=>⟨rfl,s'⟩⟩,?_⟩
    rintro a cls H' ⟨rfl,s0⟩ ha
    have kd : Kind K CB CN c3 c4 CE c5 c6 (clsW CB CN c3 c4 k) k:=by
      rcases due with ⟨_,_,rfl⟩ | ⟨_,_,_,rfl⟩ | ⟨_,_,_,rfl⟩
      · exact T.k1
      · exact T.k2
      · exact T.k3
    refine ⟨kd.kx,?_⟩
    have s1 : Same H' (upd H' a (ExcAt a (.ref (clsW CB CN c3 c4 k)))):=same_upd ha
    exact ⟨_,rfl,a,_,k,rfl,upd_same,kd,fun H2 s2=>q H2 ((s0.trans s1).trans s2)⟩
end
end K2
namespace K2
open PySem L2 Mp St Bz
def spWithX (K : PySem.W.Frag) (C CB : Addr) : Sp:=fun vs H Q E=>∃ (x L h : Addr) (n : Int) (ps : List Pipe) (p : Pipe),vs = [.ref x,.int p.u,.int p.w,.ref h] ∧ NetAt K C H x L n ps ∧ ps.length ≤ 28 ∧ SqT K H h [.int p.a,.int p.b] ∧
  (¬ NetOk n (ps ++ [p]) → ∀ H',Same H H' → E (.ref CB) none H') ∧ (NetOk n (ps ++ [p]) → ∀ (H' : Hp) (v : V),Same H H' → Q v H')
section
variable {P : Program} {w : World} {K : PySem.W.Frag} {mg : Str → Option Value} {base : Heap} {C CB CN c3 c4 CE c5 c6 f fi f0 f1 f2 f3 f4 f5 f6 f7 f8 f9 : Addr} {fd fdi fd0 fd1 fd2 fd3 fd4 fd5 fd6 fd7 fd8 fd9 : FuncData} {t1 t2 t3 : Tok}
theorem ok_withX (F : Fun K "with_pipe" "with_pipe" s_with_pipe f fd) (T : TxtN K mg C CB) (M_Net : Mk K C fi) (m_Net : mg "Net" = some (.ref C)) (b_Net : Binds K fdi ["self","places","pipes"] []) (G_Net : FnOk P w K mg base (CXX P w) 6 fi fdi ["self","places","pipes"] (spInitX K C CB))
    (t_pipes : Meth K C "pipes" f1) (b_pipes : Binds K fd1 ["self"] []) (G_pipes : FnOk P w K mg base CX0 1 f1 fd1 ["self"] (spPipes K C)) : FnOk P w K mg base (CXX P w) 9 f fd ["net","one","other","hardness"] (spWithX K C CB):=by
  refine F.okX sc_with_pipe (fun vs H Q E h=>?_) (fun cdv A outer s H vs Q E hr h=>?_)
  · obtain ⟨x,L,h,n,ps,p,rfl,_⟩:=h
    rfl
  · obtain ⟨x,L,h,n,ps,p,rfl,net,le,hh,qF,qT⟩:=h
    obtain ⟨⟨dx,h1⟩,_⟩:=id net
    refine ⟨_,(pss_one (ps_ret (pe_make M_Net G_Net (hr.mono (by decide)) rfl m_Net b_Net .nil passes_cx (pa_cons (pe_fld (pv 0) rfl) (pa_cons (pe_op op_cat (pe_meth0 (pv 0) T.c_Net t_pipes G_pipes (hr.mono (by decide)) b_pipes .nil pass0) (pe_lst (pa_cons (pe_tup (pa_cons (pv 1) (pa_cons (pv 2) (pa_cons (pv 3) pa_nil)))) pa_nil))) pa_nil))))),?_⟩
    refine ⟨_,rfl,x,C,dx,_,_,rfl,h1,T.c_Net,T.a_size,flds_size _ _,?_⟩
    refine ⟨_,rfl,x,dx,_,rfl,h1,flds_no _ _ (by decide +kernel) (by decide +kernel),x,L,n,ps,rfl,net,fun r us hr1 pa=>?_⟩
    have s1:=same_upd (o:=.lst us) hr1
    have hus : us.length = ps.length:=Paired.length pa
    have hr2 : (upd H r (.lst us)) r = some (.lst us):=upd_same
    have pa1:=PipesAt.same s1 pa
    generalize upd H r (.lst us) = H1 at s1 hr2 pa1 ⊢
    refine ⟨_,rfl,_,rfl,_,rfl,by show 3 ≤ sizeLine; decide,fun tp htp=>?_⟩
    have s2:=same_upd (o:=.tup [.int p.u,.int p.w,.ref h]) htp
    have e2 : (upd H1 tp (.tup [.int p.u,.int p.w,.ref h])) tp = some (.tup [.int p.u,.int p.w,.ref h]):=upd_same
    generalize upd H1 tp (.tup [.int p.u,.int p.w,.ref h]) = H2 at s2 e2 ⊢
    refine ⟨by show 1 ≤ sizeLine; decide,fun l2 hl2=>?_⟩
    have s3:=same_upd (o:=.lst [.ref tp]) hl2
    have e3 : (upd H2 l2 (.lst [.ref tp])) l2 = some (.lst [.ref tp]):=upd_same
    generalize upd H2 l2 (.lst [.ref tp]) = H3 at s3 e3 ⊢
    refine ⟨r,l2,_,_,rfl,rfl,(s2.trans s3) _ _ hr2,e3,Nat.le_of_lt (small1000 (by simp; omega)),fun l3 hl3=>?_⟩
    have s4:=same_upd (o:=.lst (us ++ [.ref tp])) hl3
    have e4 : (upd H3 l3 (.lst (us ++ [.ref tp]))) l3 = some (.lst (us ++ [.ref tp])):=upd_same
    generalize upd H3 l3 (.lst (us ++ [.ref tp])) = H4 at s4 e4 ⊢
    have s24:=(s2.trans s3).trans s4
    have s04:=s1.trans s24
    have pa4 : PipesAt K H4 (us ++ [.ref tp]) (ps ++ [p]):=PipesAt.snoc (PipesAt.same s24 pa1) ⟨tp,h,rfl,SqT.of ((s3.trans s4) _ _ e2),Same.tup s04 hh⟩
    intro x' dx' nx ndx nex
    have s0:=made_s0 (C:=C) nx ndx
    refine ⟨x',dx',.int n,.ref l3,.int n,.list (pipesD (ps ++ [p])),rfl,upd_same,.int _,.lst (SqL.of (s0 _ _ e4)) (PipesAt.same s0 pa4).reps,fun hn H5 s5=>qF (fun ok=>?_) _ (s04.trans (s0.trans s5)),fun hn n' ps' H5 L' e1 e2 ok' hL net' kp=>⟨rfl,?_⟩⟩
    · rw [netD_ok ok] at hn
      cases hn
    · have s5:=made_same (n:=n) nx ndx kp
      exact qT (netD_net hn) _ _ (s04.trans s5)
theorem ok_ask (F : Fun K "_law_ask" "_law_ask" s__law_ask f fd) (T : TxtP K mg C CN c3 c4)
    (t_part : Meth K C "part" f1) (b_part : Binds K fd1 ["self","at"] []) (G_part : FnOk P w K mg base (CXX P w) 3 f1 fd1 ["self","at"] (spPartX K C CN))
    (m_stream : mg "stream" = some (.ref f2)) (k_stream : PySem.W.keepIn K (.ref f2) = true) (b_stream : Binds K fd2 ["net","one","other"] []) (G_stream : FnOk P w K mg base (CXX P w) 5 f2 fd2 ["net","one","other"] (spTwoX K C CN))
    (m_hardness_of : mg "hardness_of" = some (.ref f3)) (k_hardness_of : PySem.W.keepIn K (.ref f3) = true) (b_hardness_of : Binds K fd3 ["net","one","other"] []) (G_hardness_of : FnOk P w K mg base (CXX P w) 5 f3 fd3 ["net","one","other"] (spTwoX K C CN))
    (m_chance : mg "chance" = some (.ref f4)) (k_chance : PySem.W.keepIn K (.ref f4) = true) (b_chance : Binds K fd4 ["net","start","one","other"] []) (G_chance : FnOk P w K mg base (CXX P w) 5 f4 fd4 ["net","start","one","other"] (spThreeX K C CN))
    (m_taken_out : mg "taken_out" = some (.ref f5)) (k_taken_out : PySem.W.keepIn K (.ref f5) = true) (b_taken_out : Binds K fd5 ["net","at"] []) (G_taken_out : FnOk P w K mg base (CXX P w) 10 f5 fd5 ["net","at"] (spOut K C CN CB))
    (m_share : mg "share" = some (.ref f6)) (k_share : PySem.W.keepIn K (.ref f6) = true) (b_share : Binds K fd6 ["net","at"] []) (G_share : FnOk P w K mg base (CXX P w) 3 f6 fd6 ["net","at"] (spPipeX K C c3))
    (m_without_pipe : mg "without_pipe" = some (.ref f7)) (k_without_pipe : PySem.W.keepIn K (.ref f7) = true) (b_without_pipe : Binds K fd7 ["net","at"] []) (G_without_pipe : FnOk P w K mg base (CXX P w) 3 f7 fd7 ["net","at"] (spPipeX K C c3))
    (m_heat : mg "heat" = some (.ref f8)) (k_heat : PySem.W.keepIn K (.ref f8) = true) (b_heat : Binds K fd8 ["net","flows"] []) (G_heat : FnOk P w K mg base (CXX P w) 5 f8 fd8 ["net","flows"] (spFlowsX K C c4))
    (m_sums_of : mg "sums_of" = some (.ref f9)) (k_sums_of : PySem.W.keepIn K (.ref f9) = true) (b_sums_of : Binds K fd9 ["net","flows"] []) (G_sums_of : FnOk P w K mg base (CXX P w) 5 f9 fd9 ["net","flows"] (spFlowsX K C c4)) : FnOk P w K mg base (CXX P w) 12 f fd ["_law_net_here","_law_way","_law_thing"] (spAsk K C CB CN c3 c4):=by
  refine F.okX sc__law_ask (fun vs H Q E h=>?_) (fun cdv A outer s H vs Q E hr h=>?_)
  · obtain ⟨x,L,n,ps,v,d,way,k,rfl,_⟩:=h
    rfl
  · obtain ⟨x,L,n,ps,v,d,way,k,rfl,net,ok,n2,r,due,q⟩:=h
    obtain ⟨⟨dx,h1⟩,_⟩:=id net
    have due1 : way < 8 → countsD d n = false ∧ k = 1:=fun h=>by
      rcases due with ⟨_,a,b⟩ | ⟨_,_,_,_⟩ | ⟨_,_,_,_⟩
      · exact ⟨a,b⟩
      · omega
      · omega
    have due2 : 8 ≤ way → way < 10 → countsD d ps.length = false ∧ k = 2:=fun h h'=>by
      rcases due with ⟨_,a,b⟩ | ⟨_,_,a,b⟩ | ⟨_,_,_,_⟩
      · omega
      · exact ⟨a,b⟩
      · omega
    have due3 : 10 ≤ way → way < 12 → flowsD d ps.length = false ∧ k = 3:=fun h h'=>by
      rcases due with ⟨_,a,b⟩ | ⟨_,_,a,b⟩ | ⟨_,_,a,b⟩
      · omega
      · omega
      · exact ⟨a,b⟩
    have lim : way < 12:=by
      rcases due with ⟨_,_,_⟩ | ⟨_,_,_,_⟩ | ⟨_,_,_,_⟩ <;> omega
    refine ⟨_,(pss_one (ps_if (pt_cmpR op_eq (pv 1) pe_int (nomark _)) (pss_one (ps_expr (pe_meth (pv 0) T.c_Net t_part G_part (hr.mono (by decide)) b_part .nil passes_cx (pa_cons (pv 2) pa_nil)))) (pss_one (ps_if (pt_cmpR op_eq (pv 1) pe_int (nomark _)) (pss_one (ps_expr (pe_call G_stream (hr.mono (by decide)) rfl m_stream k_stream b_stream .nil passes_cx (pa_cons (pv 0) (pa_cons (pv 2) (pa_cons pe_int pa_nil)))))) (pss_one (ps_if (pt_cmpR op_eq (pv 1) pe_int (nomark _)) (pss_one (ps_expr (pe_call G_stream (hr.mono (by decide)) rfl m_stream k_stream b_stream .nil passes_cx (pa_cons (pv 0) (pa_cons pe_int (pa_cons (pv 2) pa_nil)))))) (pss_one (ps_if (pt_cmpR op_eq (pv 1) pe_int (nomark _)) (pss_one (ps_expr (pe_call G_hardness_of (hr.mono (by decide)) rfl m_hardness_of k_hardness_of b_hardness_of .nil passes_cx (pa_cons (pv 0) (pa_cons (pv 2) (pa_cons pe_int pa_nil)))))) (pss_one (ps_if (pt_cmpR op_lt (pv 1) pe_int (nomark _)) (pss_one (ps_expr (pe_call G_chance (hr.mono (by decide)) rfl m_chance k_chance b_chance .nil passes_cx (pa_cons (pv 0) (pa_cons (pe_ix ix_list (pe_lst (pa_cons (pv 2) (pa_cons pe_int (pa_cons pe_int pa_nil)))) (pe_op op_sub (pv 1) pe_int) (fun _ _=>rfl)) (pa_cons (pe_ix ix_list (pe_lst (pa_cons pe_int (pa_cons (pv 2) (pa_cons pe_int pa_nil)))) (pe_op op_sub (pv 1) pe_int) (fun _ _=>rfl)) (pa_cons (pe_ix ix_list (pe_lst (pa_cons pe_int (pa_cons pe_int (pa_cons (pv 2) pa_nil)))) (pe_op op_sub (pv 1) pe_int) (fun _ _=>rfl)) pa_nil))))))) (pss_one (ps_if (pt_cmpR op_eq (pv 1) pe_int (nomark _)) (pss_one (ps_expr (pe_call G_taken_out (hr.mono (by decide)) rfl m_taken_out k_taken_out b_taken_out .nil passes_cx (pa_cons (pv 0) (pa_cons (pv 2) pa_nil))))) (pss_one (ps_if (pt_cmpR op_eq (pv 1) pe_int (nomark _)) (pss_one (ps_expr (pe_call G_share (hr.mono (by decide)) rfl m_share k_share b_share .nil passes_cx (pa_cons (pv 0) (pa_cons (pv 2) pa_nil))))) (pss_one (ps_if (pt_cmpR op_eq (pv 1) pe_int (nomark _)) (pss_one (ps_expr (pe_call G_without_pipe (hr.mono (by decide)) rfl m_without_pipe k_without_pipe b_without_pipe .nil passes_cx (pa_cons (pv 0) (pa_cons (pv 2) pa_nil))))) (pss_one (ps_if (pt_cmpR op_eq (pv 1) pe_int (nomark _)) (pss_one (ps_expr (pe_call G_heat (hr.mono (by decide)) rfl m_heat k_heat b_heat .nil passes_cx (pa_cons (pv 0) (pa_cons (pv 2) pa_nil))))) (pss_one (ps_expr (pe_call G_sums_of (hr.mono (by decide)) rfl m_sums_of k_sums_of b_sums_of .nil passes_cx (pa_cons (pv 0) (pa_cons (pv 2) pa_nil))))))))))))))))))))))),?_⟩
    refine ⟨_,rfl,rfl,_,rfl,?_⟩
    by_cases w0 : way = 0
    · rw [decide_eq_true (show V.int (way : Int) = V.int 0 by rw [w0]; rfl)]
      refine iteT ?_
      obtain ⟨hc,rfl⟩:=due1 (by omega)
      exact ⟨_,rfl,x,dx,_,rfl,h1,flds_no _ _ (by decide +kernel) (by decide +kernel),_,rfl,x,L,n,ps,v,d,rfl,net,r,hc,q⟩
    rw [decide_eq_false (show ¬ V.int (way : Int) = V.int 0 from fun z=>w0 (by injection z with z; omega))]
    refine iteF ?_
    refine ⟨_,rfl,rfl,_,rfl,?_⟩
    by_cases w1 : way = 1
    · rw [decide_eq_true (show V.int (way : Int) = V.int 1 by rw [w1]; rfl)]
      refine iteT ?_
      obtain ⟨hc,rfl⟩:=due1 (by omega)
      exact ⟨_,rfl,_,rfl,x,L,n,ps,v,.int 0,d,.int 0,rfl,net,r,.int 0,by rw [hc,Bool.false_and],q⟩
    rw [decide_eq_false (show ¬ V.int (way : Int) = V.int 1 from fun z=>w1 (by injection z with z; omega))]
    refine iteF ?_
    refine ⟨_,rfl,rfl,_,rfl,?_⟩
    by_cases w2 : way = 2
    · rw [decide_eq_true (show V.int (way : Int) = V.int 2 by rw [w2]; rfl)]
      refine iteT ?_
      obtain ⟨hc,rfl⟩:=due1 (by omega)
      exact ⟨_,rfl,_,rfl,x,L,n,ps,.int 0,v,.int 0,d,rfl,net,.int 0,r,by rw [hc,Bool.and_false],q⟩
    rw [decide_eq_false (show ¬ V.int (way : Int) = V.int 2 from fun z=>w2 (by injection z with z; omega))]
    refine iteF ?_
    refine ⟨_,rfl,rfl,_,rfl,?_⟩
    by_cases w3 : way = 3
    · rw [decide_eq_true (show V.int (way : Int) = V.int 3 by rw [w3]; rfl)]
      refine iteT ?_
      obtain ⟨hc,rfl⟩:=due1 (by omega)
      exact ⟨_,rfl,_,rfl,x,L,n,ps,v,.int 0,d,.int 0,rfl,net,r,.int 0,by rw [hc,Bool.false_and],q⟩
    rw [decide_eq_false (show ¬ V.int (way : Int) = V.int 3 from fun z=>w3 (by injection z with z; omega))]
    refine iteF ?_
    refine ⟨_,rfl,_,_,rfl,rfl,_,rfl,?_⟩
    by_cases w7 : (way : Int) < 7
    · rw [decide_eq_true w7]
      refine iteT ?_
      obtain ⟨hc,rfl⟩:=due1 (by omega)
      rcases (show way = 4 ∨ way = 5 ∨ way = 6 by omega) with rfl | rfl | rfl
      · refine ⟨_,rfl,_,rfl,by show 3 ≤ sizeLine; decide,fun la hla=>⟨_,rfl,_,_,rfl,rfl,la,_,_,v,rfl,rfl,SqL.of upd_same,rfl,?_⟩⟩
        have sa:=same_upd (o:=.lst [v,.int 0,.int 0]) hla
        generalize upd H la (.lst [v,.int 0,.int 0]) = Ha at sa ⊢
        refine ⟨_,rfl,by show 3 ≤ sizeLine; decide,fun lb hlb=>⟨_,rfl,_,_,rfl,rfl,lb,_,_,.int 0,rfl,rfl,SqL.of upd_same,rfl,?_⟩⟩
        have sb:=same_upd (o:=.lst [.int 0,v,.int 1]) hlb
        generalize upd Ha lb (.lst [.int 0,v,.int 1]) = Hb at sb ⊢
        refine ⟨_,rfl,by show 3 ≤ sizeLine; decide,fun lc hlc=>⟨_,rfl,_,_,rfl,rfl,lc,_,_,.int 1,rfl,rfl,SqL.of upd_same,rfl,?_⟩⟩
        have sc:=same_upd (o:=.lst [.int 1,.int 1,v]) hlc
        have sac:=(sa.trans sb).trans sc
        exact ⟨x,L,n,ps,v,.int 0,.int 1,d,.int 0,.int 1,rfl,net.same sac,r.same sac,.int _,.int _,by rw [hc]; rfl,fun H' s'=>q _ (sac.trans s')⟩
      · refine ⟨_,rfl,_,rfl,by show 3 ≤ sizeLine; decide,fun la hla=>⟨_,rfl,_,_,rfl,rfl,la,_,_,.int 0,rfl,rfl,SqL.of upd_same,rfl,?_⟩⟩
        have sa:=same_upd (o:=.lst [v,.int 0,.int 0]) hla
        generalize upd H la (.lst [v,.int 0,.int 0]) = Ha at sa ⊢
        refine ⟨_,rfl,by show 3 ≤ sizeLine; decide,fun lb hlb=>⟨_,rfl,_,_,rfl,rfl,lb,_,_,v,rfl,rfl,SqL.of upd_same,rfl,?_⟩⟩
        have sb:=same_upd (o:=.lst [.int 0,v,.int 1]) hlb
        generalize upd Ha lb (.lst [.int 0,v,.int 1]) = Hb at sb ⊢
        refine ⟨_,rfl,by show 3 ≤ sizeLine; decide,fun lc hlc=>⟨_,rfl,_,_,rfl,rfl,lc,_,_,.int 1,rfl,rfl,SqL.of upd_same,rfl,?_⟩⟩
        have sc:=same_upd (o:=.lst [.int 1,.int 1,v]) hlc
        have sac:=(sa.trans sb).trans sc
        exact ⟨x,L,n,ps,.int 0,v,.int 1,.int 0,d,.int 1,rfl,net.same sac,.int _,r.same sac,.int _,by rw [hc]; simp,fun H' s'=>q _ (sac.trans s')⟩
      · refine ⟨_,rfl,_,rfl,by show 3 ≤ sizeLine; decide,fun la hla=>⟨_,rfl,_,_,rfl,rfl,la,_,_,.int 0,rfl,rfl,SqL.of upd_same,rfl,?_⟩⟩
        have sa:=same_upd (o:=.lst [v,.int 0,.int 0]) hla
        generalize upd H la (.lst [v,.int 0,.int 0]) = Ha at sa ⊢
        refine ⟨_,rfl,by show 3 ≤ sizeLine; decide,fun lb hlb=>⟨_,rfl,_,_,rfl,rfl,lb,_,_,.int 1,rfl,rfl,SqL.of upd_same,rfl,?_⟩⟩
        have sb:=same_upd (o:=.lst [.int 0,v,.int 1]) hlb
        generalize upd Ha lb (.lst [.int 0,v,.int 1]) = Hb at sb ⊢
        refine ⟨_,rfl,by show 3 ≤ sizeLine; decide,fun lc hlc=>⟨_,rfl,_,_,rfl,rfl,lc,_,_,v,rfl,rfl,SqL.of upd_same,rfl,?_⟩⟩
        have sc:=same_upd (o:=.lst [.int 1,.int 1,v]) hlc
        have sac:=(sa.trans sb).trans sc
        exact ⟨x,L,n,ps,.int 0,.int 1,v,.int 0,.int 1,d,rfl,net.same sac,.int _,.int _,r.same sac,by rw [hc]; simp,fun H' s'=>q _ (sac.trans s')⟩
    rw [decide_eq_false w7]
    refine iteF ?_
    refine ⟨_,rfl,rfl,_,rfl,?_⟩
    by_cases w7 : way = 7
    · rw [decide_eq_true (show V.int (way : Int) = V.int 7 by rw [w7]; rfl)]
      refine iteT ?_
      obtain ⟨hc,rfl⟩:=due1 (by omega)
      exact ⟨_,rfl,_,rfl,x,L,n,ps,v,d,rfl,net,ok,r,n2,fun _=>q,fun h=>by rw [hc] at h; cases h⟩
    rw [decide_eq_false (show ¬ V.int (way : Int) = V.int 7 from fun z=>w7 (by injection z with z; omega))]
    refine iteF ?_
    refine ⟨_,rfl,rfl,_,rfl,?_⟩
    by_cases w8 : way = 8
    · rw [decide_eq_true (show V.int (way : Int) = V.int 8 by rw [w8]; rfl)]
      refine iteT ?_
      obtain ⟨hc,rfl⟩:=due2 (by omega) (by omega)
      exact ⟨_,rfl,_,rfl,x,L,n,ps,v,d,rfl,net,r,hc,q⟩
    rw [decide_eq_false (show ¬ V.int (way : Int) = V.int 8 from fun z=>w8 (by injection z with z; omega))]
    refine iteF ?_
    refine ⟨_,rfl,rfl,_,rfl,?_⟩
    by_cases w9 : way = 9
    · rw [decide_eq_true (show V.int (way : Int) = V.int 9 by rw [w9]; rfl)]
      refine iteT ?_
      obtain ⟨hc,rfl⟩:=due2 (by omega) (by omega)
      exact ⟨_,rfl,_,rfl,x,L,n,ps,v,d,rfl,net,r,hc,q⟩
    rw [decide_eq_false (show ¬ V.int (way : Int) = V.int 9 from fun z=>w9 (by injection z with z; omega))]
    refine iteF ?_
    refine ⟨_,rfl,rfl,_,rfl,?_⟩
    by_cases w10 : way = 10
    · rw [decide_eq_true (show V.int (way : Int) = V.int 10 by rw [w10]; rfl)]
      refine iteT ?_
      obtain ⟨hc,rfl⟩:=due3 (by omega) (by omega)
      exact ⟨_,rfl,_,rfl,x,L,n,ps,v,d,rfl,net,ok.le,r,hc,q⟩
    rw [decide_eq_false (show ¬ V.int (way : Int) = V.int 10 from fun z=>w10 (by injection z with z; omega))]
    refine iteF ?_
    obtain ⟨hc,rfl⟩:=due3 (by omega) (by omega)
    exact ⟨_,rfl,_,rfl,x,L,n,ps,v,d,rfl,net,ok.le,r,hc,q⟩
end
end K2
namespace K2
open PySem L2 Mp St Bz
def psA (h : Int) : List Pipe:=[⟨0,1,h,1⟩,⟨1,2,h + 1,1⟩]
def psB (h : Int) : List Pipe:=[⟨0,1,1,h⟩,⟨1,0,1,h + 1⟩]
def psC : List Pipe:=[⟨0,1,99991,1⟩,⟨0,1,99989,1⟩,⟨1,2,1,1⟩]
def psDi (k : Nat) : Pipe:=⟨(k : Int) % 7,((k : Int) + 1 + (k : Int) / 7) % 7,1,1⟩
def psD : List Pipe:=(List.range 21).map psDi
def ezChk (N : Int) (B : Nat) (ps : List Pipe) : Bool:=decide (N ≠ 0) && decide (N.natAbs < 2 ^ 900) && decide (28 * B < 2 ^ 900) && ps.all fun p=>decide ((ease p * (N : Rat)).den = 1) && decide ((ease p * (N : Rat)).num.natAbs ≤ B)
theorem ezChk_sm {N : Int} {B : Nat} {ps : List Pipe} (h : ezChk N B ps = true) : EzSm ps:=by
  unfold ezChk at h
  simp only [Bool.and_eq_true,decide_eq_true_eq,List.all_eq_true] at h
  obtain ⟨⟨⟨h1,h2⟩,h3⟩,h4⟩:=h
  refine ⟨N,B,h1,h2,h3,fun p hp=>?_⟩
  obtain ⟨a,b⟩:=h4 p hp
  exact ⟨_,Rat.ext (by rw [Rat.num_intCast]) (by rw [Rat.den_intCast]; exact a),b⟩
theorem sA : ∀ i : _root_.Fin 1000,ezChk ((600000000 + (i.val : Int)) * (600000001 + (i.val : Int))) 700000000 (psA (600000000 + (i.val : Int))) = true:=by decide +kernel
theorem sB : ∀ i : _root_.Fin 1000,ezChk 1 700000000 (psB (600000000 + (i.val : Int))) = true:=by decide +kernel
theorem sC : ezChk 9998000099 9998000099 psC = true:=by decide +kernel
theorem sD : ezChk 1 1 psD = true:=by decide +kernel
theorem nA : ∀ i : _root_.Fin 1000,netD (.int 3) (.list (pipesD (psA (600000000 + (i.val : Int))))) = true:=by decide +kernel
theorem nB : ∀ i : _root_.Fin 1000,netD (.int 2) (.list (pipesD (psB (600000000 + (i.val : Int))))) = true:=by decide +kernel
theorem nC : netD (.int 3) (.list (pipesD psC)) = true:=by decide +kernel
theorem nD : netD (.int 7) (.list (pipesD psD)) = true:=by decide +kernel
theorem outC : netD (.int 2) (.list (pipesD (outP psC 0 2))) = true:=by decide +kernel
theorem outD : ∀ k : _root_.Fin 7,netD (.int 6) (.list (pipesD (outP psD (k.val : Int) 6))) = true:=by decide +kernel
theorem outA1 : ∀ i : _root_.Fin 1000,netD (.int 2) (.list (pipesD (outP (psA (600000000 + (i.val : Int))) 1 2))) = false:=by decide +kernel
theorem outA2 : ∀ i : _root_.Fin 1000,netD (.int 2) (.list (pipesD (outP (psA (600000000 + (i.val : Int))) 2 2))) = true:=by decide +kernel
theorem slimB : ∀ i : _root_.Fin 1000,netD (.int 2) (.list (pipesD (mesh (ez (psB (600000000 + (i.val : Int)))) (prs 2)))) = false:=by decide +kernel
theorem no_net {n : Int} {ps : List Pipe} (h : netD (.int n) (.list (pipesD ps)) = false) : ¬ NetOk n ps:=fun ok=>by
  rw [netD_ok ok] at h
  cases h
theorem repl_at {K : PySem.W.Frag} {H : Hp} {v : V} {p : Pipe} (h : PipeAt K H v p) : ∀ k : Nat,PipesAt K H (List.replicate k v) (List.replicate k p)
  | 0=>.nil
  | k + 1=>.cons h (repl_at h k)
theorem fl_one {v : V} : ∀ k : Nat,(List.replicate k [v]).flatten = List.replicate k v
  | 0=>rfl
  | k + 1=>by rw [List.replicate_succ,List.flatten_cons,fl_one k]; rfl
end K2
namespace K2
open PySem L2 Mp St Bz
theorem net_eq {n n' : Int} {ps ps' : List Pipe} (e1 : PyData.int n = PyData.int n') (e2 : PyData.list (pipesD ps) = PyData.list (pipesD ps')) : n' = n ∧ ps' = ps:=by
  injection e1 with e1
  injection e2 with e2
  exact ⟨e1.symm,(pipesD_inj e2).symm⟩
def spCome : Sp:=fun vs H Q _=>∃ (way : Nat) (i : _root_.Fin 1000),vs = [.int (way : Int),.int (600000000 + (i.val : Int))] ∧ way < 8 ∧ ∀ H',Same H H' → Q (.str (if way < 4 then nmW 0 else nilS)) H'
structure TxtC (K : PySem.W.Frag) (mg : Str → Option Value) (c6 : Addr) : Prop where
  m_NetError : mg "NetError" = some (.ref c6)
  n_range : mg "range" = none
theorem lt7 {z : Int} : 0 ≤ z % 7 ∧ z % 7 < 7:=⟨Int.emod_nonneg _ (by decide),Int.emod_lt_of_pos _ (by decide)⟩
def tryB : List Stmt → List Stmt
  | .Try b _ _ _ _ :: _=>b
  | _=>[]
def ifT : List Stmt → List Stmt
  | .If _ b _ _ :: _=>b
  | _=>[]
def ifE : List Stmt → List Stmt
  | .If _ _ e _ :: _=>e
  | _=>[]
end K2
namespace K2
open PySem L2 Mp St Bz
section
variable {P : Program} {w : World} {K : PySem.W.Frag} {mg : Str → Option Value} {base : Heap} {C CB CN c3 c4 CE c5 c6 f fi f0 f1 f2 f3 : Addr} {fd fdi fd0 fd1 fd2 fd3 : FuncData} {t1 t2 t3 : Tok}
set_option maxHeartbeats 40000000 in
noncomputable def lf_0 {cdv : Value} {A : Around} {outer : List Env} {s : Shared} {H : Hp} {E : XK} (hr : Room 12 (A.deeper (PyProof.Rows.envOfC "_law_come" (defScope s__law_come) s.heap.objs.size f cdv))) (T : TxtC K mg c6) (U : TxtS K mg CB CN c3 c4 CE c5 c6) (m__law_sort : mg "_law_sort" = some (.ref f0)) (k__law_sort : PySem.W.keepIn K (.ref f0) = true) (b__law_sort : Binds K fd0 ["_law_error"] []) (G__law_sort : FnOkH P w K mg base 1 f0 fd0 ["_law_error"] (spSort K CB CN c3 c4 CE c5 c6))
    (M_Net : Mk K C fi) (m_Net : mg "Net" = some (.ref C)) (b_Net : Binds K fdi ["self","places","pipes"] []) (G_Net : FnOk P w K mg base (CXX P w) 6 fi fdi ["self","places","pipes"] (spInitX K C CB))
    (m_with_pipe : mg "with_pipe" = some (.ref f1)) (k_with_pipe : PySem.W.keepIn K (.ref f1) = true) (b_with_pipe : Binds K fd1 ["net","one","other","hardness"] []) (G_with_pipe : FnOk P w K mg base (CXX P w) 9 f1 fd1 ["net","one","other","hardness"] (spWithX K C CB))
    (m_taken_out : mg "taken_out" = some (.ref f2)) (k_taken_out : PySem.W.keepIn K (.ref f2) = true) (b_taken_out : Binds K fd2 ["net","at"] []) (G_taken_out : FnOk P w K mg base (CXX P w) 10 f2 fd2 ["net","at"] (spOut K C CN CB))
    (m_slim : mg "slim" = some (.ref f3)) (k_slim : PySem.W.keepIn K (.ref f3) = true) (b_slim : Binds K fd3 ["net"] []) (G_slim : FnOk P w K mg base (CXX P w) 10 f3 fd3 ["net"] (spSlim K C CB)) :
    (tb : XK → TS) ×' (∀ (E' : XK) (pn : List (Addr × Obj)) (xe : Value → Shared → Prop),Passes (CXX P w) (((cxOf CX0 P w K mg base ["_law_way","_law_hard","_law_pairs","_law_error"] "_law_come" (defScope s__law_come) f cdv A outer s H E).nox).tried pn xe) E' → PSs (((cxOf CX0 P w K mg base ["_law_way","_law_hard","_law_pairs","_law_error"] "_law_come" (defScope s__law_come) f cdv A outer s H E).nox).tried pn xe) (ifT (tryB (defBody s__law_come))) (tb E')) :=
  ⟨_,fun E' pn xe hPs=>(@pss_one _ _ _ (@ps_expr _ _ _ _ (@pe_call _ _ _ _ _ _ _ _ _ _ _ _ _ _ _ _ G_with_pipe (hr.mono (by decide)) rfl m_with_pipe k_with_pipe b_with_pipe .nil hPs (@pa_cons _ _ _ _ _ (@pe_make _ _ _ _ _ _ _ _ _ _ _ _ _ _ _ _ _ M_Net G_Net (hr.mono (by decide)) rfl m_Net b_Net .nil hPs (@pa_cons _ _ _ _ _ pe_int (@pa_cons _ _ _ _ _ (@pe_lst _ _ _ _ pa_nil) pa_nil (by rfl)) (by rfl)) (by decide) (by rfl) (by rfl)) (@pa_cons _ _ _ _ _ pe_int (@pa_cons _ _ _ _ _ pe_int (@pa_cons _ _ _ _ _ (@pe_tup _ _ _ _ _ (@pa_cons _ _ _ _ _ pe_int (@pa_cons _ _ _ _ _ pe_int pa_nil (by rfl)) (by rfl))) pa_nil (by rfl)) (by rfl)) (by rfl)) (by rfl)) (by decide) (by rfl) (by rfl)) (by rfl)))⟩
set_option maxHeartbeats 40000000 in
noncomputable def lf_1 {cdv : Value} {A : Around} {outer : List Env} {s : Shared} {H : Hp} {E : XK} (hr : Room 12 (A.deeper (PyProof.Rows.envOfC "_law_come" (defScope s__law_come) s.heap.objs.size f cdv))) (T : TxtC K mg c6) (U : TxtS K mg CB CN c3 c4 CE c5 c6) (m__law_sort : mg "_law_sort" = some (.ref f0)) (k__law_sort : PySem.W.keepIn K (.ref f0) = true) (b__law_sort : Binds K fd0 ["_law_error"] []) (G__law_sort : FnOkH P w K mg base 1 f0 fd0 ["_law_error"] (spSort K CB CN c3 c4 CE c5 c6))
    (M_Net : Mk K C fi) (m_Net : mg "Net" = some (.ref C)) (b_Net : Binds K fdi ["self","places","pipes"] []) (G_Net : FnOk P w K mg base (CXX P w) 6 fi fdi ["self","places","pipes"] (spInitX K C CB))
    (m_with_pipe : mg "with_pipe" = some (.ref f1)) (k_with_pipe : PySem.W.keepIn K (.ref f1) = true) (b_with_pipe : Binds K fd1 ["net","one","other","hardness"] []) (G_with_pipe : FnOk P w K mg base (CXX P w) 9 f1 fd1 ["net","one","other","hardness"] (spWithX K C CB))
    (m_taken_out : mg "taken_out" = some (.ref f2)) (k_taken_out : PySem.W.keepIn K (.ref f2) = true) (b_taken_out : Binds K fd2 ["net","at"] []) (G_taken_out : FnOk P w K mg base (CXX P w) 10 f2 fd2 ["net","at"] (spOut K C CN CB))
    (m_slim : mg "slim" = some (.ref f3)) (k_slim : PySem.W.keepIn K (.ref f3) = true) (b_slim : Binds K fd3 ["net"] []) (G_slim : FnOk P w K mg base (CXX P w) 10 f3 fd3 ["net"] (spSlim K C CB)) :
    (tb : XK → TS) ×' (∀ (E' : XK) (pn : List (Addr × Obj)) (xe : Value → Shared → Prop),Passes (CXX P w) (((cxOf CX0 P w K mg base ["_law_way","_law_hard","_law_pairs","_law_error"] "_law_come" (defScope s__law_come) f cdv A outer s H E).nox).tried pn xe) E' → PSs (((cxOf CX0 P w K mg base ["_law_way","_law_hard","_law_pairs","_law_error"] "_law_come" (defScope s__law_come) f cdv A outer s H E).nox).tried pn xe) (ifT (ifE (tryB (defBody s__law_come)))) (tb E')) :=
  ⟨_,fun E' pn xe hPs=>(@pss_one _ _ _ (@ps_expr _ _ _ _ (@pe_call _ _ _ _ _ _ _ _ _ _ _ _ _ _ _ _ G_with_pipe (hr.mono (by decide)) rfl m_with_pipe k_with_pipe b_with_pipe .nil hPs (@pa_cons _ _ _ _ _ (@pe_make _ _ _ _ _ _ _ _ _ _ _ _ _ _ _ _ _ M_Net G_Net (hr.mono (by decide)) rfl m_Net b_Net .nil hPs (@pa_cons _ _ _ _ _ pe_int (@pa_cons _ _ _ _ _ (@pe_op _ _ _ _ _ _ _ _ op_rep (@pe_lst _ _ _ _ (@pa_cons _ _ _ _ _ (@pe_tup _ _ _ _ _ (@pa_cons _ _ _ _ _ pe_int (@pa_cons _ _ _ _ _ pe_int (@pa_cons _ _ _ _ _ (@pe_tup _ _ _ _ _ (@pa_cons _ _ _ _ _ pe_int (@pa_cons _ _ _ _ _ pe_int pa_nil (by rfl)) (by rfl))) pa_nil (by rfl)) (by rfl)) (by rfl))) pa_nil (by rfl))) pe_int) pa_nil (by rfl)) (by rfl)) (by decide) (by rfl) (by rfl)) (@pa_cons _ _ _ _ _ pe_int (@pa_cons _ _ _ _ _ pe_int (@pa_cons _ _ _ _ _ (@pe_tup _ _ _ _ _ (@pa_cons _ _ _ _ _ pe_int (@pa_cons _ _ _ _ _ pe_int pa_nil (by rfl)) (by rfl))) pa_nil (by rfl)) (by rfl)) (by rfl)) (by rfl)) (by decide) (by rfl) (by rfl)) (by rfl)))⟩
set_option maxHeartbeats 40000000 in
noncomputable def lf_2 {cdv : Value} {A : Around} {outer : List Env} {s : Shared} {H : Hp} {E : XK} (hr : Room 12 (A.deeper (PyProof.Rows.envOfC "_law_come" (defScope s__law_come) s.heap.objs.size f cdv))) (T : TxtC K mg c6) (U : TxtS K mg CB CN c3 c4 CE c5 c6) (m__law_sort : mg "_law_sort" = some (.ref f0)) (k__law_sort : PySem.W.keepIn K (.ref f0) = true) (b__law_sort : Binds K fd0 ["_law_error"] []) (G__law_sort : FnOkH P w K mg base 1 f0 fd0 ["_law_error"] (spSort K CB CN c3 c4 CE c5 c6))
    (M_Net : Mk K C fi) (m_Net : mg "Net" = some (.ref C)) (b_Net : Binds K fdi ["self","places","pipes"] []) (G_Net : FnOk P w K mg base (CXX P w) 6 fi fdi ["self","places","pipes"] (spInitX K C CB))
    (m_with_pipe : mg "with_pipe" = some (.ref f1)) (k_with_pipe : PySem.W.keepIn K (.ref f1) = true) (b_with_pipe : Binds K fd1 ["net","one","other","hardness"] []) (G_with_pipe : FnOk P w K mg base (CXX P w) 9 f1 fd1 ["net","one","other","hardness"] (spWithX K C CB))
    (m_taken_out : mg "taken_out" = some (.ref f2)) (k_taken_out : PySem.W.keepIn K (.ref f2) = true) (b_taken_out : Binds K fd2 ["net","at"] []) (G_taken_out : FnOk P w K mg base (CXX P w) 10 f2 fd2 ["net","at"] (spOut K C CN CB))
    (m_slim : mg "slim" = some (.ref f3)) (k_slim : PySem.W.keepIn K (.ref f3) = true) (b_slim : Binds K fd3 ["net"] []) (G_slim : FnOk P w K mg base (CXX P w) 10 f3 fd3 ["net"] (spSlim K C CB)) :
    (tb : XK → TS) ×' (∀ (E' : XK) (pn : List (Addr × Obj)) (xe : Value → Shared → Prop),Passes (CXX P w) (((cxOf CX0 P w K mg base ["_law_way","_law_hard","_law_pairs","_law_error"] "_law_come" (defScope s__law_come) f cdv A outer s H E).nox).tried pn xe) E' → PSs (((cxOf CX0 P w K mg base ["_law_way","_law_hard","_law_pairs","_law_error"] "_law_come" (defScope s__law_come) f cdv A outer s H E).nox).tried pn xe) (ifT (ifE (ifE (tryB (defBody s__law_come))))) (tb E')) :=
  ⟨_,fun E' pn xe hPs=>(@pss_one _ _ _ (@ps_expr _ _ _ _ (@pe_call _ _ _ _ _ _ _ _ _ _ _ _ _ _ _ _ G_taken_out (hr.mono (by decide)) rfl m_taken_out k_taken_out b_taken_out .nil hPs (@pa_cons _ _ _ _ _ (@pe_make _ _ _ _ _ _ _ _ _ _ _ _ _ _ _ _ _ M_Net G_Net (hr.mono (by decide)) rfl m_Net b_Net .nil hPs (@pa_cons _ _ _ _ _ pe_int (@pa_cons _ _ _ _ _ (@pe_lst _ _ _ _ (@pa_cons _ _ _ _ _ (@pe_tup _ _ _ _ _ (@pa_cons _ _ _ _ _ pe_int (@pa_cons _ _ _ _ _ pe_int (@pa_cons _ _ _ _ _ (@pe_tup _ _ _ _ _ (@pa_cons _ _ _ _ _ (pv 1) (@pa_cons _ _ _ _ _ pe_int pa_nil (by rfl)) (by rfl))) pa_nil (by rfl)) (by rfl)) (by rfl))) (@pa_cons _ _ _ _ _ (@pe_tup _ _ _ _ _ (@pa_cons _ _ _ _ _ pe_int (@pa_cons _ _ _ _ _ pe_int (@pa_cons _ _ _ _ _ (@pe_tup _ _ _ _ _ (@pa_cons _ _ _ _ _ (@pe_op _ _ _ _ _ _ _ _ op_add (pv 1) pe_int) (@pa_cons _ _ _ _ _ pe_int pa_nil (by rfl)) (by rfl))) pa_nil (by rfl)) (by rfl)) (by rfl))) pa_nil (by rfl)) (by rfl))) pa_nil (by rfl)) (by rfl)) (by decide) (by rfl) (by rfl)) (@pa_cons _ _ _ _ _ pe_int pa_nil (by rfl)) (by rfl)) (by decide) (by rfl) (by rfl)) (by rfl)))⟩
set_option maxHeartbeats 40000000 in
noncomputable def lf_3 {cdv : Value} {A : Around} {outer : List Env} {s : Shared} {H : Hp} {E : XK} (hr : Room 12 (A.deeper (PyProof.Rows.envOfC "_law_come" (defScope s__law_come) s.heap.objs.size f cdv))) (T : TxtC K mg c6) (U : TxtS K mg CB CN c3 c4 CE c5 c6) (m__law_sort : mg "_law_sort" = some (.ref f0)) (k__law_sort : PySem.W.keepIn K (.ref f0) = true) (b__law_sort : Binds K fd0 ["_law_error"] []) (G__law_sort : FnOkH P w K mg base 1 f0 fd0 ["_law_error"] (spSort K CB CN c3 c4 CE c5 c6))
    (M_Net : Mk K C fi) (m_Net : mg "Net" = some (.ref C)) (b_Net : Binds K fdi ["self","places","pipes"] []) (G_Net : FnOk P w K mg base (CXX P w) 6 fi fdi ["self","places","pipes"] (spInitX K C CB))
    (m_with_pipe : mg "with_pipe" = some (.ref f1)) (k_with_pipe : PySem.W.keepIn K (.ref f1) = true) (b_with_pipe : Binds K fd1 ["net","one","other","hardness"] []) (G_with_pipe : FnOk P w K mg base (CXX P w) 9 f1 fd1 ["net","one","other","hardness"] (spWithX K C CB))
    (m_taken_out : mg "taken_out" = some (.ref f2)) (k_taken_out : PySem.W.keepIn K (.ref f2) = true) (b_taken_out : Binds K fd2 ["net","at"] []) (G_taken_out : FnOk P w K mg base (CXX P w) 10 f2 fd2 ["net","at"] (spOut K C CN CB))
    (m_slim : mg "slim" = some (.ref f3)) (k_slim : PySem.W.keepIn K (.ref f3) = true) (b_slim : Binds K fd3 ["net"] []) (G_slim : FnOk P w K mg base (CXX P w) 10 f3 fd3 ["net"] (spSlim K C CB)) :
    (tb : XK → TS) ×' (∀ (E' : XK) (pn : List (Addr × Obj)) (xe : Value → Shared → Prop),Passes (CXX P w) (((cxOf CX0 P w K mg base ["_law_way","_law_hard","_law_pairs","_law_error"] "_law_come" (defScope s__law_come) f cdv A outer s H E).nox).tried pn xe) E' → PSs (((cxOf CX0 P w K mg base ["_law_way","_law_hard","_law_pairs","_law_error"] "_law_come" (defScope s__law_come) f cdv A outer s H E).nox).tried pn xe) (ifT (ifE (ifE (ifE (tryB (defBody s__law_come)))))) (tb E')) :=
  ⟨_,fun E' pn xe hPs=>(@pss_one _ _ _ (@ps_expr _ _ _ _ (@pe_call _ _ _ _ _ _ _ _ _ _ _ _ _ _ _ _ G_slim (hr.mono (by decide)) rfl m_slim k_slim b_slim .nil hPs (@pa_cons _ _ _ _ _ (@pe_make _ _ _ _ _ _ _ _ _ _ _ _ _ _ _ _ _ M_Net G_Net (hr.mono (by decide)) rfl m_Net b_Net .nil hPs (@pa_cons _ _ _ _ _ pe_int (@pa_cons _ _ _ _ _ (@pe_lst _ _ _ _ (@pa_cons _ _ _ _ _ (@pe_tup _ _ _ _ _ (@pa_cons _ _ _ _ _ pe_int (@pa_cons _ _ _ _ _ pe_int (@pa_cons _ _ _ _ _ (@pe_tup _ _ _ _ _ (@pa_cons _ _ _ _ _ pe_int (@pa_cons _ _ _ _ _ (pv 1) pa_nil (by rfl)) (by rfl))) pa_nil (by rfl)) (by rfl)) (by rfl))) (@pa_cons _ _ _ _ _ (@pe_tup _ _ _ _ _ (@pa_cons _ _ _ _ _ pe_int (@pa_cons _ _ _ _ _ pe_int (@pa_cons _ _ _ _ _ (@pe_tup _ _ _ _ _ (@pa_cons _ _ _ _ _ pe_int (@pa_cons _ _ _ _ _ (@pe_op _ _ _ _ _ _ _ _ op_add (pv 1) pe_int) pa_nil (by rfl)) (by rfl))) pa_nil (by rfl)) (by rfl)) (by rfl))) pa_nil (by rfl)) (by rfl))) pa_nil (by rfl)) (by rfl)) (by decide) (by rfl) (by rfl)) pa_nil (by rfl)) (by decide) (by rfl) (by rfl)) (by rfl)))⟩
set_option maxHeartbeats 40000000 in
noncomputable def lf_4 {cdv : Value} {A : Around} {outer : List Env} {s : Shared} {H : Hp} {E : XK} (hr : Room 12 (A.deeper (PyProof.Rows.envOfC "_law_come" (defScope s__law_come) s.heap.objs.size f cdv))) (T : TxtC K mg c6) (U : TxtS K mg CB CN c3 c4 CE c5 c6) (m__law_sort : mg "_law_sort" = some (.ref f0)) (k__law_sort : PySem.W.keepIn K (.ref f0) = true) (b__law_sort : Binds K fd0 ["_law_error"] []) (G__law_sort : FnOkH P w K mg base 1 f0 fd0 ["_law_error"] (spSort K CB CN c3 c4 CE c5 c6))
    (M_Net : Mk K C fi) (m_Net : mg "Net" = some (.ref C)) (b_Net : Binds K fdi ["self","places","pipes"] []) (G_Net : FnOk P w K mg base (CXX P w) 6 fi fdi ["self","places","pipes"] (spInitX K C CB))
    (m_with_pipe : mg "with_pipe" = some (.ref f1)) (k_with_pipe : PySem.W.keepIn K (.ref f1) = true) (b_with_pipe : Binds K fd1 ["net","one","other","hardness"] []) (G_with_pipe : FnOk P w K mg base (CXX P w) 9 f1 fd1 ["net","one","other","hardness"] (spWithX K C CB))
    (m_taken_out : mg "taken_out" = some (.ref f2)) (k_taken_out : PySem.W.keepIn K (.ref f2) = true) (b_taken_out : Binds K fd2 ["net","at"] []) (G_taken_out : FnOk P w K mg base (CXX P w) 10 f2 fd2 ["net","at"] (spOut K C CN CB))
    (m_slim : mg "slim" = some (.ref f3)) (k_slim : PySem.W.keepIn K (.ref f3) = true) (b_slim : Binds K fd3 ["net"] []) (G_slim : FnOk P w K mg base (CXX P w) 10 f3 fd3 ["net"] (spSlim K C CB)) :
    (tb : XK → TS) ×' (∀ (E' : XK) (pn : List (Addr × Obj)) (xe : Value → Shared → Prop),Passes (CXX P w) (((cxOf CX0 P w K mg base ["_law_way","_law_hard","_law_pairs","_law_error"] "_law_come" (defScope s__law_come) f cdv A outer s H E).nox).tried pn xe) E' → PSs (((cxOf CX0 P w K mg base ["_law_way","_law_hard","_law_pairs","_law_error"] "_law_come" (defScope s__law_come) f cdv A outer s H E).nox).tried pn xe) (ifT (ifE (ifE (ifE (ifE (tryB (defBody s__law_come))))))) (tb E')) :=
  ⟨_,fun E' pn xe hPs=>(@pss_one _ _ _ (@ps_expr _ _ _ _ (@pe_call _ _ _ _ _ _ _ _ _ _ _ _ _ _ _ _ G_taken_out (hr.mono (by decide)) rfl m_taken_out k_taken_out b_taken_out .nil hPs (@pa_cons _ _ _ _ _ (@pe_make _ _ _ _ _ _ _ _ _ _ _ _ _ _ _ _ _ M_Net G_Net (hr.mono (by decide)) rfl m_Net b_Net .nil hPs (@pa_cons _ _ _ _ _ pe_int (@pa_cons _ _ _ _ _ (@pe_lst _ _ _ _ (@pa_cons _ _ _ _ _ (@pe_tup _ _ _ _ _ (@pa_cons _ _ _ _ _ pe_int (@pa_cons _ _ _ _ _ pe_int (@pa_cons _ _ _ _ _ (@pe_tup _ _ _ _ _ (@pa_cons _ _ _ _ _ (pv 1) (@pa_cons _ _ _ _ _ pe_int pa_nil (by rfl)) (by rfl))) pa_nil (by rfl)) (by rfl)) (by rfl))) (@pa_cons _ _ _ _ _ (@pe_tup _ _ _ _ _ (@pa_cons _ _ _ _ _ pe_int (@pa_cons _ _ _ _ _ pe_int (@pa_cons _ _ _ _ _ (@pe_tup _ _ _ _ _ (@pa_cons _ _ _ _ _ (@pe_op _ _ _ _ _ _ _ _ op_add (pv 1) pe_int) (@pa_cons _ _ _ _ _ pe_int pa_nil (by rfl)) (by rfl))) pa_nil (by rfl)) (by rfl)) (by rfl))) pa_nil (by rfl)) (by rfl))) pa_nil (by rfl)) (by rfl)) (by decide) (by rfl) (by rfl)) (@pa_cons _ _ _ _ _ pe_int pa_nil (by rfl)) (by rfl)) (by decide) (by rfl) (by rfl)) (by rfl)))⟩
set_option maxHeartbeats 40000000 in
noncomputable def lf_5 {cdv : Value} {A : Around} {outer : List Env} {s : Shared} {H : Hp} {E : XK} (hr : Room 12 (A.deeper (PyProof.Rows.envOfC "_law_come" (defScope s__law_come) s.heap.objs.size f cdv))) (T : TxtC K mg c6) (U : TxtS K mg CB CN c3 c4 CE c5 c6) (m__law_sort : mg "_law_sort" = some (.ref f0)) (k__law_sort : PySem.W.keepIn K (.ref f0) = true) (b__law_sort : Binds K fd0 ["_law_error"] []) (G__law_sort : FnOkH P w K mg base 1 f0 fd0 ["_law_error"] (spSort K CB CN c3 c4 CE c5 c6))
    (M_Net : Mk K C fi) (m_Net : mg "Net" = some (.ref C)) (b_Net : Binds K fdi ["self","places","pipes"] []) (G_Net : FnOk P w K mg base (CXX P w) 6 fi fdi ["self","places","pipes"] (spInitX K C CB))
    (m_with_pipe : mg "with_pipe" = some (.ref f1)) (k_with_pipe : PySem.W.keepIn K (.ref f1) = true) (b_with_pipe : Binds K fd1 ["net","one","other","hardness"] []) (G_with_pipe : FnOk P w K mg base (CXX P w) 9 f1 fd1 ["net","one","other","hardness"] (spWithX K C CB))
    (m_taken_out : mg "taken_out" = some (.ref f2)) (k_taken_out : PySem.W.keepIn K (.ref f2) = true) (b_taken_out : Binds K fd2 ["net","at"] []) (G_taken_out : FnOk P w K mg base (CXX P w) 10 f2 fd2 ["net","at"] (spOut K C CN CB))
    (m_slim : mg "slim" = some (.ref f3)) (k_slim : PySem.W.keepIn K (.ref f3) = true) (b_slim : Binds K fd3 ["net"] []) (G_slim : FnOk P w K mg base (CXX P w) 10 f3 fd3 ["net"] (spSlim K C CB)) :
    (tb : XK → TS) ×' (∀ (E' : XK) (pn : List (Addr × Obj)) (xe : Value → Shared → Prop),Passes (CXX P w) (((cxOf CX0 P w K mg base ["_law_way","_law_hard","_law_pairs","_law_error"] "_law_come" (defScope s__law_come) f cdv A outer s H E).nox).tried pn xe) E' → PSs (((cxOf CX0 P w K mg base ["_law_way","_law_hard","_law_pairs","_law_error"] "_law_come" (defScope s__law_come) f cdv A outer s H E).nox).tried pn xe) (ifT (ifE (ifE (ifE (ifE (ifE (tryB (defBody s__law_come)))))))) (tb E')) :=
  ⟨_,fun E' pn xe hPs=>(@pss_one _ _ _ (@ps_expr _ _ _ _ (@pe_call _ _ _ _ _ _ _ _ _ _ _ _ _ _ _ _ G_taken_out (hr.mono (by decide)) rfl m_taken_out k_taken_out b_taken_out .nil hPs (@pa_cons _ _ _ _ _ (@pe_make _ _ _ _ _ _ _ _ _ _ _ _ _ _ _ _ _ M_Net G_Net (hr.mono (by decide)) rfl m_Net b_Net .nil hPs (@pa_cons _ _ _ _ _ pe_int (@pa_cons _ _ _ _ _ (@pe_lst _ _ _ _ (@pa_cons _ _ _ _ _ (@pe_tup _ _ _ _ _ (@pa_cons _ _ _ _ _ pe_int (@pa_cons _ _ _ _ _ pe_int (@pa_cons _ _ _ _ _ (@pe_tup _ _ _ _ _ (@pa_cons _ _ _ _ _ pe_int (@pa_cons _ _ _ _ _ pe_int pa_nil (by rfl)) (by rfl))) pa_nil (by rfl)) (by rfl)) (by rfl))) (@pa_cons _ _ _ _ _ (@pe_tup _ _ _ _ _ (@pa_cons _ _ _ _ _ pe_int (@pa_cons _ _ _ _ _ pe_int (@pa_cons _ _ _ _ _ (@pe_tup _ _ _ _ _ (@pa_cons _ _ _ _ _ pe_int (@pa_cons _ _ _ _ _ pe_int pa_nil (by rfl)) (by rfl))) pa_nil (by rfl)) (by rfl)) (by rfl))) (@pa_cons _ _ _ _ _ (@pe_tup _ _ _ _ _ (@pa_cons _ _ _ _ _ pe_int (@pa_cons _ _ _ _ _ pe_int (@pa_cons _ _ _ _ _ (@pe_tup _ _ _ _ _ (@pa_cons _ _ _ _ _ pe_int (@pa_cons _ _ _ _ _ pe_int pa_nil (by rfl)) (by rfl))) pa_nil (by rfl)) (by rfl)) (by rfl))) pa_nil (by rfl)) (by rfl)) (by rfl))) pa_nil (by rfl)) (by rfl)) (by decide) (by rfl) (by rfl)) (@pa_cons _ _ _ _ _ pe_int pa_nil (by rfl)) (by rfl)) (by decide) (by rfl) (by rfl)) (by rfl)))⟩
set_option maxHeartbeats 40000000 in
noncomputable def lf_6 {cdv : Value} {A : Around} {outer : List Env} {s : Shared} {H : Hp} {E : XK} (hr : Room 12 (A.deeper (PyProof.Rows.envOfC "_law_come" (defScope s__law_come) s.heap.objs.size f cdv))) (T : TxtC K mg c6) (U : TxtS K mg CB CN c3 c4 CE c5 c6) (m__law_sort : mg "_law_sort" = some (.ref f0)) (k__law_sort : PySem.W.keepIn K (.ref f0) = true) (b__law_sort : Binds K fd0 ["_law_error"] []) (G__law_sort : FnOkH P w K mg base 1 f0 fd0 ["_law_error"] (spSort K CB CN c3 c4 CE c5 c6))
    (M_Net : Mk K C fi) (m_Net : mg "Net" = some (.ref C)) (b_Net : Binds K fdi ["self","places","pipes"] []) (G_Net : FnOk P w K mg base (CXX P w) 6 fi fdi ["self","places","pipes"] (spInitX K C CB))
    (m_with_pipe : mg "with_pipe" = some (.ref f1)) (k_with_pipe : PySem.W.keepIn K (.ref f1) = true) (b_with_pipe : Binds K fd1 ["net","one","other","hardness"] []) (G_with_pipe : FnOk P w K mg base (CXX P w) 9 f1 fd1 ["net","one","other","hardness"] (spWithX K C CB))
    (m_taken_out : mg "taken_out" = some (.ref f2)) (k_taken_out : PySem.W.keepIn K (.ref f2) = true) (b_taken_out : Binds K fd2 ["net","at"] []) (G_taken_out : FnOk P w K mg base (CXX P w) 10 f2 fd2 ["net","at"] (spOut K C CN CB))
    (m_slim : mg "slim" = some (.ref f3)) (k_slim : PySem.W.keepIn K (.ref f3) = true) (b_slim : Binds K fd3 ["net"] []) (G_slim : FnOk P w K mg base (CXX P w) 10 f3 fd3 ["net"] (spSlim K C CB)) :
    (tb : XK → TS) ×' (∀ (E' : XK) (pn : List (Addr × Obj)) (xe : Value → Shared → Prop),Passes (CXX P w) (((cxOf CX0 P w K mg base ["_law_way","_law_hard","_law_pairs","_law_error"] "_law_come" (defScope s__law_come) f cdv A outer s H E).nox).tried pn xe) E' → PSs (((cxOf CX0 P w K mg base ["_law_way","_law_hard","_law_pairs","_law_error"] "_law_come" (defScope s__law_come) f cdv A outer s H E).nox).tried pn xe) (ifT (ifE (ifE (ifE (ifE (ifE (ifE (tryB (defBody s__law_come))))))))) (tb E')) :=
  ⟨_,fun E' pn xe hPs=>(@pss_cons _ _ _ _ _ (@ps_setC _ _ _ _ _ _ _ _ _ _ _ _ 2 _ _ _ ["_law_k"] [] rfl rfl (by kernel_rfl) sc__law_come.nd rfl rfl (@pi_range1 _ _ _ _ _ _ rfl T.n_range (@pa_cons _ _ _ _ _ pe_int pa_nil (by rfl)) (by rfl)) (fun _ _ _ _=>(pg_name (i:=0) (show (["_law_k"] : List Str).Nodup by decide +kernel) rfl (Or.inl rfl))) (fun _ _ _ _=>gk_name) (fun _ _ _ _=>pf_nil) (fun _ _ _ _=>(@pe_tup _ _ _ _ _ (@pa_cons _ _ _ _ _ (@pe_op _ _ _ _ _ _ _ _ op_mod (pv 0) pe_int) (@pa_cons _ _ _ _ _ (@pe_op _ _ _ _ _ _ _ _ op_mod (@pe_op _ _ _ _ _ _ _ _ op_add (@pe_op _ _ _ _ _ _ _ _ op_add (pv 0) pe_int) (@pe_op _ _ _ _ _ _ _ _ op_fdiv (pv 0) pe_int)) pe_int) (@pa_cons _ _ _ _ _ (@pe_tup _ _ _ _ _ (@pa_cons _ _ _ _ _ pe_int (@pa_cons _ _ _ _ _ pe_int pa_nil (by rfl)) (by rfl))) pa_nil (by rfl)) (by rfl)) (by rfl)))) (by rfl) (by intro _; rfl)) (@pss_one _ _ _ (@ps_expr _ _ _ _ (@pe_call _ _ _ _ _ _ _ _ _ _ _ _ _ _ _ _ G_taken_out (hr.mono (by decide)) rfl m_taken_out k_taken_out b_taken_out .nil hPs (@pa_cons _ _ _ _ _ (@pe_make _ _ _ _ _ _ _ _ _ _ _ _ _ _ _ _ _ M_Net G_Net (hr.mono (by decide)) rfl m_Net b_Net .nil hPs (@pa_cons _ _ _ _ _ pe_int (@pa_cons _ _ _ _ _ (pv 2) pa_nil (by rfl)) (by rfl)) (by decide) (by rfl) (by rfl)) (@pa_cons _ _ _ _ _ (@pe_op _ _ _ _ _ _ _ _ op_mod (pv 1) pe_int) pa_nil (by rfl)) (by rfl)) (by decide) (by rfl) (by rfl)) (by rfl))))⟩
set_option maxHeartbeats 40000000 in
noncomputable def lf_7 {cdv : Value} {A : Around} {outer : List Env} {s : Shared} {H : Hp} {E : XK} (hr : Room 12 (A.deeper (PyProof.Rows.envOfC "_law_come" (defScope s__law_come) s.heap.objs.size f cdv))) (T : TxtC K mg c6) (U : TxtS K mg CB CN c3 c4 CE c5 c6) (m__law_sort : mg "_law_sort" = some (.ref f0)) (k__law_sort : PySem.W.keepIn K (.ref f0) = true) (b__law_sort : Binds K fd0 ["_law_error"] []) (G__law_sort : FnOkH P w K mg base 1 f0 fd0 ["_law_error"] (spSort K CB CN c3 c4 CE c5 c6))
    (M_Net : Mk K C fi) (m_Net : mg "Net" = some (.ref C)) (b_Net : Binds K fdi ["self","places","pipes"] []) (G_Net : FnOk P w K mg base (CXX P w) 6 fi fdi ["self","places","pipes"] (spInitX K C CB))
    (m_with_pipe : mg "with_pipe" = some (.ref f1)) (k_with_pipe : PySem.W.keepIn K (.ref f1) = true) (b_with_pipe : Binds K fd1 ["net","one","other","hardness"] []) (G_with_pipe : FnOk P w K mg base (CXX P w) 9 f1 fd1 ["net","one","other","hardness"] (spWithX K C CB))
    (m_taken_out : mg "taken_out" = some (.ref f2)) (k_taken_out : PySem.W.keepIn K (.ref f2) = true) (b_taken_out : Binds K fd2 ["net","at"] []) (G_taken_out : FnOk P w K mg base (CXX P w) 10 f2 fd2 ["net","at"] (spOut K C CN CB))
    (m_slim : mg "slim" = some (.ref f3)) (k_slim : PySem.W.keepIn K (.ref f3) = true) (b_slim : Binds K fd3 ["net"] []) (G_slim : FnOk P w K mg base (CXX P w) 10 f3 fd3 ["net"] (spSlim K C CB)) :
    (tb : XK → TS) ×' (∀ (E' : XK) (pn : List (Addr × Obj)) (xe : Value → Shared → Prop),Passes (CXX P w) (((cxOf CX0 P w K mg base ["_law_way","_law_hard","_law_pairs","_law_error"] "_law_come" (defScope s__law_come) f cdv A outer s H E).nox).tried pn xe) E' → PSs (((cxOf CX0 P w K mg base ["_law_way","_law_hard","_law_pairs","_law_error"] "_law_come" (defScope s__law_come) f cdv A outer s H E).nox).tried pn xe) (ifE (ifE (ifE (ifE (ifE (ifE (ifE (tryB (defBody s__law_come))))))))) (tb E')) :=
  ⟨_,fun E' pn xe hPs=>(@pss_one _ _ _ (@ps_expr _ _ _ _ (@pe_call _ _ _ _ _ _ _ _ _ _ _ _ _ _ _ _ G_with_pipe (hr.mono (by decide)) rfl m_with_pipe k_with_pipe b_with_pipe .nil hPs (@pa_cons _ _ _ _ _ (@pe_make _ _ _ _ _ _ _ _ _ _ _ _ _ _ _ _ _ M_Net G_Net (hr.mono (by decide)) rfl m_Net b_Net .nil hPs (@pa_cons _ _ _ _ _ pe_int (@pa_cons _ _ _ _ _ (@pe_op _ _ _ _ _ _ _ _ op_rep (@pe_lst _ _ _ _ (@pa_cons _ _ _ _ _ (@pe_tup _ _ _ _ _ (@pa_cons _ _ _ _ _ pe_int (@pa_cons _ _ _ _ _ pe_int (@pa_cons _ _ _ _ _ (@pe_tup _ _ _ _ _ (@pa_cons _ _ _ _ _ pe_int (@pa_cons _ _ _ _ _ pe_int pa_nil (by rfl)) (by rfl))) pa_nil (by rfl)) (by rfl)) (by rfl))) pa_nil (by rfl))) pe_int) pa_nil (by rfl)) (by rfl)) (by decide) (by rfl) (by rfl)) (@pa_cons _ _ _ _ _ pe_int (@pa_cons _ _ _ _ _ pe_int (@pa_cons _ _ _ _ _ (@pe_tup _ _ _ _ _ (@pa_cons _ _ _ _ _ pe_int (@pa_cons _ _ _ _ _ pe_int pa_nil (by rfl)) (by rfl))) pa_nil (by rfl)) (by rfl)) (by rfl)) (by rfl)) (by decide) (by rfl) (by rfl)) (by rfl)))⟩
end
end K2
namespace K2
open PySem L2 Mp St Bz
section
variable {P : Program} {w : World} {K : PySem.W.Frag} {mg : Str → Option Value} {base : Heap} {C CB CN c3 c4 CE c5 c6 f fi f0 f1 f2 f3 : Addr} {fd fdi fd0 fd1 fd2 fd3 : FuncData} {t1 t2 t3 : Tok}
set_option maxHeartbeats 40000000 in
theorem rd_0 {cdv : Value} {A : Around} {outer : List Env} {s : Shared} {H : Hp} {E : XK} (hr : Room 12 (A.deeper (PyProof.Rows.envOfC "_law_come" (defScope s__law_come) s.heap.objs.size f cdv))) (T : TxtC K mg c6) (U : TxtS K mg CB CN c3 c4 CE c5 c6) (m__law_sort : mg "_law_sort" = some (.ref f0)) (k__law_sort : PySem.W.keepIn K (.ref f0) = true) (b__law_sort : Binds K fd0 ["_law_error"] []) (G__law_sort : FnOkH P w K mg base 1 f0 fd0 ["_law_error"] (spSort K CB CN c3 c4 CE c5 c6))
    (M_Net : Mk K C fi) (m_Net : mg "Net" = some (.ref C)) (b_Net : Binds K fdi ["self","places","pipes"] []) (G_Net : FnOk P w K mg base (CXX P w) 6 fi fdi ["self","places","pipes"] (spInitX K C CB))
    (m_with_pipe : mg "with_pipe" = some (.ref f1)) (k_with_pipe : PySem.W.keepIn K (.ref f1) = true) (b_with_pipe : Binds K fd1 ["net","one","other","hardness"] []) (G_with_pipe : FnOk P w K mg base (CXX P w) 9 f1 fd1 ["net","one","other","hardness"] (spWithX K C CB))
    (m_taken_out : mg "taken_out" = some (.ref f2)) (k_taken_out : PySem.W.keepIn K (.ref f2) = true) (b_taken_out : Binds K fd2 ["net","at"] []) (G_taken_out : FnOk P w K mg base (CXX P w) 10 f2 fd2 ["net","at"] (spOut K C CN CB))
    (m_slim : mg "slim" = some (.ref f3)) (k_slim : PySem.W.keepIn K (.ref f3) = true) (b_slim : Binds K fd3 ["net"] []) (G_slim : FnOk P w K mg base (CXX P w) 10 f3 fd3 ["net"] (spSlim K C CB))
    {E' : XK} {D : Ends} {v : V} (i : _root_.Fin 1000) (hE : ∀ H',Same H H' → E' (.ref CB) none H') : (lf_0 (outer:=outer) (H:=H) (E:=E) hr T U m__law_sort k__law_sort b__law_sort G__law_sort M_Net m_Net b_Net G_Net m_with_pipe k_with_pipe b_with_pipe G_with_pipe m_taken_out k_taken_out b_taken_out G_taken_out m_slim k_slim b_slim G_slim).1 E' D [some v,some (.int (600000000 + (i.val : Int))),none,none] H:=by
    refine ⟨by show 0 ≤ sizeLine; decide,fun l hl=>?_⟩
    have s0L:=same_upd (o:=.lst []) hl
    intro x dx0 nx0 ndx0 nex0
    have s0N:=made_s0 (C:=C) nx0 ndx0
    have hpN : PipesAt K _ _ []:=(.nil : PipesAt K (upd H l (.lst [])) [] [])
    have hnN : netD (.int 2) (.list (pipesD [])) = true:=(by decide +kernel)
    refine ⟨x,dx0,.int 2,_,.int 2,.list (pipesD []),rfl,upd_same,.int _,.lst (SqL.of (s0N _ _ upd_same)) (PipesAt.same s0N hpN).reps,fun h=>(by rw [hnN] at h; cases h),fun _ n' ps' HN L e1 e2 ok hL net kp=>⟨rfl,?_⟩⟩
    obtain ⟨rfl,rfl⟩:=net_eq e1 e2
    have sN:=made_same (n:=2) nx0 ndx0 kp
    refine ⟨by show 2 ≤ sizeLine; decide,fun th hth=>?_⟩
    have sT:=same_upd (o:=.tup [.int 1,.int 1]) hth
    have sAll:=(s0L.trans sN).trans sT
    exact ⟨x,L,th,2,[],⟨0,0,1,1⟩,rfl,net.same sT,by first | decide | (rw [List.length_replicate]; decide),SqT.of upd_same,fun _ H' s'=>hE _ (sAll.trans s'),fun ok=>absurd ok (no_net (by decide +kernel))⟩
set_option maxHeartbeats 40000000 in
theorem rd_1 {cdv : Value} {A : Around} {outer : List Env} {s : Shared} {H : Hp} {E : XK} (hr : Room 12 (A.deeper (PyProof.Rows.envOfC "_law_come" (defScope s__law_come) s.heap.objs.size f cdv))) (T : TxtC K mg c6) (U : TxtS K mg CB CN c3 c4 CE c5 c6) (m__law_sort : mg "_law_sort" = some (.ref f0)) (k__law_sort : PySem.W.keepIn K (.ref f0) = true) (b__law_sort : Binds K fd0 ["_law_error"] []) (G__law_sort : FnOkH P w K mg base 1 f0 fd0 ["_law_error"] (spSort K CB CN c3 c4 CE c5 c6))
    (M_Net : Mk K C fi) (m_Net : mg "Net" = some (.ref C)) (b_Net : Binds K fdi ["self","places","pipes"] []) (G_Net : FnOk P w K mg base (CXX P w) 6 fi fdi ["self","places","pipes"] (spInitX K C CB))
    (m_with_pipe : mg "with_pipe" = some (.ref f1)) (k_with_pipe : PySem.W.keepIn K (.ref f1) = true) (b_with_pipe : Binds K fd1 ["net","one","other","hardness"] []) (G_with_pipe : FnOk P w K mg base (CXX P w) 9 f1 fd1 ["net","one","other","hardness"] (spWithX K C CB))
    (m_taken_out : mg "taken_out" = some (.ref f2)) (k_taken_out : PySem.W.keepIn K (.ref f2) = true) (b_taken_out : Binds K fd2 ["net","at"] []) (G_taken_out : FnOk P w K mg base (CXX P w) 10 f2 fd2 ["net","at"] (spOut K C CN CB))
    (m_slim : mg "slim" = some (.ref f3)) (k_slim : PySem.W.keepIn K (.ref f3) = true) (b_slim : Binds K fd3 ["net"] []) (G_slim : FnOk P w K mg base (CXX P w) 10 f3 fd3 ["net"] (spSlim K C CB))
    {E' : XK} {D : Ends} {v : V} (i : _root_.Fin 1000) (hE : ∀ H',Same H H' → E' (.ref CB) none H') : (lf_1 (outer:=outer) (H:=H) (E:=E) hr T U m__law_sort k__law_sort b__law_sort G__law_sort M_Net m_Net b_Net G_Net m_with_pipe k_with_pipe b_with_pipe G_with_pipe m_taken_out k_taken_out b_taken_out G_taken_out m_slim k_slim b_slim G_slim).1 E' D [some v,some (.int (600000000 + (i.val : Int))),none,none] H:=by
    refine ⟨by show 2 ≤ sizeLine; decide,fun t0 ht0=>?_⟩
    have sI0:=same_upd (o:=.tup [.int (1),.int (1)]) ht0
    have eI0 : (upd H t0 (.tup [.int (1),.int (1)])) t0 = some (.tup [.int (1),.int (1)]):=upd_same
    generalize upd H t0 (.tup [.int (1),.int (1)]) = HI0 at sI0 eI0 ⊢
    refine ⟨by show 3 ≤ sizeLine; decide,fun o0 ho0=>?_⟩
    have sO0:=same_upd (o:=.tup [.int 0,.int 1,.ref t0]) ho0
    have eO0 : (upd HI0 o0 (.tup [.int 0,.int 1,.ref t0])) o0 = some (.tup [.int 0,.int 1,.ref t0]):=upd_same
    generalize upd HI0 o0 (.tup [.int 0,.int 1,.ref t0]) = HO0 at sO0 eO0 ⊢
    refine ⟨by show 1 ≤ sizeLine; decide,fun l hl=>?_⟩
    have sL:=same_upd (o:=.lst [.ref o0]) hl
    have eL : (upd HO0 l (.lst [.ref o0])) l = some (.lst [.ref o0]):=upd_same
    generalize upd HO0 l (.lst [.ref o0]) = HL at sL eL ⊢
    have tO0:=sL
    have tI0:=sO0.trans tO0
    have s0L:=sI0.trans tI0
    refine ⟨l,28,_,rfl,rfl,eL,by decide,by decide,by show 1 * 28 ≤ sizeLine; decide,fun l2 hl2=>?_⟩
    rw [show (List.replicate (28 : Int).toNat [V.ref o0]).flatten = List.replicate 28 (V.ref o0) from fl_one 28]
    have sR:=same_upd (o:=.lst (List.replicate 28 (V.ref o0))) hl2
    have eR : (upd HL l2 (.lst (List.replicate 28 (V.ref o0)))) l2 = some (.lst (List.replicate 28 (V.ref o0))):=upd_same
    generalize upd HL l2 (.lst (List.replicate 28 (V.ref o0))) = HR at sR eR ⊢
    have s0R:=s0L.trans sR
    have paR : PipesAt K HR (List.replicate 28 (V.ref o0)) (List.replicate 28 ⟨0,1,1,1⟩):=repl_at ⟨o0,t0,rfl,SqT.of ((tO0.trans sR) _ _ eO0),SqT.of ((tI0.trans sR) _ _ eI0)⟩ 28
    intro x dx0 nx0 ndx0 nex0
    have s0N:=made_s0 (C:=C) nx0 ndx0
    have hpN : PipesAt K _ _ (List.replicate 28 ⟨0,1,1,1⟩):=paR
    have hnN : netD (.int 2) (.list (pipesD (List.replicate 28 ⟨0,1,1,1⟩))) = true:=(by decide +kernel)
    refine ⟨x,dx0,.int 2,_,.int 2,.list (pipesD (List.replicate 28 ⟨0,1,1,1⟩)),rfl,upd_same,.int _,.lst (SqL.of (s0N _ _ eR)) (PipesAt.same s0N hpN).reps,fun h=>(by rw [hnN] at h; cases h),fun _ n' ps' HN L e1 e2 ok hL net kp=>⟨rfl,?_⟩⟩
    obtain ⟨rfl,rfl⟩:=net_eq e1 e2
    have sN:=made_same (n:=2) nx0 ndx0 kp
    refine ⟨by show 2 ≤ sizeLine; decide,fun th hth=>?_⟩
    have sT:=same_upd (o:=.tup [.int 1,.int 1]) hth
    have sAll:=(s0R.trans sN).trans sT
    exact ⟨x,L,th,2,(List.replicate 28 ⟨0,1,1,1⟩),⟨0,1,1,1⟩,rfl,net.same sT,by first | decide | (rw [List.length_replicate]; decide),SqT.of upd_same,fun _ H' s'=>hE _ (sAll.trans s'),fun ok=>absurd ok (no_net (by decide +kernel))⟩
set_option maxHeartbeats 40000000 in
theorem rd_2 {cdv : Value} {A : Around} {outer : List Env} {s : Shared} {H : Hp} {E : XK} (hr : Room 12 (A.deeper (PyProof.Rows.envOfC "_law_come" (defScope s__law_come) s.heap.objs.size f cdv))) (T : TxtC K mg c6) (U : TxtS K mg CB CN c3 c4 CE c5 c6) (m__law_sort : mg "_law_sort" = some (.ref f0)) (k__law_sort : PySem.W.keepIn K (.ref f0) = true) (b__law_sort : Binds K fd0 ["_law_error"] []) (G__law_sort : FnOkH P w K mg base 1 f0 fd0 ["_law_error"] (spSort K CB CN c3 c4 CE c5 c6))
    (M_Net : Mk K C fi) (m_Net : mg "Net" = some (.ref C)) (b_Net : Binds K fdi ["self","places","pipes"] []) (G_Net : FnOk P w K mg base (CXX P w) 6 fi fdi ["self","places","pipes"] (spInitX K C CB))
    (m_with_pipe : mg "with_pipe" = some (.ref f1)) (k_with_pipe : PySem.W.keepIn K (.ref f1) = true) (b_with_pipe : Binds K fd1 ["net","one","other","hardness"] []) (G_with_pipe : FnOk P w K mg base (CXX P w) 9 f1 fd1 ["net","one","other","hardness"] (spWithX K C CB))
    (m_taken_out : mg "taken_out" = some (.ref f2)) (k_taken_out : PySem.W.keepIn K (.ref f2) = true) (b_taken_out : Binds K fd2 ["net","at"] []) (G_taken_out : FnOk P w K mg base (CXX P w) 10 f2 fd2 ["net","at"] (spOut K C CN CB))
    (m_slim : mg "slim" = some (.ref f3)) (k_slim : PySem.W.keepIn K (.ref f3) = true) (b_slim : Binds K fd3 ["net"] []) (G_slim : FnOk P w K mg base (CXX P w) 10 f3 fd3 ["net"] (spSlim K C CB))
    {E' : XK} {D : Ends} {v : V} (i : _root_.Fin 1000) (hE : ∀ H',Same H H' → E' (.ref CB) none H') : (lf_2 (outer:=outer) (H:=H) (E:=E) hr T U m__law_sort k__law_sort b__law_sort G__law_sort M_Net m_Net b_Net G_Net m_with_pipe k_with_pipe b_with_pipe G_with_pipe m_taken_out k_taken_out b_taken_out G_taken_out m_slim k_slim b_slim G_slim).1 E' D [some v,some (.int (600000000 + (i.val : Int))),none,none] H:=by
    refine ⟨_,rfl,by show 2 ≤ sizeLine; decide,fun t0 ht0=>?_⟩
    have sI0:=same_upd (o:=.tup [.int ((600000000 + (i.val : Int))),.int (1)]) ht0
    have eI0 : (upd H t0 (.tup [.int ((600000000 + (i.val : Int))),.int (1)])) t0 = some (.tup [.int ((600000000 + (i.val : Int))),.int (1)]):=upd_same
    generalize upd H t0 (.tup [.int ((600000000 + (i.val : Int))),.int (1)]) = HI0 at sI0 eI0 ⊢
    refine ⟨by show 3 ≤ sizeLine; decide,fun o0 ho0=>?_⟩
    have sO0:=same_upd (o:=.tup [.int 0,.int 1,.ref t0]) ho0
    have eO0 : (upd HI0 o0 (.tup [.int 0,.int 1,.ref t0])) o0 = some (.tup [.int 0,.int 1,.ref t0]):=upd_same
    generalize upd HI0 o0 (.tup [.int 0,.int 1,.ref t0]) = HO0 at sO0 eO0 ⊢
    refine ⟨_,rfl,_,_,rfl,rfl,by show 2 ≤ sizeLine; decide,fun t1 ht1=>?_⟩
    have sI1:=same_upd (o:=.tup [.int ((600000000 + (i.val : Int)) + 1),.int (1)]) ht1
    have eI1 : (upd HO0 t1 (.tup [.int ((600000000 + (i.val : Int)) + 1),.int (1)])) t1 = some (.tup [.int ((600000000 + (i.val : Int)) + 1),.int (1)]):=upd_same
    generalize upd HO0 t1 (.tup [.int ((600000000 + (i.val : Int)) + 1),.int (1)]) = HI1 at sI1 eI1 ⊢
    refine ⟨by show 3 ≤ sizeLine; decide,fun o1 ho1=>?_⟩
    have sO1:=same_upd (o:=.tup [.int 1,.int 2,.ref t1]) ho1
    have eO1 : (upd HI1 o1 (.tup [.int 1,.int 2,.ref t1])) o1 = some (.tup [.int 1,.int 2,.ref t1]):=upd_same
    generalize upd HI1 o1 (.tup [.int 1,.int 2,.ref t1]) = HO1 at sO1 eO1 ⊢
    refine ⟨by show 2 ≤ sizeLine; decide,fun l hl=>?_⟩
    have sL:=same_upd (o:=.lst [.ref o0,.ref o1]) hl
    have eL : (upd HO1 l (.lst [.ref o0,.ref o1])) l = some (.lst [.ref o0,.ref o1]):=upd_same
    generalize upd HO1 l (.lst [.ref o0,.ref o1]) = HL at sL eL ⊢
    have tO1:=sL
    have tI1:=sO1.trans tO1
    have tO0:=sI1.trans tI1
    have tI0:=sO0.trans tO0
    have s0L:=sI0.trans tI0
    intro x dx0 nx0 ndx0 nex0
    have s0N:=made_s0 (C:=C) nx0 ndx0
    have hpN : PipesAt K _ _ (psA (600000000 + (i.val : Int))):=(.cons ⟨o0,t0,rfl,SqT.of (tO0 _ _ eO0),SqT.of (tI0 _ _ eI0)⟩ (.cons ⟨o1,t1,rfl,SqT.of (tO1 _ _ eO1),SqT.of (tI1 _ _ eI1)⟩ .nil))
    have hnN : netD (.int 3) (.list (pipesD (psA (600000000 + (i.val : Int))))) = true:=(nA i)
    refine ⟨x,dx0,.int 3,_,.int 3,.list (pipesD (psA (600000000 + (i.val : Int)))),rfl,upd_same,.int _,.lst (SqL.of (s0N _ _ eL)) (PipesAt.same s0N hpN).reps,fun h=>(by rw [hnN] at h; cases h),fun _ n' ps' HN L e1 e2 ok hL net kp=>⟨rfl,?_⟩⟩
    obtain ⟨rfl,rfl⟩:=net_eq e1 e2
    have sN:=made_same (n:=3) nx0 ndx0 kp
    have sAll:=s0L.trans sN
    refine ⟨x,L,3,(psA (600000000 + (i.val : Int))),.int 1,.int 1,rfl,net,ok,.int _,by decide,fun h=>(by cases h),fun _=>⟨ezChk_sm (sA i),fun m k e1 e2=>?_⟩⟩
    obtain rfl : m = 2:=by omega
    obtain rfl : k = 1:=by
      injection e2 with e2
      omega
    exact ⟨fun _ H' s'=>hE _ (sAll.trans s'),fun ok=>absurd ok (no_net (outA1 i))⟩
set_option maxHeartbeats 40000000 in
theorem rd_3 {cdv : Value} {A : Around} {outer : List Env} {s : Shared} {H : Hp} {E : XK} (hr : Room 12 (A.deeper (PyProof.Rows.envOfC "_law_come" (defScope s__law_come) s.heap.objs.size f cdv))) (T : TxtC K mg c6) (U : TxtS K mg CB CN c3 c4 CE c5 c6) (m__law_sort : mg "_law_sort" = some (.ref f0)) (k__law_sort : PySem.W.keepIn K (.ref f0) = true) (b__law_sort : Binds K fd0 ["_law_error"] []) (G__law_sort : FnOkH P w K mg base 1 f0 fd0 ["_law_error"] (spSort K CB CN c3 c4 CE c5 c6))
    (M_Net : Mk K C fi) (m_Net : mg "Net" = some (.ref C)) (b_Net : Binds K fdi ["self","places","pipes"] []) (G_Net : FnOk P w K mg base (CXX P w) 6 fi fdi ["self","places","pipes"] (spInitX K C CB))
    (m_with_pipe : mg "with_pipe" = some (.ref f1)) (k_with_pipe : PySem.W.keepIn K (.ref f1) = true) (b_with_pipe : Binds K fd1 ["net","one","other","hardness"] []) (G_with_pipe : FnOk P w K mg base (CXX P w) 9 f1 fd1 ["net","one","other","hardness"] (spWithX K C CB))
    (m_taken_out : mg "taken_out" = some (.ref f2)) (k_taken_out : PySem.W.keepIn K (.ref f2) = true) (b_taken_out : Binds K fd2 ["net","at"] []) (G_taken_out : FnOk P w K mg base (CXX P w) 10 f2 fd2 ["net","at"] (spOut K C CN CB))
    (m_slim : mg "slim" = some (.ref f3)) (k_slim : PySem.W.keepIn K (.ref f3) = true) (b_slim : Binds K fd3 ["net"] []) (G_slim : FnOk P w K mg base (CXX P w) 10 f3 fd3 ["net"] (spSlim K C CB))
    {E' : XK} {D : Ends} {v : V} (i : _root_.Fin 1000) (hE : ∀ H',Same H H' → E' (.ref CB) none H') : (lf_3 (outer:=outer) (H:=H) (E:=E) hr T U m__law_sort k__law_sort b__law_sort G__law_sort M_Net m_Net b_Net G_Net m_with_pipe k_with_pipe b_with_pipe G_with_pipe m_taken_out k_taken_out b_taken_out G_taken_out m_slim k_slim b_slim G_slim).1 E' D [some v,some (.int (600000000 + (i.val : Int))),none,none] H:=by
    refine ⟨_,rfl,by show 2 ≤ sizeLine; decide,fun t0 ht0=>?_⟩
    have sI0:=same_upd (o:=.tup [.int (1),.int ((600000000 + (i.val : Int)))]) ht0
    have eI0 : (upd H t0 (.tup [.int (1),.int ((600000000 + (i.val : Int)))])) t0 = some (.tup [.int (1),.int ((600000000 + (i.val : Int)))]):=upd_same
    generalize upd H t0 (.tup [.int (1),.int ((600000000 + (i.val : Int)))]) = HI0 at sI0 eI0 ⊢
    refine ⟨by show 3 ≤ sizeLine; decide,fun o0 ho0=>?_⟩
    have sO0:=same_upd (o:=.tup [.int 0,.int 1,.ref t0]) ho0
    have eO0 : (upd HI0 o0 (.tup [.int 0,.int 1,.ref t0])) o0 = some (.tup [.int 0,.int 1,.ref t0]):=upd_same
    generalize upd HI0 o0 (.tup [.int 0,.int 1,.ref t0]) = HO0 at sO0 eO0 ⊢
    refine ⟨_,rfl,_,_,rfl,rfl,by show 2 ≤ sizeLine; decide,fun t1 ht1=>?_⟩
    have sI1:=same_upd (o:=.tup [.int (1),.int ((600000000 + (i.val : Int)) + 1)]) ht1
    have eI1 : (upd HO0 t1 (.tup [.int (1),.int ((600000000 + (i.val : Int)) + 1)])) t1 = some (.tup [.int (1),.int ((600000000 + (i.val : Int)) + 1)]):=upd_same
    generalize upd HO0 t1 (.tup [.int (1),.int ((600000000 + (i.val : Int)) + 1)]) = HI1 at sI1 eI1 ⊢
    refine ⟨by show 3 ≤ sizeLine; decide,fun o1 ho1=>?_⟩
    have sO1:=same_upd (o:=.tup [.int 1,.int 0,.ref t1]) ho1
    have eO1 : (upd HI1 o1 (.tup [.int 1,.int 0,.ref t1])) o1 = some (.tup [.int 1,.int 0,.ref t1]):=upd_same
    generalize upd HI1 o1 (.tup [.int 1,.int 0,.ref t1]) = HO1 at sO1 eO1 ⊢
    refine ⟨by show 2 ≤ sizeLine; decide,fun l hl=>?_⟩
    have sL:=same_upd (o:=.lst [.ref o0,.ref o1]) hl
    have eL : (upd HO1 l (.lst [.ref o0,.ref o1])) l = some (.lst [.ref o0,.ref o1]):=upd_same
    generalize upd HO1 l (.lst [.ref o0,.ref o1]) = HL at sL eL ⊢
    have tO1:=sL
    have tI1:=sO1.trans tO1
    have tO0:=sI1.trans tI1
    have tI0:=sO0.trans tO0
    have s0L:=sI0.trans tI0
    intro x dx0 nx0 ndx0 nex0
    have s0N:=made_s0 (C:=C) nx0 ndx0
    have hpN : PipesAt K _ _ (psB (600000000 + (i.val : Int))):=(.cons ⟨o0,t0,rfl,SqT.of (tO0 _ _ eO0),SqT.of (tI0 _ _ eI0)⟩ (.cons ⟨o1,t1,rfl,SqT.of (tO1 _ _ eO1),SqT.of (tI1 _ _ eI1)⟩ .nil))
    have hnN : netD (.int 2) (.list (pipesD (psB (600000000 + (i.val : Int))))) = true:=(nB i)
    refine ⟨x,dx0,.int 2,_,.int 2,.list (pipesD (psB (600000000 + (i.val : Int)))),rfl,upd_same,.int _,.lst (SqL.of (s0N _ _ eL)) (PipesAt.same s0N hpN).reps,fun h=>(by rw [hnN] at h; cases h),fun _ n' ps' HN L e1 e2 ok hL net kp=>⟨rfl,?_⟩⟩
    obtain ⟨rfl,rfl⟩:=net_eq e1 e2
    have sN:=made_same (n:=2) nx0 ndx0 kp
    have sAll:=s0L.trans sN
    exact ⟨x,L,2,psB (600000000 + (i.val : Int)),rfl,net,ok,ezChk_sm (sB i),fun _ H' s'=>hE _ (sAll.trans s'),fun ok=>absurd ok (no_net (slimB i))⟩
set_option maxHeartbeats 40000000 in
theorem rd_4 {cdv : Value} {A : Around} {outer : List Env} {s : Shared} {H : Hp} {E : XK} (hr : Room 12 (A.deeper (PyProof.Rows.envOfC "_law_come" (defScope s__law_come) s.heap.objs.size f cdv))) (T : TxtC K mg c6) (U : TxtS K mg CB CN c3 c4 CE c5 c6) (m__law_sort : mg "_law_sort" = some (.ref f0)) (k__law_sort : PySem.W.keepIn K (.ref f0) = true) (b__law_sort : Binds K fd0 ["_law_error"] []) (G__law_sort : FnOkH P w K mg base 1 f0 fd0 ["_law_error"] (spSort K CB CN c3 c4 CE c5 c6))
    (M_Net : Mk K C fi) (m_Net : mg "Net" = some (.ref C)) (b_Net : Binds K fdi ["self","places","pipes"] []) (G_Net : FnOk P w K mg base (CXX P w) 6 fi fdi ["self","places","pipes"] (spInitX K C CB))
    (m_with_pipe : mg "with_pipe" = some (.ref f1)) (k_with_pipe : PySem.W.keepIn K (.ref f1) = true) (b_with_pipe : Binds K fd1 ["net","one","other","hardness"] []) (G_with_pipe : FnOk P w K mg base (CXX P w) 9 f1 fd1 ["net","one","other","hardness"] (spWithX K C CB))
    (m_taken_out : mg "taken_out" = some (.ref f2)) (k_taken_out : PySem.W.keepIn K (.ref f2) = true) (b_taken_out : Binds K fd2 ["net","at"] []) (G_taken_out : FnOk P w K mg base (CXX P w) 10 f2 fd2 ["net","at"] (spOut K C CN CB))
    (m_slim : mg "slim" = some (.ref f3)) (k_slim : PySem.W.keepIn K (.ref f3) = true) (b_slim : Binds K fd3 ["net"] []) (G_slim : FnOk P w K mg base (CXX P w) 10 f3 fd3 ["net"] (spSlim K C CB))
    {E' : XK} {D : Ends} {v : V} (i : _root_.Fin 1000) (hD : ∀ σ' H',Same H H' → D.nx σ' H') : (lf_4 (outer:=outer) (H:=H) (E:=E) hr T U m__law_sort k__law_sort b__law_sort G__law_sort M_Net m_Net b_Net G_Net m_with_pipe k_with_pipe b_with_pipe G_with_pipe m_taken_out k_taken_out b_taken_out G_taken_out m_slim k_slim b_slim G_slim).1 E' D [some v,some (.int (600000000 + (i.val : Int))),none,none] H:=by
    refine ⟨_,rfl,by show 2 ≤ sizeLine; decide,fun t0 ht0=>?_⟩
    have sI0:=same_upd (o:=.tup [.int ((600000000 + (i.val : Int))),.int (1)]) ht0
    have eI0 : (upd H t0 (.tup [.int ((600000000 + (i.val : Int))),.int (1)])) t0 = some (.tup [.int ((600000000 + (i.val : Int))),.int (1)]):=upd_same
    generalize upd H t0 (.tup [.int ((600000000 + (i.val : Int))),.int (1)]) = HI0 at sI0 eI0 ⊢
    refine ⟨by show 3 ≤ sizeLine; decide,fun o0 ho0=>?_⟩
    have sO0:=same_upd (o:=.tup [.int 0,.int 1,.ref t0]) ho0
    have eO0 : (upd HI0 o0 (.tup [.int 0,.int 1,.ref t0])) o0 = some (.tup [.int 0,.int 1,.ref t0]):=upd_same
    generalize upd HI0 o0 (.tup [.int 0,.int 1,.ref t0]) = HO0 at sO0 eO0 ⊢
    refine ⟨_,rfl,_,_,rfl,rfl,by show 2 ≤ sizeLine; decide,fun t1 ht1=>?_⟩
    have sI1:=same_upd (o:=.tup [.int ((600000000 + (i.val : Int)) + 1),.int (1)]) ht1
    have eI1 : (upd HO0 t1 (.tup [.int ((600000000 + (i.val : Int)) + 1),.int (1)])) t1 = some (.tup [.int ((600000000 + (i.val : Int)) + 1),.int (1)]):=upd_same
    generalize upd HO0 t1 (.tup [.int ((600000000 + (i.val : Int)) + 1),.int (1)]) = HI1 at sI1 eI1 ⊢
    refine ⟨by show 3 ≤ sizeLine; decide,fun o1 ho1=>?_⟩
    have sO1:=same_upd (o:=.tup [.int 1,.int 2,.ref t1]) ho1
    have eO1 : (upd HI1 o1 (.tup [.int 1,.int 2,.ref t1])) o1 = some (.tup [.int 1,.int 2,.ref t1]):=upd_same
    generalize upd HI1 o1 (.tup [.int 1,.int 2,.ref t1]) = HO1 at sO1 eO1 ⊢
    refine ⟨by show 2 ≤ sizeLine; decide,fun l hl=>?_⟩
    have sL:=same_upd (o:=.lst [.ref o0,.ref o1]) hl
    have eL : (upd HO1 l (.lst [.ref o0,.ref o1])) l = some (.lst [.ref o0,.ref o1]):=upd_same
    generalize upd HO1 l (.lst [.ref o0,.ref o1]) = HL at sL eL ⊢
    have tO1:=sL
    have tI1:=sO1.trans tO1
    have tO0:=sI1.trans tI1
    have tI0:=sO0.trans tO0
    have s0L:=sI0.trans tI0
    intro x dx0 nx0 ndx0 nex0
    have s0N:=made_s0 (C:=C) nx0 ndx0
    have hpN : PipesAt K _ _ (psA (600000000 + (i.val : Int))):=(.cons ⟨o0,t0,rfl,SqT.of (tO0 _ _ eO0),SqT.of (tI0 _ _ eI0)⟩ (.cons ⟨o1,t1,rfl,SqT.of (tO1 _ _ eO1),SqT.of (tI1 _ _ eI1)⟩ .nil))
    have hnN : netD (.int 3) (.list (pipesD (psA (600000000 + (i.val : Int))))) = true:=(nA i)
    refine ⟨x,dx0,.int 3,_,.int 3,.list (pipesD (psA (600000000 + (i.val : Int)))),rfl,upd_same,.int _,.lst (SqL.of (s0N _ _ eL)) (PipesAt.same s0N hpN).reps,fun h=>(by rw [hnN] at h; cases h),fun _ n' ps' HN L e1 e2 ok hL net kp=>⟨rfl,?_⟩⟩
    obtain ⟨rfl,rfl⟩:=net_eq e1 e2
    have sN:=made_same (n:=3) nx0 ndx0 kp
    have sAll:=s0L.trans sN
    refine ⟨x,L,3,(psA (600000000 + (i.val : Int))),.int 2,.int 2,rfl,net,ok,.int _,by decide,fun h=>(by cases h),fun _=>⟨ezChk_sm (sA i),fun m k e1 e2=>?_⟩⟩
    obtain rfl : m = 2:=by omega
    obtain rfl : k = 2:=by
      injection e2 with e2
      omega
    exact ⟨fun no=>absurd (netD_net (outA2 i)) no,fun _ H' x' s'=>hD _ _ (sAll.trans s')⟩
set_option maxHeartbeats 40000000 in
theorem rd_5 {cdv : Value} {A : Around} {outer : List Env} {s : Shared} {H : Hp} {E : XK} (hr : Room 12 (A.deeper (PyProof.Rows.envOfC "_law_come" (defScope s__law_come) s.heap.objs.size f cdv))) (T : TxtC K mg c6) (U : TxtS K mg CB CN c3 c4 CE c5 c6) (m__law_sort : mg "_law_sort" = some (.ref f0)) (k__law_sort : PySem.W.keepIn K (.ref f0) = true) (b__law_sort : Binds K fd0 ["_law_error"] []) (G__law_sort : FnOkH P w K mg base 1 f0 fd0 ["_law_error"] (spSort K CB CN c3 c4 CE c5 c6))
    (M_Net : Mk K C fi) (m_Net : mg "Net" = some (.ref C)) (b_Net : Binds K fdi ["self","places","pipes"] []) (G_Net : FnOk P w K mg base (CXX P w) 6 fi fdi ["self","places","pipes"] (spInitX K C CB))
    (m_with_pipe : mg "with_pipe" = some (.ref f1)) (k_with_pipe : PySem.W.keepIn K (.ref f1) = true) (b_with_pipe : Binds K fd1 ["net","one","other","hardness"] []) (G_with_pipe : FnOk P w K mg base (CXX P w) 9 f1 fd1 ["net","one","other","hardness"] (spWithX K C CB))
    (m_taken_out : mg "taken_out" = some (.ref f2)) (k_taken_out : PySem.W.keepIn K (.ref f2) = true) (b_taken_out : Binds K fd2 ["net","at"] []) (G_taken_out : FnOk P w K mg base (CXX P w) 10 f2 fd2 ["net","at"] (spOut K C CN CB))
    (m_slim : mg "slim" = some (.ref f3)) (k_slim : PySem.W.keepIn K (.ref f3) = true) (b_slim : Binds K fd3 ["net"] []) (G_slim : FnOk P w K mg base (CXX P w) 10 f3 fd3 ["net"] (spSlim K C CB))
    {E' : XK} {D : Ends} {v : V} (i : _root_.Fin 1000) (hD : ∀ σ' H',Same H H' → D.nx σ' H') : (lf_5 (outer:=outer) (H:=H) (E:=E) hr T U m__law_sort k__law_sort b__law_sort G__law_sort M_Net m_Net b_Net G_Net m_with_pipe k_with_pipe b_with_pipe G_with_pipe m_taken_out k_taken_out b_taken_out G_taken_out m_slim k_slim b_slim G_slim).1 E' D [some v,some (.int (600000000 + (i.val : Int))),none,none] H:=by
    refine ⟨by show 2 ≤ sizeLine; decide,fun t0 ht0=>?_⟩
    have sI0:=same_upd (o:=.tup [.int (99991),.int (1)]) ht0
    have eI0 : (upd H t0 (.tup [.int (99991),.int (1)])) t0 = some (.tup [.int (99991),.int (1)]):=upd_same
    generalize upd H t0 (.tup [.int (99991),.int (1)]) = HI0 at sI0 eI0 ⊢
    refine ⟨by show 3 ≤ sizeLine; decide,fun o0 ho0=>?_⟩
    have sO0:=same_upd (o:=.tup [.int 0,.int 1,.ref t0]) ho0
    have eO0 : (upd HI0 o0 (.tup [.int 0,.int 1,.ref t0])) o0 = some (.tup [.int 0,.int 1,.ref t0]):=upd_same
    generalize upd HI0 o0 (.tup [.int 0,.int 1,.ref t0]) = HO0 at sO0 eO0 ⊢
    refine ⟨by show 2 ≤ sizeLine; decide,fun t1 ht1=>?_⟩
    have sI1:=same_upd (o:=.tup [.int (99989),.int (1)]) ht1
    have eI1 : (upd HO0 t1 (.tup [.int (99989),.int (1)])) t1 = some (.tup [.int (99989),.int (1)]):=upd_same
    generalize upd HO0 t1 (.tup [.int (99989),.int (1)]) = HI1 at sI1 eI1 ⊢
    refine ⟨by show 3 ≤ sizeLine; decide,fun o1 ho1=>?_⟩
    have sO1:=same_upd (o:=.tup [.int 0,.int 1,.ref t1]) ho1
    have eO1 : (upd HI1 o1 (.tup [.int 0,.int 1,.ref t1])) o1 = some (.tup [.int 0,.int 1,.ref t1]):=upd_same
    generalize upd HI1 o1 (.tup [.int 0,.int 1,.ref t1]) = HO1 at sO1 eO1 ⊢
    refine ⟨by show 2 ≤ sizeLine; decide,fun t2 ht2=>?_⟩
    have sI2:=same_upd (o:=.tup [.int (1),.int (1)]) ht2
    have eI2 : (upd HO1 t2 (.tup [.int (1),.int (1)])) t2 = some (.tup [.int (1),.int (1)]):=upd_same
    generalize upd HO1 t2 (.tup [.int (1),.int (1)]) = HI2 at sI2 eI2 ⊢
    refine ⟨by show 3 ≤ sizeLine; decide,fun o2 ho2=>?_⟩
    have sO2:=same_upd (o:=.tup [.int 1,.int 2,.ref t2]) ho2
    have eO2 : (upd HI2 o2 (.tup [.int 1,.int 2,.ref t2])) o2 = some (.tup [.int 1,.int 2,.ref t2]):=upd_same
    generalize upd HI2 o2 (.tup [.int 1,.int 2,.ref t2]) = HO2 at sO2 eO2 ⊢
    refine ⟨by show 3 ≤ sizeLine; decide,fun l hl=>?_⟩
    have sL:=same_upd (o:=.lst [.ref o0,.ref o1,.ref o2]) hl
    have eL : (upd HO2 l (.lst [.ref o0,.ref o1,.ref o2])) l = some (.lst [.ref o0,.ref o1,.ref o2]):=upd_same
    generalize upd HO2 l (.lst [.ref o0,.ref o1,.ref o2]) = HL at sL eL ⊢
    have tO2:=sL
    have tI2:=sO2.trans tO2
    have tO1:=sI2.trans tI2
    have tI1:=sO1.trans tO1
    have tO0:=sI1.trans tI1
    have tI0:=sO0.trans tO0
    have s0L:=sI0.trans tI0
    intro x dx0 nx0 ndx0 nex0
    have s0N:=made_s0 (C:=C) nx0 ndx0
    have hpN : PipesAt K _ _ psC:=(.cons ⟨o0,t0,rfl,SqT.of (tO0 _ _ eO0),SqT.of (tI0 _ _ eI0)⟩ (.cons ⟨o1,t1,rfl,SqT.of (tO1 _ _ eO1),SqT.of (tI1 _ _ eI1)⟩ (.cons ⟨o2,t2,rfl,SqT.of (tO2 _ _ eO2),SqT.of (tI2 _ _ eI2)⟩ .nil)))
    have hnN : netD (.int 3) (.list (pipesD psC)) = true:=nC
    refine ⟨x,dx0,.int 3,_,.int 3,.list (pipesD psC),rfl,upd_same,.int _,.lst (SqL.of (s0N _ _ eL)) (PipesAt.same s0N hpN).reps,fun h=>(by rw [hnN] at h; cases h),fun _ n' ps' HN L e1 e2 ok hL net kp=>⟨rfl,?_⟩⟩
    obtain ⟨rfl,rfl⟩:=net_eq e1 e2
    have sN:=made_same (n:=3) nx0 ndx0 kp
    have sAll:=s0L.trans sN
    refine ⟨x,L,3,psC,.int 0,.int 0,rfl,net,ok,.int _,by decide,fun h=>(by cases h),fun _=>⟨ezChk_sm sC,fun m k e1 e2=>?_⟩⟩
    obtain rfl : m = 2:=by omega
    obtain rfl : k = 0:=by
      injection e2 with e2
      omega
    exact ⟨fun no=>absurd (netD_net outC) no,fun _ H' x' s'=>hD _ _ (sAll.trans s')⟩
set_option maxHeartbeats 40000000 in
theorem rd_6 {cdv : Value} {A : Around} {outer : List Env} {s : Shared} {H : Hp} {E : XK} (hr : Room 12 (A.deeper (PyProof.Rows.envOfC "_law_come" (defScope s__law_come) s.heap.objs.size f cdv))) (T : TxtC K mg c6) (U : TxtS K mg CB CN c3 c4 CE c5 c6) (m__law_sort : mg "_law_sort" = some (.ref f0)) (k__law_sort : PySem.W.keepIn K (.ref f0) = true) (b__law_sort : Binds K fd0 ["_law_error"] []) (G__law_sort : FnOkH P w K mg base 1 f0 fd0 ["_law_error"] (spSort K CB CN c3 c4 CE c5 c6))
    (M_Net : Mk K C fi) (m_Net : mg "Net" = some (.ref C)) (b_Net : Binds K fdi ["self","places","pipes"] []) (G_Net : FnOk P w K mg base (CXX P w) 6 fi fdi ["self","places","pipes"] (spInitX K C CB))
    (m_with_pipe : mg "with_pipe" = some (.ref f1)) (k_with_pipe : PySem.W.keepIn K (.ref f1) = true) (b_with_pipe : Binds K fd1 ["net","one","other","hardness"] []) (G_with_pipe : FnOk P w K mg base (CXX P w) 9 f1 fd1 ["net","one","other","hardness"] (spWithX K C CB))
    (m_taken_out : mg "taken_out" = some (.ref f2)) (k_taken_out : PySem.W.keepIn K (.ref f2) = true) (b_taken_out : Binds K fd2 ["net","at"] []) (G_taken_out : FnOk P w K mg base (CXX P w) 10 f2 fd2 ["net","at"] (spOut K C CN CB))
    (m_slim : mg "slim" = some (.ref f3)) (k_slim : PySem.W.keepIn K (.ref f3) = true) (b_slim : Binds K fd3 ["net"] []) (G_slim : FnOk P w K mg base (CXX P w) 10 f3 fd3 ["net"] (spSlim K C CB))
    {E' : XK} {D : Ends} {v : V} (i : _root_.Fin 1000) (hD : ∀ σ' H',Same H H' → D.nx σ' H') : (lf_6 (outer:=outer) (H:=H) (E:=E) hr T U m__law_sort k__law_sort b__law_sort G__law_sort M_Net m_Net b_Net G_Net m_with_pipe k_with_pipe b_with_pipe G_with_pipe m_taken_out k_taken_out b_taken_out G_taken_out m_slim k_slim b_slim G_slim).1 E' D [some v,some (.int (600000000 + (i.val : Int))),none,none] H:=by
    refine ⟨21,rfl,by decide,by decide,?_⟩
    refine comp_range (n:=21) (fun j ys H'=>Same H H' ∧ PipesAt K H' ys ((List.range j).map psDi)) ⟨Same.refl _,.nil⟩ (small1000 (by decide)) ?_ ?_ ?_
    · rintro j ys H' hj ⟨_,hY⟩
      rw [Paired.length hY,List.length_map,List.length_range]
      exact Nat.le_refl _
    · rintro j ys H' N hj ⟨sj,hY⟩ hN C' s₀ H₀ ex
      dsimp only [tNoTest,gName]
      refine iteT ?_
      refine ⟨_,rfl,_,_,rfl,rfl,(by show (0 : Int) < 7; decide),_,rfl,_,_,rfl,rfl,_,rfl,_,_,rfl,rfl,⟨by decide,by decide⟩,_,_,rfl,rfl,_,_,rfl,rfl,(by show (0 : Int) < 7; decide),by show 2 ≤ sizeLine; decide,fun ti hti=>⟨by show 3 ≤ sizeLine; decide,fun to hto=>?_⟩⟩
      have sa:=same_upd (o:=.tup [.int 1,.int 1]) hti
      have sb:=same_upd (o:=.tup [.int ((0 + (j : Int)) % 7),.int ((0 + (j : Int) + 1 + (0 + (j : Int)) / 7) % 7),.ref ti]) hto
      refine hN _ _ ⟨(sj.trans sa).trans sb,?_⟩
      rw [List.range_succ,List.map_append]
      refine PipesAt.snoc (PipesAt.same (sa.trans sb) hY) ⟨to,ti,rfl,SqT.of ?_,SqT.of (sb _ _ upd_same)⟩
      rw [upd_same,Int.zero_add]
      rfl
    · rintro ys H' ⟨sj,hY⟩ l hl
      have sL:=same_upd (o:=.lst ys) hl
      have eL : (upd H' l (.lst ys)) l = some (.lst ys):=upd_same
      have hY2:=PipesAt.same sL hY
      generalize upd H' l (.lst ys) = HL at sL eL hY2 ⊢
      refine ⟨_,rfl,?_⟩
      intro x dx0 nx0 ndx0 nex0
      have s0N:=made_s0 (C:=C) nx0 ndx0
      have hpN : PipesAt K _ _ psD:=hY2
      have hnN : netD (.int 7) (.list (pipesD psD)) = true:=nD
      refine ⟨x,dx0,.int 7,_,.int 7,.list (pipesD psD),rfl,upd_same,.int _,.lst (SqL.of (s0N _ _ eL)) (PipesAt.same s0N hpN).reps,fun h=>(by rw [hnN] at h; cases h),fun _ n' ps' HN L e1 e2 ok hL net kp=>⟨rfl,?_⟩⟩
      obtain ⟨rfl,rfl⟩:=net_eq e1 e2
      have sN:=made_same (n:=7) nx0 ndx0 kp
      have sAll:=(sj.trans sL).trans sN
      obtain ⟨z0,z7⟩:=lt7 (z:=600000000 + (i.val : Int))
      refine ⟨_,rfl,_,_,rfl,rfl,(by show (0 : Int) < 7; decide),?_⟩
      dsimp only
      generalize (600000000 + (i.val : Int)) % 7 = zz at z0 z7 ⊢
      refine ⟨x,L,7,psD,.int zz,.int zz,rfl,net,ok,.int _,by decide,fun h=>?_,fun _=>⟨ezChk_sm sD,fun m k e1 e2=>?_⟩⟩
      · rw [show countsD (.int zz) ((7 : Nat) : Int) = true from decide_eq_true ⟨z0,z7⟩] at h
        cases h
      · obtain rfl : m = 6:=by omega
        injection e2 with e2
        subst e2
        exact ⟨fun no=>absurd (netD_net (outD ⟨k,by omega⟩)) no,fun _ H' x' s'=>hD _ _ (sAll.trans s')⟩
set_option maxHeartbeats 40000000 in
theorem rd_7 {cdv : Value} {A : Around} {outer : List Env} {s : Shared} {H : Hp} {E : XK} (hr : Room 12 (A.deeper (PyProof.Rows.envOfC "_law_come" (defScope s__law_come) s.heap.objs.size f cdv))) (T : TxtC K mg c6) (U : TxtS K mg CB CN c3 c4 CE c5 c6) (m__law_sort : mg "_law_sort" = some (.ref f0)) (k__law_sort : PySem.W.keepIn K (.ref f0) = true) (b__law_sort : Binds K fd0 ["_law_error"] []) (G__law_sort : FnOkH P w K mg base 1 f0 fd0 ["_law_error"] (spSort K CB CN c3 c4 CE c5 c6))
    (M_Net : Mk K C fi) (m_Net : mg "Net" = some (.ref C)) (b_Net : Binds K fdi ["self","places","pipes"] []) (G_Net : FnOk P w K mg base (CXX P w) 6 fi fdi ["self","places","pipes"] (spInitX K C CB))
    (m_with_pipe : mg "with_pipe" = some (.ref f1)) (k_with_pipe : PySem.W.keepIn K (.ref f1) = true) (b_with_pipe : Binds K fd1 ["net","one","other","hardness"] []) (G_with_pipe : FnOk P w K mg base (CXX P w) 9 f1 fd1 ["net","one","other","hardness"] (spWithX K C CB))
    (m_taken_out : mg "taken_out" = some (.ref f2)) (k_taken_out : PySem.W.keepIn K (.ref f2) = true) (b_taken_out : Binds K fd2 ["net","at"] []) (G_taken_out : FnOk P w K mg base (CXX P w) 10 f2 fd2 ["net","at"] (spOut K C CN CB))
    (m_slim : mg "slim" = some (.ref f3)) (k_slim : PySem.W.keepIn K (.ref f3) = true) (b_slim : Binds K fd3 ["net"] []) (G_slim : FnOk P w K mg base (CXX P w) 10 f3 fd3 ["net"] (spSlim K C CB))
    {E' : XK} {D : Ends} {v : V} (i : _root_.Fin 1000) (hD : ∀ σ' H',Same H H' → D.nx σ' H') : (lf_7 (outer:=outer) (H:=H) (E:=E) hr T U m__law_sort k__law_sort b__law_sort G__law_sort M_Net m_Net b_Net G_Net m_with_pipe k_with_pipe b_with_pipe G_with_pipe m_taken_out k_taken_out b_taken_out G_taken_out m_slim k_slim b_slim G_slim).1 E' D [some v,some (.int (600000000 + (i.val : Int))),none,none] H:=by
    refine ⟨by show 2 ≤ sizeLine; decide,fun t0 ht0=>?_⟩
    have sI0:=same_upd (o:=.tup [.int (1),.int (1)]) ht0
    have eI0 : (upd H t0 (.tup [.int (1),.int (1)])) t0 = some (.tup [.int (1),.int (1)]):=upd_same
    generalize upd H t0 (.tup [.int (1),.int (1)]) = HI0 at sI0 eI0 ⊢
    refine ⟨by show 3 ≤ sizeLine; decide,fun o0 ho0=>?_⟩
    have sO0:=same_upd (o:=.tup [.int 0,.int 1,.ref t0]) ho0
    have eO0 : (upd HI0 o0 (.tup [.int 0,.int 1,.ref t0])) o0 = some (.tup [.int 0,.int 1,.ref t0]):=upd_same
    generalize upd HI0 o0 (.tup [.int 0,.int 1,.ref t0]) = HO0 at sO0 eO0 ⊢
    refine ⟨by show 1 ≤ sizeLine; decide,fun l hl=>?_⟩
    have sL:=same_upd (o:=.lst [.ref o0]) hl
    have eL : (upd HO0 l (.lst [.ref o0])) l = some (.lst [.ref o0]):=upd_same
    generalize upd HO0 l (.lst [.ref o0]) = HL at sL eL ⊢
    have tO0:=sL
    have tI0:=sO0.trans tO0
    have s0L:=sI0.trans tI0
    refine ⟨l,27,_,rfl,rfl,eL,by decide,by decide,by show 1 * 27 ≤ sizeLine; decide,fun l2 hl2=>?_⟩
    rw [show (List.replicate (27 : Int).toNat [V.ref o0]).flatten = List.replicate 27 (V.ref o0) from fl_one 27]
    have sR:=same_upd (o:=.lst (List.replicate 27 (V.ref o0))) hl2
    have eR : (upd HL l2 (.lst (List.replicate 27 (V.ref o0)))) l2 = some (.lst (List.replicate 27 (V.ref o0))):=upd_same
    generalize upd HL l2 (.lst (List.replicate 27 (V.ref o0))) = HR at sR eR ⊢
    have s0R:=s0L.trans sR
    have paR : PipesAt K HR (List.replicate 27 (V.ref o0)) (List.replicate 27 ⟨0,1,1,1⟩):=repl_at ⟨o0,t0,rfl,SqT.of ((tO0.trans sR) _ _ eO0),SqT.of ((tI0.trans sR) _ _ eI0)⟩ 27
    intro x dx0 nx0 ndx0 nex0
    have s0N:=made_s0 (C:=C) nx0 ndx0
    have hpN : PipesAt K _ _ (List.replicate 27 ⟨0,1,1,1⟩):=paR
    have hnN : netD (.int 2) (.list (pipesD (List.replicate 27 ⟨0,1,1,1⟩))) = true:=(by decide +kernel)
    refine ⟨x,dx0,.int 2,_,.int 2,.list (pipesD (List.replicate 27 ⟨0,1,1,1⟩)),rfl,upd_same,.int _,.lst (SqL.of (s0N _ _ eR)) (PipesAt.same s0N hpN).reps,fun h=>(by rw [hnN] at h; cases h),fun _ n' ps' HN L e1 e2 ok hL net kp=>⟨rfl,?_⟩⟩
    obtain ⟨rfl,rfl⟩:=net_eq e1 e2
    have sN:=made_same (n:=2) nx0 ndx0 kp
    refine ⟨by show 2 ≤ sizeLine; decide,fun th hth=>?_⟩
    have sT:=same_upd (o:=.tup [.int 1,.int 1]) hth
    have sAll:=(s0R.trans sN).trans sT
    exact ⟨x,L,th,2,(List.replicate 27 ⟨0,1,1,1⟩),⟨0,1,1,1⟩,rfl,net.same sT,by first | decide | (rw [List.length_replicate]; decide),SqT.of upd_same,fun no=>absurd (netD_net (by decide +kernel)) no,fun _ H' v s'=>hD _ _ (sAll.trans s')⟩
end
end K2
namespace K2
open PySem L2 Mp St Bz
section
variable {P : Program} {w : World} {K : PySem.W.Frag} {mg : Str → Option Value} {base : Heap} {C CB CN c3 c4 CE c5 c6 f fi f0 f1 f2 f3 : Addr} {fd fdi fd0 fd1 fd2 fd3 : FuncData} {t1 t2 t3 : Tok}
set_option maxHeartbeats 40000000 in
theorem ok_come (F : Fun K "_law_come" "_law_come" s__law_come f fd) (T : TxtC K mg c6) (U : TxtS K mg CB CN c3 c4 CE c5 c6) (m__law_sort : mg "_law_sort" = some (.ref f0)) (k__law_sort : PySem.W.keepIn K (.ref f0) = true) (b__law_sort : Binds K fd0 ["_law_error"] []) (G__law_sort : FnOkH P w K mg base 1 f0 fd0 ["_law_error"] (spSort K CB CN c3 c4 CE c5 c6))
    (M_Net : Mk K C fi) (m_Net : mg "Net" = some (.ref C)) (b_Net : Binds K fdi ["self","places","pipes"] []) (G_Net : FnOk P w K mg base (CXX P w) 6 fi fdi ["self","places","pipes"] (spInitX K C CB))
    (m_with_pipe : mg "with_pipe" = some (.ref f1)) (k_with_pipe : PySem.W.keepIn K (.ref f1) = true) (b_with_pipe : Binds K fd1 ["net","one","other","hardness"] []) (G_with_pipe : FnOk P w K mg base (CXX P w) 9 f1 fd1 ["net","one","other","hardness"] (spWithX K C CB))
    (m_taken_out : mg "taken_out" = some (.ref f2)) (k_taken_out : PySem.W.keepIn K (.ref f2) = true) (b_taken_out : Binds K fd2 ["net","at"] []) (G_taken_out : FnOk P w K mg base (CXX P w) 10 f2 fd2 ["net","at"] (spOut K C CN CB))
    (m_slim : mg "slim" = some (.ref f3)) (k_slim : PySem.W.keepIn K (.ref f3) = true) (b_slim : Binds K fd3 ["net"] []) (G_slim : FnOk P w K mg base (CXX P w) 10 f3 fd3 ["net"] (spSlim K C CB)) : FnOk P w K mg base CX0 13 f fd ["_law_way","_law_hard"] spCome:=by
  refine F.ok sc__law_come (fun vs H Q E h=>?_) (fun cdv A outer s H vs Q E hr h=>?_)
  · obtain ⟨way,i,rfl,_⟩:=h
    rfl
  · obtain ⟨way,i,rfl,w8,q⟩:=h
    refine ⟨_,(@pss_cons _ _ _ _ _ (@ps_try _ _ _ _ _ _ _ _ _ _ _ _ 3 _ _ rfl rfl rfl rfl rfl rfl sc__law_come.nd rfl rfl rfl T.m_NetError (fun E pn xe hPs=>(@pss_one _ _ _ (@ps_if _ _ _ _ _ _ _ _ (@pt_cmpR _ _ _ _ _ _ _ _ op_eq (pv 0) pe_int (nomark _)) ((lf_0 hr T U m__law_sort k__law_sort b__law_sort G__law_sort M_Net m_Net b_Net G_Net m_with_pipe k_with_pipe b_with_pipe G_with_pipe m_taken_out k_taken_out b_taken_out G_taken_out m_slim k_slim b_slim G_slim).2 E pn xe hPs) (@pss_one _ _ _ (@ps_if _ _ _ _ _ _ _ _ (@pt_cmpR _ _ _ _ _ _ _ _ op_eq (pv 0) pe_int (nomark _)) ((lf_1 hr T U m__law_sort k__law_sort b__law_sort G__law_sort M_Net m_Net b_Net G_Net m_with_pipe k_with_pipe b_with_pipe G_with_pipe m_taken_out k_taken_out b_taken_out G_taken_out m_slim k_slim b_slim G_slim).2 E pn xe hPs) (@pss_one _ _ _ (@ps_if _ _ _ _ _ _ _ _ (@pt_cmpR _ _ _ _ _ _ _ _ op_eq (pv 0) pe_int (nomark _)) ((lf_2 hr T U m__law_sort k__law_sort b__law_sort G__law_sort M_Net m_Net b_Net G_Net m_with_pipe k_with_pipe b_with_pipe G_with_pipe m_taken_out k_taken_out b_taken_out G_taken_out m_slim k_slim b_slim G_slim).2 E pn xe hPs) (@pss_one _ _ _ (@ps_if _ _ _ _ _ _ _ _ (@pt_cmpR _ _ _ _ _ _ _ _ op_eq (pv 0) pe_int (nomark _)) ((lf_3 hr T U m__law_sort k__law_sort b__law_sort G__law_sort M_Net m_Net b_Net G_Net m_with_pipe k_with_pipe b_with_pipe G_with_pipe m_taken_out k_taken_out b_taken_out G_taken_out m_slim k_slim b_slim G_slim).2 E pn xe hPs) (@pss_one _ _ _ (@ps_if _ _ _ _ _ _ _ _ (@pt_cmpR _ _ _ _ _ _ _ _ op_eq (pv 0) pe_int (nomark _)) ((lf_4 hr T U m__law_sort k__law_sort b__law_sort G__law_sort M_Net m_Net b_Net G_Net m_with_pipe k_with_pipe b_with_pipe G_with_pipe m_taken_out k_taken_out b_taken_out G_taken_out m_slim k_slim b_slim G_slim).2 E pn xe hPs) (@pss_one _ _ _ (@ps_if _ _ _ _ _ _ _ _ (@pt_cmpR _ _ _ _ _ _ _ _ op_eq (pv 0) pe_int (nomark _)) ((lf_5 hr T U m__law_sort k__law_sort b__law_sort G__law_sort M_Net m_Net b_Net G_Net m_with_pipe k_with_pipe b_with_pipe G_with_pipe m_taken_out k_taken_out b_taken_out G_taken_out m_slim k_slim b_slim G_slim).2 E pn xe hPs) (@pss_one _ _ _ (@ps_if _ _ _ _ _ _ _ _ (@pt_cmpR _ _ _ _ _ _ _ _ op_eq (pv 0) pe_int (nomark _)) ((lf_6 hr T U m__law_sort k__law_sort b__law_sort G__law_sort M_Net m_Net b_Net G_Net m_with_pipe k_with_pipe b_with_pipe G_with_pipe m_taken_out k_taken_out b_taken_out G_taken_out m_slim k_slim b_slim G_slim).2 E pn xe hPs) ((lf_7 hr T U m__law_sort k__law_sort b__law_sort G__law_sort M_Net m_Net b_Net G_Net m_with_pipe k_with_pipe b_with_pipe G_with_pipe m_taken_out k_taken_out b_taken_out G_taken_out m_slim k_slim b_slim G_slim).2 E pn xe hPs)))))))))))))))) (fun a=>(@pss_one _ _ _ (@ps_ret _ _ _ _ (@pe_callH _ _ _ _ _ _ _ _ _ _ _ _ G__law_sort (hr.held (by decide) _) rfl m__law_sort k__law_sort b__law_sort (@pa_cons _ _ _ _ _ (pv 3) pa_nil (by rfl)) (by decide) (by rfl) (by rfl))))) (by decide)) (@pss_one _ _ _ (@ps_ret _ _ _ _ pe_str))),?_⟩
    have qT : 4 ≤ way → ∀ H',Same H H' → Q (.str nilS) H':=fun h H' s'=>by
      have:=q H' s'
      rw [if_neg (by omega)] at this
      exact this
    have qF : way < 4 → ∀ H',Same H H' → Q (.str (nmW 0)) H':=fun h H' s'=>by
      have:=q H' s'
      rw [if_pos h] at this
      exact this
    refine ⟨fun cls _ H'=>cls = .ref CB ∧ Same H H' ∧ way < 4,?_,?_⟩
    rotate_left
    · rintro a cls H' ⟨rfl,s0,w4⟩ ha
      refine ⟨U.x_BadNet,?_⟩
      have s1 : Same H' (upd H' a (ExcAt a (.ref CB))):=same_upd ha
      exact ⟨_,rfl,a,CB,0,rfl,upd_same,U.k0,fun H2 s2=>qF w4 H2 ((s0.trans s1).trans s2)⟩
    refine ⟨_,rfl,rfl,_,rfl,?_⟩
    by_cases w0 : way = 0
    · rw [decide_eq_true (show V.int (way : Int) = V.int 0 by rw [w0]; rfl)]
      refine iteT ?_
      exact rd_0 hr T U m__law_sort k__law_sort b__law_sort G__law_sort M_Net m_Net b_Net G_Net m_with_pipe k_with_pipe b_with_pipe G_with_pipe m_taken_out k_taken_out b_taken_out G_taken_out m_slim k_slim b_slim G_slim i (fun H' s'=>⟨rfl,s',by omega⟩)
    rw [decide_eq_false (show ¬ V.int (way : Int) = V.int 0 from fun z=>w0 (by injection z with z; omega))]
    refine iteF ?_
    refine ⟨_,rfl,rfl,_,rfl,?_⟩
    by_cases w1 : way = 1
    · rw [decide_eq_true (show V.int (way : Int) = V.int 1 by rw [w1]; rfl)]
      refine iteT ?_
      exact rd_1 hr T U m__law_sort k__law_sort b__law_sort G__law_sort M_Net m_Net b_Net G_Net m_with_pipe k_with_pipe b_with_pipe G_with_pipe m_taken_out k_taken_out b_taken_out G_taken_out m_slim k_slim b_slim G_slim i (fun H' s'=>⟨rfl,s',by omega⟩)
    rw [decide_eq_false (show ¬ V.int (way : Int) = V.int 1 from fun z=>w1 (by injection z with z; omega))]
    refine iteF ?_
    refine ⟨_,rfl,rfl,_,rfl,?_⟩
    by_cases w2 : way = 2
    · rw [decide_eq_true (show V.int (way : Int) = V.int 2 by rw [w2]; rfl)]
      refine iteT ?_
      exact rd_2 hr T U m__law_sort k__law_sort b__law_sort G__law_sort M_Net m_Net b_Net G_Net m_with_pipe k_with_pipe b_with_pipe G_with_pipe m_taken_out k_taken_out b_taken_out G_taken_out m_slim k_slim b_slim G_slim i (fun H' s'=>⟨rfl,s',by omega⟩)
    rw [decide_eq_false (show ¬ V.int (way : Int) = V.int 2 from fun z=>w2 (by injection z with z; omega))]
    refine iteF ?_
    refine ⟨_,rfl,rfl,_,rfl,?_⟩
    by_cases w3 : way = 3
    · rw [decide_eq_true (show V.int (way : Int) = V.int 3 by rw [w3]; rfl)]
      refine iteT ?_
      exact rd_3 hr T U m__law_sort k__law_sort b__law_sort G__law_sort M_Net m_Net b_Net G_Net m_with_pipe k_with_pipe b_with_pipe G_with_pipe m_taken_out k_taken_out b_taken_out G_taken_out m_slim k_slim b_slim G_slim i (fun H' s'=>⟨rfl,s',by omega⟩)
    rw [decide_eq_false (show ¬ V.int (way : Int) = V.int 3 from fun z=>w3 (by injection z with z; omega))]
    refine iteF ?_
    refine ⟨_,rfl,rfl,_,rfl,?_⟩
    by_cases w4 : way = 4
    · rw [decide_eq_true (show V.int (way : Int) = V.int 4 by rw [w4]; rfl)]
      refine iteT ?_
      exact rd_4 hr T U m__law_sort k__law_sort b__law_sort G__law_sort M_Net m_Net b_Net G_Net m_with_pipe k_with_pipe b_with_pipe G_with_pipe m_taken_out k_taken_out b_taken_out G_taken_out m_slim k_slim b_slim G_slim i (fun _ H' s'=>qT (by omega) H' s')
    rw [decide_eq_false (show ¬ V.int (way : Int) = V.int 4 from fun z=>w4 (by injection z with z; omega))]
    refine iteF ?_
    refine ⟨_,rfl,rfl,_,rfl,?_⟩
    by_cases w5 : way = 5
    · rw [decide_eq_true (show V.int (way : Int) = V.int 5 by rw [w5]; rfl)]
      refine iteT ?_
      exact rd_5 hr T U m__law_sort k__law_sort b__law_sort G__law_sort M_Net m_Net b_Net G_Net m_with_pipe k_with_pipe b_with_pipe G_with_pipe m_taken_out k_taken_out b_taken_out G_taken_out m_slim k_slim b_slim G_slim i (fun _ H' s'=>qT (by omega) H' s')
    rw [decide_eq_false (show ¬ V.int (way : Int) = V.int 5 from fun z=>w5 (by injection z with z; omega))]
    refine iteF ?_
    refine ⟨_,rfl,rfl,_,rfl,?_⟩
    by_cases w6 : way = 6
    · rw [decide_eq_true (show V.int (way : Int) = V.int 6 by rw [w6]; rfl)]
      refine iteT ?_
      exact rd_6 hr T U m__law_sort k__law_sort b__law_sort G__law_sort M_Net m_Net b_Net G_Net m_with_pipe k_with_pipe b_with_pipe G_with_pipe m_taken_out k_taken_out b_taken_out G_taken_out m_slim k_slim b_slim G_slim i (fun _ H' s'=>qT (by omega) H' s')
    rw [decide_eq_false (show ¬ V.int (way : Int) = V.int 6 from fun z=>w6 (by injection z with z; omega))]
    refine iteF ?_
    exact rd_7 hr T U m__law_sort k__law_sort b__law_sort G__law_sort M_Net m_Net b_Net G_Net m_with_pipe k_with_pipe b_with_pipe G_with_pipe m_taken_out k_taken_out b_taken_out G_taken_out m_slim k_slim b_slim G_slim i (fun _ H' s'=>qT (by omega) H' s')
end
end K2
namespace K2
open PySem L2 Mp
def spCell (K : PySem.W.Frag) : Sp:=fun vs H Q _=>∃ (a : Addr) (ns : List Int) (k : Int),vs = [.ref a,.int k] ∧ 0 ≤ k ∧ SqL K H a (ns.map V.int) ∧ ∀ z,Q (.int z) H
section
variable {P : Program} {w : World} {K : PySem.W.Frag} {mg : Str → Option Value} {base : Heap} {C f : Addr} {fd : FuncData} {t1 t2 t3 : Tok}
theorem ok_cell (F : Fun K "_law_cell_at" "_law_cell_at" s__law_cell_at f fd) (T : Txt K mg C t1 t2 t3) : FnOk P w K mg base CX0 1 f fd ["_law_script","_law_k"] (spCell K):=by
  refine F.ok sc__law_cell_at (fun vs H Q E h=>?_) (fun cdv A outer s H vs Q E hr h=>?_)
  · obtain ⟨a,ns,k,rfl,_⟩:=h
    rfl
  · obtain ⟨a,ns,k,rfl,k0,sq,q⟩:=h
    obtain ⟨k,rfl⟩ : ∃ m : Nat,k = m:=⟨k.toNat,by omega⟩
    refine ⟨_,(pss_cons (ps_if (pt_cmpR op_lt (pv 1) (pe_callB call_len_seq (by rfl) T.n_len bt_len (pa_cons (pv 0) pa_nil)) (nomark _)) (pss_one (ps_ret (pe_ix ix_list (pv 0) (pv 1) (fun _ _=>rfl)))) pss_nil)
      (pss_one (ps_ret pe_int))),?_⟩
    refine ⟨_,rfl,_,rfl,a,_,rfl,.inl sq,_,_,rfl,rfl,_,rfl,?_⟩
    refine ite2 (fun h=>?_) (fun h=>?_)
    · have h' : (k : Int) < ((ns.map V.int).length : Nat):=of_decide_eq_true h
      have hk : k < ns.length:=by rw [List.length_map] at h'; omega
      refine ⟨_,rfl,_,rfl,a,_,_,_,rfl,rfl,sq,atI_nat (j:=k) (v:=.int (ns.getD k 0)) ?_,q _⟩
      rw [List.getElem?_map,List.getD_eq_getElem?_getD,List.getElem?_eq_getElem hk]
      rfl
    · exact q _
end
end K2
namespace K2
open PySem L2 Mp St Bz
section
structure Calls2 (P : Program) (w : World) (K : PySem.W.Frag) (mg : Str → Option Value) (base : Heap) (C CB fx0 fx1 fx2 fx3 fx4 fx5 : Addr) (fdx0 fdx1 fdx2 fdx3 fdx4 fdx5 : FuncData) : Prop where
  m__law_cell_at : mg "_law_cell_at" = some (.ref fx0)
  k__law_cell_at : PySem.W.keepIn K (.ref fx0) = true
  b__law_cell_at : Binds K fdx0 ["_law_script","_law_k"] []
  G__law_cell_at : FnOk P w K mg base CX0 1 fx0 fdx0 ["_law_script","_law_k"] (spCell K)
  m__law_net : mg "_law_net" = some (.ref fx1)
  k__law_net : PySem.W.keepIn K (.ref fx1) = true
  b__law_net : Binds K fdx1 ["_law_places","_law_pipes"] []
  G__law_net : FnOk P w K mg base CX0 9 fx1 fdx1 ["_law_places","_law_pipes"] (spLawNet K)
  M_Net : Mk K C fx2
  m_Net : mg "Net" = some (.ref C)
  b_Net : Binds K fdx2 ["self","places","pipes"] []
  G_Net : FnOk P w K mg base (CXX P w) 6 fx2 fdx2 ["self","places","pipes"] (spInitX K C CB)
  m__law_asked : mg "_law_asked" = some (.ref fx3)
  k__law_asked : PySem.W.keepIn K (.ref fx3) = true
  b__law_asked : Binds K fdx3 ["_law_net_here","_law_way","_law_thing"] []
  G__law_asked : FnOk P w K mg base CX0 14 fx3 fdx3 ["_law_net_here","_law_way","_law_thing"] (spAsked K C)
  m__law_told : mg "_law_told" = some (.ref fx4)
  k__law_told : PySem.W.keepIn K (.ref fx4) = true
  b__law_told : Binds K fdx4 ["_law_net_here","_law_thing"] []
  G__law_told : FnOk P w K mg base CX0 6 fx4 fdx4 ["_law_net_here","_law_thing"] (spTold12 K C)
  m__law_come : mg "_law_come" = some (.ref fx5)
  k__law_come : PySem.W.keepIn K (.ref fx5) = true
  b__law_come : Binds K fdx5 ["_law_way","_law_hard"] []
  G__law_come : FnOk P w K mg base CX0 13 fx5 fdx5 ["_law_way","_law_hard"] spCome
variable {P : Program} {w : World} {K : PySem.W.Frag} {mg : Str → Option Value} {base : Heap} {f C CB fx0 fx1 fx2 fx3 fx4 fx5 : Addr} {fd fdx0 fdx1 fdx2 fdx3 fdx4 fdx5 : FuncData} {t1 t2 t3 : Tok}
set_option maxHeartbeats 40000000 in
noncomputable def der_law {cdv : Value} {A : Around} {outer : List Env} {s : Shared} {H : Hp} {E : XK} (hr : Room 14 (A.deeper (PyProof.Rows.envOfC "law" (defScope s_law) s.heap.objs.size f cdv))) (T : Txt K mg C t1 t2 t3) (cs : Calls2 P w K mg base C CB fx0 fx1 fx2 fx3 fx4 fx5 fdx0 fdx1 fdx2 fdx3 fdx4 fdx5) :
    (t : TS) ×' PSs (cxOf CX0 P w K mg base ["_law_script","_law_far","_law_one","_law_places","_law_bad","_law_pipes","_law_great","_law_hardness","_law_pipe","_law_net_here","_law_thing","_law_way","_law_flows"] "law" (defScope s_law) f cdv A outer s H E).nox (defBody s_law) t:=by
  have m__law_cell_at:=cs.m__law_cell_at
  have k__law_cell_at:=cs.k__law_cell_at
  have b__law_cell_at:=cs.b__law_cell_at
  have G__law_cell_at:=cs.G__law_cell_at
  have m__law_net:=cs.m__law_net
  have k__law_net:=cs.k__law_net
  have b__law_net:=cs.b__law_net
  have G__law_net:=cs.G__law_net
  have M_Net:=cs.M_Net
  have m_Net:=cs.m_Net
  have b_Net:=cs.b_Net
  have G_Net:=cs.G_Net
  have m__law_asked:=cs.m__law_asked
  have k__law_asked:=cs.k__law_asked
  have b__law_asked:=cs.b__law_asked
  have G__law_asked:=cs.G__law_asked
  have m__law_told:=cs.m__law_told
  have k__law_told:=cs.k__law_told
  have b__law_told:=cs.b__law_told
  have G__law_told:=cs.G__law_told
  have m__law_come:=cs.m__law_come
  have k__law_come:=cs.k__law_come
  have b__law_come:=cs.b__law_come
  have G__law_come:=cs.G__law_come
  exact ⟨_,(@pss_cons _ _ _ _ _ (@ps_set _ _ 1 _ _ _ _ sc_law.nd rfl (Or.inr rfl) (@pe_op _ _ _ _ _ _ _ _ op_mod (@pe_call _ _ _ _ _ _ _ _ _ _ _ _ _ _ _ _ G__law_cell_at (hr.mono (by decide)) rfl m__law_cell_at k__law_cell_at b__law_cell_at .nil pass0 (@pa_cons _ _ _ _ _ (pv 0) (@pa_cons _ _ _ _ _ pe_int pa_nil (by rfl)) (by rfl)) (by decide) (by rfl) (by rfl)) pe_int) (by rfl) (by first | exact .inl rfl | exact .inr rfl | assumption)) (@pss_cons _ _ _ _ _ (@ps_set _ _ 2 _ _ _ _ sc_law.nd rfl (Or.inl rfl) (@pe_tup _ _ _ _ _ (@pa_cons _ _ _ _ _ pe_int (@pa_cons _ _ _ _ _ pe_int pa_nil (by rfl)) (by rfl))) (by rfl) (by first | exact .inl rfl | exact .inr rfl | assumption)) (@pss_cons _ _ _ _ _ (@ps_for _ _ _ _ _ _ _ _ PassesOwn.never rfl (@pi_list _ _ _ _ (@pe_lst _ _ _ _ (@pa_cons _ _ _ _ _ pe_int (@pa_cons _ _ _ _ _ (@pe_op _ _ _ _ _ _ _ _ op_add pe_int (pv 1)) (@pa_cons _ _ _ _ _ (@pe_op _ _ _ _ _ _ _ _ op_sub (@pe_un _ _ _ _ _ _ un_neg pe_int) (pv 1)) (@pa_cons _ _ _ _ _ pe_bl (@pa_cons _ _ _ _ _ pe_str (@pa_cons _ _ _ _ _ pe_non pa_nil (by rfl)) (by rfl)) (by rfl)) (by rfl)) (by rfl)) (by rfl)))) (pg_name (i:=3) sc_law.nd rfl (Or.inl rfl)) (@pss_one _ _ _ (@ps_if _ _ _ _ _ _ _ _ (@pt_cmpR _ _ _ _ _ _ _ _ op_ne (@pe_call _ _ _ _ _ _ _ _ _ _ _ _ _ _ _ _ G__law_net (hr.mono (by decide)) rfl m__law_net k__law_net b__law_net .nil pass0 (@pa_cons _ _ _ _ _ (pv 3) (@pa_cons _ _ _ _ _ (@pe_lst _ _ _ _ pa_nil) pa_nil (by rfl)) (by rfl)) (by decide) (by rfl) (by rfl)) pe_str (nomark _)) (@pss_one _ _ _ (@ps_ret _ _ _ _ pe_bl)) pss_nil)) (by intro _; rfl)) (@pss_cons _ _ _ _ _ (@ps_set _ _ 4 _ _ _ _ sc_law.nd rfl (Or.inl rfl) (@pe_lst _ _ _ _ (@pa_cons _ _ _ _ _ pe_non (@pa_cons _ _ _ _ _ (@pe_tup _ _ _ _ _ (@pa_cons _ _ _ _ _ (@pe_tup _ _ _ _ _ (@pa_cons _ _ _ _ _ pe_int (@pa_cons _ _ _ _ _ pe_int (@pa_cons _ _ _ _ _ (pv 2) pa_nil (by rfl)) (by rfl)) (by rfl))) pa_nil (by rfl))) (@pa_cons _ _ _ _ _ (@pe_lst _ _ _ _ (@pa_cons _ _ _ _ _ (@pe_tup _ _ _ _ _ (@pa_cons _ _ _ _ _ pe_int (@pa_cons _ _ _ _ _ pe_int pa_nil (by rfl)) (by rfl))) pa_nil (by rfl))) (@pa_cons _ _ _ _ _ (@pe_lst _ _ _ _ (@pa_cons _ _ _ _ _ (@pe_lst _ _ _ _ (@pa_cons _ _ _ _ _ pe_int (@pa_cons _ _ _ _ _ pe_int (@pa_cons _ _ _ _ _ (pv 2) pa_nil (by rfl)) (by rfl)) (by rfl))) pa_nil (by rfl))) (@pa_cons _ _ _ _ _ (@pe_lst _ _ _ _ (@pa_cons _ _ _ _ _ (@pe_tup _ _ _ _ _ (@pa_cons _ _ _ _ _ pe_int (@pa_cons _ _ _ _ _ pe_int (@pa_cons _ _ _ _ _ (pv 2) pa_nil (by rfl)) (by rfl)) (by rfl))) pa_nil (by rfl))) (@pa_cons _ _ _ _ _ (@pe_lst _ _ _ _ (@pa_cons _ _ _ _ _ (@pe_tup _ _ _ _ _ (@pa_cons _ _ _ _ _ pe_int (@pa_cons _ _ _ _ _ (@pe_op _ _ _ _ _ _ _ _ op_add pe_int (pv 1)) (@pa_cons _ _ _ _ _ (pv 2) pa_nil (by rfl)) (by rfl)) (by rfl))) pa_nil (by rfl))) pa_nil (by rfl)) (by rfl)) (by rfl)) (by rfl)) (by rfl)) (by rfl))) (by rfl) (by first | exact .inl rfl | exact .inr rfl | assumption)) (@pss_cons _ _ _ _ _ (@ps_for _ _ _ _ _ _ _ _ PassesOwn.never rfl (@pi_list _ _ _ _ (@pe_op _ _ _ _ _ _ _ _ op_cat (pv 4) (@pe_lst _ _ _ _ (@pa_cons _ _ _ _ _ (@pe_op _ _ _ _ _ _ _ _ op_rep (@pe_lst _ _ _ _ (@pa_cons _ _ _ _ _ (@pe_tup _ _ _ _ _ (@pa_cons _ _ _ _ _ pe_int (@pa_cons _ _ _ _ _ pe_int (@pa_cons _ _ _ _ _ (pv 2) pa_nil (by rfl)) (by rfl)) (by rfl))) pa_nil (by rfl))) pe_int) pa_nil (by rfl))))) (pg_name (i:=5) sc_law.nd rfl (Or.inl rfl)) (@pss_one _ _ _ (@ps_if _ _ _ _ _ _ _ _ (@pt_cmpR _ _ _ _ _ _ _ _ op_ne (@pe_call _ _ _ _ _ _ _ _ _ _ _ _ _ _ _ _ G__law_net (hr.mono (by decide)) rfl m__law_net k__law_net b__law_net .nil pass0 (@pa_cons _ _ _ _ _ pe_int (@pa_cons _ _ _ _ _ (pv 5) pa_nil (by rfl)) (by rfl)) (by decide) (by rfl) (by rfl)) pe_str (nomark _)) (@pss_one _ _ _ (@ps_ret _ _ _ _ pe_bl)) pss_nil)) (by intro _; rfl)) (@pss_cons _ _ _ _ _ (@ps_set _ _ 6 _ _ _ _ sc_law.nd rfl (Or.inl rfl) (@pe_op _ _ _ _ _ _ _ _ op_add pe_int (pv 1)) (by rfl) (by first | exact .inl rfl | exact .inr rfl | assumption)) (@pss_cons _ _ _ _ _ (@ps_for _ _ _ _ _ _ _ _ PassesOwn.never rfl (@pi_list _ _ _ _ (@pe_lst _ _ _ _ (@pa_cons _ _ _ _ _ (@pe_tup _ _ _ _ _ (@pa_cons _ _ _ _ _ pe_int (@pa_cons _ _ _ _ _ pe_int pa_nil (by rfl)) (by rfl))) (@pa_cons _ _ _ _ _ (@pe_tup _ _ _ _ _ (@pa_cons _ _ _ _ _ pe_int (@pa_cons _ _ _ _ _ pe_int pa_nil (by rfl)) (by rfl))) (@pa_cons _ _ _ _ _ (@pe_tup _ _ _ _ _ (@pa_cons _ _ _ _ _ (@pe_un _ _ _ _ _ _ un_neg pe_int) (@pa_cons _ _ _ _ _ pe_int pa_nil (by rfl)) (by rfl))) (@pa_cons _ _ _ _ _ (@pe_tup _ _ _ _ _ (@pa_cons _ _ _ _ _ (pv 6) (@pa_cons _ _ _ _ _ pe_int pa_nil (by rfl)) (by rfl))) (@pa_cons _ _ _ _ _ (@pe_tup _ _ _ _ _ (@pa_cons _ _ _ _ _ pe_int (@pa_cons _ _ _ _ _ (pv 6) pa_nil (by rfl)) (by rfl))) (@pa_cons _ _ _ _ _ pe_int (@pa_cons _ _ _ _ _ (@pe_lst _ _ _ _ (@pa_cons _ _ _ _ _ pe_int (@pa_cons _ _ _ _ _ pe_int pa_nil (by rfl)) (by rfl))) (@pa_cons _ _ _ _ _ (@pe_tup _ _ _ _ _ (@pa_cons _ _ _ _ _ pe_bl (@pa_cons _ _ _ _ _ pe_int pa_nil (by rfl)) (by rfl))) (@pa_cons _ _ _ _ _ (@pe_tup _ _ _ _ _ (@pa_cons _ _ _ _ _ pe_int (@pa_cons _ _ _ _ _ pe_bl pa_nil (by rfl)) (by rfl))) pa_nil (by rfl)) (by rfl)) (by rfl)) (by rfl)) (by rfl)) (by rfl)) (by rfl)) (by rfl)) (by rfl)))) (pg_name (i:=7) sc_law.nd rfl (Or.inl rfl)) (@pss_one _ _ _ (@ps_if _ _ _ _ _ _ _ _ (@pt_cmpR _ _ _ _ _ _ _ _ op_ne (@pe_call _ _ _ _ _ _ _ _ _ _ _ _ _ _ _ _ G__law_net (hr.mono (by decide)) rfl m__law_net k__law_net b__law_net .nil pass0 (@pa_cons _ _ _ _ _ pe_int (@pa_cons _ _ _ _ _ (@pe_lst _ _ _ _ (@pa_cons _ _ _ _ _ (@pe_tup _ _ _ _ _ (@pa_cons _ _ _ _ _ pe_int (@pa_cons _ _ _ _ _ pe_int (@pa_cons _ _ _ _ _ (pv 2) pa_nil (by rfl)) (by rfl)) (by rfl))) (@pa_cons _ _ _ _ _ (@pe_tup _ _ _ _ _ (@pa_cons _ _ _ _ _ pe_int (@pa_cons _ _ _ _ _ pe_int (@pa_cons _ _ _ _ _ (pv 7) pa_nil (by rfl)) (by rfl)) (by rfl))) pa_nil (by rfl)) (by rfl))) pa_nil (by rfl)) (by rfl)) (by decide) (by rfl) (by rfl)) pe_str (nomark _)) (@pss_one _ _ _ (@ps_ret _ _ _ _ pe_bl)) pss_nil)) (by intro _; rfl)) (@pss_cons _ _ _ _ _ (@ps_for _ _ _ _ _ _ _ _ PassesOwn.never rfl (@pi_list _ _ _ _ (@pe_lst _ _ _ _ (@pa_cons _ _ _ _ _ (@pe_tup _ _ _ _ _ (@pa_cons _ _ _ _ _ (@pe_un _ _ _ _ _ _ un_neg pe_int) (@pa_cons _ _ _ _ _ pe_int (@pa_cons _ _ _ _ _ (pv 2) pa_nil (by rfl)) (by rfl)) (by rfl))) (@pa_cons _ _ _ _ _ (@pe_tup _ _ _ _ _ (@pa_cons _ _ _ _ _ pe_int (@pa_cons _ _ _ _ _ pe_bl (@pa_cons _ _ _ _ _ (pv 2) pa_nil (by rfl)) (by rfl)) (by rfl))) (@pa_cons _ _ _ _ _ (@pe_tup _ _ _ _ _ (@pa_cons _ _ _ _ _ pe_int (@pa_cons _ _ _ _ _ pe_int (@pa_cons _ _ _ _ _ (pv 2) (@pa_cons _ _ _ _ _ (pv 2) pa_nil (by rfl)) (by rfl)) (by rfl)) (by rfl))) (@pa_cons _ _ _ _ _ (@pe_tup _ _ _ _ _ (@pa_cons _ _ _ _ _ (@pe_lst _ _ _ _ (@pa_cons _ _ _ _ _ pe_int pa_nil (by rfl))) (@pa_cons _ _ _ _ _ pe_int (@pa_cons _ _ _ _ _ (pv 2) pa_nil (by rfl)) (by rfl)) (by rfl))) (@pa_cons _ _ _ _ _ (@pe_tup _ _ _ _ _ (@pa_cons _ _ _ _ _ pe_int (@pa_cons _ _ _ _ _ pe_str (@pa_cons _ _ _ _ _ (pv 2) pa_nil (by rfl)) (by rfl)) (by rfl))) pa_nil (by rfl)) (by rfl)) (by rfl)) (by rfl)) (by rfl)))) (pg_name (i:=8) sc_law.nd rfl (Or.inl rfl)) (@pss_one _ _ _ (@ps_if _ _ _ _ _ _ _ _ (@pt_cmpR _ _ _ _ _ _ _ _ op_ne (@pe_call _ _ _ _ _ _ _ _ _ _ _ _ _ _ _ _ G__law_net (hr.mono (by decide)) rfl m__law_net k__law_net b__law_net .nil pass0 (@pa_cons _ _ _ _ _ pe_int (@pa_cons _ _ _ _ _ (@pe_lst _ _ _ _ (@pa_cons _ _ _ _ _ (pv 8) pa_nil (by rfl))) pa_nil (by rfl)) (by rfl)) (by decide) (by rfl) (by rfl)) pe_str (nomark _)) (@pss_one _ _ _ (@ps_ret _ _ _ _ pe_bl)) pss_nil)) (by intro _; rfl)) (@pss_cons _ _ _ _ _ (@ps_if _ _ _ _ _ _ _ _ (@PW.pt _ _ _ (@pw_or _ _ _ _ _ _ _ (@pt_cmpR _ _ _ _ _ _ _ _ op_ne (@pe_call _ _ _ _ _ _ _ _ _ _ _ _ _ _ _ _ G__law_net (hr.mono (by decide)) rfl m__law_net k__law_net b__law_net .nil pass0 (@pa_cons _ _ _ _ _ pe_int (@pa_cons _ _ _ _ _ (@pe_op _ _ _ _ _ _ _ _ op_rep (@pe_lst _ _ _ _ (@pa_cons _ _ _ _ _ (@pe_tup _ _ _ _ _ (@pa_cons _ _ _ _ _ pe_int (@pa_cons _ _ _ _ _ pe_int (@pa_cons _ _ _ _ _ (@pe_tup _ _ _ _ _ (@pa_cons _ _ _ _ _ pe_int (@pa_cons _ _ _ _ _ pe_int pa_nil (by rfl)) (by rfl))) pa_nil (by rfl)) (by rfl)) (by rfl))) pa_nil (by rfl))) pe_int) pa_nil (by rfl)) (by rfl)) (by decide) (by rfl) (by rfl)) pe_str (nomark _)) (@pw_or1 _ _ _ _ (@pt_cmpR _ _ _ _ _ _ _ _ op_ne (@pe_call _ _ _ _ _ _ _ _ _ _ _ _ _ _ _ _ G__law_net (hr.mono (by decide)) rfl m__law_net k__law_net b__law_net .nil pass0 (@pa_cons _ _ _ _ _ pe_int (@pa_cons _ _ _ _ _ (@pe_lst _ _ _ _ pa_nil) pa_nil (by rfl)) (by rfl)) (by decide) (by rfl) (by rfl)) pe_str (nomark _))))) (@pss_one _ _ _ (@ps_ret _ _ _ _ pe_bl)) pss_nil) (@pss_cons _ _ _ _ _ (@ps_if _ _ _ _ _ _ _ _ (@pt_cmpR _ _ _ _ _ _ _ _ op_ne (@pe_call _ _ _ _ _ _ _ _ _ _ _ _ _ _ _ _ G__law_net (hr.mono (by decide)) rfl m__law_net k__law_net b__law_net .nil pass0 (@pa_cons _ _ _ _ _ pe_int (@pa_cons _ _ _ _ _ (@pe_lst _ _ _ _ (@pa_cons _ _ _ _ _ (@pe_tup _ _ _ _ _ (@pa_cons _ _ _ _ _ pe_int (@pa_cons _ _ _ _ _ pe_int (@pa_cons _ _ _ _ _ (@pe_tup _ _ _ _ _ (@pa_cons _ _ _ _ _ pe_int (@pa_cons _ _ _ _ _ pe_int pa_nil (by rfl)) (by rfl))) pa_nil (by rfl)) (by rfl)) (by rfl))) pa_nil (by rfl))) pa_nil (by rfl)) (by rfl)) (by decide) (by rfl) (by rfl)) pe_str (nomark _)) (@pss_one _ _ _ (@ps_ret _ _ _ _ pe_bl)) pss_nil) (@pss_cons _ _ _ _ _ (@ps_set _ _ 9 _ _ _ _ sc_law.nd rfl (Or.inl rfl) (@pe_make _ _ _ _ _ _ _ _ _ _ _ _ _ _ _ _ _ M_Net G_Net (hr.mono (by decide)) rfl m_Net b_Net .nil passF (@pa_cons _ _ _ _ _ pe_int (@pa_cons _ _ _ _ _ (@pe_lst _ _ _ _ (@pa_cons _ _ _ _ _ (@pe_tup _ _ _ _ _ (@pa_cons _ _ _ _ _ pe_int (@pa_cons _ _ _ _ _ pe_int (@pa_cons _ _ _ _ _ (pv 2) pa_nil (by rfl)) (by rfl)) (by rfl))) (@pa_cons _ _ _ _ _ (@pe_tup _ _ _ _ _ (@pa_cons _ _ _ _ _ pe_int (@pa_cons _ _ _ _ _ pe_int (@pa_cons _ _ _ _ _ (pv 2) pa_nil (by rfl)) (by rfl)) (by rfl))) pa_nil (by rfl)) (by rfl))) pa_nil (by rfl)) (by rfl)) (by decide) (by rfl) (by rfl)) (by rfl) (by first | exact .inl rfl | exact .inr rfl | assumption)) (@pss_cons _ _ _ _ _ (@ps_for _ _ _ _ _ _ _ _ PassesOwn.never rfl (@pi_list _ _ _ _ (@pe_lst _ _ _ _ (@pa_cons _ _ _ _ _ (@pe_op _ _ _ _ _ _ _ _ op_add pe_int (pv 1)) (@pa_cons _ _ _ _ _ (@pe_op _ _ _ _ _ _ _ _ op_sub (@pe_un _ _ _ _ _ _ un_neg pe_int) (pv 1)) (@pa_cons _ _ _ _ _ pe_bl (@pa_cons _ _ _ _ _ pe_str (@pa_cons _ _ _ _ _ pe_non pa_nil (by rfl)) (by rfl)) (by rfl)) (by rfl)) (by rfl)))) (pg_name (i:=10) sc_law.nd rfl (Or.inl rfl)) (@pss_cons _ _ _ _ _ (@ps_for _ _ _ _ _ _ _ _ PassesOwn.never rfl (@pi_range1 _ _ _ _ _ _ rfl T.n_range (@pa_cons _ _ _ _ _ pe_int pa_nil (by rfl)) (by rfl)) (pg_name (i:=11) sc_law.nd rfl (Or.inl rfl)) (@pss_one _ _ _ (@ps_if _ _ _ _ _ _ _ _ (@pt_cmpR _ _ _ _ _ _ _ _ op_ne (@pe_call _ _ _ _ _ _ _ _ _ _ _ _ _ _ _ _ G__law_asked (hr.mono (by decide)) rfl m__law_asked k__law_asked b__law_asked .nil pass0 (@pa_cons _ _ _ _ _ (pv 9) (@pa_cons _ _ _ _ _ (pv 11) (@pa_cons _ _ _ _ _ (pv 10) pa_nil (by rfl)) (by rfl)) (by rfl)) (by decide) (by rfl) (by rfl)) (@pe_ix _ _ _ _ _ _ _ ix_list (@pe_lst _ _ _ _ (@pa_cons _ _ _ _ _ pe_str (@pa_cons _ _ _ _ _ pe_str pa_nil (by rfl)) (by rfl))) (@pe_op _ _ _ _ _ _ _ _ op_fdiv (pv 11) pe_int) (fun _ _=>rfl)) (nomark _)) (@pss_one _ _ _ (@ps_ret _ _ _ _ pe_bl)) pss_nil)) (by intro _; rfl)) (@pss_one _ _ _ (@ps_if _ _ _ _ _ _ _ _ (@pt_cmpR _ _ _ _ _ _ _ _ op_ne (@pe_call _ _ _ _ _ _ _ _ _ _ _ _ _ _ _ _ G__law_told (hr.mono (by decide)) rfl m__law_told k__law_told b__law_told .nil pass0 (@pa_cons _ _ _ _ _ (pv 9) (@pa_cons _ _ _ _ _ (pv 10) pa_nil (by rfl)) (by rfl)) (by decide) (by rfl) (by rfl)) pe_str (nomark _)) (@pss_one _ _ _ (@ps_ret _ _ _ _ pe_bl)) pss_nil))) (by intro _; rfl)) (@pss_cons _ _ _ _ _ (@ps_for _ _ _ _ _ _ _ _ PassesOwn.never rfl (@pi_list _ _ _ _ (@pe_lst _ _ _ _ (@pa_cons _ _ _ _ _ pe_non (@pa_cons _ _ _ _ _ (@pe_lst _ _ _ _ pa_nil) (@pa_cons _ _ _ _ _ (@pe_lst _ _ _ _ (@pa_cons _ _ _ _ _ (pv 2) pa_nil (by rfl))) (@pa_cons _ _ _ _ _ (@pe_lst _ _ _ _ (@pa_cons _ _ _ _ _ (pv 2) (@pa_cons _ _ _ _ _ (@pe_tup _ _ _ _ _ (@pa_cons _ _ _ _ _ pe_int (@pa_cons _ _ _ _ _ pe_int pa_nil (by rfl)) (by rfl))) pa_nil (by rfl)) (by rfl))) (@pa_cons _ _ _ _ _ (@pe_lst _ _ _ _ (@pa_cons _ _ _ _ _ (pv 2) (@pa_cons _ _ _ _ _ (@pe_tup _ _ _ _ _ (@pa_cons _ _ _ _ _ pe_int (@pa_cons _ _ _ _ _ pe_int pa_nil (by rfl)) (by rfl))) pa_nil (by rfl)) (by rfl))) (@pa_cons _ _ _ _ _ (@pe_lst _ _ _ _ (@pa_cons _ _ _ _ _ pe_int (@pa_cons _ _ _ _ _ (pv 2) pa_nil (by rfl)) (by rfl))) (@pa_cons _ _ _ _ _ (@pe_tup _ _ _ _ _ (@pa_cons _ _ _ _ _ (pv 2) (@pa_cons _ _ _ _ _ (pv 2) pa_nil (by rfl)) (by rfl))) (@pa_cons _ _ _ _ _ (@pe_lst _ _ _ _ (@pa_cons _ _ _ _ _ (pv 2) (@pa_cons _ _ _ _ _ (@pe_lst _ _ _ _ (@pa_cons _ _ _ _ _ pe_int (@pa_cons _ _ _ _ _ pe_int pa_nil (by rfl)) (by rfl))) pa_nil (by rfl)) (by rfl))) (@pa_cons _ _ _ _ _ (@pe_lst _ _ _ _ (@pa_cons _ _ _ _ _ (@pe_tup _ _ _ _ _ (@pa_cons _ _ _ _ _ pe_bl (@pa_cons _ _ _ _ _ pe_int pa_nil (by rfl)) (by rfl))) (@pa_cons _ _ _ _ _ (pv 2) pa_nil (by rfl)) (by rfl))) pa_nil (by rfl)) (by rfl)) (by rfl)) (by rfl)) (by rfl)) (by rfl)) (by rfl)) (by rfl)) (by rfl)))) (pg_name (i:=12) sc_law.nd rfl (Or.inl rfl)) (@pss_one _ _ _ (@ps_if _ _ _ _ _ _ _ _ (@PW.pt _ _ _ (@pw_or _ _ _ _ _ _ _ (@pt_cmpR _ _ _ _ _ _ _ _ op_ne (@pe_call _ _ _ _ _ _ _ _ _ _ _ _ _ _ _ _ G__law_asked (hr.mono (by decide)) rfl m__law_asked k__law_asked b__law_asked .nil pass0 (@pa_cons _ _ _ _ _ (pv 9) (@pa_cons _ _ _ _ _ pe_int (@pa_cons _ _ _ _ _ (pv 12) pa_nil (by rfl)) (by rfl)) (by rfl)) (by decide) (by rfl) (by rfl)) pe_str (nomark _)) (@pw_or1 _ _ _ _ (@pt_cmpR _ _ _ _ _ _ _ _ op_ne (@pe_call _ _ _ _ _ _ _ _ _ _ _ _ _ _ _ _ G__law_asked (hr.mono (by decide)) rfl m__law_asked k__law_asked b__law_asked .nil pass0 (@pa_cons _ _ _ _ _ (pv 9) (@pa_cons _ _ _ _ _ pe_int (@pa_cons _ _ _ _ _ (pv 12) pa_nil (by rfl)) (by rfl)) (by rfl)) (by decide) (by rfl) (by rfl)) pe_str (nomark _))))) (@pss_one _ _ _ (@ps_ret _ _ _ _ pe_bl)) pss_nil)) (by intro _; rfl)) (@pss_one _ _ _ (@ps_ret _ _ _ _ (@pe_cmpR _ _ _ _ _ _ _ _ (op_eqD hr.units) (@pe_comp _ _ _ _ _ _ _ _ _ _ _ _ ["_law_way"] [1] rfl rfl (by kernel_rfl) (@pi_range1 _ _ _ _ _ _ rfl T.n_range (@pa_cons _ _ _ _ _ pe_int pa_nil (by rfl)) (by rfl)) (fun _ _ _ _=>(pg_name (i:=0) (show (["_law_way","_law_far"] : List Str).Nodup by decide +kernel) rfl (Or.inl rfl))) (fun _ _ _ _=>gk_name) (fun _ _ _ _=>pf_nil) (fun _ _ _ _=>(@pe_call _ _ _ _ _ _ _ _ _ _ _ _ _ _ _ _ G__law_come (hr.mono (by decide)) rfl m__law_come k__law_come b__law_come .nil pass0 (@pa_cons _ _ _ _ _ (pv 0) (@pa_cons _ _ _ _ _ (@pe_op _ _ _ _ _ _ _ _ op_add pe_int (pv 1)) pa_nil (by rfl)) (by rfl)) (by decide) (by rfl) (by rfl))) (by intro _; rfl)) (@pe_op _ _ _ _ _ _ _ _ op_cat (@pe_op _ _ _ _ _ _ _ _ op_rep (@pe_lst _ _ _ _ (@pa_cons _ _ _ _ _ pe_str pa_nil (by rfl))) pe_int) (@pe_op _ _ _ _ _ _ _ _ op_rep (@pe_lst _ _ _ _ (@pa_cons _ _ _ _ _ pe_str pa_nil (by rfl))) pe_int)) (nomark _)))))))))))))))))⟩
end
end K2
namespace K2
open PySem L2 Mp St Bz
def oneD : PyData:=.tuple [.int 1,.int 1]
def badN (far : Int) : List PyData:=[.int 0,.int (9 + far),.int (-1 - far),.bool true,.str "2",.none]
def badP (far : Int) : List PyData:=[.none,.tuple [.tuple [.int 0,.int 1,oneD]],.list [.tuple [.int 0,.int 1]],.list [.list [.int 0,.int 1,oneD]],.list [.tuple [.int 0,.int 0,oneD]],.list [.tuple [.int 0,.int (2 + far),oneD]],.list (List.replicate 29 (.tuple [.int 0,.int 1,oneD]))]
def badH (far : Int) : List PyData:=[.tuple [.int 0,.int 1],.tuple [.int 2,.int 4],.tuple [.int (-1),.int 1],.tuple [.int (1000000001 + far),.int 1],.tuple [.int 1,.int (1000000001 + far)],.int 1,.list [.int 1,.int 1],.tuple [.bool true,.int 1],.tuple [.int 1,.bool true]]
def badQ : List PyData:=[.tuple [.int (-1),.int 1,oneD],.tuple [.int 0,.bool true,oneD],.tuple [.int 0,.int 1,oneD,oneD],.tuple [.list [.int 0],.int 1,oneD],.tuple [.int 0,.str "1",oneD]]
def badT (far : Int) : List PyData:=[.int (3 + far),.int (-1 - far),.bool true,.str "0",.none]
def badF : List PyData:=[.none,.list [],.list [oneD],.list [oneD,.tuple [.int 2,.int 4]],.list [oneD,.tuple [.int 1,.int 0]],.list [.int 1,oneD],.tuple [oneD,oneD],.list [oneD,.list [.int 1,.int 1]],.list [.tuple [.bool true,.int 1],oneD]]
theorem all_get {p : PyData → Bool} {ds : List PyData} (h : ds.all p = true) {j : Nat} {d : PyData} (hd : ds[j]? = some d) : p d = true:=List.all_eq_true.mp h d (List.mem_of_getElem? hd)
theorem notF {b : Bool} (h : (!b) = true) : b = false:=by cases b with
  | true=>cases h
  | false=>rfl
theorem badN_all : ∀ i : _root_.Fin 1000,(badN (i.val : Int)).all (fun d=>!netD d (.list [])) = true:=by decide +kernel
theorem badN_ok (i : _root_.Fin 1000) {j : Nat} {d : PyData} (hd : (badN (i.val : Int))[j]? = some d) : netD d (.list []) = false:=notF (all_get (badN_all i) hd)
theorem badP_all : ∀ i : _root_.Fin 1000,(badP (i.val : Int)).all (fun d=>!netD (.int 2) d) = true:=by decide +kernel
theorem badP_ok (i : _root_.Fin 1000) {j : Nat} {d : PyData} (hd : (badP (i.val : Int))[j]? = some d) : netD (.int 2) d = false:=notF (all_get (p:=fun d=>!netD (.int 2) d) (badP_all i) hd)
theorem badH_all : ∀ i : _root_.Fin 1000,(badH (i.val : Int)).all (fun d=>!netD (.int 2) (.list [.tuple [.int 0,.int 1,oneD],.tuple [.int 1,.int 0,d]])) = true:=by decide +kernel
theorem badH_ok (i : _root_.Fin 1000) {j : Nat} {d : PyData} (hd : (badH (i.val : Int))[j]? = some d) : netD (.int 2) (.list [.tuple [.int 0,.int 1,oneD],.tuple [.int 1,.int 0,d]]) = false:=notF (all_get (p:=fun d=>!netD (.int 2) (.list [.tuple [.int 0,.int 1,oneD],.tuple [.int 1,.int 0,d]])) (badH_all i) hd)
theorem badQ_all : badQ.all (fun d=>!netD (.int 2) (.list [d])) = true:=by decide +kernel
theorem badQ_ok {j : Nat} {d : PyData} (hd : badQ[j]? = some d) : netD (.int 2) (.list [d]) = false:=notF (all_get (p:=fun d=>!netD (.int 2) (.list [d])) badQ_all hd)
theorem badT_all : ∀ i : _root_.Fin 1000,(badT (i.val : Int)).all (fun d=>!countsD d 3) = true:=by decide +kernel
theorem badT_all2 : ∀ i : _root_.Fin 1000,(badT (i.val : Int)).all (fun d=>!countsD d 2) = true:=by decide +kernel
theorem badT_ok (i : _root_.Fin 1000) {j : Nat} {d : PyData} (hd : (badT (i.val : Int))[j]? = some d) : countsD d 3 = false ∧ countsD d 2 = false:=⟨notF (all_get (p:=fun d=>!countsD d 3) (badT_all i) hd),notF (all_get (p:=fun d=>!countsD d 2) (badT_all2 i) hd)⟩
theorem badF_all : badF.all (fun d=>!flowsD d 2) = true:=by decide +kernel
theorem badF_ok {j : Nat} {d : PyData} (hd : badF[j]? = some d) : flowsD d 2 = false:=notF (all_get (p:=fun d=>!flowsD d 2) badF_all hd)
theorem good8 : netD (.int 8) (.list (List.replicate 28 (.tuple [.int 0,.int 7,.tuple [.int 1000000000,.int 1]]))) = true:=by decide +kernel
theorem good1 : netD (.int 1) (.list []) = true:=by decide +kernel
theorem good2 : netD (.int 2) (.list [.tuple [.int 1,.int 0,.tuple [.int 1,.int 1000000000]]]) = true:=by decide +kernel
def psN : List Pipe:=[⟨0,1,1,1⟩,⟨1,2,1,1⟩]
theorem nN : netD (.int 3) (.list (pipesD psN)) = true:=by decide +kernel
def nm4 (k : Nat) : Str:=if k < 4 then nmW 0 else nilS
theorem reps_repl {K : PySem.W.Frag} {H : Hp} {v : V} {d : PyData} (h : Rep K H v d) : ∀ k : Nat,Reps K H (List.replicate k v) (List.replicate k d)
  | 0=>.nil
  | k + 1=>.cons h (reps_repl h k)
theorem reps_strs {K : PySem.W.Frag} {H : Hp} : ∀ xs : List Str,Reps K H (xs.map V.str) (xs.map PyData.str)
  | []=>.nil
  | x :: xs=>.cons (.str x) (reps_strs xs)
theorem dueT {d : PyData} (h3 : countsD d 3 = false) (h2 : countsD d 2 = false) {m : Nat} (hm : m < 10) : ∃ w : Nat,Due d ((3 : Nat) : Int) (psN.length : Int) m w ∧ atI [V.str "place",V.str "pipe"] ((m : Int) / 8) = some (V.str (nmW w)):=by
  by_cases h : m < 8
  · refine ⟨1,.inl ⟨h,h3,rfl⟩,?_⟩
    rw [show (m : Int) / 8 = ((0 : Nat) : Int) by omega]
    exact atI_nat (j:=0) rfl
  · refine ⟨2,.inr (.inl ⟨by omega,hm,h2,rfl⟩),?_⟩
    rw [show (m : Int) / 8 = ((1 : Nat) : Int) by omega]
    exact atI_nat (j:=1) rfl
def spLaw (K : PySem.W.Frag) : Sp:=fun vs H Q _=>∃ (a : Addr) (ns : List Int),vs = [.ref a] ∧ SqL K H a (ns.map V.int) ∧ ns.length ≤ 63 ∧ ∀ H',Q (.bl true) H'
section
variable {P : Program} {w : World} {K : PySem.W.Frag} {mg : Str → Option Value} {base : Heap} {f C CB fx0 fx1 fx2 fx3 fx4 fx5 : Addr} {fd fdx0 fdx1 fdx2 fdx3 fdx4 fdx5 : FuncData} {t1 t2 t3 : Tok}
theorem ok_law (F : Fun K "law" "law" s_law f fd) (T : Txt K mg C t1 t2 t3) (cs : Calls2 P w K mg base C CB fx0 fx1 fx2 fx3 fx4 fx5 fdx0 fdx1 fdx2 fdx3 fdx4 fdx5) : FnOk P w K mg base CX0 15 f fd ["_law_script"] (spLaw K):=by
  refine F.ok sc_law (fun vs H Q E h=>?_) (fun cdv A outer s H vs Q E hr h=>?_)
  · obtain ⟨a,ns,rfl,_⟩:=h
    rfl
  · obtain ⟨a,ns,rfl,sq,hlen,k⟩:=h
    refine ⟨_,(der_law hr T cs).2,?_⟩
    refine ⟨_,rfl,a,ns,0,rfl,by decide,sq,fun c=>⟨_,_,rfl,rfl,(by show (0 : Int) < 1000; decide),?_⟩⟩
    obtain ⟨i,hi⟩ : ∃ i : _root_.Fin 1000,c % 1000 = (i.val : Int):=⟨⟨(c % 1000).toNat,by omega⟩,by show _ = (((c % 1000).toNat : Nat) : Int); omega⟩
    dsimp only
    rw [hi]
    refine ⟨by show 2 ≤ sizeLine; decide,fun o ho=>?_⟩
    have eo : (upd H o (.tup [.int 1,.int 1])) o = some (.tup [.int 1,.int 1]):=upd_same
    generalize upd H o (.tup [.int 1,.int 1]) = HO at eo ⊢
    refine ⟨_,rfl,_,_,rfl,rfl,_,rfl,_,rfl,_,_,rfl,rfl,by show 6 ≤ sizeLine; decide,fun p1 hp1=>?_⟩
    have s1:=same_upd (o:=.lst [.int 0,.int (9 + (i.val : Int)),.int (-1 - (i.val : Int)),.bl true,.str "2",.non]) hp1
    have e1 : (upd HO p1 (.lst [.int 0,.int (9 + (i.val : Int)),.int (-1 - (i.val : Int)),.bl true,.str "2",.non])) p1 = some (.lst [.int 0,.int (9 + (i.val : Int)),.int (-1 - (i.val : Int)),.bl true,.str "2",.non]):=upd_same
    generalize upd HO p1 (.lst [.int 0,.int (9 + (i.val : Int)),.int (-1 - (i.val : Int)),.bl true,.str "2",.non]) = H1 at s1 e1 ⊢
    have f1 : Same H1 H1:=Same.refl _
    have g1:=s1.trans f1
    have rone : Rep K H1 (.ref o) oneD:=.tup (SqT.of (g1 _ _ eo)) (.cons (.int _) (.cons (.int _) .nil))
    have rs : Reps K H1 [.int 0,.int (9 + (i.val : Int)),.int (-1 - (i.val : Int)),.bl true,.str "2",.non] (badN (i.val : Int)):=(.cons (.int _) (.cons (.int _) (.cons (.int _) (.cons (.bl _) (.cons (.str _) (.cons .non .nil))))))
    refine ⟨p1,rfl,⟨_,SqL.of e1⟩,for_list (K:=K) (a:=p1) (xs:=[.int 0,.int (9 + (i.val : Int)),.int (-1 - (i.val : Int)),.bl true,.str "2",.non]) (fun j σ H'=>∃ v3 : Option V,σ = [some (.ref a),some (.int (i.val : Int)),some (.ref o),v3,none,none,none,none,none,none,none,none,none] ∧ Same H1 H') ⟨none,rfl,Same.refl _⟩ (fun _ σ H' _ ⟨_,_,z⟩=>SqL.of (z _ _ e1)) ?_ ?_⟩
    · rintro j x σ H' hx ⟨v3,rfl,s'⟩
      obtain ⟨d,hd,rd⟩:=Reps.get rs hx
      have bad:=badN_ok i hd
      have rx:=rd.same s'
      refine ⟨_,rfl,by show 0 ≤ sizeLine; decide,fun p2 hp2=>?_⟩
      have s2:=same_upd (o:=.lst []) hp2
      have e2 : (upd H' p2 (.lst [])) p2 = some (.lst []):=upd_same
      generalize upd H' p2 (.lst []) = H2 at s2 e2 ⊢
      have f2 : Same H2 H2:=Same.refl _
      have g2:=s2.trans f2
      refine ⟨x,.ref p2,d,.list [],rfl,rx.same g2,.lst (SqL.of e2) .nil,fun H3 s3=>?_⟩
      rw [if_neg (show ¬ netD d (.list []) = true by rw [bad]; decide)]
      refine ⟨rfl,_,rfl,?_⟩
      rw [decide_eq_true (show V.str (nmW 0) = V.str "net" from rfl)]
      refine iteF ?_
      exact ⟨_,rfl,(s'.trans g2).trans s3⟩
    rintro σ HL ⟨v3,rfl,s'⟩
    have t1:=g1.trans s'
    clear rs rone s'
    refine ⟨_,rfl,by show 3 ≤ sizeLine; decide,fun p3 hp3=>?_⟩
    have s3:=same_upd (o:=.tup [.int 0,.int 1,.ref o]) hp3
    have e3 : (upd HL p3 (.tup [.int 0,.int 1,.ref o])) p3 = some (.tup [.int 0,.int 1,.ref o]):=upd_same
    generalize upd HL p3 (.tup [.int 0,.int 1,.ref o]) = H3 at s3 e3 ⊢
    refine ⟨by show 1 ≤ sizeLine; decide,fun p4 hp4=>?_⟩
    have s4:=same_upd (o:=.tup [.ref p3]) hp4
    have e4 : (upd H3 p4 (.tup [.ref p3])) p4 = some (.tup [.ref p3]):=upd_same
    generalize upd H3 p4 (.tup [.ref p3]) = H4 at s4 e4 ⊢
    refine ⟨by show 2 ≤ sizeLine; decide,fun p5 hp5=>?_⟩
    have s5:=same_upd (o:=.tup [.int 0,.int 1]) hp5
    have e5 : (upd H4 p5 (.tup [.int 0,.int 1])) p5 = some (.tup [.int 0,.int 1]):=upd_same
    generalize upd H4 p5 (.tup [.int 0,.int 1]) = H5 at s5 e5 ⊢
    refine ⟨by show 1 ≤ sizeLine; decide,fun p6 hp6=>?_⟩
    have s6:=same_upd (o:=.lst [.ref p5]) hp6
    have e6 : (upd H5 p6 (.lst [.ref p5])) p6 = some (.lst [.ref p5]):=upd_same
    generalize upd H5 p6 (.lst [.ref p5]) = H6 at s6 e6 ⊢
    refine ⟨_,rfl,by show 3 ≤ sizeLine; decide,fun p7 hp7=>?_⟩
    have s7:=same_upd (o:=.lst [.int 0,.int 1,.ref o]) hp7
    have e7 : (upd H6 p7 (.lst [.int 0,.int 1,.ref o])) p7 = some (.lst [.int 0,.int 1,.ref o]):=upd_same
    generalize upd H6 p7 (.lst [.int 0,.int 1,.ref o]) = H7 at s7 e7 ⊢
    refine ⟨by show 1 ≤ sizeLine; decide,fun p8 hp8=>?_⟩
    have s8:=same_upd (o:=.lst [.ref p7]) hp8
    have e8 : (upd H7 p8 (.lst [.ref p7])) p8 = some (.lst [.ref p7]):=upd_same
    generalize upd H7 p8 (.lst [.ref p7]) = H8 at s8 e8 ⊢
    refine ⟨_,rfl,by show 3 ≤ sizeLine; decide,fun p9 hp9=>?_⟩
    have s9:=same_upd (o:=.tup [.int 0,.int 0,.ref o]) hp9
    have e9 : (upd H8 p9 (.tup [.int 0,.int 0,.ref o])) p9 = some (.tup [.int 0,.int 0,.ref o]):=upd_same
    generalize upd H8 p9 (.tup [.int 0,.int 0,.ref o]) = H9 at s9 e9 ⊢
    refine ⟨by show 1 ≤ sizeLine; decide,fun p10 hp10=>?_⟩
    have s10:=same_upd (o:=.lst [.ref p9]) hp10
    have e10 : (upd H9 p10 (.lst [.ref p9])) p10 = some (.lst [.ref p9]):=upd_same
    generalize upd H9 p10 (.lst [.ref p9]) = H10 at s10 e10 ⊢
    refine ⟨_,rfl,_,_,rfl,rfl,_,rfl,by show 3 ≤ sizeLine; decide,fun p11 hp11=>?_⟩
    have s11:=same_upd (o:=.tup [.int 0,.int (2 + (i.val : Int)),.ref o]) hp11
    have e11 : (upd H10 p11 (.tup [.int 0,.int (2 + (i.val : Int)),.ref o])) p11 = some (.tup [.int 0,.int (2 + (i.val : Int)),.ref o]):=upd_same
    generalize upd H10 p11 (.tup [.int 0,.int (2 + (i.val : Int)),.ref o]) = H11 at s11 e11 ⊢
    refine ⟨by show 1 ≤ sizeLine; decide,fun p12 hp12=>?_⟩
    have s12:=same_upd (o:=.lst [.ref p11]) hp12
    have e12 : (upd H11 p12 (.lst [.ref p11])) p12 = some (.lst [.ref p11]):=upd_same
    generalize upd H11 p12 (.lst [.ref p11]) = H12 at s12 e12 ⊢
    refine ⟨by show 6 ≤ sizeLine; decide,fun p13 hp13=>?_⟩
    have s13:=same_upd (o:=.lst [.non,.ref p4,.ref p6,.ref p8,.ref p10,.ref p12]) hp13
    have e13 : (upd H12 p13 (.lst [.non,.ref p4,.ref p6,.ref p8,.ref p10,.ref p12])) p13 = some (.lst [.non,.ref p4,.ref p6,.ref p8,.ref p10,.ref p12]):=upd_same
    generalize upd H12 p13 (.lst [.non,.ref p4,.ref p6,.ref p8,.ref p10,.ref p12]) = H13 at s13 e13 ⊢
    refine ⟨_,rfl,_,rfl,by show 3 ≤ sizeLine; decide,fun p14 hp14=>?_⟩
    have s14:=same_upd (o:=.tup [.int 0,.int 1,.ref o]) hp14
    have e14 : (upd H13 p14 (.tup [.int 0,.int 1,.ref o])) p14 = some (.tup [.int 0,.int 1,.ref o]):=upd_same
    generalize upd H13 p14 (.tup [.int 0,.int 1,.ref o]) = H14 at s14 e14 ⊢
    refine ⟨by show 1 ≤ sizeLine; decide,fun p15 hp15=>?_⟩
    have s15:=same_upd (o:=.lst [.ref p14]) hp15
    have e15 : (upd H14 p15 (.lst [.ref p14])) p15 = some (.lst [.ref p14]):=upd_same
    generalize upd H14 p15 (.lst [.ref p14]) = H15 at s15 e15 ⊢
    refine ⟨p15,29,_,rfl,rfl,e15,by decide,by decide,by show 1 * 29 ≤ sizeLine; decide,fun p16 hp16=>?_⟩
    rw [show (List.replicate (29 : Int).toNat [V.ref p14]).flatten = List.replicate 29 (V.ref p14) from fl_one 29]
    have s16:=same_upd (o:=.lst (List.replicate 29 (V.ref p14))) hp16
    have e16 : (upd H15 p16 (.lst (List.replicate 29 (V.ref p14)))) p16 = some (.lst (List.replicate 29 (V.ref p14))):=upd_same
    generalize upd H15 p16 (.lst (List.replicate 29 (V.ref p14))) = H16 at s16 e16 ⊢
    refine ⟨by show 1 ≤ sizeLine; decide,fun p17 hp17=>?_⟩
    have s17:=same_upd (o:=.lst [.ref p16]) hp17
    have e17 : (upd H16 p17 (.lst [.ref p16])) p17 = some (.lst [.ref p16]):=upd_same
    generalize upd H16 p17 (.lst [.ref p16]) = H17 at s17 e17 ⊢
    refine ⟨p13,p17,_,_,rfl,rfl,(((s14.trans s15).trans s16).trans s17) _ _ e13,e17,by show 6 + 1 ≤ sizeLine; decide,fun p18 hp18=>?_⟩
    have s18:=same_upd (o:=.lst ([.non,.ref p4,.ref p6,.ref p8,.ref p10,.ref p12] ++ [.ref p16])) hp18
    have e18 : (upd H17 p18 (.lst ([.non,.ref p4,.ref p6,.ref p8,.ref p10,.ref p12] ++ [.ref p16]))) p18 = some (.lst [.non,.ref p4,.ref p6,.ref p8,.ref p10,.ref p12,.ref p16]):=upd_same
    generalize upd H17 p18 (.lst ([.non,.ref p4,.ref p6,.ref p8,.ref p10,.ref p12] ++ [.ref p16])) = H18 at s18 e18 ⊢
    have f18 : Same H18 H18:=Same.refl _
    have f17:=s18.trans f18
    have f16:=s17.trans f17
    have f15:=s16.trans f16
    have f14:=s15.trans f15
    have f13:=s14.trans f14
    have f12:=s13.trans f13
    have f11:=s12.trans f12
    have f10:=s11.trans f11
    have f9:=s10.trans f10
    have f8:=s9.trans f9
    have f7:=s8.trans f8
    have f6:=s7.trans f7
    have f5:=s6.trans f6
    have f4:=s5.trans f5
    have f3:=s4.trans f4
    have g18:=s3.trans f3
    have gO:=t1.trans g18
    have rone : Rep K H18 (.ref o) oneD:=.tup (SqT.of (gO _ _ eo)) (.cons (.int _) (.cons (.int _) .nil))
    have rs : Reps K H18 [.non,.ref p4,.ref p6,.ref p8,.ref p10,.ref p12,.ref p16] (badP (i.val : Int)):=(.cons .non (.cons (.tup (SqT.of (f4 _ _ e4)) (.cons (.tup (SqT.of (f3 _ _ e3)) (.cons (.int _) (.cons (.int _) (.cons rone .nil)))) .nil)) (.cons (.lst (SqL.of (f6 _ _ e6)) (.cons (.tup (SqT.of (f5 _ _ e5)) (.cons (.int _) (.cons (.int _) .nil))) .nil)) (.cons (.lst (SqL.of (f8 _ _ e8)) (.cons (.lst (SqL.of (f7 _ _ e7)) (.cons (.int _) (.cons (.int _) (.cons rone .nil)))) .nil)) (.cons (.lst (SqL.of (f10 _ _ e10)) (.cons (.tup (SqT.of (f9 _ _ e9)) (.cons (.int _) (.cons (.int _) (.cons rone .nil)))) .nil)) (.cons (.lst (SqL.of (f12 _ _ e12)) (.cons (.tup (SqT.of (f11 _ _ e11)) (.cons (.int _) (.cons (.int _) (.cons rone .nil)))) .nil)) (.cons (.lst (SqL.of (f16 _ _ e16)) (reps_repl (.tup (SqT.of (f14 _ _ e14)) (.cons (.int _) (.cons (.int _) (.cons rone .nil)))) 29)) .nil)))))))
    refine ⟨p18,rfl,⟨_,SqL.of e18⟩,for_list (K:=K) (a:=p18) (xs:=[.non,.ref p4,.ref p6,.ref p8,.ref p10,.ref p12,.ref p16]) (fun j σ H'=>∃ v5 : Option V,σ = [some (.ref a),some (.int (i.val : Int)),some (.ref o),v3,some (.ref p13),v5,none,none,none,none,none,none,none] ∧ Same H18 H') ⟨none,rfl,Same.refl _⟩ (fun _ σ H' _ ⟨_,_,z⟩=>SqL.of (z _ _ e18)) ?_ ?_⟩
    · rintro j x σ H' hx ⟨v5,rfl,s'⟩
      obtain ⟨d,hd,rd⟩:=Reps.get rs hx
      have bad:=badP_ok i hd
      have rx:=rd.same s'
      refine ⟨_,rfl,.int 2,x,.int 2,d,rfl,.int _,rx,fun H3 s3=>?_⟩
      rw [if_neg (show ¬ netD (.int 2) d = true by rw [bad]; decide)]
      refine ⟨rfl,_,rfl,?_⟩
      rw [decide_eq_true (show V.str (nmW 0) = V.str "net" from rfl)]
      refine iteF ?_
      exact ⟨_,rfl,s'.trans s3⟩
    rintro σ HL ⟨v5,rfl,s'⟩
    have t2:=gO.trans s'
    clear rs rone s'
    refine ⟨_,rfl,_,_,rfl,rfl,?_⟩
    refine ⟨by show 2 ≤ sizeLine; decide,fun p19 hp19=>?_⟩
    have s19:=same_upd (o:=.tup [.int 0,.int 1]) hp19
    have e19 : (upd HL p19 (.tup [.int 0,.int 1])) p19 = some (.tup [.int 0,.int 1]):=upd_same
    generalize upd HL p19 (.tup [.int 0,.int 1]) = H19 at s19 e19 ⊢
    refine ⟨by show 2 ≤ sizeLine; decide,fun p20 hp20=>?_⟩
    have s20:=same_upd (o:=.tup [.int 2,.int 4]) hp20
    have e20 : (upd H19 p20 (.tup [.int 2,.int 4])) p20 = some (.tup [.int 2,.int 4]):=upd_same
    generalize upd H19 p20 (.tup [.int 2,.int 4]) = H20 at s20 e20 ⊢
    refine ⟨_,rfl,by show 2 ≤ sizeLine; decide,fun p21 hp21=>?_⟩
    have s21:=same_upd (o:=.tup [.int (-1),.int 1]) hp21
    have e21 : (upd H20 p21 (.tup [.int (-1),.int 1])) p21 = some (.tup [.int (-1),.int 1]):=upd_same
    generalize upd H20 p21 (.tup [.int (-1),.int 1]) = H21 at s21 e21 ⊢
    refine ⟨_,rfl,by show 2 ≤ sizeLine; decide,fun p22 hp22=>?_⟩
    have s22:=same_upd (o:=.tup [.int (1000000001 + (i.val : Int)),.int 1]) hp22
    have e22 : (upd H21 p22 (.tup [.int (1000000001 + (i.val : Int)),.int 1])) p22 = some (.tup [.int (1000000001 + (i.val : Int)),.int 1]):=upd_same
    generalize upd H21 p22 (.tup [.int (1000000001 + (i.val : Int)),.int 1]) = H22 at s22 e22 ⊢
    refine ⟨_,rfl,by show 2 ≤ sizeLine; decide,fun p23 hp23=>?_⟩
    have s23:=same_upd (o:=.tup [.int 1,.int (1000000001 + (i.val : Int))]) hp23
    have e23 : (upd H22 p23 (.tup [.int 1,.int (1000000001 + (i.val : Int))])) p23 = some (.tup [.int 1,.int (1000000001 + (i.val : Int))]):=upd_same
    generalize upd H22 p23 (.tup [.int 1,.int (1000000001 + (i.val : Int))]) = H23 at s23 e23 ⊢
    refine ⟨by show 2 ≤ sizeLine; decide,fun p24 hp24=>?_⟩
    have s24:=same_upd (o:=.lst [.int 1,.int 1]) hp24
    have e24 : (upd H23 p24 (.lst [.int 1,.int 1])) p24 = some (.lst [.int 1,.int 1]):=upd_same
    generalize upd H23 p24 (.lst [.int 1,.int 1]) = H24 at s24 e24 ⊢
    refine ⟨by show 2 ≤ sizeLine; decide,fun p25 hp25=>?_⟩
    have s25:=same_upd (o:=.tup [.bl true,.int 1]) hp25
    have e25 : (upd H24 p25 (.tup [.bl true,.int 1])) p25 = some (.tup [.bl true,.int 1]):=upd_same
    generalize upd H24 p25 (.tup [.bl true,.int 1]) = H25 at s25 e25 ⊢
    refine ⟨by show 2 ≤ sizeLine; decide,fun p26 hp26=>?_⟩
    have s26:=same_upd (o:=.tup [.int 1,.bl true]) hp26
    have e26 : (upd H25 p26 (.tup [.int 1,.bl true])) p26 = some (.tup [.int 1,.bl true]):=upd_same
    generalize upd H25 p26 (.tup [.int 1,.bl true]) = H26 at s26 e26 ⊢
    refine ⟨by show 9 ≤ sizeLine; decide,fun p27 hp27=>?_⟩
    have s27:=same_upd (o:=.lst [.ref p19,.ref p20,.ref p21,.ref p22,.ref p23,.int 1,.ref p24,.ref p25,.ref p26]) hp27
    have e27 : (upd H26 p27 (.lst [.ref p19,.ref p20,.ref p21,.ref p22,.ref p23,.int 1,.ref p24,.ref p25,.ref p26])) p27 = some (.lst [.ref p19,.ref p20,.ref p21,.ref p22,.ref p23,.int 1,.ref p24,.ref p25,.ref p26]):=upd_same
    generalize upd H26 p27 (.lst [.ref p19,.ref p20,.ref p21,.ref p22,.ref p23,.int 1,.ref p24,.ref p25,.ref p26]) = H27 at s27 e27 ⊢
    have f27 : Same H27 H27:=Same.refl _
    have f26:=s27.trans f27
    have f25:=s26.trans f26
    have f24:=s25.trans f25
    have f23:=s24.trans f24
    have f22:=s23.trans f23
    have f21:=s22.trans f22
    have f20:=s21.trans f21
    have f19:=s20.trans f20
    have g27:=s19.trans f19
    have gO:=t2.trans g27
    have rone : Rep K H27 (.ref o) oneD:=.tup (SqT.of (gO _ _ eo)) (.cons (.int _) (.cons (.int _) .nil))
    have rs : Reps K H27 [.ref p19,.ref p20,.ref p21,.ref p22,.ref p23,.int 1,.ref p24,.ref p25,.ref p26] (badH (i.val : Int)):=(.cons (.tup (SqT.of (f19 _ _ e19)) (.cons (.int _) (.cons (.int _) .nil))) (.cons (.tup (SqT.of (f20 _ _ e20)) (.cons (.int _) (.cons (.int _) .nil))) (.cons (.tup (SqT.of (f21 _ _ e21)) (.cons (.int _) (.cons (.int _) .nil))) (.cons (.tup (SqT.of (f22 _ _ e22)) (.cons (.int _) (.cons (.int _) .nil))) (.cons (.tup (SqT.of (f23 _ _ e23)) (.cons (.int _) (.cons (.int _) .nil))) (.cons (.int _) (.cons (.lst (SqL.of (f24 _ _ e24)) (.cons (.int _) (.cons (.int _) .nil))) (.cons (.tup (SqT.of (f25 _ _ e25)) (.cons (.bl _) (.cons (.int _) .nil))) (.cons (.tup (SqT.of (f26 _ _ e26)) (.cons (.int _) (.cons (.bl _) .nil))) .nil)))))))))
    refine ⟨p27,rfl,⟨_,SqL.of e27⟩,for_list (K:=K) (a:=p27) (xs:=[.ref p19,.ref p20,.ref p21,.ref p22,.ref p23,.int 1,.ref p24,.ref p25,.ref p26]) (fun j σ H'=>∃ v7 : Option V,σ = [some (.ref a),some (.int (i.val : Int)),some (.ref o),v3,some (.ref p13),v5,some (.int (1000000001 + (i.val : Int))),v7,none,none,none,none,none] ∧ Same H27 H') ⟨none,rfl,Same.refl _⟩ (fun _ σ H' _ ⟨_,_,z⟩=>SqL.of (z _ _ e27)) ?_ ?_⟩
    · rintro j x σ H' hx ⟨v7,rfl,s'⟩
      obtain ⟨d,hd,rd⟩:=Reps.get rs hx
      have bad:=badH_ok i hd
      have rx:=rd.same s'
      refine ⟨_,rfl,by show 3 ≤ sizeLine; decide,fun p28 hp28=>?_⟩
      have s28:=same_upd (o:=.tup [.int 0,.int 1,.ref o]) hp28
      have e28 : (upd H' p28 (.tup [.int 0,.int 1,.ref o])) p28 = some (.tup [.int 0,.int 1,.ref o]):=upd_same
      generalize upd H' p28 (.tup [.int 0,.int 1,.ref o]) = H28 at s28 e28 ⊢
      refine ⟨_,rfl,by show 3 ≤ sizeLine; decide,fun p29 hp29=>?_⟩
      have s29:=same_upd (o:=.tup [.int 1,.int 0,x]) hp29
      have e29 : (upd H28 p29 (.tup [.int 1,.int 0,x])) p29 = some (.tup [.int 1,.int 0,x]):=upd_same
      generalize upd H28 p29 (.tup [.int 1,.int 0,x]) = H29 at s29 e29 ⊢
      refine ⟨by show 2 ≤ sizeLine; decide,fun p30 hp30=>?_⟩
      have s30:=same_upd (o:=.lst [.ref p28,.ref p29]) hp30
      have e30 : (upd H29 p30 (.lst [.ref p28,.ref p29])) p30 = some (.lst [.ref p28,.ref p29]):=upd_same
      generalize upd H29 p30 (.lst [.ref p28,.ref p29]) = H30 at s30 e30 ⊢
      have f30 : Same H30 H30:=Same.refl _
      have f29:=s30.trans f30
      have f28:=s29.trans f29
      have g30:=s28.trans f28
      refine ⟨.int 2,.ref p30,.int 2,.list [.tuple [.int 0,.int 1,oneD],.tuple [.int 1,.int 0,d]],rfl,.int _,.lst (SqL.of e30) (.cons (.tup (SqT.of (f28 _ _ e28)) (.cons (.int _) (.cons (.int _) (.cons ((rone.same s').same g30) .nil)))) (.cons (.tup (SqT.of (f29 _ _ e29)) (.cons (.int _) (.cons (.int _) (.cons (rx.same g30) .nil)))) .nil)),fun H3 s3=>?_⟩
      rw [if_neg (show ¬ netD (.int 2) (.list [.tuple [.int 0,.int 1,oneD],.tuple [.int 1,.int 0,d]]) = true by rw [bad]; decide)]
      refine ⟨rfl,_,rfl,?_⟩
      rw [decide_eq_true (show V.str (nmW 0) = V.str "net" from rfl)]
      refine iteF ?_
      exact ⟨_,rfl,(s'.trans g30).trans s3⟩
    rintro σ HL ⟨v7,rfl,s'⟩
    have t3:=gO.trans s'
    clear rs rone s'
    refine ⟨_,rfl,_,rfl,by show 3 ≤ sizeLine; decide,fun p31 hp31=>?_⟩
    have s31:=same_upd (o:=.tup [.int (-1),.int 1,.ref o]) hp31
    have e31 : (upd HL p31 (.tup [.int (-1),.int 1,.ref o])) p31 = some (.tup [.int (-1),.int 1,.ref o]):=upd_same
    generalize upd HL p31 (.tup [.int (-1),.int 1,.ref o]) = H31 at s31 e31 ⊢
    refine ⟨_,rfl,by show 3 ≤ sizeLine; decide,fun p32 hp32=>?_⟩
    have s32:=same_upd (o:=.tup [.int 0,.bl true,.ref o]) hp32
    have e32 : (upd H31 p32 (.tup [.int 0,.bl true,.ref o])) p32 = some (.tup [.int 0,.bl true,.ref o]):=upd_same
    generalize upd H31 p32 (.tup [.int 0,.bl true,.ref o]) = H32 at s32 e32 ⊢
    refine ⟨_,rfl,_,rfl,by show 4 ≤ sizeLine; decide,fun p33 hp33=>?_⟩
    have s33:=same_upd (o:=.tup [.int 0,.int 1,.ref o,.ref o]) hp33
    have e33 : (upd H32 p33 (.tup [.int 0,.int 1,.ref o,.ref o])) p33 = some (.tup [.int 0,.int 1,.ref o,.ref o]):=upd_same
    generalize upd H32 p33 (.tup [.int 0,.int 1,.ref o,.ref o]) = H33 at s33 e33 ⊢
    refine ⟨by show 1 ≤ sizeLine; decide,fun p34 hp34=>?_⟩
    have s34:=same_upd (o:=.lst [.int 0]) hp34
    have e34 : (upd H33 p34 (.lst [.int 0])) p34 = some (.lst [.int 0]):=upd_same
    generalize upd H33 p34 (.lst [.int 0]) = H34 at s34 e34 ⊢
    refine ⟨_,rfl,by show 3 ≤ sizeLine; decide,fun p35 hp35=>?_⟩
    have s35:=same_upd (o:=.tup [.ref p34,.int 1,.ref o]) hp35
    have e35 : (upd H34 p35 (.tup [.ref p34,.int 1,.ref o])) p35 = some (.tup [.ref p34,.int 1,.ref o]):=upd_same
    generalize upd H34 p35 (.tup [.ref p34,.int 1,.ref o]) = H35 at s35 e35 ⊢
    refine ⟨_,rfl,by show 3 ≤ sizeLine; decide,fun p36 hp36=>?_⟩
    have s36:=same_upd (o:=.tup [.int 0,.str "1",.ref o]) hp36
    have e36 : (upd H35 p36 (.tup [.int 0,.str "1",.ref o])) p36 = some (.tup [.int 0,.str "1",.ref o]):=upd_same
    generalize upd H35 p36 (.tup [.int 0,.str "1",.ref o]) = H36 at s36 e36 ⊢
    refine ⟨by show 5 ≤ sizeLine; decide,fun p37 hp37=>?_⟩
    have s37:=same_upd (o:=.lst [.ref p31,.ref p32,.ref p33,.ref p35,.ref p36]) hp37
    have e37 : (upd H36 p37 (.lst [.ref p31,.ref p32,.ref p33,.ref p35,.ref p36])) p37 = some (.lst [.ref p31,.ref p32,.ref p33,.ref p35,.ref p36]):=upd_same
    generalize upd H36 p37 (.lst [.ref p31,.ref p32,.ref p33,.ref p35,.ref p36]) = H37 at s37 e37 ⊢
    have f37 : Same H37 H37:=Same.refl _
    have f36:=s37.trans f37
    have f35:=s36.trans f36
    have f34:=s35.trans f35
    have f33:=s34.trans f34
    have f32:=s33.trans f33
    have f31:=s32.trans f32
    have g37:=s31.trans f31
    have gO:=t3.trans g37
    have rone : Rep K H37 (.ref o) oneD:=.tup (SqT.of (gO _ _ eo)) (.cons (.int _) (.cons (.int _) .nil))
    have rs : Reps K H37 [.ref p31,.ref p32,.ref p33,.ref p35,.ref p36] badQ:=(.cons (.tup (SqT.of (f31 _ _ e31)) (.cons (.int _) (.cons (.int _) (.cons rone .nil)))) (.cons (.tup (SqT.of (f32 _ _ e32)) (.cons (.int _) (.cons (.bl _) (.cons rone .nil)))) (.cons (.tup (SqT.of (f33 _ _ e33)) (.cons (.int _) (.cons (.int _) (.cons rone (.cons rone .nil))))) (.cons (.tup (SqT.of (f35 _ _ e35)) (.cons (.lst (SqL.of (f34 _ _ e34)) (.cons (.int _) .nil)) (.cons (.int _) (.cons rone .nil)))) (.cons (.tup (SqT.of (f36 _ _ e36)) (.cons (.int _) (.cons (.str _) (.cons rone .nil)))) .nil)))))
    refine ⟨p37,rfl,⟨_,SqL.of e37⟩,for_list (K:=K) (a:=p37) (xs:=[.ref p31,.ref p32,.ref p33,.ref p35,.ref p36]) (fun j σ H'=>∃ v8 : Option V,σ = [some (.ref a),some (.int (i.val : Int)),some (.ref o),v3,some (.ref p13),v5,some (.int (1000000001 + (i.val : Int))),v7,v8,none,none,none,none] ∧ Same H37 H') ⟨none,rfl,Same.refl _⟩ (fun _ σ H' _ ⟨_,_,z⟩=>SqL.of (z _ _ e37)) ?_ ?_⟩
    · rintro j x σ H' hx ⟨v8,rfl,s'⟩
      obtain ⟨d,hd,rd⟩:=Reps.get rs hx
      have bad:=badQ_ok hd
      have rx:=rd.same s'
      refine ⟨_,rfl,by show 1 ≤ sizeLine; decide,fun p38 hp38=>?_⟩
      have s38:=same_upd (o:=.lst [x]) hp38
      have e38 : (upd H' p38 (.lst [x])) p38 = some (.lst [x]):=upd_same
      generalize upd H' p38 (.lst [x]) = H38 at s38 e38 ⊢
      have f38 : Same H38 H38:=Same.refl _
      have g38:=s38.trans f38
      refine ⟨.int 2,.ref p38,.int 2,.list [d],rfl,.int _,.lst (SqL.of e38) (.cons (rx.same g38) .nil),fun H3 s3=>?_⟩
      rw [if_neg (show ¬ netD (.int 2) (.list [d]) = true by rw [bad]; decide)]
      refine ⟨rfl,_,rfl,?_⟩
      rw [decide_eq_true (show V.str (nmW 0) = V.str "net" from rfl)]
      refine iteF ?_
      exact ⟨_,rfl,(s'.trans g38).trans s3⟩
    rintro σ HL ⟨v8,rfl,s'⟩
    have t4:=gO.trans s'
    clear rs rone s'
    refine ⟨by show 2 ≤ sizeLine; decide,fun p39 hp39=>?_⟩
    have s39:=same_upd (o:=.tup [.int 1000000000,.int 1]) hp39
    have e39 : (upd HL p39 (.tup [.int 1000000000,.int 1])) p39 = some (.tup [.int 1000000000,.int 1]):=upd_same
    generalize upd HL p39 (.tup [.int 1000000000,.int 1]) = H39 at s39 e39 ⊢
    refine ⟨by show 3 ≤ sizeLine; decide,fun p40 hp40=>?_⟩
    have s40:=same_upd (o:=.tup [.int 0,.int 7,.ref p39]) hp40
    have e40 : (upd H39 p40 (.tup [.int 0,.int 7,.ref p39])) p40 = some (.tup [.int 0,.int 7,.ref p39]):=upd_same
    generalize upd H39 p40 (.tup [.int 0,.int 7,.ref p39]) = H40 at s40 e40 ⊢
    refine ⟨by show 1 ≤ sizeLine; decide,fun p41 hp41=>?_⟩
    have s41:=same_upd (o:=.lst [.ref p40]) hp41
    have e41 : (upd H40 p41 (.lst [.ref p40])) p41 = some (.lst [.ref p40]):=upd_same
    generalize upd H40 p41 (.lst [.ref p40]) = H41 at s41 e41 ⊢
    refine ⟨p41,28,_,rfl,rfl,e41,by decide,by decide,by show 1 * 28 ≤ sizeLine; decide,fun p42 hp42=>?_⟩
    rw [show (List.replicate (28 : Int).toNat [V.ref p40]).flatten = List.replicate 28 (V.ref p40) from fl_one 28]
    have s42:=same_upd (o:=.lst (List.replicate 28 (V.ref p40))) hp42
    have e42 : (upd H41 p42 (.lst (List.replicate 28 (V.ref p40)))) p42 = some (.lst (List.replicate 28 (V.ref p40))):=upd_same
    generalize upd H41 p42 (.lst (List.replicate 28 (V.ref p40))) = H42 at s42 e42 ⊢
    have f42 : Same H42 H42:=Same.refl _
    have f41:=s42.trans f42
    have f40:=s41.trans f41
    have f39:=s40.trans f40
    have g42:=s39.trans f39
    refine ⟨.int 8,.ref p42,.int 8,.list (List.replicate 28 (.tuple [.int 0,.int 7,.tuple [.int 1000000000,.int 1]])),rfl,.int _,.lst (SqL.of e42) (reps_repl (.tup (SqT.of (f40 _ _ e40)) (.cons (.int _) (.cons (.int _) (.cons (.tup (SqT.of (f39 _ _ e39)) (.cons (.int _) (.cons (.int _) .nil))) .nil)))) 28),fun HG sG=>?_⟩
    rw [if_pos good8]
    refine ⟨rfl,_,rfl,?_⟩
    rw [decide_eq_true (show V.str nilS = V.str "" from rfl)]
    refine iteF ?_
    refine ⟨by show 0 ≤ sizeLine; decide,fun p43 hp43=>?_⟩
    have s43:=same_upd (o:=.lst []) hp43
    have e43 : (upd HG p43 (.lst [])) p43 = some (.lst []):=upd_same
    generalize upd HG p43 (.lst []) = H43 at s43 e43 ⊢
    have f43 : Same H43 H43:=Same.refl _
    have g43:=s43.trans f43
    refine ⟨.int 1,.ref p43,.int 1,.list [],rfl,.int _,.lst (SqL.of e43) .nil,fun HG2 sG2=>?_⟩
    rw [if_pos good1]
    refine ⟨rfl,_,rfl,?_⟩
    rw [decide_eq_true (show V.str nilS = V.str "" from rfl)]
    refine iteF ?_
    refine ⟨by show 2 ≤ sizeLine; decide,fun p44 hp44=>?_⟩
    have s44:=same_upd (o:=.tup [.int 1,.int 1000000000]) hp44
    have e44 : (upd HG2 p44 (.tup [.int 1,.int 1000000000])) p44 = some (.tup [.int 1,.int 1000000000]):=upd_same
    generalize upd HG2 p44 (.tup [.int 1,.int 1000000000]) = H44 at s44 e44 ⊢
    refine ⟨by show 3 ≤ sizeLine; decide,fun p45 hp45=>?_⟩
    have s45:=same_upd (o:=.tup [.int 1,.int 0,.ref p44]) hp45
    have e45 : (upd H44 p45 (.tup [.int 1,.int 0,.ref p44])) p45 = some (.tup [.int 1,.int 0,.ref p44]):=upd_same
    generalize upd H44 p45 (.tup [.int 1,.int 0,.ref p44]) = H45 at s45 e45 ⊢
    refine ⟨by show 1 ≤ sizeLine; decide,fun p46 hp46=>?_⟩
    have s46:=same_upd (o:=.lst [.ref p45]) hp46
    have e46 : (upd H45 p46 (.lst [.ref p45])) p46 = some (.lst [.ref p45]):=upd_same
    generalize upd H45 p46 (.lst [.ref p45]) = H46 at s46 e46 ⊢
    have f46 : Same H46 H46:=Same.refl _
    have f45:=s46.trans f46
    have f44:=s45.trans f45
    have g46:=s44.trans f44
    refine ⟨.int 2,.ref p46,.int 2,.list [.tuple [.int 1,.int 0,.tuple [.int 1,.int 1000000000]]],rfl,.int _,(.lst (SqL.of (f46 _ _ e46)) (.cons (.tup (SqT.of (f45 _ _ e45)) (.cons (.int _) (.cons (.int _) (.cons (.tup (SqT.of (f44 _ _ e44)) (.cons (.int _) (.cons (.int _) .nil))) .nil)))) .nil)),fun HG3 sG3=>?_⟩
    rw [if_pos good2]
    refine ⟨rfl,_,rfl,?_⟩
    rw [decide_eq_true (show V.str nilS = V.str "" from rfl)]
    refine iteF ?_
    have t5:=(((((t4.trans g42).trans sG).trans g43).trans sG2).trans g46).trans sG3
    refine ⟨_,rfl,by show 3 ≤ sizeLine; decide,fun p47 hp47=>?_⟩
    have s47:=same_upd (o:=.tup [.int 0,.int 1,.ref o]) hp47
    have e47 : (upd HG3 p47 (.tup [.int 0,.int 1,.ref o])) p47 = some (.tup [.int 0,.int 1,.ref o]):=upd_same
    generalize upd HG3 p47 (.tup [.int 0,.int 1,.ref o]) = H47 at s47 e47 ⊢
    refine ⟨_,rfl,by show 3 ≤ sizeLine; decide,fun p48 hp48=>?_⟩
    have s48:=same_upd (o:=.tup [.int 1,.int 2,.ref o]) hp48
    have e48 : (upd H47 p48 (.tup [.int 1,.int 2,.ref o])) p48 = some (.tup [.int 1,.int 2,.ref o]):=upd_same
    generalize upd H47 p48 (.tup [.int 1,.int 2,.ref o]) = H48 at s48 e48 ⊢
    refine ⟨by show 2 ≤ sizeLine; decide,fun p49 hp49=>?_⟩
    have s49:=same_upd (o:=.lst [.ref p47,.ref p48]) hp49
    have e49 : (upd H48 p49 (.lst [.ref p47,.ref p48])) p49 = some (.lst [.ref p47,.ref p48]):=upd_same
    generalize upd H48 p49 (.lst [.ref p47,.ref p48]) = H49 at s49 e49 ⊢
    have f49 : Same H49 H49:=Same.refl _
    have f48:=s49.trans f49
    have f47:=s48.trans f48
    have g49:=s47.trans f47
    have t6:=t5.trans g49
    intro x dx0 nx0 ndx0 nex0
    have s0N:=made_s0 (C:=C) nx0 ndx0
    have hpN : PipesAt K _ _ psN:=(.cons ⟨p47,o,rfl,SqT.of (f47 _ _ e47),SqT.of (t6 _ _ eo)⟩ (.cons ⟨p48,o,rfl,SqT.of (f48 _ _ e48),SqT.of (t6 _ _ eo)⟩ .nil))
    have hnN : netD (.int 3) (.list (pipesD psN)) = true:=nN
    refine ⟨x,dx0,.int 3,_,.int 3,.list (pipesD psN),rfl,upd_same,.int _,.lst (SqL.of (s0N _ _ e49)) (PipesAt.same s0N hpN).reps,fun h=>(by rw [hnN] at h; cases h),fun _ n' ps' HN L e1 e2 ok hL net kp=>⟨rfl,?_⟩⟩
    obtain ⟨rfl,rfl⟩:=net_eq e1 e2
    have sN:=made_same (n:=3) nx0 ndx0 kp
    have t7:=t6.trans sN
    refine ⟨_,rfl,_,_,rfl,rfl,_,rfl,_,rfl,_,_,rfl,rfl,by show 5 ≤ sizeLine; decide,fun p50 hp50=>?_⟩
    have s50:=same_upd (o:=.lst [.int (3 + (i.val : Int)),.int (-1 - (i.val : Int)),.bl true,.str "0",.non]) hp50
    have e50 : (upd HN p50 (.lst [.int (3 + (i.val : Int)),.int (-1 - (i.val : Int)),.bl true,.str "0",.non])) p50 = some (.lst [.int (3 + (i.val : Int)),.int (-1 - (i.val : Int)),.bl true,.str "0",.non]):=upd_same
    generalize upd HN p50 (.lst [.int (3 + (i.val : Int)),.int (-1 - (i.val : Int)),.bl true,.str "0",.non]) = H50 at s50 e50 ⊢
    have f50 : Same H50 H50:=Same.refl _
    have g50:=s50.trans f50
    have rs : Reps K H50 [.int (3 + (i.val : Int)),.int (-1 - (i.val : Int)),.bl true,.str "0",.non] (badT (i.val : Int)):=(.cons (.int _) (.cons (.int _) (.cons (.bl _) (.cons (.str _) (.cons .non .nil)))))
    have netT:=net.same g50
    refine ⟨p50,rfl,⟨_,SqL.of e50⟩,for_list (K:=K) (a:=p50) (xs:=[.int (3 + (i.val : Int)),.int (-1 - (i.val : Int)),.bl true,.str "0",.non]) (fun j σ H'=>∃ v10 v11 : Option V,σ = [some (.ref a),some (.int (i.val : Int)),some (.ref o),v3,some (.ref p13),v5,some (.int (1000000001 + (i.val : Int))),v7,v8,some (.ref x),v10,v11,none] ∧ Same H50 H') ⟨none,none,rfl,Same.refl _⟩ (fun _ σ H' _ ⟨_,_,_,z⟩=>SqL.of (z _ _ e50)) ?_ ?_⟩
    · rintro j v σ H' hx ⟨v10,v11,rfl,s'⟩
      obtain ⟨d,hd,rd⟩:=Reps.get rs hx
      obtain ⟨bad,bad2⟩:=badT_ok i hd
      refine ⟨10,rfl,by decide,by decide,?_⟩
      refine for_range (n:=10) (fun m σ H2=>∃ v11 : Option V,σ = [some (.ref a),some (.int (i.val : Int)),some (.ref o),v3,some (.ref p13),v5,some (.int (1000000001 + (i.val : Int))),v7,v8,some (.ref x),some v,v11,none] ∧ Same H' H2) ⟨_,rfl,Same.refl _⟩ ?_ ?_
      · rintro m σ H2 hm ⟨v11,rfl,s2⟩
        rw [Int.zero_add]
        obtain ⟨w,due,atw⟩:=dueT (d:=d) bad bad2 hm
        refine ⟨_,rfl,_,rfl,_,rfl,x,L,3,psN,v,d,m,w,rfl,netT.same (s'.trans s2),ok,by decide,rd.same (s'.trans s2),due,fun H3 s3=>?_⟩
        refine ⟨by show 2 ≤ sizeLine; decide,fun p51 hp51=>?_⟩
        have s51:=same_upd (o:=.lst [.str "place",.str "pipe"]) hp51
        have e51 : (upd H3 p51 (.lst [.str "place",.str "pipe"])) p51 = some (.lst [.str "place",.str "pipe"]):=upd_same
        generalize upd H3 p51 (.lst [.str "place",.str "pipe"]) = H51 at s51 e51 ⊢
        have f51 : Same H51 H51:=Same.refl _
        have g51:=s51.trans f51
        refine ⟨_,rfl,_,_,rfl,rfl,⟨by decide,by decide⟩,p51,_,_,V.str (nmW w),rfl,rfl,SqL.of e51,atw,rfl,_,rfl,?_⟩
        rw [decide_eq_true rfl]
        refine iteF ?_
        exact ⟨_,rfl,(s2.trans s3).trans g51⟩
      · rintro σ H2 ⟨v11,rfl,s2⟩
        refine ⟨_,rfl,_,rfl,x,L,3,psN,v,d,rfl,netT.same (s'.trans s2),rd.same (s'.trans s2),bad,fun H3 s3=>?_⟩
        refine ⟨rfl,_,rfl,?_⟩
        rw [decide_eq_true (show V.str (nmW 1) = V.str "place" from rfl)]
        refine iteF ?_
        exact ⟨_,_,rfl,(s'.trans s2).trans s3⟩
    rintro σ HL ⟨v10,v11,rfl,s'⟩
    have t8:=(t7.trans g50).trans s'
    have netU:=netT.same s'
    clear rs s'
    refine ⟨by show 0 ≤ sizeLine; decide,fun p52 hp52=>?_⟩
    have s52:=same_upd (o:=.lst []) hp52
    have e52 : (upd HL p52 (.lst [])) p52 = some (.lst []):=upd_same
    generalize upd HL p52 (.lst []) = H52 at s52 e52 ⊢
    refine ⟨_,rfl,by show 1 ≤ sizeLine; decide,fun p53 hp53=>?_⟩
    have s53:=same_upd (o:=.lst [.ref o]) hp53
    have e53 : (upd H52 p53 (.lst [.ref o])) p53 = some (.lst [.ref o]):=upd_same
    generalize upd H52 p53 (.lst [.ref o]) = H53 at s53 e53 ⊢
    refine ⟨_,rfl,by show 2 ≤ sizeLine; decide,fun p54 hp54=>?_⟩
    have s54:=same_upd (o:=.tup [.int 2,.int 4]) hp54
    have e54 : (upd H53 p54 (.tup [.int 2,.int 4])) p54 = some (.tup [.int 2,.int 4]):=upd_same
    generalize upd H53 p54 (.tup [.int 2,.int 4]) = H54 at s54 e54 ⊢
    refine ⟨by show 2 ≤ sizeLine; decide,fun p55 hp55=>?_⟩
    have s55:=same_upd (o:=.lst [.ref o,.ref p54]) hp55
    have e55 : (upd H54 p55 (.lst [.ref o,.ref p54])) p55 = some (.lst [.ref o,.ref p54]):=upd_same
    generalize upd H54 p55 (.lst [.ref o,.ref p54]) = H55 at s55 e55 ⊢
    refine ⟨_,rfl,by show 2 ≤ sizeLine; decide,fun p56 hp56=>?_⟩
    have s56:=same_upd (o:=.tup [.int 1,.int 0]) hp56
    have e56 : (upd H55 p56 (.tup [.int 1,.int 0])) p56 = some (.tup [.int 1,.int 0]):=upd_same
    generalize upd H55 p56 (.tup [.int 1,.int 0]) = H56 at s56 e56 ⊢
    refine ⟨by show 2 ≤ sizeLine; decide,fun p57 hp57=>?_⟩
    have s57:=same_upd (o:=.lst [.ref o,.ref p56]) hp57
    have e57 : (upd H56 p57 (.lst [.ref o,.ref p56])) p57 = some (.lst [.ref o,.ref p56]):=upd_same
    generalize upd H56 p57 (.lst [.ref o,.ref p56]) = H57 at s57 e57 ⊢
    refine ⟨_,rfl,by show 2 ≤ sizeLine; decide,fun p58 hp58=>?_⟩
    have s58:=same_upd (o:=.lst [.int 1,.ref o]) hp58
    have e58 : (upd H57 p58 (.lst [.int 1,.ref o])) p58 = some (.lst [.int 1,.ref o]):=upd_same
    generalize upd H57 p58 (.lst [.int 1,.ref o]) = H58 at s58 e58 ⊢
    refine ⟨_,rfl,_,rfl,by show 2 ≤ sizeLine; decide,fun p59 hp59=>?_⟩
    have s59:=same_upd (o:=.tup [.ref o,.ref o]) hp59
    have e59 : (upd H58 p59 (.tup [.ref o,.ref o])) p59 = some (.tup [.ref o,.ref o]):=upd_same
    generalize upd H58 p59 (.tup [.ref o,.ref o]) = H59 at s59 e59 ⊢
    refine ⟨_,rfl,by show 2 ≤ sizeLine; decide,fun p60 hp60=>?_⟩
    have s60:=same_upd (o:=.lst [.int 1,.int 1]) hp60
    have e60 : (upd H59 p60 (.lst [.int 1,.int 1])) p60 = some (.lst [.int 1,.int 1]):=upd_same
    generalize upd H59 p60 (.lst [.int 1,.int 1]) = H60 at s60 e60 ⊢
    refine ⟨by show 2 ≤ sizeLine; decide,fun p61 hp61=>?_⟩
    have s61:=same_upd (o:=.lst [.ref o,.ref p60]) hp61
    have e61 : (upd H60 p61 (.lst [.ref o,.ref p60])) p61 = some (.lst [.ref o,.ref p60]):=upd_same
    generalize upd H60 p61 (.lst [.ref o,.ref p60]) = H61 at s61 e61 ⊢
    refine ⟨by show 2 ≤ sizeLine; decide,fun p62 hp62=>?_⟩
    have s62:=same_upd (o:=.tup [.bl true,.int 1]) hp62
    have e62 : (upd H61 p62 (.tup [.bl true,.int 1])) p62 = some (.tup [.bl true,.int 1]):=upd_same
    generalize upd H61 p62 (.tup [.bl true,.int 1]) = H62 at s62 e62 ⊢
    refine ⟨_,rfl,by show 2 ≤ sizeLine; decide,fun p63 hp63=>?_⟩
    have s63:=same_upd (o:=.lst [.ref p62,.ref o]) hp63
    have e63 : (upd H62 p63 (.lst [.ref p62,.ref o])) p63 = some (.lst [.ref p62,.ref o]):=upd_same
    generalize upd H62 p63 (.lst [.ref p62,.ref o]) = H63 at s63 e63 ⊢
    refine ⟨by show 9 ≤ sizeLine; decide,fun p64 hp64=>?_⟩
    have s64:=same_upd (o:=.lst [.non,.ref p52,.ref p53,.ref p55,.ref p57,.ref p58,.ref p59,.ref p61,.ref p63]) hp64
    have e64 : (upd H63 p64 (.lst [.non,.ref p52,.ref p53,.ref p55,.ref p57,.ref p58,.ref p59,.ref p61,.ref p63])) p64 = some (.lst [.non,.ref p52,.ref p53,.ref p55,.ref p57,.ref p58,.ref p59,.ref p61,.ref p63]):=upd_same
    generalize upd H63 p64 (.lst [.non,.ref p52,.ref p53,.ref p55,.ref p57,.ref p58,.ref p59,.ref p61,.ref p63]) = H64 at s64 e64 ⊢
    have f64 : Same H64 H64:=Same.refl _
    have f63:=s64.trans f64
    have f62:=s63.trans f63
    have f61:=s62.trans f62
    have f60:=s61.trans f61
    have f59:=s60.trans f60
    have f58:=s59.trans f59
    have f57:=s58.trans f58
    have f56:=s57.trans f57
    have f55:=s56.trans f56
    have f54:=s55.trans f55
    have f53:=s54.trans f54
    have f52:=s53.trans f53
    have g64:=s52.trans f52
    have gO:=t8.trans g64
    have rone : Rep K H64 (.ref o) oneD:=.tup (SqT.of (gO _ _ eo)) (.cons (.int _) (.cons (.int _) .nil))
    have rs : Reps K H64 [.non,.ref p52,.ref p53,.ref p55,.ref p57,.ref p58,.ref p59,.ref p61,.ref p63] badF:=(.cons .non (.cons (.lst (SqL.of (f52 _ _ e52)) .nil) (.cons (.lst (SqL.of (f53 _ _ e53)) (.cons rone .nil)) (.cons (.lst (SqL.of (f55 _ _ e55)) (.cons rone (.cons (.tup (SqT.of (f54 _ _ e54)) (.cons (.int _) (.cons (.int _) .nil))) .nil))) (.cons (.lst (SqL.of (f57 _ _ e57)) (.cons rone (.cons (.tup (SqT.of (f56 _ _ e56)) (.cons (.int _) (.cons (.int _) .nil))) .nil))) (.cons (.lst (SqL.of (f58 _ _ e58)) (.cons (.int _) (.cons rone .nil))) (.cons (.tup (SqT.of (f59 _ _ e59)) (.cons rone (.cons rone .nil))) (.cons (.lst (SqL.of (f61 _ _ e61)) (.cons rone (.cons (.lst (SqL.of (f60 _ _ e60)) (.cons (.int _) (.cons (.int _) .nil))) .nil))) (.cons (.lst (SqL.of (f63 _ _ e63)) (.cons (.tup (SqT.of (f62 _ _ e62)) (.cons (.bl _) (.cons (.int _) .nil))) (.cons rone .nil))) .nil)))))))))
    have netV:=netU.same g64
    refine ⟨p64,rfl,⟨_,SqL.of e64⟩,for_list (K:=K) (a:=p64) (xs:=[.non,.ref p52,.ref p53,.ref p55,.ref p57,.ref p58,.ref p59,.ref p61,.ref p63]) (fun j σ H'=>∃ v12 : Option V,σ = [some (.ref a),some (.int (i.val : Int)),some (.ref o),v3,some (.ref p13),v5,some (.int (1000000001 + (i.val : Int))),v7,v8,some (.ref x),v10,v11,v12] ∧ Same H64 H') ⟨none,rfl,Same.refl _⟩ (fun _ σ H' _ ⟨_,_,z⟩=>SqL.of (z _ _ e64)) ?_ ?_⟩
    · rintro j v σ H' hx ⟨v12,rfl,s'⟩
      obtain ⟨d,hd,rd⟩:=Reps.get rs hx
      have bad:=badF_ok hd
      have rx:=rd.same s'
      refine ⟨_,rfl,_,rfl,x,L,3,psN,v,d,10,3,rfl,netV.same s',ok,by decide,rx,.inr (.inr ⟨by decide,by decide,bad,rfl⟩),fun H3 s3=>?_⟩
      refine ⟨rfl,_,rfl,?_⟩
      rw [decide_eq_true (show V.str (nmW 3) = V.str "flows" from rfl)]
      refine iteF ?_
      refine ⟨_,rfl,_,rfl,x,L,3,psN,v,d,11,3,rfl,netV.same (s'.trans s3),ok,by decide,rx.same s3,.inr (.inr ⟨by decide,by decide,bad,rfl⟩),fun H4 s4=>?_⟩
      refine ⟨rfl,_,rfl,?_⟩
      rw [decide_eq_true (show V.str (nmW 3) = V.str "flows" from rfl)]
      refine iteF ?_
      exact ⟨_,rfl,(s'.trans s3).trans s4⟩
    rintro σ HL ⟨v12,rfl,s'⟩
    clear rs rone netV netU
    refine ⟨8,rfl,by decide,by decide,?_⟩
    refine comp_range (n:=8) (fun j ys H'=>ys = ((List.range j).map nm4).map V.str) rfl (small1000 (by decide)) ?_ ?_ ?_
    · rintro j ys H' hj rfl
      rw [List.length_map,List.length_map,List.length_range]
      exact Nat.le_refl _
    · rintro j ys H' N hj rfl hN C' s₀ H₀ ex
      dsimp only [tNoTest,gName]
      refine iteT ?_
      rw [Int.zero_add]
      refine ⟨_,rfl,_,rfl,_,_,rfl,rfl,j,i,rfl,hj,fun H2 s2=>?_⟩
      refine hN _ _ ?_
      rw [List.range_succ,List.map_append,List.map_append]
      rfl
    rintro ys H' rfl l hl
    have el : (upd H' l (.lst (((List.range 8).map nm4).map V.str))) l = some (.lst (((List.range 8).map nm4).map V.str)):=upd_same
    generalize upd H' l (.lst (((List.range 8).map nm4).map V.str)) = HZ at el ⊢
    refine ⟨by show 1 ≤ sizeLine; decide,fun p65 hp65=>?_⟩
    have s65:=same_upd (o:=.lst [.str "net"]) hp65
    have e65 : (upd HZ p65 (.lst [.str "net"])) p65 = some (.lst [.str "net"]):=upd_same
    generalize upd HZ p65 (.lst [.str "net"]) = H65 at s65 e65 ⊢
    refine ⟨p65,4,_,rfl,rfl,e65,by decide,by decide,by show 1 * 4 ≤ sizeLine; decide,fun p66 hp66=>?_⟩
    rw [show (List.replicate (4 : Int).toNat [V.str "net"]).flatten = List.replicate 4 (V.str "net") from fl_one 4]
    have s66:=same_upd (o:=.lst (List.replicate 4 (V.str "net"))) hp66
    have e66 : (upd H65 p66 (.lst (List.replicate 4 (V.str "net")))) p66 = some (.lst (List.replicate 4 (V.str "net"))):=upd_same
    generalize upd H65 p66 (.lst (List.replicate 4 (V.str "net"))) = H66 at s66 e66 ⊢
    refine ⟨by show 1 ≤ sizeLine; decide,fun p67 hp67=>?_⟩
    have s67:=same_upd (o:=.lst [.str ""]) hp67
    have e67 : (upd H66 p67 (.lst [.str ""])) p67 = some (.lst [.str ""]):=upd_same
    generalize upd H66 p67 (.lst [.str ""]) = H67 at s67 e67 ⊢
    refine ⟨p67,4,_,rfl,rfl,e67,by decide,by decide,by show 1 * 4 ≤ sizeLine; decide,fun p68 hp68=>?_⟩
    rw [show (List.replicate (4 : Int).toNat [V.str ""]).flatten = List.replicate 4 (V.str "") from fl_one 4]
    have s68:=same_upd (o:=.lst (List.replicate 4 (V.str ""))) hp68
    have e68 : (upd H67 p68 (.lst (List.replicate 4 (V.str "")))) p68 = some (.lst (List.replicate 4 (V.str ""))):=upd_same
    generalize upd H67 p68 (.lst (List.replicate 4 (V.str ""))) = H68 at s68 e68 ⊢
    refine ⟨p66,p68,_,_,rfl,rfl,(s67.trans s68) _ _ e66,e68,by show 4 + 4 ≤ sizeLine; decide,fun p69 hp69=>?_⟩
    have s69:=same_upd (o:=.lst (List.replicate 4 (V.str "net") ++ List.replicate 4 (V.str ""))) hp69
    have e69 : (upd H68 p69 (.lst (List.replicate 4 (V.str "net") ++ List.replicate 4 (V.str "")))) p69 = some (.lst (((List.range 8).map nm4).map V.str)):=upd_same
    generalize upd H68 p69 (.lst (List.replicate 4 (V.str "net") ++ List.replicate 4 (V.str ""))) = H69 at s69 e69 ⊢
    have f69 : Same H69 H69:=Same.refl _
    have f68:=s69.trans f69
    have f67:=s68.trans f68
    have f66:=s67.trans f67
    have f65:=s66.trans f66
    have g69:=s65.trans f65
    refine ⟨.list (((List.range 8).map nm4).map PyData.str),.list (((List.range 8).map nm4).map PyData.str),.lst (SqL.of (g69 _ _ el)) (reps_strs _),.lst (SqL.of e69) (reps_strs _),by decide +kernel,by decide +kernel,by decide +kernel,?_⟩
    rw [if_neg (by decide),show PyData.eqv (.list (((List.range 8).map nm4).map PyData.str)) (.list (((List.range 8).map nm4).map PyData.str)) = true by decide +kernel]
    exact k _
end
end K2
namespace K2
open PySem L2 PyProof.Rows Mp St Bz
theorem all_mk {l : PySem.W.OpenLaw} {w : World} {K : PySem.W.Frag} {h : Heap} {mg : Str → Option Value} {fa C CB CE CN c3 c4 c5 c6 g0 g1 g2 g3 g4 g5 g6 g7 g8 g9 g10 g11 g12 g13 g14 g15 g16 g17 g18 g19 g20 g21 g22 g23 g24 g25 g26 g27 g28 g29 g30 g31 g32 g33 g34 g35 g36 g37 g38 g39 g40 g41 g42 g43 g44 g45 g46 g47 g48 : Addr} {t1 t2 t3 : Tok} (X : K.In h) (G : h.Ns mainGlobals mg) (hfa : mg "law" = some (.ref fa))
    {od0 an0 od1 an1 od2 an2 od3 an3 od4 an4 od5 an5 od6 an6 od7 an7 od8 an8 od9 an9 od10 an10 od11 an11 od12 an12 od13 an13 od14 an14 od15 an15 od16 an16 od17 an17 od18 an18 od19 an19 od20 an20 od21 an21 od22 an22 od23 an23 od24 an24 od25 an25 od26 an26 od27 an27 od28 an28 od29 an29 od30 an30 od31 an31 od32 an32 od33 an33 od34 an34 od35 an35 od36 an36 od37 an37 od38 an38 od39 an39 od40 an40 od41 an41 od42 an42 od43 an43 od44 an44 od45 an45 od46 an46 od47 an47 od48 an48 : Option Addr} {sl0 sl1 sl2 sl3 sl4 sl5 sl6 sl7 sl8 sl9 sl10 sl11 sl12 sl13 sl14 sl15 sl16 sl17 sl18 sl19 sl20 sl21 sl22 sl23 sl24 sl25 sl26 sl27 sl28 sl29 sl30 sl31 sl32 sl33 sl34 sl35 sl36 sl37 sl38 sl39 sl40 sl41 sl42 sl43 sl44 sl45 sl46 sl47 sl48 : Array (Option Value)} {oc0 kV0 dc0 pm0 cd0 ct0 oc1 kV1 dc1 pm1 cd1 ct1 oc2 kV2 dc2 pm2 cd2 ct2 oc3 kV3 dc3 pm3 cd3 ct3 oc4 kV4 dc4 pm4 cd4 ct4 oc5 kV5 dc5 pm5 cd5 ct5 oc6 kV6 dc6 pm6 cd6 ct6 oc7 kV7 dc7 pm7 cd7 ct7 oc8 kV8 dc8 pm8 cd8 ct8 oc9 kV9 dc9 pm9 cd9 ct9 oc10 kV10 dc10 pm10 cd10 ct10 oc11 kV11 dc11 pm11 cd11 ct11 oc12 kV12 dc12 pm12 cd12 ct12 oc13 kV13 dc13 pm13 cd13 ct13 oc14 kV14 dc14 pm14 cd14 ct14 oc15 kV15 dc15 pm15 cd15 ct15 oc16 kV16 dc16 pm16 cd16 ct16 oc17 kV17 dc17 pm17 cd17 ct17 oc18 kV18 dc18 pm18 cd18 ct18 oc19 kV19 dc19 pm19 cd19 ct19 oc20 kV20 dc20 pm20 cd20 ct20 oc21 kV21 dc21 pm21 cd21 ct21 oc22 kV22 dc22 pm22 cd22 ct22 oc23 kV23 dc23 pm23 cd23 ct23 oc24 kV24 dc24 pm24 cd24 ct24 oc25 kV25 dc25 pm25 cd25 ct25 oc26 kV26 dc26 pm26 cd26 ct26 oc27 kV27 dc27 pm27 cd27 ct27 oc28 kV28 dc28 pm28 cd28 ct28 oc29 kV29 dc29 pm29 cd29 ct29 oc30 kV30 dc30 pm30 cd30 ct30 oc31 kV31 dc31 pm31 cd31 ct31 oc32 kV32 dc32 pm32 cd32 ct32 oc33 kV33 dc33 pm33 cd33 ct33 oc34 kV34 dc34 pm34 cd34 ct34 oc35 kV35 dc35 pm35 cd35 ct35 oc36 kV36 dc36 pm36 cd36 ct36 oc37 kV37 dc37 pm37 cd37 ct37 oc38 kV38 dc38 pm38 cd38 ct38 oc39 kV39 dc39 pm39 cd39 ct39 oc40 kV40 dc40 pm40 cd40 ct40 oc41 kV41 dc41 pm41 cd41 ct41 oc42 kV42 dc42 pm42 cd42 ct42 oc43 kV43 dc43 pm43 cd43 ct43 oc44 kV44 dc44 pm44 cd44 ct44 oc45 kV45 dc45 pm45 cd45 ct45 oc46 kV46 dc46 pm46 cd46 ct46 oc47 kV47 dc47 pm47 cd47 ct47 oc48 kV48 dc48 pm48 cd48 ct48 : Value}
    (z227_BadNet : PySem.W.nsIn K mainGlobals "BadNet" = some (some (.ref CB)))
    (z229_NoPlace : PySem.W.nsIn K mainGlobals "NoPlace" = some (some (.ref CN)))
    (z231_NoPipe : PySem.W.nsIn K mainGlobals "NoPipe" = some (some (.ref c3)))
    (z233_BadFlows : PySem.W.nsIn K mainGlobals "BadFlows" = some (some (.ref c4)))
    (z236_Net : PySem.W.nsIn K mainGlobals "Net" = some (some (.ref C)))
    (z237_BadFraction : PySem.W.nsIn K mainGlobals "BadFraction" = some (some (.ref CE)))
    (z238_BadRow : PySem.W.nsIn K mainGlobals "BadRow" = some (some (.ref c5)))
    (z239_NetError : PySem.W.nsIn K mainGlobals "NetError" = some (some (.ref c6)))
    (z0_a : PySem.W.nsIn K mainGlobals "is_whole" = some (some (.ref g0)))
    (z1_l : K.lookup g0 = some ⟨oc0,od0,.func (PySem.W.fnOf "is_whole" "is_whole" (defArgs s_is_whole) (defBody s_is_whole) (defScope s_is_whole) .none kV0 dc0 pm0 an0 cd0 ct0),sl0⟩)
    (z2_o : PySem.W.codeIn K cd0 "is_whole" = true)
    (z3_k : PySem.W.keepIn K (.ref g0) = true)
    (z4_a : PySem.W.nsIn K mainGlobals "common_divisor" = some (some (.ref g1)))
    (z5_l : K.lookup g1 = some ⟨oc1,od1,.func (PySem.W.fnOf "common_divisor" "common_divisor" (defArgs s_common_divisor) (defBody s_common_divisor) (defScope s_common_divisor) .none kV1 dc1 pm1 an1 cd1 ct1),sl1⟩)
    (z6_o : PySem.W.codeIn K cd1 "common_divisor" = true)
    (z7_k : PySem.W.keepIn K (.ref g1) = true)
    (z8_a : PySem.W.nsIn K mainGlobals "is_fraction" = some (some (.ref g2)))
    (z9_l : K.lookup g2 = some ⟨oc2,od2,.func (PySem.W.fnOf "is_fraction" "is_fraction" (defArgs s_is_fraction) (defBody s_is_fraction) (defScope s_is_fraction) .none kV2 dc2 pm2 an2 cd2 ct2),sl2⟩)
    (z10_o : PySem.W.codeIn K cd2 "is_fraction" = true)
    (z11_k : PySem.W.keepIn K (.ref g2) = true)
    (z12_a : PySem.W.nsIn K mainGlobals "counts_one_of" = some (some (.ref g3)))
    (z13_l : K.lookup g3 = some ⟨oc3,od3,.func (PySem.W.fnOf "counts_one_of" "counts_one_of" (defArgs s_counts_one_of) (defBody s_counts_one_of) (defScope s_counts_one_of) .none kV3 dc3 pm3 an3 cd3 ct3),sl3⟩)
    (z14_o : PySem.W.codeIn K cd3 "counts_one_of" = true)
    (z15_k : PySem.W.keepIn K (.ref g3) = true)
    (z16_a : PySem.W.nsIn K mainGlobals "is_hardness" = some (some (.ref g4)))
    (z17_l : K.lookup g4 = some ⟨oc4,od4,.func (PySem.W.fnOf "is_hardness" "is_hardness" (defArgs s_is_hardness) (defBody s_is_hardness) (defScope s_is_hardness) .none kV4 dc4 pm4 an4 cd4 ct4),sl4⟩)
    (z18_o : PySem.W.codeIn K cd4 "is_hardness" = true)
    (z19_k : PySem.W.keepIn K (.ref g4) = true)
    (z20_a : PySem.W.nsIn K mainGlobals "is_pipe" = some (some (.ref g5)))
    (z21_l : K.lookup g5 = some ⟨oc5,od5,.func (PySem.W.fnOf "is_pipe" "is_pipe" (defArgs s_is_pipe) (defBody s_is_pipe) (defScope s_is_pipe) .none kV5 dc5 pm5 an5 cd5 ct5),sl5⟩)
    (z22_o : PySem.W.codeIn K cd5 "is_pipe" = true)
    (z23_k : PySem.W.keepIn K (.ref g5) = true)
    (z24_a : PySem.W.findIn K (.ref C) "pipes" = some (some (.ref g6)))
    (z25_i : PySem.W.isFn K (.ref g6) = true)
    (z26_l : K.lookup g6 = some ⟨oc6,od6,.func (PySem.W.fnOf "pipes" "Net.pipes" (defArgs s_Net_pipes) (defBody s_Net_pipes) (defScope s_Net_pipes) .none kV6 dc6 pm6 an6 cd6 ct6),sl6⟩)
    (z27_o : PySem.W.codeIn K cd6 "Net.pipes" = true)
    (z28_k : PySem.W.keepIn K (.ref g6) = true)
    (z29_a : PySem.W.nsIn K mainGlobals "is_whole" = some (some (.ref g7)))
    (z30_l : K.lookup g7 = some ⟨oc7,od7,.func (PySem.W.fnOf "is_whole" "is_whole" (defArgs s_is_whole) (defBody s_is_whole) (defScope s_is_whole) .none kV7 dc7 pm7 an7 cd7 ct7),sl7⟩)
    (z31_o : PySem.W.codeIn K cd7 "is_whole" = true)
    (z32_k : PySem.W.keepIn K (.ref g7) = true)
    (z33_a : PySem.W.nsIn K mainGlobals "counts_one_of" = some (some (.ref g8)))
    (z34_l : K.lookup g8 = some ⟨oc8,od8,.func (PySem.W.fnOf "counts_one_of" "counts_one_of" (defArgs s_counts_one_of) (defBody s_counts_one_of) (defScope s_counts_one_of) .none kV8 dc8 pm8 an8 cd8 ct8),sl8⟩)
    (z35_o : PySem.W.codeIn K cd8 "counts_one_of" = true)
    (z36_k : PySem.W.keepIn K (.ref g8) = true)
    (z37_a : PySem.W.nsIn K mainGlobals "is_fraction" = some (some (.ref g9)))
    (z38_l : K.lookup g9 = some ⟨oc9,od9,.func (PySem.W.fnOf "is_fraction" "is_fraction" (defArgs s_is_fraction) (defBody s_is_fraction) (defScope s_is_fraction) .none kV9 dc9 pm9 an9 cd9 ct9),sl9⟩)
    (z39_o : PySem.W.codeIn K cd9 "is_fraction" = true)
    (z40_k : PySem.W.keepIn K (.ref g9) = true)
    (z41_a : PySem.W.nsIn K mainGlobals "is_hardness" = some (some (.ref g10)))
    (z42_l : K.lookup g10 = some ⟨oc10,od10,.func (PySem.W.fnOf "is_hardness" "is_hardness" (defArgs s_is_hardness) (defBody s_is_hardness) (defScope s_is_hardness) .none kV10 dc10 pm10 an10 cd10 ct10),sl10⟩)
    (z43_o : PySem.W.codeIn K cd10 "is_hardness" = true)
    (z44_k : PySem.W.keepIn K (.ref g10) = true)
    (z45_a : PySem.W.nsIn K mainGlobals "is_pipe" = some (some (.ref g11)))
    (z46_l : K.lookup g11 = some ⟨oc11,od11,.func (PySem.W.fnOf "is_pipe" "is_pipe" (defArgs s_is_pipe) (defBody s_is_pipe) (defScope s_is_pipe) .none kV11 dc11 pm11 an11 cd11 ct11),sl11⟩)
    (z47_o : PySem.W.codeIn K cd11 "is_pipe" = true)
    (z48_k : PySem.W.keepIn K (.ref g11) = true)
    (z49_a : PySem.W.nsIn K mainGlobals "is_net" = some (some (.ref g12)))
    (z50_l : K.lookup g12 = some ⟨oc12,od12,.func (PySem.W.fnOf "is_net" "is_net" (defArgs s_is_net) (defBody s_is_net) (defScope s_is_net) .none kV12 dc12 pm12 an12 cd12 ct12),sl12⟩)
    (z51_o : PySem.W.codeIn K cd12 "is_net" = true)
    (z52_k : PySem.W.keepIn K (.ref g12) = true)
    (z53_a : PySem.W.findIn K (.ref C) "__init__" = some (some (.ref g13)))
    (z54_i : PySem.W.isFn K (.ref g13) = true)
    (z55_l : K.lookup g13 = some ⟨oc13,od13,.func (PySem.W.fnOf "__init__" "Net.__init__" (defArgs s_Net___init__) (defBody s_Net___init__) (defScope s_Net___init__) .none kV13 dc13 pm13 an13 cd13 ct13),sl13⟩)
    (z56_o : PySem.W.codeIn K cd13 "Net.__init__" = true)
    (z57_k : PySem.W.keepIn K (.ref g13) = true)
    (z58_a : PySem.W.findIn K (.ref C) "part" = some (some (.ref g14)))
    (z59_i : PySem.W.isFn K (.ref g14) = true)
    (z60_l : K.lookup g14 = some ⟨oc14,od14,.func (PySem.W.fnOf "part" "Net.part" (defArgs s_Net_part) (defBody s_Net_part) (defScope s_Net_part) .none kV14 dc14 pm14 an14 cd14 ct14),sl14⟩)
    (z61_o : PySem.W.codeIn K cd14 "Net.part" = true)
    (z62_k : PySem.W.keepIn K (.ref g14) = true)
    (z63_a : PySem.W.nsIn K mainGlobals "are_places" = some (some (.ref g15)))
    (z64_l : K.lookup g15 = some ⟨oc15,od15,.func (PySem.W.fnOf "are_places" "are_places" (defArgs s_are_places) (defBody s_are_places) (defScope s_are_places) .none kV15 dc15 pm15 an15 cd15 ct15),sl15⟩)
    (z65_o : PySem.W.codeIn K cd15 "are_places" = true)
    (z66_k : PySem.W.keepIn K (.ref g15) = true)
    (z67_a : PySem.W.nsIn K mainGlobals "check_places" = some (some (.ref g16)))
    (z68_l : K.lookup g16 = some ⟨oc16,od16,.func (PySem.W.fnOf "check_places" "check_places" (defArgs s_check_places) (defBody s_check_places) (defScope s_check_places) .none kV16 dc16 pm16 an16 cd16 ct16),sl16⟩)
    (z69_o : PySem.W.codeIn K cd16 "check_places" = true)
    (z70_k : PySem.W.keepIn K (.ref g16) = true)
    (z71_a : PySem.W.nsIn K mainGlobals "stream" = some (some (.ref g17)))
    (z72_l : K.lookup g17 = some ⟨oc17,od17,.func (PySem.W.fnOf "stream" "stream" (defArgs s_stream) (defBody s_stream) (defScope s_stream) .none kV17 dc17 pm17 an17 cd17 ct17),sl17⟩)
    (z73_o : PySem.W.codeIn K cd17 "stream" = true)
    (z74_k : PySem.W.keepIn K (.ref g17) = true)
    (z75_a : PySem.W.nsIn K mainGlobals "hardness_of" = some (some (.ref g18)))
    (z76_l : K.lookup g18 = some ⟨oc18,od18,.func (PySem.W.fnOf "hardness_of" "hardness_of" (defArgs s_hardness_of) (defBody s_hardness_of) (defScope s_hardness_of) .none kV18 dc18 pm18 an18 cd18 ct18),sl18⟩)
    (z77_o : PySem.W.codeIn K cd18 "hardness_of" = true)
    (z78_k : PySem.W.keepIn K (.ref g18) = true)
    (z79_a : PySem.W.nsIn K mainGlobals "chance" = some (some (.ref g19)))
    (z80_l : K.lookup g19 = some ⟨oc19,od19,.func (PySem.W.fnOf "chance" "chance" (defArgs s_chance) (defBody s_chance) (defScope s_chance) .none kV19 dc19 pm19 an19 cd19 ct19),sl19⟩)
    (z81_o : PySem.W.codeIn K cd19 "chance" = true)
    (z82_k : PySem.W.keepIn K (.ref g19) = true)
    (z83_a : PySem.W.nsIn K mainGlobals "share" = some (some (.ref g20)))
    (z84_l : K.lookup g20 = some ⟨oc20,od20,.func (PySem.W.fnOf "share" "share" (defArgs s_share) (defBody s_share) (defScope s_share) .none kV20 dc20 pm20 an20 cd20 ct20),sl20⟩)
    (z85_o : PySem.W.codeIn K cd20 "share" = true)
    (z86_k : PySem.W.keepIn K (.ref g20) = true)
    (z87_a : PySem.W.nsIn K mainGlobals "without_pipe" = some (some (.ref g21)))
    (z88_l : K.lookup g21 = some ⟨oc21,od21,.func (PySem.W.fnOf "without_pipe" "without_pipe" (defArgs s_without_pipe) (defBody s_without_pipe) (defScope s_without_pipe) .none kV21 dc21 pm21 an21 cd21 ct21),sl21⟩)
    (z89_o : PySem.W.codeIn K cd21 "without_pipe" = true)
    (z90_k : PySem.W.keepIn K (.ref g21) = true)
    (z91_a : PySem.W.nsIn K mainGlobals "are_fractions" = some (some (.ref g22)))
    (z92_l : K.lookup g22 = some ⟨oc22,od22,.func (PySem.W.fnOf "are_fractions" "are_fractions" (defArgs s_are_fractions) (defBody s_are_fractions) (defScope s_are_fractions) .none kV22 dc22 pm22 an22 cd22 ct22),sl22⟩)
    (z93_o : PySem.W.codeIn K cd22 "are_fractions" = true)
    (z94_k : PySem.W.keepIn K (.ref g22) = true)
    (z95_a : PySem.W.nsIn K mainGlobals "check_flows" = some (some (.ref g23)))
    (z96_l : K.lookup g23 = some ⟨oc23,od23,.func (PySem.W.fnOf "check_flows" "check_flows" (defArgs s_check_flows) (defBody s_check_flows) (defScope s_check_flows) .none kV23 dc23 pm23 an23 cd23 ct23),sl23⟩)
    (z97_o : PySem.W.codeIn K cd23 "check_flows" = true)
    (z98_k : PySem.W.keepIn K (.ref g23) = true)
    (z99_a : PySem.W.nsIn K mainGlobals "heat" = some (some (.ref g24)))
    (z100_l : K.lookup g24 = some ⟨oc24,od24,.func (PySem.W.fnOf "heat" "heat" (defArgs s_heat) (defBody s_heat) (defScope s_heat) .none kV24 dc24 pm24 an24 cd24 ct24),sl24⟩)
    (z101_o : PySem.W.codeIn K cd24 "heat" = true)
    (z102_k : PySem.W.keepIn K (.ref g24) = true)
    (z103_a : PySem.W.nsIn K mainGlobals "sums_of" = some (some (.ref g25)))
    (z104_l : K.lookup g25 = some ⟨oc25,od25,.func (PySem.W.fnOf "sums_of" "sums_of" (defArgs s_sums_of) (defBody s_sums_of) (defScope s_sums_of) .none kV25 dc25 pm25 an25 cd25 ct25),sl25⟩)
    (z105_o : PySem.W.codeIn K cd25 "sums_of" = true)
    (z106_k : PySem.W.keepIn K (.ref g25) = true)
    (z107_a : PySem.W.nsIn K mainGlobals "made" = some (some (.ref g26)))
    (z108_l : K.lookup g26 = some ⟨oc26,od26,.func (PySem.W.fnOf "made" "made" (defArgs s_made) (defBody s_made) (defScope s_made) .none kV26 dc26 pm26 an26 cd26 ct26),sl26⟩)
    (z109_o : PySem.W.codeIn K cd26 "made" = true)
    (z110_k : PySem.W.keepIn K (.ref g26) = true)
    (z111_a : PySem.W.nsIn K mainGlobals "plus" = some (some (.ref g27)))
    (z112_l : K.lookup g27 = some ⟨oc27,od27,.func (PySem.W.fnOf "plus" "plus" (defArgs s_plus) (defBody s_plus) (defScope s_plus) .none kV27 dc27 pm27 an27 cd27 ct27),sl27⟩)
    (z113_o : PySem.W.codeIn K cd27 "plus" = true)
    (z114_k : PySem.W.keepIn K (.ref g27) = true)
    (z115_a : PySem.W.nsIn K mainGlobals "minus" = some (some (.ref g28)))
    (z116_l : K.lookup g28 = some ⟨oc28,od28,.func (PySem.W.fnOf "minus" "minus" (defArgs s_minus) (defBody s_minus) (defScope s_minus) .none kV28 dc28 pm28 an28 cd28 ct28),sl28⟩)
    (z117_o : PySem.W.codeIn K cd28 "minus" = true)
    (z118_k : PySem.W.keepIn K (.ref g28) = true)
    (z119_a : PySem.W.nsIn K mainGlobals "times" = some (some (.ref g29)))
    (z120_l : K.lookup g29 = some ⟨oc29,od29,.func (PySem.W.fnOf "times" "times" (defArgs s_times) (defBody s_times) (defScope s_times) .none kV29 dc29 pm29 an29 cd29 ct29),sl29⟩)
    (z121_o : PySem.W.codeIn K cd29 "times" = true)
    (z122_k : PySem.W.keepIn K (.ref g29) = true)
    (z123_a : PySem.W.nsIn K mainGlobals "over" = some (some (.ref g30)))
    (z124_l : K.lookup g30 = some ⟨oc30,od30,.func (PySem.W.fnOf "over" "over" (defArgs s_over) (defBody s_over) (defScope s_over) .none kV30 dc30 pm30 an30 cd30 ct30),sl30⟩)
    (z125_o : PySem.W.codeIn K cd30 "over" = true)
    (z126_k : PySem.W.keepIn K (.ref g30) = true)
    (z127_a : PySem.W.nsIn K mainGlobals "total" = some (some (.ref g31)))
    (z128_l : K.lookup g31 = some ⟨oc31,od31,.func (PySem.W.fnOf "total" "total" (defArgs s_total) (defBody s_total) (defScope s_total) .none kV31 dc31 pm31 an31 cd31 ct31),sl31⟩)
    (z129_o : PySem.W.codeIn K cd31 "total" = true)
    (z130_k : PySem.W.keepIn K (.ref g31) = true)
    (z131_a : PySem.W.nsIn K mainGlobals "ease_between" = some (some (.ref g32)))
    (z132_l : K.lookup g32 = some ⟨oc32,od32,.func (PySem.W.fnOf "ease_between" "ease_between" (defArgs s_ease_between) (defBody s_ease_between) (defScope s_ease_between) .none kV32 dc32 pm32 an32 cd32 ct32),sl32⟩)
    (z133_o : PySem.W.codeIn K cd32 "ease_between" = true)
    (z134_k : PySem.W.keepIn K (.ref g32) = true)
    (z135_a : PySem.W.nsIn K mainGlobals "ease_at" = some (some (.ref g33)))
    (z136_l : K.lookup g33 = some ⟨oc33,od33,.func (PySem.W.fnOf "ease_at" "ease_at" (defArgs s_ease_at) (defBody s_ease_at) (defScope s_ease_at) .none kV33 dc33 pm33 an33 cd33 ct33),sl33⟩)
    (z137_o : PySem.W.codeIn K cd33 "ease_at" = true)
    (z138_k : PySem.W.keepIn K (.ref g33) = true)
    (z139_a : PySem.W.nsIn K mainGlobals "ease_by_way_of" = some (some (.ref g34)))
    (z140_l : K.lookup g34 = some ⟨oc34,od34,.func (PySem.W.fnOf "ease_by_way_of" "ease_by_way_of" (defArgs s_ease_by_way_of) (defBody s_ease_by_way_of) (defScope s_ease_by_way_of) .none kV34 dc34 pm34 an34 cd34 ct34),sl34⟩)
    (z141_o : PySem.W.codeIn K cd34 "ease_by_way_of" = true)
    (z142_k : PySem.W.keepIn K (.ref g34) = true)
    (z143_a : PySem.W.nsIn K mainGlobals "ease_without" = some (some (.ref g35)))
    (z144_l : K.lookup g35 = some ⟨oc35,od35,.func (PySem.W.fnOf "ease_without" "ease_without" (defArgs s_ease_without) (defBody s_ease_without) (defScope s_ease_without) .none kV35 dc35 pm35 an35 cd35 ct35),sl35⟩)
    (z145_o : PySem.W.codeIn K cd35 "ease_without" = true)
    (z146_k : PySem.W.keepIn K (.ref g35) = true)
    (z147_a : PySem.W.nsIn K mainGlobals "pairs" = some (some (.ref g36)))
    (z148_l : K.lookup g36 = some ⟨oc36,od36,.func (PySem.W.fnOf "pairs" "pairs" (defArgs s_pairs) (defBody s_pairs) (defScope s_pairs) .none kV36 dc36 pm36 an36 cd36 ct36),sl36⟩)
    (z149_o : PySem.W.codeIn K cd36 "pairs" = true)
    (z150_k : PySem.W.keepIn K (.ref g36) = true)
    (z151_a : PySem.W.nsIn K mainGlobals "net_of_eases" = some (some (.ref g37)))
    (z152_l : K.lookup g37 = some ⟨oc37,od37,.func (PySem.W.fnOf "net_of_eases" "net_of_eases" (defArgs s_net_of_eases) (defBody s_net_of_eases) (defScope s_net_of_eases) .none kV37 dc37 pm37 an37 cd37 ct37),sl37⟩)
    (z153_o : PySem.W.codeIn K cd37 "net_of_eases" = true)
    (z154_k : PySem.W.keepIn K (.ref g37) = true)
    (z155_a : PySem.W.nsIn K mainGlobals "slim" = some (some (.ref g38)))
    (z156_l : K.lookup g38 = some ⟨oc38,od38,.func (PySem.W.fnOf "slim" "slim" (defArgs s_slim) (defBody s_slim) (defScope s_slim) .none kV38 dc38 pm38 an38 cd38 ct38),sl38⟩)
    (z157_o : PySem.W.codeIn K cd38 "slim" = true)
    (z158_k : PySem.W.keepIn K (.ref g38) = true)
    (z159_a : PySem.W.nsIn K mainGlobals "taken_out" = some (some (.ref g39)))
    (z160_l : K.lookup g39 = some ⟨oc39,od39,.func (PySem.W.fnOf "taken_out" "taken_out" (defArgs s_taken_out) (defBody s_taken_out) (defScope s_taken_out) .none kV39 dc39 pm39 an39 cd39 ct39),sl39⟩)
    (z161_o : PySem.W.codeIn K cd39 "taken_out" = true)
    (z162_k : PySem.W.keepIn K (.ref g39) = true)
    (z163_a : PySem.W.nsIn K mainGlobals "_law_sort" = some (some (.ref g40)))
    (z164_l : K.lookup g40 = some ⟨oc40,od40,.func (PySem.W.fnOf "_law_sort" "_law_sort" (defArgs s__law_sort) (defBody s__law_sort) (defScope s__law_sort) .none kV40 dc40 pm40 an40 cd40 ct40),sl40⟩)
    (z165_o : PySem.W.codeIn K cd40 "_law_sort" = true)
    (z166_k : PySem.W.keepIn K (.ref g40) = true)
    (z167_a : PySem.W.nsIn K mainGlobals "with_pipe" = some (some (.ref g41)))
    (z168_l : K.lookup g41 = some ⟨oc41,od41,.func (PySem.W.fnOf "with_pipe" "with_pipe" (defArgs s_with_pipe) (defBody s_with_pipe) (defScope s_with_pipe) .none kV41 dc41 pm41 an41 cd41 ct41),sl41⟩)
    (z169_o : PySem.W.codeIn K cd41 "with_pipe" = true)
    (z170_k : PySem.W.keepIn K (.ref g41) = true)
    (z171_a : PySem.W.nsIn K mainGlobals "_law_ask" = some (some (.ref g42)))
    (z172_l : K.lookup g42 = some ⟨oc42,od42,.func (PySem.W.fnOf "_law_ask" "_law_ask" (defArgs s__law_ask) (defBody s__law_ask) (defScope s__law_ask) .none kV42 dc42 pm42 an42 cd42 ct42),sl42⟩)
    (z173_o : PySem.W.codeIn K cd42 "_law_ask" = true)
    (z174_k : PySem.W.keepIn K (.ref g42) = true)
    (z175_a : PySem.W.nsIn K mainGlobals "_law_net" = some (some (.ref g43)))
    (z176_l : K.lookup g43 = some ⟨oc43,od43,.func (PySem.W.fnOf "_law_net" "_law_net" (defArgs s__law_net) (defBody s__law_net) (defScope s__law_net) .none kV43 dc43 pm43 an43 cd43 ct43),sl43⟩)
    (z177_o : PySem.W.codeIn K cd43 "_law_net" = true)
    (z178_k : PySem.W.keepIn K (.ref g43) = true)
    (z179_a : PySem.W.nsIn K mainGlobals "_law_told" = some (some (.ref g44)))
    (z180_l : K.lookup g44 = some ⟨oc44,od44,.func (PySem.W.fnOf "_law_told" "_law_told" (defArgs s__law_told) (defBody s__law_told) (defScope s__law_told) .none kV44 dc44 pm44 an44 cd44 ct44),sl44⟩)
    (z181_o : PySem.W.codeIn K cd44 "_law_told" = true)
    (z182_k : PySem.W.keepIn K (.ref g44) = true)
    (z183_a : PySem.W.nsIn K mainGlobals "_law_asked" = some (some (.ref g45)))
    (z184_l : K.lookup g45 = some ⟨oc45,od45,.func (PySem.W.fnOf "_law_asked" "_law_asked" (defArgs s__law_asked) (defBody s__law_asked) (defScope s__law_asked) .none kV45 dc45 pm45 an45 cd45 ct45),sl45⟩)
    (z185_o : PySem.W.codeIn K cd45 "_law_asked" = true)
    (z186_k : PySem.W.keepIn K (.ref g45) = true)
    (z187_a : PySem.W.nsIn K mainGlobals "_law_come" = some (some (.ref g46)))
    (z188_l : K.lookup g46 = some ⟨oc46,od46,.func (PySem.W.fnOf "_law_come" "_law_come" (defArgs s__law_come) (defBody s__law_come) (defScope s__law_come) .none kV46 dc46 pm46 an46 cd46 ct46),sl46⟩)
    (z189_o : PySem.W.codeIn K cd46 "_law_come" = true)
    (z190_k : PySem.W.keepIn K (.ref g46) = true)
    (z191_a : PySem.W.nsIn K mainGlobals "_law_cell_at" = some (some (.ref g47)))
    (z192_l : K.lookup g47 = some ⟨oc47,od47,.func (PySem.W.fnOf "_law_cell_at" "_law_cell_at" (defArgs s__law_cell_at) (defBody s__law_cell_at) (defScope s__law_cell_at) .none kV47 dc47 pm47 an47 cd47 ct47),sl47⟩)
    (z193_o : PySem.W.codeIn K cd47 "_law_cell_at" = true)
    (z194_k : PySem.W.keepIn K (.ref g47) = true)
    (z195_a : PySem.W.nsIn K mainGlobals "law" = some (some (.ref g48)))
    (z196_l : K.lookup g48 = some ⟨oc48,od48,.func (PySem.W.fnOf "law" "law" (defArgs s_law) (defBody s_law) (defScope s_law) .none kV48 dc48 pm48 an48 cd48 ct48),sl48⟩)
    (z197_o : PySem.W.codeIn K cd48 "law" = true)
    (z198_k : PySem.W.keepIn K (.ref g48) = true)
    (z199_isinstance : PySem.W.nsIn K mainGlobals "isinstance" = some none)
    (z200_int : PySem.W.nsIn K mainGlobals "int" = some none)
    (z201_bool : PySem.W.nsIn K mainGlobals "bool" = some none)
    (z202_abs : PySem.W.nsIn K mainGlobals "abs" = some none)
    (z203_len : PySem.W.nsIn K mainGlobals "len" = some none)
    (z204_tuple : PySem.W.nsIn K mainGlobals "tuple" = some none)
    (z205_list : PySem.W.nsIn K mainGlobals "list" = some none)
    (z206_min : PySem.W.nsIn K mainGlobals "min" = some none)
    (z207_max : PySem.W.nsIn K mainGlobals "max" = some none)
    (z208_range : PySem.W.nsIn K mainGlobals "range" = some none)
    (z209_all : PySem.W.nsIn K mainGlobals "all" = some none)
    (z210_sorted : PySem.W.nsIn K mainGlobals "sorted" = some none)
    (z211_enumerate : PySem.W.nsIn K mainGlobals "enumerate" = some none)
    (z212_reversed : PySem.W.nsIn K mainGlobals "reversed" = some none)
    (z213_zip : PySem.W.nsIn K mainGlobals "zip" = some none)
    (z214_sum : PySem.W.nsIn K mainGlobals "sum" = some none)
    (z215_any : PySem.W.nsIn K mainGlobals "any" = some none)
    (z216_ValueError : PySem.W.nsIn K mainGlobals "ValueError" = some none)
    (z217_MOST_PLACES : PySem.W.nsIn K mainGlobals "MOST_PLACES" = some (some (.int 8 t1)))
    (z218_MOST_PIPES : PySem.W.nsIn K mainGlobals "MOST_PIPES" = some (some (.int 28 t2)))
    (z219_MOST_IN_HARDNESS : PySem.W.nsIn K mainGlobals "MOST_IN_HARDNESS" = some (some (.int 1000000000 t3)))
    (z220_pg : PySem.W.plainGet K C Str.empty = true)
    (z221_hd : PySem.W.hasDictIn K C = true)
    (z222_po : PySem.W.plainOver K C = true)
    (z223_sa : PySem.W.findIn K (.ref C) "__setattr__" = some (some (.builtin "object.__setattr__")))
    (z224_nsize : PySem.W.findIn K (.ref C) "size" = some none)
    (z225_nlaid : PySem.W.findIn K (.ref C) "laid" = some none)
    (z226_exc : PySem.W.excIn K CB veMro "ValueError.__new__" = true)
    (z228_exc : PySem.W.excIn K CN veMro "ValueError.__new__" = true)
    (z230_exc : PySem.W.excIn K c3 veMro "ValueError.__new__" = true)
    (z232_exc : PySem.W.excIn K c4 veMro "ValueError.__new__" = true)
    (z234_mk : PySem.W.makesIn K C = true)
    (z235_kc : PySem.W.keepIn K (.ref C) = true)
    (z240_e1 : (PySem.W.clsIn K CB).isSome = true)
    (z241_e2 : PySem.W.findIn K (.ref CB) "__getattribute__" = some (some (.builtin "BaseException.__getattribute__")))
    (z242_e3 : PySem.W.findIn K (.ref CB) "__getattr__" = some none)
    (z243_e4 : PySem.W.findIn K (.ref CB) "__class__" = some (some (.builtin "object.__class__")))
    (z244_e5 : PySem.W.specialIn K (.builtin "object.__class__") "__get__" = some (some (.builtin "getset_descriptor.__get__")))
    (z245_e6 : PySem.W.takesIn K (.builtin "object.__class__") = some true)
    (z246_e7 : PySem.W.mroIn K CB (.type "object") = some true)
    (z247_e8 : PySem.W.mroIn K CB (.type "BaseException") = some true)
    (z248_i : PySem.W.kitOne K (.ref CB) (.ref CB) = some true)
    (z249_i : PySem.W.kitOne K (.ref CB) (.ref CN) = some false)
    (z250_i : PySem.W.kitOne K (.ref CB) (.ref c3) = some false)
    (z251_i : PySem.W.kitOne K (.ref CB) (.ref c4) = some false)
    (z252_i : PySem.W.kitOne K (.ref CB) (.ref CE) = some false)
    (z253_i : PySem.W.kitOne K (.ref CB) (.ref c5) = some false)
    (z254_i : PySem.W.kitOne K (.ref CB) (.type "ValueError") = some true)
    (z255_x : PySem.W.exmOne K (.ref CB) (.ref c6) = some true)
    (z256_e1 : (PySem.W.clsIn K CN).isSome = true)
    (z257_e2 : PySem.W.findIn K (.ref CN) "__getattribute__" = some (some (.builtin "BaseException.__getattribute__")))
    (z258_e3 : PySem.W.findIn K (.ref CN) "__getattr__" = some none)
    (z259_e4 : PySem.W.findIn K (.ref CN) "__class__" = some (some (.builtin "object.__class__")))
    (z260_e7 : PySem.W.mroIn K CN (.type "object") = some true)
    (z261_e8 : PySem.W.mroIn K CN (.type "BaseException") = some true)
    (z262_i : PySem.W.kitOne K (.ref CN) (.ref CB) = some false)
    (z263_i : PySem.W.kitOne K (.ref CN) (.ref CN) = some true)
    (z264_i : PySem.W.kitOne K (.ref CN) (.ref c3) = some false)
    (z265_i : PySem.W.kitOne K (.ref CN) (.ref c4) = some false)
    (z266_i : PySem.W.kitOne K (.ref CN) (.ref CE) = some false)
    (z267_i : PySem.W.kitOne K (.ref CN) (.ref c5) = some false)
    (z268_i : PySem.W.kitOne K (.ref CN) (.type "ValueError") = some true)
    (z269_x : PySem.W.exmOne K (.ref CN) (.ref c6) = some true)
    (z270_e1 : (PySem.W.clsIn K c3).isSome = true)
    (z271_e2 : PySem.W.findIn K (.ref c3) "__getattribute__" = some (some (.builtin "BaseException.__getattribute__")))
    (z272_e3 : PySem.W.findIn K (.ref c3) "__getattr__" = some none)
    (z273_e4 : PySem.W.findIn K (.ref c3) "__class__" = some (some (.builtin "object.__class__")))
    (z274_e7 : PySem.W.mroIn K c3 (.type "object") = some true)
    (z275_e8 : PySem.W.mroIn K c3 (.type "BaseException") = some true)
    (z276_i : PySem.W.kitOne K (.ref c3) (.ref CB) = some false)
    (z277_i : PySem.W.kitOne K (.ref c3) (.ref CN) = some false)
    (z278_i : PySem.W.kitOne K (.ref c3) (.ref c3) = some true)
    (z279_i : PySem.W.kitOne K (.ref c3) (.ref c4) = some false)
    (z280_i : PySem.W.kitOne K (.ref c3) (.ref CE) = some false)
    (z281_i : PySem.W.kitOne K (.ref c3) (.ref c5) = some false)
    (z282_i : PySem.W.kitOne K (.ref c3) (.type "ValueError") = some true)
    (z283_x : PySem.W.exmOne K (.ref c3) (.ref c6) = some true)
    (z284_e1 : (PySem.W.clsIn K c4).isSome = true)
    (z285_e2 : PySem.W.findIn K (.ref c4) "__getattribute__" = some (some (.builtin "BaseException.__getattribute__")))
    (z286_e3 : PySem.W.findIn K (.ref c4) "__getattr__" = some none)
    (z287_e4 : PySem.W.findIn K (.ref c4) "__class__" = some (some (.builtin "object.__class__")))
    (z288_e7 : PySem.W.mroIn K c4 (.type "object") = some true)
    (z289_e8 : PySem.W.mroIn K c4 (.type "BaseException") = some true)
    (z290_i : PySem.W.kitOne K (.ref c4) (.ref CB) = some false)
    (z291_i : PySem.W.kitOne K (.ref c4) (.ref CN) = some false)
    (z292_i : PySem.W.kitOne K (.ref c4) (.ref c3) = some false)
    (z293_i : PySem.W.kitOne K (.ref c4) (.ref c4) = some true)
    (z294_i : PySem.W.kitOne K (.ref c4) (.ref CE) = some false)
    (z295_i : PySem.W.kitOne K (.ref c4) (.ref c5) = some false)
    (z296_i : PySem.W.kitOne K (.ref c4) (.type "ValueError") = some true)
    (z297_x : PySem.W.exmOne K (.ref c4) (.ref c6) = some true) :
    ∃ fd : FuncData,(∀ (s : Shared) (v : Value),BindsTo s fd ⟨[v],[]⟩ [("_law_script",v)]) ∧ ∀ base : Heap,K.In base → base.Ns mainGlobals mg → FnOk l.prog w K mg base CX0 15 fa fd ["_law_script"] (spLaw K):=by
  have e:=hfa.symm.trans (PySem.W.mg_of X G z195_a)
  cases e
  have F0:=fun_mk (st:=s_is_whole) z1_l z2_o z3_k
  have b0:=F0.binds (ps:=["value"]) fun _ _ _ _ _ _ us hl=>match us,hl with | [_],_=>rfl
  have m0:=PySem.W.mg_of X G z0_a
  have F1:=fun_mk (st:=s_common_divisor) z5_l z6_o z7_k
  have b1:=F1.binds (ps:=["a","b"]) fun _ _ _ _ _ _ us hl=>match us,hl with | [_,_],_=>rfl
  have m1:=PySem.W.mg_of X G z4_a
  have F2:=fun_mk (st:=s_is_fraction) z9_l z10_o z11_k
  have b2:=F2.binds (ps:=["value"]) fun _ _ _ _ _ _ us hl=>match us,hl with | [_],_=>rfl
  have m2:=PySem.W.mg_of X G z8_a
  have F3:=fun_mk (st:=s_counts_one_of) z13_l z14_o z15_k
  have b3:=F3.binds (ps:=["value","many"]) fun _ _ _ _ _ _ us hl=>match us,hl with | [_,_],_=>rfl
  have m3:=PySem.W.mg_of X G z12_a
  have F4:=fun_mk (st:=s_is_hardness) z17_l z18_o z19_k
  have b4:=F4.binds (ps:=["value"]) fun _ _ _ _ _ _ us hl=>match us,hl with | [_],_=>rfl
  have m4:=PySem.W.mg_of X G z16_a
  have F5:=fun_mk (st:=s_is_pipe) z21_l z22_o z23_k
  have b5:=F5.binds (ps:=["value","places"]) fun _ _ _ _ _ _ us hl=>match us,hl with | [_,_],_=>rfl
  have m5:=PySem.W.mg_of X G z20_a
  have F6:=fun_mk (st:=s_Net_pipes) z26_l z27_o z28_k
  have b6:=F6.binds (ps:=["self"]) fun _ _ _ _ _ _ us hl=>match us,hl with | [_],_=>rfl
  have Tm6 : Meth K C "pipes" g6:=⟨z24_a,z25_i,z28_k⟩
  have F7:=fun_mk (st:=s_is_whole) z30_l z31_o z32_k
  have b7:=F7.binds (ps:=["value"]) fun _ _ _ _ _ _ us hl=>match us,hl with | [_],_=>rfl
  have m7:=PySem.W.mg_of X G z29_a
  have F8:=fun_mk (st:=s_counts_one_of) z34_l z35_o z36_k
  have b8:=F8.binds (ps:=["value","many"]) fun _ _ _ _ _ _ us hl=>match us,hl with | [_,_],_=>rfl
  have m8:=PySem.W.mg_of X G z33_a
  have F9:=fun_mk (st:=s_is_fraction) z38_l z39_o z40_k
  have b9:=F9.binds (ps:=["value"]) fun _ _ _ _ _ _ us hl=>match us,hl with | [_],_=>rfl
  have m9:=PySem.W.mg_of X G z37_a
  have F10:=fun_mk (st:=s_is_hardness) z42_l z43_o z44_k
  have b10:=F10.binds (ps:=["value"]) fun _ _ _ _ _ _ us hl=>match us,hl with | [_],_=>rfl
  have m10:=PySem.W.mg_of X G z41_a
  have F11:=fun_mk (st:=s_is_pipe) z46_l z47_o z48_k
  have b11:=F11.binds (ps:=["value","places"]) fun _ _ _ _ _ _ us hl=>match us,hl with | [_,_],_=>rfl
  have m11:=PySem.W.mg_of X G z45_a
  have F12:=fun_mk (st:=s_is_net) z50_l z51_o z52_k
  have b12:=F12.binds (ps:=["places","pipes"]) fun _ _ _ _ _ _ us hl=>match us,hl with | [_,_],_=>rfl
  have m12:=PySem.W.mg_of X G z49_a
  have F13:=fun_mk (st:=s_Net___init__) z55_l z56_o z57_k
  have b13:=F13.binds (ps:=["self","places","pipes"]) fun _ _ _ _ _ _ us hl=>match us,hl with | [_,_,_],_=>rfl
  have F14:=fun_mk (st:=s_Net_part) z60_l z61_o z62_k
  have b14:=F14.binds (ps:=["self","at"]) fun _ _ _ _ _ _ us hl=>match us,hl with | [_,_],_=>rfl
  have Tm14 : Meth K C "part" g14:=⟨z58_a,z59_i,z62_k⟩
  have F15:=fun_mk (st:=s_are_places) z64_l z65_o z66_k
  have b15:=F15.binds (ps:=["net","places"]) fun _ _ _ _ _ _ us hl=>match us,hl with | [_,_],_=>rfl
  have m15:=PySem.W.mg_of X G z63_a
  have F16:=fun_mk (st:=s_check_places) z68_l z69_o z70_k
  have b16:=F16.binds (ps:=["net","places"]) fun _ _ _ _ _ _ us hl=>match us,hl with | [_,_],_=>rfl
  have m16:=PySem.W.mg_of X G z67_a
  have F17:=fun_mk (st:=s_stream) z72_l z73_o z74_k
  have b17:=F17.binds (ps:=["net","one","other"]) fun _ _ _ _ _ _ us hl=>match us,hl with | [_,_,_],_=>rfl
  have m17:=PySem.W.mg_of X G z71_a
  have F18:=fun_mk (st:=s_hardness_of) z76_l z77_o z78_k
  have b18:=F18.binds (ps:=["net","one","other"]) fun _ _ _ _ _ _ us hl=>match us,hl with | [_,_,_],_=>rfl
  have m18:=PySem.W.mg_of X G z75_a
  have F19:=fun_mk (st:=s_chance) z80_l z81_o z82_k
  have b19:=F19.binds (ps:=["net","start","one","other"]) fun _ _ _ _ _ _ us hl=>match us,hl with | [_,_,_,_],_=>rfl
  have m19:=PySem.W.mg_of X G z79_a
  have F20:=fun_mk (st:=s_share) z84_l z85_o z86_k
  have b20:=F20.binds (ps:=["net","at"]) fun _ _ _ _ _ _ us hl=>match us,hl with | [_,_],_=>rfl
  have m20:=PySem.W.mg_of X G z83_a
  have F21:=fun_mk (st:=s_without_pipe) z88_l z89_o z90_k
  have b21:=F21.binds (ps:=["net","at"]) fun _ _ _ _ _ _ us hl=>match us,hl with | [_,_],_=>rfl
  have m21:=PySem.W.mg_of X G z87_a
  have F22:=fun_mk (st:=s_are_fractions) z92_l z93_o z94_k
  have b22:=F22.binds (ps:=["value","many"]) fun _ _ _ _ _ _ us hl=>match us,hl with | [_,_],_=>rfl
  have m22:=PySem.W.mg_of X G z91_a
  have F23:=fun_mk (st:=s_check_flows) z96_l z97_o z98_k
  have b23:=F23.binds (ps:=["net","flows"]) fun _ _ _ _ _ _ us hl=>match us,hl with | [_,_],_=>rfl
  have m23:=PySem.W.mg_of X G z95_a
  have F24:=fun_mk (st:=s_heat) z100_l z101_o z102_k
  have b24:=F24.binds (ps:=["net","flows"]) fun _ _ _ _ _ _ us hl=>match us,hl with | [_,_],_=>rfl
  have m24:=PySem.W.mg_of X G z99_a
  have F25:=fun_mk (st:=s_sums_of) z104_l z105_o z106_k
  have b25:=F25.binds (ps:=["net","flows"]) fun _ _ _ _ _ _ us hl=>match us,hl with | [_,_],_=>rfl
  have m25:=PySem.W.mg_of X G z103_a
  have F26:=fun_mk (st:=s_made) z108_l z109_o z110_k
  have b26:=F26.binds (ps:=["a","b"]) fun _ _ _ _ _ _ us hl=>match us,hl with | [_,_],_=>rfl
  have m26:=PySem.W.mg_of X G z107_a
  have F27:=fun_mk (st:=s_plus) z112_l z113_o z114_k
  have b27:=F27.binds (ps:=["one","other"]) fun _ _ _ _ _ _ us hl=>match us,hl with | [_,_],_=>rfl
  have m27:=PySem.W.mg_of X G z111_a
  have F28:=fun_mk (st:=s_minus) z116_l z117_o z118_k
  have b28:=F28.binds (ps:=["one","other"]) fun _ _ _ _ _ _ us hl=>match us,hl with | [_,_],_=>rfl
  have m28:=PySem.W.mg_of X G z115_a
  have F29:=fun_mk (st:=s_times) z120_l z121_o z122_k
  have b29:=F29.binds (ps:=["one","other"]) fun _ _ _ _ _ _ us hl=>match us,hl with | [_,_],_=>rfl
  have m29:=PySem.W.mg_of X G z119_a
  have F30:=fun_mk (st:=s_over) z124_l z125_o z126_k
  have b30:=F30.binds (ps:=["one","other"]) fun _ _ _ _ _ _ us hl=>match us,hl with | [_,_],_=>rfl
  have m30:=PySem.W.mg_of X G z123_a
  have F31:=fun_mk (st:=s_total) z128_l z129_o z130_k
  have b31:=F31.binds (ps:=["fractions"]) fun _ _ _ _ _ _ us hl=>match us,hl with | [_],_=>rfl
  have m31:=PySem.W.mg_of X G z127_a
  have F32:=fun_mk (st:=s_ease_between) z132_l z133_o z134_k
  have b32:=F32.binds (ps:=["pipes","one","other"]) fun _ _ _ _ _ _ us hl=>match us,hl with | [_,_,_],_=>rfl
  have m32:=PySem.W.mg_of X G z131_a
  have F33:=fun_mk (st:=s_ease_at) z136_l z137_o z138_k
  have b33:=F33.binds (ps:=["pipes","at"]) fun _ _ _ _ _ _ us hl=>match us,hl with | [_,_],_=>rfl
  have m33:=PySem.W.mg_of X G z135_a
  have F34:=fun_mk (st:=s_ease_by_way_of) z140_l z141_o z142_k
  have b34:=F34.binds (ps:=["pipes","one","at","other"]) fun _ _ _ _ _ _ us hl=>match us,hl with | [_,_,_,_],_=>rfl
  have m34:=PySem.W.mg_of X G z139_a
  have F35:=fun_mk (st:=s_ease_without) z144_l z145_o z146_k
  have b35:=F35.binds (ps:=["pipes","one","at","other"]) fun _ _ _ _ _ _ us hl=>match us,hl with | [_,_,_,_],_=>rfl
  have m35:=PySem.W.mg_of X G z143_a
  have F36:=fun_mk (st:=s_pairs) z148_l z149_o z150_k
  have b36:=F36.binds (ps:=["many"]) fun _ _ _ _ _ _ us hl=>match us,hl with | [_],_=>rfl
  have m36:=PySem.W.mg_of X G z147_a
  have F37:=fun_mk (st:=s_net_of_eases) z152_l z153_o z154_k
  have b37:=F37.binds (ps:=["places","eases"]) fun _ _ _ _ _ _ us hl=>match us,hl with | [_,_],_=>rfl
  have m37:=PySem.W.mg_of X G z151_a
  have F38:=fun_mk (st:=s_slim) z156_l z157_o z158_k
  have b38:=F38.binds (ps:=["net"]) fun _ _ _ _ _ _ us hl=>match us,hl with | [_],_=>rfl
  have m38:=PySem.W.mg_of X G z155_a
  have F39:=fun_mk (st:=s_taken_out) z160_l z161_o z162_k
  have b39:=F39.binds (ps:=["net","at"]) fun _ _ _ _ _ _ us hl=>match us,hl with | [_,_],_=>rfl
  have m39:=PySem.W.mg_of X G z159_a
  have F40:=fun_mk (st:=s__law_sort) z164_l z165_o z166_k
  have b40:=F40.binds (ps:=["_law_error"]) fun _ _ _ _ _ _ us hl=>match us,hl with | [_],_=>rfl
  have m40:=PySem.W.mg_of X G z163_a
  have F41:=fun_mk (st:=s_with_pipe) z168_l z169_o z170_k
  have b41:=F41.binds (ps:=["net","one","other","hardness"]) fun _ _ _ _ _ _ us hl=>match us,hl with | [_,_,_,_],_=>rfl
  have m41:=PySem.W.mg_of X G z167_a
  have F42:=fun_mk (st:=s__law_ask) z172_l z173_o z174_k
  have b42:=F42.binds (ps:=["_law_net_here","_law_way","_law_thing"]) fun _ _ _ _ _ _ us hl=>match us,hl with | [_,_,_],_=>rfl
  have m42:=PySem.W.mg_of X G z171_a
  have F43:=fun_mk (st:=s__law_net) z176_l z177_o z178_k
  have b43:=F43.binds (ps:=["_law_places","_law_pipes"]) fun _ _ _ _ _ _ us hl=>match us,hl with | [_,_],_=>rfl
  have m43:=PySem.W.mg_of X G z175_a
  have F44:=fun_mk (st:=s__law_told) z180_l z181_o z182_k
  have b44:=F44.binds (ps:=["_law_net_here","_law_thing"]) fun _ _ _ _ _ _ us hl=>match us,hl with | [_,_],_=>rfl
  have m44:=PySem.W.mg_of X G z179_a
  have F45:=fun_mk (st:=s__law_asked) z184_l z185_o z186_k
  have b45:=F45.binds (ps:=["_law_net_here","_law_way","_law_thing"]) fun _ _ _ _ _ _ us hl=>match us,hl with | [_,_,_],_=>rfl
  have m45:=PySem.W.mg_of X G z183_a
  have F46:=fun_mk (st:=s__law_come) z188_l z189_o z190_k
  have b46:=F46.binds (ps:=["_law_way","_law_hard"]) fun _ _ _ _ _ _ us hl=>match us,hl with | [_,_],_=>rfl
  have m46:=PySem.W.mg_of X G z187_a
  have F47:=fun_mk (st:=s__law_cell_at) z192_l z193_o z194_k
  have b47:=F47.binds (ps:=["_law_script","_law_k"]) fun _ _ _ _ _ _ us hl=>match us,hl with | [_,_],_=>rfl
  have m47:=PySem.W.mg_of X G z191_a
  have F48:=fun_mk (st:=s_law) z196_l z197_o z198_k
  have m48:=PySem.W.mg_of X G z195_a
  have T0 : Txt K mg C t1 t2 t3:=⟨PySem.W.mg_none_of X G z199_isinstance,PySem.W.mg_none_of X G z200_int,PySem.W.mg_none_of X G z201_bool,PySem.W.mg_none_of X G z202_abs,PySem.W.mg_none_of X G z203_len,PySem.W.mg_none_of X G z204_tuple,PySem.W.mg_none_of X G z205_list,PySem.W.mg_none_of X G z206_min,PySem.W.mg_none_of X G z207_max,PySem.W.mg_none_of X G z208_range,PySem.W.mg_none_of X G z209_all,PySem.W.mg_none_of X G z210_sorted,PySem.W.mg_none_of X G z211_enumerate,PySem.W.mg_none_of X G z212_reversed,PySem.W.mg_none_of X G z213_zip,PySem.W.mg_none_of X G z214_sum,PySem.W.mg_none_of X G z215_any,PySem.W.mg_none_of X G z216_ValueError,PySem.W.mg_of X G z217_MOST_PLACES,PySem.W.mg_of X G z218_MOST_PIPES,PySem.W.mg_of X G z219_MOST_IN_HARDNESS,⟨z220_pg,z221_hd,z222_po,z223_sa⟩,z224_nsize,z225_nlaid⟩
  have T1 : TxtN K mg C CB:=⟨PySem.W.mg_none_of X G z204_tuple,⟨z220_pg,z221_hd,z222_po,z223_sa⟩,z224_nsize,z225_nlaid,z226_exc,PySem.W.mg_of X G z227_BadNet⟩
  have T2 : TxtP K mg C CN c3 c4:=⟨PySem.W.mg_none_of X G z203_len,PySem.W.mg_none_of X G z209_all,PySem.W.mg_none_of X G z199_isinstance,PySem.W.mg_none_of X G z205_list,⟨z220_pg,z221_hd,z222_po,z223_sa⟩,z224_nsize,z228_exc,PySem.W.mg_of X G z229_NoPlace,z230_exc,PySem.W.mg_of X G z231_NoPipe,z232_exc,PySem.W.mg_of X G z233_BadFlows⟩
  have M_Net : Mk K C g13:=⟨z234_mk,z53_a,z54_i,z235_kc⟩
  have m_Net : mg "Net" = some (.ref C):=PySem.W.mg_of X G z236_Net
  have T3 : TxtO K mg C CN:=⟨PySem.W.mg_none_of X G z208_range,PySem.W.mg_none_of X G z203_len,⟨z220_pg,z221_hd,z222_po,z223_sa⟩,z224_nsize,z228_exc,PySem.W.mg_of X G z229_NoPlace⟩
  have T4 : TxtS K mg CB CN c3 c4 CE c5 c6:=⟨PySem.W.mg_none_of X G z199_isinstance,PySem.W.mg_none_of X G z216_ValueError,PySem.W.mg_of X G z227_BadNet,PySem.W.mg_of X G z229_NoPlace,PySem.W.mg_of X G z231_NoPipe,PySem.W.mg_of X G z233_BadFlows,PySem.W.mg_of X G z237_BadFraction,PySem.W.mg_of X G z238_BadRow,PySem.W.mg_of X G z239_NetError,⟨z240_e1,z241_e2,z242_e3,z243_e4,z244_e5,z245_e6,z246_e7,z247_e8⟩,z248_i,z249_i,z250_i,z251_i,z252_i,z253_i,z254_i,z255_x,⟨z256_e1,z257_e2,z258_e3,z259_e4,z244_e5,z245_e6,z260_e7,z261_e8⟩,z262_i,z263_i,z264_i,z265_i,z266_i,z267_i,z268_i,z269_x,⟨z270_e1,z271_e2,z272_e3,z273_e4,z244_e5,z245_e6,z274_e7,z275_e8⟩,z276_i,z277_i,z278_i,z279_i,z280_i,z281_i,z282_i,z283_x,⟨z284_e1,z285_e2,z286_e3,z287_e4,z244_e5,z245_e6,z288_e7,z289_e8⟩,z290_i,z291_i,z292_i,z293_i,z294_i,z295_i,z296_i,z297_x⟩
  have T5 : TxtC K mg c6:=⟨PySem.W.mg_of X G z239_NetError,PySem.W.mg_none_of X G z208_range⟩
  refine ⟨PySem.W.fnOf "law" "law" (defArgs s_law) (defBody s_law) (defScope s_law) .none kV48 dc48 pm48 an48 cd48 ct48,fun s v=>.of_eq rfl,fun base _ _=>?_⟩
  have G0:=ok_whole (P:=l.prog) (w:=w) (mg:=mg) (base:=base) F0 T0
  have G1:=ok_gcd (P:=l.prog) (w:=w) (mg:=mg) (base:=base) F1 T0
  have G2:=ok_fraction (P:=l.prog) (w:=w) (mg:=mg) (base:=base) F2 T0 m0 z3_k b0 G0 m1 z7_k b1 G1
  have G3:=ok_counts (P:=l.prog) (w:=w) (mg:=mg) (base:=base) F3 T0 m0 z3_k b0 G0
  have G4:=ok_hard (P:=l.prog) (w:=w) (mg:=mg) (base:=base) F4 T0 m2 z11_k b2 G2
  have G5:=ok_pipe (P:=l.prog) (w:=w) (mg:=mg) (base:=base) F5 T0 m3 z15_k b3 G3 m4 z19_k b4 G4
  have G6:=ok_pipes (P:=l.prog) (w:=w) (mg:=mg) (base:=base) F6 T0
  have G7:=ok_wholeD (P:=l.prog) (w:=w) (mg:=mg) (base:=base) F7 T0
  have G8:=ok_countsD (P:=l.prog) (w:=w) (mg:=mg) (base:=base) F8 T0 m7 z32_k b7 G7
  have G9:=ok_fracD (P:=l.prog) (w:=w) (mg:=mg) (base:=base) F9 T0 m7 z32_k b7 G7 m1 z7_k b1 G1
  have G10:=ok_hardD (P:=l.prog) (w:=w) (mg:=mg) (base:=base) F10 T0 m9 z40_k b9 G9
  have G11:=ok_pipeD (P:=l.prog) (w:=w) (mg:=mg) (base:=base) F11 T0 m8 z36_k b8 G8 m10 z44_k b10 G10
  have G12:=ok_netD (P:=l.prog) (w:=w) (mg:=mg) (base:=base) F12 T0 m7 z32_k b7 G7 m11 z48_k b11 G11
  have G13:=ok_initX (P:=l.prog) (w:=w) (mg:=mg) (base:=base) F13 T1 m12 z52_k b12 G12
  have G14:=ok_partX (P:=l.prog) (w:=w) (mg:=mg) (base:=base) F14 T2 m8 z36_k b8 G8
  have G15:=ok_areD (P:=l.prog) (w:=w) (mg:=mg) (base:=base) F15 T2 m8 z36_k b8 G8
  have G16:=ok_checkX (P:=l.prog) (w:=w) (mg:=mg) (base:=base) F16 T2 m15 z66_k b15 G15
  have G17:=ok_streamX (P:=l.prog) (w:=w) (mg:=mg) (base:=base) F17 m16 z70_k b16 G16
  have G18:=ok_hardness_ofX (P:=l.prog) (w:=w) (mg:=mg) (base:=base) F18 m16 z70_k b16 G16
  have G19:=ok_chanceX (P:=l.prog) (w:=w) (mg:=mg) (base:=base) F19 m16 z70_k b16 G16
  have G20:=ok_shareX (P:=l.prog) (w:=w) (mg:=mg) (base:=base) F20 T2 Tm6 b6 G6 m8 z36_k b8 G8
  have G21:=ok_without_pipeX (P:=l.prog) (w:=w) (mg:=mg) (base:=base) F21 T2 Tm6 b6 G6 m8 z36_k b8 G8
  have G22:=ok_areF (P:=l.prog) (w:=w) (mg:=mg) (base:=base) F22 T2 m9 z40_k b9 G9
  have G23:=ok_checkflX (P:=l.prog) (w:=w) (mg:=mg) (base:=base) F23 T2 Tm6 b6 G6 m22 z94_k b22 G22
  have G24:=ok_heatX (P:=l.prog) (w:=w) (mg:=mg) (base:=base) F24 m23 z98_k b23 G23
  have G25:=ok_sums_ofX (P:=l.prog) (w:=w) (mg:=mg) (base:=base) F25 m23 z98_k b23 G23
  have G26:=ok_made (P:=l.prog) (w:=w) (mg:=mg) (base:=base) F26 T0 m0 z3_k b0 G0 m1 z7_k b1 G1
  have G27:=ok_plus (P:=l.prog) (w:=w) (mg:=mg) (base:=base) F27 m26 z110_k b26 G26
  have G28:=ok_minus (P:=l.prog) (w:=w) (mg:=mg) (base:=base) F28 m26 z110_k b26 G26
  have G29:=ok_times (P:=l.prog) (w:=w) (mg:=mg) (base:=base) F29 m26 z110_k b26 G26
  have G30:=ok_over (P:=l.prog) (w:=w) (mg:=mg) (base:=base) F30 m26 z110_k b26 G26
  have G31:=ok_total (P:=l.prog) (w:=w) (mg:=mg) (base:=base) F31 m27 z114_k b27 G27
  have G32:=ok_ezb (P:=l.prog) (w:=w) (mg:=mg) (base:=base) F32 m31 z130_k b31 G31 m30 z126_k b30 G30
  have G33:=ok_eza (P:=l.prog) (w:=w) (mg:=mg) (base:=base) F33 m31 z130_k b31 G31 m30 z126_k b30 G30
  have G34:=ok_ezw (P:=l.prog) (w:=w) (mg:=mg) (base:=base) F34 m32 z134_k b32 G32 m33 z138_k b33 G33 m29 z122_k b29 G29 m30 z126_k b30 G30
  have G35:=ok_ezo (P:=l.prog) (w:=w) (mg:=mg) (base:=base) F35 m32 z134_k b32 G32 m34 z142_k b34 G34 m27 z114_k b27 G27
  have G36:=ok_pairs (P:=l.prog) (w:=w) (mg:=mg) (base:=base) F36 T0
  have G37:=ok_noe (P:=l.prog) (w:=w) (mg:=mg) (base:=base) F37 M_Net m_Net b13 G13 m30 z126_k b30 G30
  have G38:=ok_slim (P:=l.prog) (w:=w) (mg:=mg) (base:=base) F38 T0 Tm6 b6 G6 m37 z154_k b37 G37 m36 z150_k b36 G36 m32 z134_k b32 G32
  have G39:=ok_out (P:=l.prog) (w:=w) (mg:=mg) (base:=base) F39 T3 Tm6 b6 G6 m8 z36_k b8 G8 m37 z154_k b37 G37 m36 z150_k b36 G36 m35 z146_k b35 G35
  have G40:=ok_sort (P:=l.prog) (w:=w) (mg:=mg) (base:=base) F40 T4
  have G41:=ok_withX (P:=l.prog) (w:=w) (mg:=mg) (base:=base) F41 T1 M_Net m_Net b13 G13 Tm6 b6 G6
  have G42:=ok_ask (P:=l.prog) (w:=w) (mg:=mg) (base:=base) F42 T2 Tm14 b14 G14 m17 z74_k b17 G17 m18 z78_k b18 G18 m19 z82_k b19 G19 m39 z162_k b39 G39 m20 z86_k b20 G20 m21 z90_k b21 G21 m24 z102_k b24 G24 m25 z106_k b25 G25
  have G43:=ok_lawnet (P:=l.prog) (w:=w) (mg:=mg) (base:=base) F43 T4 m40 z166_k b40 G40 M_Net m_Net b13 G13
  have G44:=ok_told12 (P:=l.prog) (w:=w) (mg:=mg) (base:=base) F44 T4 m40 z166_k b40 G40 m18 z78_k b18 G18
  have G45:=ok_asked (P:=l.prog) (w:=w) (mg:=mg) (base:=base) F45 T4 m40 z166_k b40 G40 m42 z174_k b42 G42
  have G46:=ok_come (P:=l.prog) (w:=w) (mg:=mg) (base:=base) F46 T5 T4 m40 z166_k b40 G40 M_Net m_Net b13 G13 m41 z170_k b41 G41 m39 z162_k b39 G39 m38 z158_k b38 G38
  have G47:=ok_cell (P:=l.prog) (w:=w) (mg:=mg) (base:=base) F47 T0
  exact ok_law F48 T0 ⟨m47,z194_k,b47,G47,m43,z178_k,b43,G43,M_Net,m_Net,b13,G13,m45,z186_k,b45,G45,m44,z182_k,b44,G44,m46,z190_k,b46,G46⟩
theorem walk {l : PySem.W.OpenLaw} {q : Program} {loose : List Str} {XP : (Str → Option Value) → Heap → Prop} {YP : World → Heap → Prop} {d : DefRec} {K : Params → PySem.W.Frag} (hn : l.most = some 63) (hdf : d.params.defaults = [])
    (hY : ∀ (w : World) (h : Heap),YP w h → (K w.params).In h)
    (F : ∀ (w : World) (mg : Str → Option Value) (fa : Addr) (h : Heap),(K w.params).In h → h.Ns mainGlobals mg → mg d.name = some (.ref fa) →
      ∃ fd : FuncData,(∀ (s : Shared) (u : Value),BindsTo s fd ⟨[u],[]⟩ [("_law_script",u)]) ∧ ∀ base : Heap,(K w.params).In base → base.Ns mainGlobals mg → FnOk l.prog w (K w.params) mg base CX0 15 fa fd ["_law_script"] (spLaw (K w.params))) :
    PySem.W.WalkO q loose XP YP l.row.toRowW d [] (fun f vs=>PySem.call f vs) :=
  L2.walk_of (n:=63) (k:=15) (x:="_law_script") (CX:=fun _=>CX0) (sp:=fun w=>spLaw (K w.params)) hn (by decide) hdf ⟨rfl,by decide,by decide⟩ hY F (fun _ _ a ns hl _ hS=>⟨a,ns,rfl,hS,hl,fun _=>rfl⟩) fun _ _ _ _ _ z=>z
end K2
namespace Hd
open PySem PySem.W PySem.Calls PyProof.Rows L2
section
lay_quick PySem.Challenge.pw_splitstream_k12_refused
noncomputable abbrev Q : Program:=PySem.W.Fast.tw15030189535593949792
theorem Q_eq : PySem.Challenge.pw_splitstream_k12_refused = Q:=PySem.W.Fast.te15030189535593949792
def nth : List Stmt → Nat → Stmt
  | [],_=>.Pass ⟨0,0,0,0⟩
  | s :: _,0=>s
  | _ :: l,n + 1=>nth l n
noncomputable abbrev q (i : Nat) : Stmt:=nth Q.main.body i
noncomputable def S0 : Str:=⟨#[60,109,111,100,117,108,101,62]⟩
noncomputable def S1 : Str:=⟨#[47,99,108,97,105,109,47,99,117,116,46,112,121]⟩
noncomputable def S2 : Str:=⟨#[95,95,109,97,105,110,95,95]⟩
noncomputable def S3 : Str:=⟨#[95,95,110,97,109,101,95,95]⟩
noncomputable def S4 : Str:=⟨#[115,112,108,105,116,115,116,114,101,97,109,46,101,114,114,111,114,115]⟩
noncomputable def S5 : Str:=⟨#[95,95,100,111,99,95,95]⟩
noncomputable def S6 : Str:=⟨#[95,95,112,97,99,107,97,103,101,95,95]⟩
noncomputable def S7 : Str:=⟨#[95,95,108,111,97,100,101,114,95,95]⟩
noncomputable def S8 : Str:=⟨#[95,95,115,112,101,99,95,95]⟩
noncomputable def S9 : Str:=⟨#[95,95,97,110,110,111,116,97,116,105,111,110,115,95,95]⟩
noncomputable def S10 : Str:=⟨#[95,95,98,117,105,108,116,105,110,115,95,95]⟩
noncomputable def S11 : Str:=⟨#[95,95,102,105,108,101,95,95]⟩
noncomputable def S12 : Str:=⟨#[95,95,99,97,99,104,101,100,95,95]⟩
noncomputable def S13 : Str:=⟨#[95,119,97,108,108]⟩
noncomputable def S14 : Str:=⟨#[78,101,116,69,114,114,111,114]⟩
noncomputable def S15 : Str:=⟨#[66,97,100,70,114,97,99,116,105,111,110]⟩
noncomputable def S16 : Str:=⟨#[66,97,100,78,101,116]⟩
noncomputable def S17 : Str:=⟨#[107]⟩
noncomputable def S18 : Str:=⟨#[95,95,109,111,100,117,108,101,95,95]⟩
noncomputable def S19 : Str:=⟨#[95,95,113,117,97,108,110,97,109,101,95,95]⟩
noncomputable def S20 : Str:=⟨#[95,95,102,105,114,115,116,108,105,110,101,110,111,95,95]⟩
noncomputable def S21 : Str:=⟨#[95,95,115,116,97,116,105,99,95,97,116,116,114,105,98,117,116,101,115,95,95]⟩
noncomputable def S22 : Str:=⟨#[95,95,119,101,97,107,114,101,102,95,95]⟩
noncomputable def S23 : Str:=⟨#[78,111,80,108,97,99,101]⟩
noncomputable def S24 : Str:=⟨#[78,111,80,105,112,101]⟩
noncomputable def S25 : Str:=⟨#[66,97,100,70,108,111,119,115]⟩
noncomputable def S26 : Str:=⟨#[115,112,108,105,116,115,116,114,101,97,109,46,110,101,116,115]⟩
noncomputable def S27 : Str:=⟨#[66,97,100,82,111,119]⟩
noncomputable def S28 : Str:=⟨#[105,115,95,119,104,111,108,101]⟩
noncomputable def S29 : Str:=⟨#[105,115,95,102,114,97,99,116,105,111,110]⟩
noncomputable def S30 : Str:=⟨#[99,111,109,109,111,110,95,100,105,118,105,115,111,114]⟩
noncomputable def S31 : Str:=⟨#[109,97,100,101]⟩
noncomputable def S32 : Str:=⟨#[112,108,117,115]⟩
noncomputable def S33 : Str:=⟨#[109,105,110,117,115]⟩
noncomputable def S34 : Str:=⟨#[116,105,109,101,115]⟩
noncomputable def S35 : Str:=⟨#[111,118,101,114]⟩
noncomputable def S36 : Str:=⟨#[116,111,116,97,108]⟩
noncomputable def S37 : Str:=⟨#[77,79,83,84,95,80,76,65,67,69,83]⟩
noncomputable def S38 : Str:=⟨#[77,79,83,84,95,80,73,80,69,83]⟩
noncomputable def S39 : Str:=⟨#[77,79,83,84,95,73,78,95,72,65,82,68,78,69,83,83]⟩
noncomputable def S40 : Str:=⟨#[99,111,117,110,116,115,95,111,110,101,95,111,102]⟩
noncomputable def S41 : Str:=⟨#[105,115,95,104,97,114,100,110,101,115,115]⟩
noncomputable def S42 : Str:=⟨#[105,115,95,112,105,112,101]⟩
noncomputable def S43 : Str:=⟨#[105,115,95,110,101,116]⟩
noncomputable def S44 : Str:=⟨#[110,101,105,103,104,98,111,117,114,115]⟩
noncomputable def S45 : Str:=⟨#[95,95,105,110,105,116,95,95]⟩
noncomputable def S46 : Str:=⟨#[115,101,108,102]⟩
noncomputable def S47 : Str:=⟨#[114,111,119]⟩
noncomputable def S48 : Str:=⟨#[66,97,100,82,111,119,46,95,95,105,110,105,116,95,95]⟩
noncomputable def S49 : Str:=⟨#[118,97,108,117,101]⟩
noncomputable def S50 : Str:=⟨#[115,112,108,105,116,115,116,114,101,97,109,46,102,114,97,99,116,105,111,110,115]⟩
noncomputable def S51 : Str:=⟨#[97]⟩
noncomputable def S52 : Str:=⟨#[98]⟩
noncomputable def S53 : Str:=⟨#[111,110,101]⟩
noncomputable def S54 : Str:=⟨#[111,116,104,101,114]⟩
noncomputable def S55 : Str:=⟨#[114,101,115,116]⟩
noncomputable def S56 : Str:=⟨#[100,105,118,105,115,111,114]⟩
noncomputable def S57 : Str:=⟨#[102,114,97,99,116,105,111,110,115]⟩
noncomputable def S58 : Str:=⟨#[114,101,115,117,108,116]⟩
noncomputable def S59 : Str:=⟨#[102,114,97,99,116,105,111,110]⟩
noncomputable def S60 : Str:=⟨#[109,97,110,121]⟩
noncomputable def S61 : Str:=⟨#[112,108,97,99,101,115]⟩
noncomputable def S62 : Str:=⟨#[115,112,108,105,116,115,116,114,101,97,109,46,115,104,101,101,116,115]⟩
noncomputable def S63 : Str:=⟨#[78,101,116]⟩
noncomputable def S64 : Str:=⟨#[119,105,116,104,95,112,105,112,101]⟩
noncomputable def S65 : Str:=⟨#[119,105,116,104,111,117,116,95,112,105,112,101]⟩
noncomputable def S66 : Str:=⟨#[101,97,115,101,95,98,101,116,119,101,101,110]⟩
noncomputable def S67 : Str:=⟨#[101,97,115,101,95,97,116]⟩
noncomputable def S68 : Str:=⟨#[101,97,115,101,95,98,121,95,119,97,121,95,111,102]⟩
noncomputable def S69 : Str:=⟨#[112,97,105,114,115]⟩
noncomputable def S70 : Str:=⟨#[110,101,116,95,111,102,95,101,97,115,101,115]⟩
noncomputable def S71 : Str:=⟨#[115,108,105,109]⟩
noncomputable def S72 : Str:=⟨#[101,97,115,101,95,119,105,116,104,111,117,116]⟩
noncomputable def S73 : Str:=⟨#[116,97,107,101,110,95,111,117,116]⟩
noncomputable def S74 : Str:=⟨#[115,99,97,108,101,95,111,102]⟩
noncomputable def S75 : Str:=⟨#[115,99,97,108,101,100,95,101,97,115,101]⟩
noncomputable def S76 : Str:=⟨#[101,110,116,114,121]⟩
noncomputable def S77 : Str:=⟨#[115,104,101,101,116,95,114,111,119]⟩
noncomputable def S78 : Str:=⟨#[115,104,101,101,116,95,111,102]⟩
noncomputable def S79 : Str:=⟨#[114,111,119,95,119,105,116,104,111,117,116]⟩
noncomputable def S80 : Str:=⟨#[112,105,112,101,115]⟩
noncomputable def S81 : Str:=⟨#[112,97,114,116]⟩
noncomputable def S82 : Str:=⟨#[112,97,114,116,115]⟩
noncomputable def S83 : Str:=⟨#[78,101,116,46,95,95,105,110,105,116,95,95]⟩
noncomputable def S84 : Str:=⟨#[78,101,116,46,112,105,112,101,115]⟩
noncomputable def S85 : Str:=⟨#[97,116]⟩
noncomputable def S86 : Str:=⟨#[114,101,97,99,104,101,100]⟩
noncomputable def S87 : Str:=⟨#[119,97,105,116,105,110,103]⟩
noncomputable def S88 : Str:=⟨#[112,108,97,99,101]⟩
noncomputable def S89 : Str:=⟨#[110,101,105,103,104,98,111,117,114]⟩
noncomputable def S90 : Str:=⟨#[78,101,116,46,112,97,114,116]⟩
noncomputable def S91 : Str:=⟨#[78,101,116,46,112,97,114,116,115]⟩
noncomputable def S92 : Str:=⟨#[108,97,105,100]⟩
noncomputable def S93 : Str:=⟨#[115,105,122,101]⟩
noncomputable def S94 : Str:=⟨#[95,95,100,105,99,116,95,95]⟩
noncomputable def S95 : Str:=⟨#[110,101,116]⟩
noncomputable def S96 : Str:=⟨#[104,97,114,100,110,101,115,115]⟩
noncomputable def S97 : Str:=⟨#[115,112,108,105,116,115,116,114,101,97,109,46,115,108,105,109,115]⟩
noncomputable def S98 : Str:=⟨#[112,114,111,100,117,99,116]⟩
noncomputable def S99 : Str:=⟨#[115,99,97,108,101]⟩
noncomputable def S100 : Str:=⟨#[115,116,97,114,116]⟩
noncomputable def S101 : Str:=⟨#[101,110,100]⟩
noncomputable def S102 : Str:=⟨#[115,112,108,105,116,115,116,114,101,97,109,46,115,116,114,101,97,109,115]⟩
noncomputable def S103 : Str:=⟨#[99,108,101,97,114,101,100]⟩
noncomputable def S104 : Str:=⟨#[115,111,108,118,101,100]⟩
noncomputable def S105 : Str:=⟨#[97,114,101,95,102,114,97,99,116,105,111,110,115]⟩
noncomputable def S106 : Str:=⟨#[97,114,101,95,112,108,97,99,101,115]⟩
noncomputable def S107 : Str:=⟨#[99,104,101,99,107,95,112,108,97,99,101,115]⟩
noncomputable def S108 : Str:=⟨#[99,104,101,99,107,95,102,108,111,119,115]⟩
noncomputable def S109 : Str:=⟨#[115,117,109,95,97,116]⟩
noncomputable def S110 : Str:=⟨#[115,117,109,115,95,111,102]⟩
noncomputable def S111 : Str:=⟨#[104,101,97,116]⟩
noncomputable def S112 : Str:=⟨#[97,115,107,101,100,95,115,117,109]⟩
noncomputable def S113 : Str:=⟨#[102,97,108,108,115]⟩
noncomputable def S114 : Str:=⟨#[65,110,115,119,101,114]⟩
noncomputable def S115 : Str:=⟨#[102,108,111,119,115]⟩
noncomputable def S116 : Str:=⟨#[115,104,111,119,115]⟩
noncomputable def S117 : Str:=⟨#[65,110,115,119,101,114,46,115,104,111,119,115]⟩
noncomputable def S118 : Str:=⟨#[108,97,119,95,115,112,108,105,116,115,116,114,101,97,109,95,107,49,50,95,114,101,102,117,115,101,100]⟩
noncomputable def S119 : Str:=⟨#[83,116,114,101,97,109]⟩
noncomputable def S120 : Str:=⟨#[65,112,97,114,116]⟩
noncomputable def S121 : Str:=⟨#[104,101,105,103,104,116,115,95,98,101,116,119,101,101,110]⟩
noncomputable def S122 : Str:=⟨#[115,116,114,101,97,109]⟩
noncomputable def S123 : Str:=⟨#[104,97,114,100,110,101,115,115,95,111,102]⟩
noncomputable def S124 : Str:=⟨#[99,104,97,110,99,101]⟩
noncomputable def S125 : Str:=⟨#[115,104,97,114,101]⟩
noncomputable def S126 : Str:=⟨#[95,108,97,119,95,99,101,108,108,95,97,116]⟩
noncomputable def S127 : Str:=⟨#[102,105,116,115]⟩
noncomputable def S128 : Str:=⟨#[104,101,105,103,104,116,115]⟩
noncomputable def S129 : Str:=⟨#[83,116,114,101,97,109,46,95,95,105,110,105,116,95,95]⟩
noncomputable def S130 : Str:=⟨#[83,116,114,101,97,109,46,102,105,116,115]⟩
noncomputable def S131 : Str:=⟨#[83,116,114,101,97,109,46,115,104,111,119,115]⟩
noncomputable def S132 : Str:=⟨#[65,112,97,114,116,46,95,95,105,110,105,116,95,95]⟩
noncomputable def S133 : Str:=⟨#[65,112,97,114,116,46,115,104,111,119,115]⟩
noncomputable def S134 : Str:=⟨#[112,105,112,101]⟩
noncomputable def S135 : Str:=⟨#[115,112,108,105,116,115,116,114,101,97,109,46,116,114,101,101,115]⟩
noncomputable def S136 : Str:=⟨#[95,108,97,119,95,115,99,114,105,112,116]⟩
noncomputable def S137 : Str:=⟨#[95,108,97,119,95,107]⟩
noncomputable def S138 : Str:=⟨#[95,108,97,119,95,100,114,97,119]⟩
noncomputable def S139 : Str:=⟨#[95,108,97,119,95,115,111,114,116]⟩
noncomputable def S140 : Str:=⟨#[95,108,97,119,95,110,101,116]⟩
noncomputable def S141 : Str:=⟨#[95,108,97,119,95,97,115,107]⟩
noncomputable def S142 : Str:=⟨#[95,108,97,119,95,97,115,107,101,100]⟩
noncomputable def S143 : Str:=⟨#[95,108,97,119,95,116,111,108,100]⟩
noncomputable def S144 : Str:=⟨#[95,108,97,119,95,99,111,109,101]⟩
noncomputable def S145 : Str:=⟨#[108,97,119]⟩
noncomputable def S146 : Str:=⟨#[95,108,97,119,95,99,101,108,108]⟩
noncomputable def S147 : Str:=⟨#[95,108,97,119,95,109,97,110,121]⟩
noncomputable def S148 : Str:=⟨#[95,108,97,119,95,112,114,105,109,101,115]⟩
noncomputable def S149 : Str:=⟨#[95,108,97,119,95,98,108,101,110,100]⟩
noncomputable def S150 : Str:=⟨#[95,108,97,119,95,101,114,114,111,114]⟩
noncomputable def S151 : Str:=⟨#[95,108,97,119,95,107,105,110,100,115]⟩
noncomputable def S152 : Str:=⟨#[95,108,97,119,95,112,108,97,99,101,115]⟩
noncomputable def S153 : Str:=⟨#[95,108,97,119,95,112,105,112,101,115]⟩
noncomputable def S154 : Str:=⟨#[95,108,97,119,95,110,101,116,95,104,101,114,101]⟩
noncomputable def S155 : Str:=⟨#[95,108,97,119,95,119,97,121]⟩
noncomputable def S156 : Str:=⟨#[95,108,97,119,95,116,104,105,110,103]⟩
noncomputable abbrev e (P : Params) (s : Str) (n : Nat) (v : Value) : DictEntry:=.mk (PyData.keyHash P s) (.str s n) v
noncomputable abbrev Z (_ : Params) : BT:=.nil
noncomputable abbrev L (o : Params → Obj) (P : Params) : BT:=.node (o P) .nil .nil
noncomputable abbrev N (o : Params → Obj) (a b : Params → BT) (P : Params) : BT:=.node (o P) (a P) (b P)
noncomputable abbrev x0 : String:=SL.s2766695959194262286x5
noncomputable abbrev x1 : String:=SL.s5856160107412720595x4
noncomputable abbrev x2 : String:=SL.s658472552662922059x5
noncomputable abbrev x3 : String:=SL.s14018661285674007319x4
noncomputable abbrev x4 : String:=SL.s7097527257260152453x26
noncomputable abbrev x5 : String:=SL.s7174869446012820540x8
noncomputable abbrev x6 : String:=SL.s6070975301684473832x10
noncomputable abbrev x7 : String:=SL.s11030030927630378310x26
noncomputable abbrev x8 : String:=SL.s10062305145149207511x16
noncomputable abbrev x9 : String:=SL.s17162191345867700912x4
noncomputable abbrev x10 : String:=SL.s5946037652744460706x9
noncomputable abbrev x11 : String:=SL.s4278001404047624695x13
noncomputable abbrev x12 : String:=SL.s2742458400755230247x6
noncomputable abbrev x13 : String:=SL.s4209523147560561109x18
noncomputable abbrev x14 : String:=SL.s14755015743595814543x17
noncomputable abbrev x15 : String:=SL.s10220274742760427390x26
noncomputable abbrev x16 : String:=SL.s4290257624100764138x5
noncomputable abbrev x17 : String:=SL.s4860613602091757760x24
noncomputable abbrev x18 : String:=SL.s11443829558043349243x14
noncomputable abbrev x19 : String:=SL.s6511155373996960695x17
noncomputable abbrev x20 : String:=SL.s12411053484034534018x21
noncomputable abbrev yc (a:Str) (i:Nat) (b:Str) (j k l m n r:Nat) (c:Bool) (s:Nat) (v:Value) (x y z:Nat):Obj:=.mk (.type x1) none (.fields #[.str a i,.str b j,.str S1 k,.int l 0,.int m 0,.int 0 0,.int 0 0,.int n 0,.ref r,.bool c,.int 181 0,.ref s,.none,.none,.none,v,.int x 0,.int y 0,.str S1 z]) #[]
noncomputable abbrev yf (a b:Str) (s:Stmt) (k:Nat) (m:Value) (r:Nat):Obj:=.mk (.type x5) none (.func (.mk a b (defArgs s) (.stmts (defBody s)) (defScope s) k [] .none .none .none m none (.ref r) .none 0)) #[]
noncomputable abbrev yg (a b:Str) (s:Stmt):Obj:=.mk .none none (.func (.mk a b (defArgs s) (.stmts (defBody s)) (defScope s) 0 [] .none .none .none .none none .none .none 0)) #[]
noncomputable abbrev ys (x:String) (a:Array Value):Obj:=.mk (.type x) none (.seq a 0) #[]
noncomputable abbrev yv (a:Array Value):Obj:=.mk .none none (.fields a) #[]
noncomputable abbrev J:=Params→Obj
noncomputable def o0:J:=fun P=>(ys x0 #[])
noncomputable def o1:J:=fun P=>(yv #[])
noncomputable def o2:J:=fun P=>(yc S0 182 S0 183 184 1 0 0 11 .false 12 .none 185 1 186)
noncomputable def o3:J:=fun P=>(.mk (.type x2) none .plain #[(some (.ref 13)),(some (.ref 3)),(some (.ref 3)),none,(some (.str S2 164)),none,(some (.ref 0))])
noncomputable def h_a (P : Params) : Heap:=⟨#[boot_o_0 P,boot_o_1 P,boot_o_2 P,boot_o_3 P,boot_o_4 P,boot_o_5 P,boot_o_6 P,boot_o_7 P,boot_o_8 P,boot_o_9 P,boot_o_10 P,o0 P,o1 P,o2 P,o3 P],{}⟩
noncomputable def t_b : Params → BT:=(N boot_o_0 (N boot_o_1 (N boot_o_3 (L boot_o_7) (L o0)) (N boot_o_5 (L boot_o_9) (L o2))) (N boot_o_2 (N boot_o_4 (L boot_o_8) (L o1)) (N boot_o_6 (L boot_o_10) (L o3))))
noncomputable def o4:J:=fun P=>(.mk (.type x3) none (.dict #[(e P S3 165 (.str S4 194)),(e P S5 166 .none),(e P S6 167 .none),(e P S7 168 (.builtin x4)),(e P S8 169 .none),(e P S9 170 (.ref 6)),(e P S10 171 (.ref 4)),(e P S11 173 (.str S1 172)),(e P S12 174 .none),(e P S13 193 (.ref 21)),(e P S14 213 (.ref 31)),(e P S15 229 (.ref 44)),(e P S16 245 (.ref 56))] 13) #[])
noncomputable def o5:J:=fun P=>(yv #[(.int 1 0),(.int 0 0),(.ref 20),(.int 5 0),(.int 0 0),(.ref 27),(.int 7 0),(.int 0 0),(.ref 40),(.int 9 0),(.int 0 0),(.ref 52)])
noncomputable def o6:J:=fun P=>(ys x0 #[(.str S17 190)])
noncomputable def o7:J:=fun P=>(yg S13 S13 (q 0))
noncomputable def o8:J:=fun P=>(.mk (.type x1) none (.fields #[(.str S13 187),(.str S13 188),(.str S1 189),(.int 1 0),(.int 1 0),(.int 0 0),(.int 0 0),(.int 3 0),(.ref 15),(.bool .true),(.int 181 0),(.ref 16),.none,(.ref 17),(.ref 18),(.ref 19),(.int 191 0),(.int 1 0),(.str S1 192)]) #[])
noncomputable def o9:J:=fun P=>(yf S13 S13 (q 0) 3 (.str S2 164) 20)
noncomputable def o10:J:=fun P=>(ys x0 #[(.type x6)])
noncomputable def o11:J:=fun P=>(.mk (.type x7) none (.fields #[(.builtin x8),(.type x9)]) #[])
noncomputable def o12:J:=fun P=>(.mk (.type x3) none (.dict #[(e P S18 203 (.str S4 194)),(e P S19 205 (.str S14 204)),(e P S20 207 (.int 5 206)),(e P S21 208 (.ref 29))] 4) #[])
noncomputable def o13:J:=fun P=>(yc S14 198 S14 199 200 5 0 0 25 .false 26 .none 201 5 202)
noncomputable def o14:J:=fun P=>(.mk (.type x2) none .plain #[(some (.ref 27)),(some (.ref 3)),(some (.ref 24)),none,(some (.str S4 194)),none,(some (.ref 0))])
noncomputable def o15:J:=fun P=>(.mk (.type x3) none (.dict #[(e P S18 203 (.str S4 194)),(e P S20 207 (.int 5 206)),(e P S21 208 (.ref 29)),(e P S22 210 (.ref 32)),(e P S5 211 .none)] 3) #[])
noncomputable def o16:J:=fun P=>(.mk (.type x9) none (.cls (.mk S14 [(.type x6)] [(.ref 31),(.type x6),(.type x10),(.type x11),(.type x12)] 30 S14 .true [] [(.ref 44),(.ref 56)] .false none .false)) #[(some (.ref 22)),none,(some (.str S14 196)),(some (.str S14 204)),(some (.builtin x13)),(some (.bool .true))])
noncomputable def o17:J:=fun P=>(.mk (.type x14) none (.fields #[(.str S22 209),(.ref 31),(.builtin x15),.none]) #[])
noncomputable def o18:J:=fun P=>(.mk (.type x16) none (.fields #[(.ref 31),(.ref 31),(.ref 31)]) #[])
noncomputable def o19:J:=fun P=>(.mk (.type x7) none (.fields #[(.builtin x17),(.ref 31)]) #[])
noncomputable def o20:J:=fun P=>(ys x0 #[(.ref 31)])
noncomputable def o21:J:=fun P=>(.mk (.type x3) none (.dict #[(e P S18 221 (.str S4 194)),(e P S19 223 (.str S15 222)),(e P S20 225 (.int 7 224)),(e P S21 226 (.ref 42))] 4) #[])
noncomputable def o22:J:=fun P=>(yc S15 216 S15 217 218 7 0 0 38 .false 39 .none 219 7 220)
noncomputable def o23:J:=fun P=>(.mk (.type x2) none .plain #[(some (.ref 40)),(some (.ref 3)),(some (.ref 37)),none,(some (.str S4 194)),none,(some (.ref 0))])
noncomputable def o24:J:=fun P=>(.mk (.type x3) none (.dict #[(e P S18 221 (.str S4 194)),(e P S20 225 (.int 7 224)),(e P S21 226 (.ref 42)),(e P S5 227 .none)] 2) #[])
noncomputable def o25:J:=fun P=>(.mk (.type x9) none (.cls (.mk S15 [(.ref 31)] [(.ref 44),(.ref 31),(.type x6),(.type x10),(.type x11),(.type x12)] 43 S15 .true [] [] .false none .false)) #[(some (.ref 35)),none,(some (.str S15 214)),(some (.str S15 222)),(some (.builtin x13)),(some (.bool .true))])
noncomputable def o26:J:=fun P=>(.mk (.type x16) none (.fields #[(.ref 44),(.ref 44),(.ref 44)]) #[])
noncomputable def o27:J:=fun P=>(.mk (.type x7) none (.fields #[(.builtin x17),(.ref 44)]) #[])
noncomputable def o28:J:=fun P=>(.mk (.type x3) none (.dict #[(e P S18 237 (.str S4 194)),(e P S19 239 (.str S16 238)),(e P S20 241 (.int 9 240)),(e P S21 242 (.ref 54))] 4) #[])
noncomputable def o29:J:=fun P=>(yc S16 232 S16 233 234 9 0 0 50 .false 51 .none 235 9 236)
noncomputable def o30:J:=fun P=>(.mk (.type x2) none .plain #[(some (.ref 52)),(some (.ref 3)),(some (.ref 49)),none,(some (.str S4 194)),none,(some (.ref 0))])
noncomputable def o31:J:=fun P=>(.mk (.type x3) none (.dict #[(e P S18 237 (.str S4 194)),(e P S20 241 (.int 9 240)),(e P S21 242 (.ref 54)),(e P S5 243 .none)] 2) #[])
noncomputable def o32:J:=fun P=>(.mk (.type x9) none (.cls (.mk S16 [(.ref 31)] [(.ref 56),(.ref 31),(.type x6),(.type x10),(.type x11),(.type x12)] 55 S16 .true [] [] .false none .false)) #[(some (.ref 47)),none,(some (.str S16 230)),(some (.str S16 238)),(some (.builtin x13)),(some (.bool .true))])
noncomputable def o33:J:=fun P=>(.mk (.type x16) none (.fields #[(.ref 56),(.ref 56),(.ref 56)]) #[])
noncomputable def o34:J:=fun P=>(.mk (.type x7) none (.fields #[(.builtin x17),(.ref 56)]) #[])
noncomputable def t_0 : Params → BT:=(N boot_o_0 (N boot_o_1 (N o4 (N boot_o_7 (N o0 (L o16) (L o20)) (N o11 (L o1) (L o31))) (N o0 (N o7 (L o20) (L o1)) (N o13 (L o24) Z))) (N boot_o_5 (N boot_o_9 (N o6 (L o18) (L o28)) (N o0 (L o23) (L o33))) (N o2 (N o9 (L o21) (L o30)) (N o0 (L o26) Z)))) (N boot_o_2 (N boot_o_4 (N boot_o_8 (N o1 (L o17) (L o11)) (N o12 (L o22) (L o32))) (N o5 (N o8 (L o11) (L o29)) (N o14 (L o25) Z))) (N boot_o_6 (N boot_o_10 (N o0 (L o19) (L o0)) (N o1 (L o0) (L o34))) (N o3 (N o10 (L o0) (L o0)) (N o15 (L o27) Z)))))
noncomputable def o35:J:=fun P=>(.mk (.type x3) none (.dict #[(e P S3 165 (.str S4 194)),(e P S5 166 .none),(e P S6 167 .none),(e P S7 168 (.builtin x4)),(e P S8 169 .none),(e P S9 170 (.ref 6)),(e P S10 171 (.ref 4)),(e P S11 173 (.str S1 172)),(e P S12 174 .none),(e P S13 193 (.ref 21)),(e P S14 213 (.ref 31)),(e P S15 229 (.ref 44)),(e P S16 245 (.ref 56)),(e P S23 261 (.ref 68)),(e P S24 277 (.ref 80)),(e P S25 293 (.ref 92))] 16) #[])
noncomputable def o36:J:=fun P=>(yv #[(.int 1 0),(.int 0 0),(.ref 20),(.int 5 0),(.int 0 0),(.ref 27),(.int 7 0),(.int 0 0),(.ref 40),(.int 9 0),(.int 0 0),(.ref 52),(.int 11 0),(.int 0 0),(.ref 64),(.int 13 0),(.int 0 0),(.ref 76),(.int 15 0),(.int 0 0),(.ref 88)])
noncomputable def o37:J:=fun P=>(.mk (.type x9) none (.cls (.mk S14 [(.type x6)] [(.ref 31),(.type x6),(.type x10),(.type x11),(.type x12)] 30 S14 .true [] [(.ref 44),(.ref 56),(.ref 68),(.ref 80),(.ref 92)] .false none .false)) #[(some (.ref 22)),none,(some (.str S14 196)),(some (.str S14 204)),(some (.builtin x13)),(some (.bool .true))])
noncomputable def o38:J:=fun P=>(.mk (.type x3) none (.dict #[(e P S18 253 (.str S4 194)),(e P S19 255 (.str S23 254)),(e P S20 257 (.int 11 256)),(e P S21 258 (.ref 66))] 4) #[])
noncomputable def o39:J:=fun P=>(yc S23 248 S23 249 250 11 0 0 62 .false 63 .none 251 11 252)
noncomputable def o40:J:=fun P=>(.mk (.type x2) none .plain #[(some (.ref 64)),(some (.ref 3)),(some (.ref 61)),none,(some (.str S4 194)),none,(some (.ref 0))])
noncomputable def o41:J:=fun P=>(.mk (.type x3) none (.dict #[(e P S18 253 (.str S4 194)),(e P S20 257 (.int 11 256)),(e P S21 258 (.ref 66)),(e P S5 259 .none)] 2) #[])
noncomputable def o42:J:=fun P=>(.mk (.type x9) none (.cls (.mk S23 [(.ref 31)] [(.ref 68),(.ref 31),(.type x6),(.type x10),(.type x11),(.type x12)] 67 S23 .true [] [] .false none .false)) #[(some (.ref 59)),none,(some (.str S23 246)),(some (.str S23 254)),(some (.builtin x13)),(some (.bool .true))])
noncomputable def o43:J:=fun P=>(.mk (.type x16) none (.fields #[(.ref 68),(.ref 68),(.ref 68)]) #[])
noncomputable def o44:J:=fun P=>(.mk (.type x7) none (.fields #[(.builtin x17),(.ref 68)]) #[])
noncomputable def o45:J:=fun P=>(.mk (.type x3) none (.dict #[(e P S18 269 (.str S4 194)),(e P S19 271 (.str S24 270)),(e P S20 273 (.int 13 272)),(e P S21 274 (.ref 78))] 4) #[])
noncomputable def o46:J:=fun P=>(yc S24 264 S24 265 266 13 0 0 74 .false 75 .none 267 13 268)
noncomputable def o47:J:=fun P=>(.mk (.type x2) none .plain #[(some (.ref 76)),(some (.ref 3)),(some (.ref 73)),none,(some (.str S4 194)),none,(some (.ref 0))])
noncomputable def o48:J:=fun P=>(.mk (.type x3) none (.dict #[(e P S18 269 (.str S4 194)),(e P S20 273 (.int 13 272)),(e P S21 274 (.ref 78)),(e P S5 275 .none)] 2) #[])
noncomputable def o49:J:=fun P=>(.mk (.type x9) none (.cls (.mk S24 [(.ref 31)] [(.ref 80),(.ref 31),(.type x6),(.type x10),(.type x11),(.type x12)] 79 S24 .true [] [] .false none .false)) #[(some (.ref 71)),none,(some (.str S24 262)),(some (.str S24 270)),(some (.builtin x13)),(some (.bool .true))])
noncomputable def o50:J:=fun P=>(.mk (.type x16) none (.fields #[(.ref 80),(.ref 80),(.ref 80)]) #[])
noncomputable def o51:J:=fun P=>(.mk (.type x7) none (.fields #[(.builtin x17),(.ref 80)]) #[])
noncomputable def o52:J:=fun P=>(.mk (.type x3) none (.dict #[(e P S18 285 (.str S4 194)),(e P S19 287 (.str S25 286)),(e P S20 289 (.int 15 288)),(e P S21 290 (.ref 90))] 4) #[])
noncomputable def o53:J:=fun P=>(yc S25 280 S25 281 282 15 0 0 86 .false 87 .none 283 15 284)
noncomputable def o54:J:=fun P=>(.mk (.type x2) none .plain #[(some (.ref 88)),(some (.ref 3)),(some (.ref 85)),none,(some (.str S4 194)),none,(some (.ref 0))])
noncomputable def o55:J:=fun P=>(.mk (.type x3) none (.dict #[(e P S18 285 (.str S4 194)),(e P S20 289 (.int 15 288)),(e P S21 290 (.ref 90)),(e P S5 291 .none)] 2) #[])
noncomputable def o56:J:=fun P=>(.mk (.type x9) none (.cls (.mk S25 [(.ref 31)] [(.ref 92),(.ref 31),(.type x6),(.type x10),(.type x11),(.type x12)] 91 S25 .true [] [] .false none .false)) #[(some (.ref 83)),none,(some (.str S25 278)),(some (.str S25 286)),(some (.builtin x13)),(some (.bool .true))])
noncomputable def o57:J:=fun P=>(.mk (.type x16) none (.fields #[(.ref 92),(.ref 92),(.ref 92)]) #[])
noncomputable def o58:J:=fun P=>(.mk (.type x7) none (.fields #[(.builtin x17),(.ref 92)]) #[])
noncomputable def t_1 : Params → BT:=(N boot_o_0 (N boot_o_1 (N o35 (N boot_o_7 (N o0 (N o37 (L o1) Z) (N o20 (L o48) Z)) (N o11 (N o1 (L o20) Z) (N o31 (L o1) Z))) (N o0 (N o7 (N o20 (L o41) Z) (N o1 (L o20) Z)) (N o13 (N o24 (L o1) Z) (N o20 (L o55) Z)))) (N boot_o_5 (N boot_o_9 (N o6 (N o18 (L o40) Z) (N o28 (L o50) Z)) (N o0 (N o23 (L o45) Z) (N o33 (L o54) Z))) (N o2 (N o9 (N o21 (L o43) Z) (N o30 (L o52) Z)) (N o0 (N o26 (L o47) Z) (N o38 (L o57) Z))))) (N boot_o_2 (N boot_o_4 (N boot_o_8 (N o1 (N o17 (L o39) Z) (N o11 (L o49) Z)) (N o12 (N o22 (L o11) Z) (N o32 (L o53) Z))) (N o36 (N o8 (N o11 (L o42) Z) (N o29 (L o11) Z)) (N o14 (N o25 (L o46) Z) (N o11 (L o56) Z)))) (N boot_o_6 (N boot_o_10 (N o0 (N o19 (L o0) Z) (N o0 (L o51) Z)) (N o1 (N o0 (L o0) Z) (N o34 (L o0) Z))) (N o3 (N o10 (N o0 (L o44) Z) (N o0 (L o0) Z)) (N o15 (N o27 (L o0) Z) (N o0 (L o58) Z))))))
noncomputable def o59:J:=fun P=>(.mk (.type x3) none (.dict #[(e P S3 165 (.str S26 396)),(e P S5 166 .none),(e P S6 167 .none),(e P S7 168 (.builtin x4)),(e P S8 169 .none),(e P S9 170 (.ref 6)),(e P S10 171 (.ref 4)),(e P S11 173 (.str S1 172)),(e P S12 174 .none),(e P S13 193 (.ref 21)),(e P S14 213 (.ref 31)),(e P S15 229 (.ref 44)),(e P S16 245 (.ref 56)),(e P S23 261 (.ref 68)),(e P S24 277 (.ref 80)),(e P S25 293 (.ref 92)),(e P S27 318 (.ref 111)),(e P S28 327 (.ref 120)),(e P S29 334 (.ref 127)),(e P S30 345 (.ref 134)),(e P S31 354 (.ref 141)),(e P S32 362 (.ref 148)),(e P S33 370 (.ref 155)),(e P S34 378 (.ref 162)),(e P S35 386 (.ref 169)),(e P S36 395 (.ref 176)),(e P S37 399 (.int 8 398)),(e P S38 401 (.int 28 400)),(e P S39 403 (.int 1000000000 402)),(e P S40 411 (.ref 183)),(e P S41 418 (.ref 190)),(e P S42 426 (.ref 197)),(e P S43 432 (.ref 202)),(e P S44 438 (.ref 207))] 34) #[])
noncomputable def o60:J:=fun P=>(yv #[(.int 1 0),(.int 0 0),(.ref 20),(.int 5 0),(.int 0 0),(.ref 27),(.int 7 0),(.int 0 0),(.ref 40),(.int 9 0),(.int 0 0),(.ref 52),(.int 11 0),(.int 0 0),(.ref 64),(.int 13 0),(.int 0 0),(.ref 76),(.int 15 0),(.int 0 0),(.ref 88),(.int 17 0),(.int 0 0),(.ref 100),(.int 23 0),(.int 0 0),(.ref 119),(.int 25 0),(.int 0 0),(.ref 126),(.int 31 0),(.int 0 0),(.ref 133),(.int 39 0),(.int 0 0),(.ref 140),(.int 46 0),(.int 0 0),(.ref 147),(.int 48 0),(.int 0 0),(.ref 154),(.int 50 0),(.int 0 0),(.ref 161),(.int 52 0),(.int 0 0),(.ref 168),(.int 54 0),(.int 0 0),(.ref 175),(.int 63 0),(.int 0 0),(.ref 182),(.int 65 0),(.int 0 0),(.ref 189),(.int 67 0),(.int 0 0),(.ref 196),(.int 73 0),(.int 0 0),(.ref 201),(.int 79 0),(.int 0 0),(.ref 206)])
noncomputable def o61:J:=fun P=>(.mk (.type x9) none (.cls (.mk S14 [(.type x6)] [(.ref 31),(.type x6),(.type x10),(.type x11),(.type x12)] 30 S14 .true [] [(.ref 44),(.ref 56),(.ref 68),(.ref 80),(.ref 92),(.ref 111)] .false none .false)) #[(some (.ref 22)),none,(some (.str S14 196)),(some (.str S14 204)),(some (.builtin x13)),(some (.bool .true))])
noncomputable def o62:J:=fun P=>(.mk (.type x3) none (.dict #[(e P S18 301 (.str S4 194)),(e P S19 303 (.str S27 302)),(e P S20 305 (.int 17 304)),(e P S45 313 (.ref 108)),(e P S21 315 (.ref 109))] 5) #[])
noncomputable def o63:J:=fun P=>(yv #[(.int 19 0),(.int 4 0),(.ref 107)])
noncomputable def o64:J:=fun P=>(yc S27 296 S27 297 298 17 0 0 98 .false 99 .none 299 17 300)
noncomputable def o65:J:=fun P=>(.mk (.type x2) none .plain #[(some (.ref 100)),(some (.ref 3)),(some (.ref 97)),none,(some (.str S4 194)),none,(some (.ref 0))])
noncomputable def o66:J:=fun P=>(ys x0 #[(.str S46 309),(.str S47 310)])
noncomputable def o67:J:=fun P=>(yg S45 S48 (inClass (q 8) 0))
noncomputable def o68:J:=fun P=>(.mk (.type x1) none (.fields #[(.str S45 306),(.str S48 307),(.str S1 308),(.int 19 0),(.int 2 0),(.int 0 0),(.int 0 0),(.int 3 0),(.ref 102),(.bool .true),(.int 181 0),(.ref 103),.none,(.ref 104),(.ref 105),(.ref 106),(.int 311 0),(.int 19 0),(.str S1 312)]) #[])
noncomputable def o69:J:=fun P=>(yf S45 S48 (inClass (q 8) 0) 3 (.str S4 194) 107)
noncomputable def o70:J:=fun P=>(ys x0 #[(.str S47 314)])
noncomputable def o71:J:=fun P=>(.mk (.type x3) none (.dict #[(e P S18 301 (.str S4 194)),(e P S20 305 (.int 17 304)),(e P S45 313 (.ref 108)),(e P S21 315 (.ref 109)),(e P S5 316 .none)] 2) #[])
noncomputable def o72:J:=fun P=>(.mk (.type x9) none (.cls (.mk S27 [(.ref 31)] [(.ref 111),(.ref 31),(.type x6),(.type x10),(.type x11),(.type x12)] 110 S27 .true [] [] .false none .false)) #[(some (.ref 95)),none,(some (.str S27 294)),(some (.str S27 302)),(some (.builtin x13)),(some (.bool .true))])
noncomputable def o73:J:=fun P=>(.mk (.type x16) none (.fields #[(.ref 111),(.ref 111),(.ref 111)]) #[])
noncomputable def o74:J:=fun P=>(.mk (.type x7) none (.fields #[(.builtin x17),(.ref 111)]) #[])
noncomputable def o75:J:=fun P=>(ys x0 #[(.str S49 324)])
noncomputable def o76:J:=fun P=>(yg S28 S28 (q 10))
noncomputable def o77:J:=fun P=>(.mk (.type x1) none (.fields #[(.str S28 321),(.str S28 322),(.str S1 323),(.int 23 0),(.int 1 0),(.int 0 0),(.int 0 0),(.int 3 0),(.ref 114),(.bool .true),(.int 181 0),(.ref 115),.none,(.ref 116),(.ref 117),(.ref 118),(.int 325 0),(.int 23 0),(.str S1 326)]) #[])
noncomputable def o78:J:=fun P=>(yf S28 S28 (q 10) 3 (.str S50 319) 119)
noncomputable def o79:J:=fun P=>(ys x0 #[(.str S49 331)])
noncomputable def o80:J:=fun P=>(yg S29 S29 (q 11))
noncomputable def o81:J:=fun P=>(.mk (.type x1) none (.fields #[(.str S29 328),(.str S29 329),(.str S1 330),(.int 25 0),(.int 1 0),(.int 0 0),(.int 0 0),(.int 3 0),(.ref 121),(.bool .true),(.int 181 0),(.ref 122),.none,(.ref 123),(.ref 124),(.ref 125),(.int 332 0),(.int 25 0),(.str S1 333)]) #[])
noncomputable def o82:J:=fun P=>(yf S29 S29 (q 11) 3 (.str S50 319) 126)
noncomputable def o83:J:=fun P=>(ys x0 #[(.str S51 338),(.str S52 339),(.str S53 340),(.str S54 341),(.str S55 342)])
noncomputable def o84:J:=fun P=>(yg S30 S30 (q 12))
noncomputable def o85:J:=fun P=>(.mk (.type x1) none (.fields #[(.str S30 335),(.str S30 336),(.str S1 337),(.int 31 0),(.int 2 0),(.int 0 0),(.int 0 0),(.int 3 0),(.ref 128),(.bool .true),(.int 181 0),(.ref 129),.none,(.ref 130),(.ref 131),(.ref 132),(.int 343 0),(.int 31 0),(.str S1 344)]) #[])
noncomputable def o86:J:=fun P=>(yf S30 S30 (q 12) 3 (.str S50 319) 133)
noncomputable def o87:J:=fun P=>(ys x0 #[(.str S51 349),(.str S52 350),(.str S56 351)])
noncomputable def o88:J:=fun P=>(yg S31 S31 (q 13))
noncomputable def o89:J:=fun P=>(.mk (.type x1) none (.fields #[(.str S31 346),(.str S31 347),(.str S1 348),(.int 39 0),(.int 2 0),(.int 0 0),(.int 0 0),(.int 3 0),(.ref 135),(.bool .true),(.int 181 0),(.ref 136),.none,(.ref 137),(.ref 138),(.ref 139),(.int 352 0),(.int 39 0),(.str S1 353)]) #[])
noncomputable def o90:J:=fun P=>(yf S31 S31 (q 13) 3 (.str S50 319) 140)
noncomputable def o91:J:=fun P=>(ys x0 #[(.str S53 358),(.str S54 359)])
noncomputable def o92:J:=fun P=>(.mk .none none (.func (.mk S32 S32 (defArgs (q 14)) (.stmts (defBody (q 14))) (defScope (q 17)) 0 [] .none .none .none .none none .none .none 0)) #[])
noncomputable def o93:J:=fun P=>(.mk (.type x1) none (.fields #[(.str S32 355),(.str S32 356),(.str S1 357),(.int 46 0),(.int 2 0),(.int 0 0),(.int 0 0),(.int 3 0),(.ref 142),(.bool .true),(.int 181 0),(.ref 143),.none,(.ref 144),(.ref 145),(.ref 146),(.int 360 0),(.int 46 0),(.str S1 361)]) #[])
noncomputable def o94:J:=fun P=>(.mk (.type x5) none (.func (.mk S32 S32 (defArgs (q 14)) (.stmts (defBody (q 14))) (defScope (q 17)) 3 [] .none .none .none (.str S50 319) none (.ref 147) .none 0)) #[])
noncomputable def o95:J:=fun P=>(ys x0 #[(.str S53 366),(.str S54 367)])
noncomputable def o96:J:=fun P=>(.mk .none none (.func (.mk S33 S33 (defArgs (q 15)) (.stmts (defBody (q 15))) (defScope (q 17)) 0 [] .none .none .none .none none .none .none 0)) #[])
noncomputable def o97:J:=fun P=>(.mk (.type x1) none (.fields #[(.str S33 363),(.str S33 364),(.str S1 365),(.int 48 0),(.int 2 0),(.int 0 0),(.int 0 0),(.int 3 0),(.ref 149),(.bool .true),(.int 181 0),(.ref 150),.none,(.ref 151),(.ref 152),(.ref 153),(.int 368 0),(.int 48 0),(.str S1 369)]) #[])
noncomputable def o98:J:=fun P=>(.mk (.type x5) none (.func (.mk S33 S33 (defArgs (q 15)) (.stmts (defBody (q 15))) (defScope (q 17)) 3 [] .none .none .none (.str S50 319) none (.ref 154) .none 0)) #[])
noncomputable def o99:J:=fun P=>(ys x0 #[(.str S53 374),(.str S54 375)])
noncomputable def o100:J:=fun P=>(.mk .none none (.func (.mk S34 S34 (defArgs (q 16)) (.stmts (defBody (q 16))) (defScope (q 17)) 0 [] .none .none .none .none none .none .none 0)) #[])
noncomputable def o101:J:=fun P=>(.mk (.type x1) none (.fields #[(.str S34 371),(.str S34 372),(.str S1 373),(.int 50 0),(.int 2 0),(.int 0 0),(.int 0 0),(.int 3 0),(.ref 156),(.bool .true),(.int 181 0),(.ref 157),.none,(.ref 158),(.ref 159),(.ref 160),(.int 376 0),(.int 50 0),(.str S1 377)]) #[])
noncomputable def o102:J:=fun P=>(.mk (.type x5) none (.func (.mk S34 S34 (defArgs (q 16)) (.stmts (defBody (q 16))) (defScope (q 17)) 3 [] .none .none .none (.str S50 319) none (.ref 161) .none 0)) #[])
noncomputable def o103:J:=fun P=>(ys x0 #[(.str S53 382),(.str S54 383)])
noncomputable def o104:J:=fun P=>(yg S35 S35 (q 17))
noncomputable def o105:J:=fun P=>(.mk (.type x1) none (.fields #[(.str S35 379),(.str S35 380),(.str S1 381),(.int 52 0),(.int 2 0),(.int 0 0),(.int 0 0),(.int 3 0),(.ref 163),(.bool .true),(.int 181 0),(.ref 164),.none,(.ref 165),(.ref 166),(.ref 167),(.int 384 0),(.int 52 0),(.str S1 385)]) #[])
noncomputable def o106:J:=fun P=>(yf S35 S35 (q 17) 3 (.str S50 319) 168)
noncomputable def o107:J:=fun P=>(ys x0 #[(.str S57 390),(.str S58 391),(.str S59 392)])
noncomputable def o108:J:=fun P=>(yg S36 S36 (q 18))
noncomputable def o109:J:=fun P=>(.mk (.type x1) none (.fields #[(.str S36 387),(.str S36 388),(.str S1 389),(.int 54 0),(.int 1 0),(.int 0 0),(.int 0 0),(.int 3 0),(.ref 170),(.bool .true),(.int 181 0),(.ref 171),.none,(.ref 172),(.ref 173),(.ref 174),(.int 393 0),(.int 54 0),(.str S1 394)]) #[])
noncomputable def o110:J:=fun P=>(yf S36 S36 (q 18) 3 (.str S50 319) 175)
noncomputable def o111:J:=fun P=>(ys x0 #[(.str S49 407),(.str S60 408)])
noncomputable def o112:J:=fun P=>(yg S40 S40 (q 23))
noncomputable def o113:J:=fun P=>(.mk (.type x1) none (.fields #[(.str S40 404),(.str S40 405),(.str S1 406),(.int 63 0),(.int 2 0),(.int 0 0),(.int 0 0),(.int 3 0),(.ref 177),(.bool .true),(.int 181 0),(.ref 178),.none,(.ref 179),(.ref 180),(.ref 181),(.int 409 0),(.int 63 0),(.str S1 410)]) #[])
noncomputable def o114:J:=fun P=>(yf S40 S40 (q 23) 3 (.str S26 396) 182)
noncomputable def o115:J:=fun P=>(ys x0 #[(.str S49 415)])
noncomputable def o116:J:=fun P=>(yg S41 S41 (q 24))
noncomputable def o117:J:=fun P=>(.mk (.type x1) none (.fields #[(.str S41 412),(.str S41 413),(.str S1 414),(.int 65 0),(.int 1 0),(.int 0 0),(.int 0 0),(.int 3 0),(.ref 184),(.bool .true),(.int 181 0),(.ref 185),.none,(.ref 186),(.ref 187),(.ref 188),(.int 416 0),(.int 65 0),(.str S1 417)]) #[])
noncomputable def o118:J:=fun P=>(yf S41 S41 (q 24) 3 (.str S26 396) 189)
noncomputable def o119:J:=fun P=>(ys x0 #[(.str S49 422),(.str S61 423)])
noncomputable def o120:J:=fun P=>(yg S42 S42 (q 25))
noncomputable def o121:J:=fun P=>(.mk (.type x1) none (.fields #[(.str S42 419),(.str S42 420),(.str S1 421),(.int 67 0),(.int 2 0),(.int 0 0),(.int 0 0),(.int 3 0),(.ref 191),(.bool .true),(.int 181 0),(.ref 192),.none,(.ref 193),(.ref 194),(.ref 195),(.int 424 0),(.int 67 0),(.str S1 425)]) #[])
noncomputable def o122:J:=fun P=>(yf S42 S42 (q 25) 3 (.str S26 396) 196)
noncomputable def o123:J:=fun P=>(yg S43 S43 (q 26))
noncomputable def o124:J:=fun P=>(yc S43 427 S43 428 429 73 2 3 198 .true 199 (.ref 200) 430 73 431)
noncomputable def o125:J:=fun P=>(yf S43 S43 (q 26) 3 (.str S26 396) 201)
noncomputable def o126:J:=fun P=>(yg S44 S44 (q 27))
noncomputable def o127:J:=fun P=>(yc S44 433 S44 434 435 79 2 3 203 .true 204 (.ref 205) 436 79 437)
noncomputable def o128:J:=fun P=>(yf S44 S44 (q 27) 3 (.str S26 396) 206)
noncomputable def t_2 : Params → BT:=(N boot_o_0 (N boot_o_1 (N o59 (N boot_o_7 (N o0 (N o61 (N o1 (L o82) (L o0)) (N o20 (L o0) Z)) (N o20 (N o48 (L o1) (L o128)) (N o72 (L o109) Z))) (N o11 (N o1 (N o20 (L o0) (L o1)) (N o1 (L o104) Z)) (N o31 (N o1 (L o95) Z) (N o77 (L o114) Z)))) (N o0 (N o7 (N o20 (N o41 (L o0) (L o120)) (N o63 (L o0) Z)) (N o1 (N o20 (L o93) Z) (N o1 (L o111) Z))) (N o13 (N o24 (N o1 (L o88) (L o0)) (N o68 (L o1) Z)) (N o20 (N o55 (L o98) Z) (N o79 (L o0) Z))))) (N boot_o_5 (N boot_o_9 (N o6 (N o18 (N o40 (L o1) (L o119)) (N o62 (L o101) Z)) (N o28 (N o50 (L o0) Z) (N o74 (L o0) Z))) (N o0 (N o23 (N o45 (L o87) (L o124)) (N o0 (L o106) Z)) (N o33 (N o54 (L o96) Z) (N o0 (L o1) Z)))) (N o2 (N o9 (N o21 (N o43 (L o85) (L o122)) (N o65 (L o103) Z)) (N o30 (N o52 (L o0) Z) (N o0 (L o112) Z))) (N o0 (N o26 (N o47 (L o90) (L o126)) (N o70 (L o0) Z)) (N o38 (N o57 (L o1) Z) (N o80 (L o117) Z)))))) (N boot_o_2 (N boot_o_4 (N boot_o_8 (N o1 (N o17 (N o39 (L o0) (L o1)) (N o11 (L o100) Z)) (N o11 (N o49 (L o91) Z) (N o73 (L o110) Z))) (N o12 (N o22 (N o11 (L o1) (L o123)) (N o66 (L o105) Z)) (N o32 (N o53 (L o0) Z) (N o78 (L o0) Z)))) (N o60 (N o8 (N o11 (N o42 (L o84) (L o121)) (N o64 (L o1) Z)) (N o29 (N o11 (L o94) Z) (N o75 (L o0) Z))) (N o14 (N o25 (N o46 (L o89) (L o1)) (N o69 (L o107) Z)) (N o11 (N o56 (L o0) Z) (N o0 (L o116) Z))))) (N boot_o_6 (N boot_o_10 (N o0 (N o19 (N o0 (L o83) (L o0)) (N o0 (L o102) Z)) (N o0 (N o51 (L o92) Z) (N o0 (L o1) Z))) (N o1 (N o0 (N o0 (L o0) (L o125)) (N o67 (L o0) Z)) (N o34 (N o0 (L o97) Z) (N o1 (L o115) Z)))) (N o3 (N o10 (N o0 (N o44 (L o86) (L o0)) (N o0 (L o0) Z)) (N o0 (N o0 (L o1) Z) (N o76 (L o113) Z))) (N o15 (N o27 (N o0 (L o0) (L o127)) (N o71 (L o108) Z)) (N o0 (N o58 (L o99) Z) (N o81 (L o118) Z)))))))
noncomputable def o129:J:=fun P=>(.mk (.type x3) none (.dict #[(e P S3 165 (.str S62 575)),(e P S5 166 .none),(e P S6 167 .none),(e P S7 168 (.builtin x4)),(e P S8 169 .none),(e P S9 170 (.ref 6)),(e P S10 171 (.ref 4)),(e P S11 173 (.str S1 172)),(e P S12 174 .none),(e P S13 193 (.ref 21)),(e P S14 213 (.ref 31)),(e P S15 229 (.ref 44)),(e P S16 245 (.ref 56)),(e P S23 261 (.ref 68)),(e P S24 277 (.ref 80)),(e P S25 293 (.ref 92)),(e P S27 318 (.ref 111)),(e P S28 327 (.ref 120)),(e P S29 334 (.ref 127)),(e P S30 345 (.ref 134)),(e P S31 354 (.ref 141)),(e P S32 362 (.ref 148)),(e P S33 370 (.ref 155)),(e P S34 378 (.ref 162)),(e P S35 386 (.ref 169)),(e P S36 395 (.ref 176)),(e P S37 399 (.int 8 398)),(e P S38 401 (.int 28 400)),(e P S39 403 (.int 1000000000 402)),(e P S40 411 (.ref 183)),(e P S41 418 (.ref 190)),(e P S42 426 (.ref 197)),(e P S43 432 (.ref 202)),(e P S44 438 (.ref 207)),(e P S63 492 (.ref 243)),(e P S64 502 (.ref 254)),(e P S65 511 (.ref 261)),(e P S66 519 (.ref 266)),(e P S67 525 (.ref 271)),(e P S68 536 (.ref 278)),(e P S69 546 (.ref 285)),(e P S70 552 (.ref 290)),(e P S71 558 (.ref 295)),(e P S72 568 (.ref 302)),(e P S73 574 (.ref 307)),(e P S74 587 (.ref 314)),(e P S75 595 (.ref 321)),(e P S76 601 (.ref 326)),(e P S77 607 (.ref 331)),(e P S78 613 (.ref 336)),(e P S79 619 (.ref 341))] 51) #[])
noncomputable def o130:J:=fun P=>(yv #[(.int 1 0),(.int 0 0),(.ref 20),(.int 5 0),(.int 0 0),(.ref 27),(.int 7 0),(.int 0 0),(.ref 40),(.int 9 0),(.int 0 0),(.ref 52),(.int 11 0),(.int 0 0),(.ref 64),(.int 13 0),(.int 0 0),(.ref 76),(.int 15 0),(.int 0 0),(.ref 88),(.int 17 0),(.int 0 0),(.ref 100),(.int 23 0),(.int 0 0),(.ref 119),(.int 25 0),(.int 0 0),(.ref 126),(.int 31 0),(.int 0 0),(.ref 133),(.int 39 0),(.int 0 0),(.ref 140),(.int 46 0),(.int 0 0),(.ref 147),(.int 48 0),(.int 0 0),(.ref 154),(.int 50 0),(.int 0 0),(.ref 161),(.int 52 0),(.int 0 0),(.ref 168),(.int 54 0),(.int 0 0),(.ref 175),(.int 63 0),(.int 0 0),(.ref 182),(.int 65 0),(.int 0 0),(.ref 189),(.int 67 0),(.int 0 0),(.ref 196),(.int 73 0),(.int 0 0),(.ref 201),(.int 79 0),(.int 0 0),(.ref 206),(.int 83 0),(.int 0 0),(.ref 213),(.int 109 0),(.int 0 0),(.ref 253),(.int 111 0),(.int 0 0),(.ref 260),(.int 117 0),(.int 0 0),(.ref 265),(.int 120 0),(.int 0 0),(.ref 270),(.int 122 0),(.int 0 0),(.ref 277),(.int 127 0),(.int 0 0),(.ref 284),(.int 133 0),(.int 0 0),(.ref 289),(.int 135 0),(.int 0 0),(.ref 294),(.int 138 0),(.int 0 0),(.ref 301),(.int 140 0),(.int 0 0),(.ref 306),(.int 147 0),(.int 0 0),(.ref 313),(.int 152 0),(.int 0 0),(.ref 320),(.int 154 0),(.int 0 0),(.ref 325),(.int 159 0),(.int 0 0),(.ref 330),(.int 161 0),(.int 0 0),(.ref 335),(.int 163 0),(.int 0 0),(.ref 340)])
noncomputable def o131:J:=fun P=>(.mk (.type x3) none (.dict #[(e P S18 446 (.str S26 396)),(e P S19 448 (.str S63 447)),(e P S20 450 (.int 83 449)),(e P S45 456 (.ref 219)),(e P S80 463 (.ref 226)),(e P S81 475 (.ref 233)),(e P S82 482 (.ref 240)),(e P S21 485 (.ref 241))] 8) #[])
noncomputable def o132:J:=fun P=>(yv #[(.int 85 0),(.int 4 0),(.ref 218),(.int 91 0),(.int 4 0),(.ref 225),(.int 94 0),(.int 4 0),(.ref 232),(.int 107 0),(.int 4 0),(.ref 239)])
noncomputable def o133:J:=fun P=>(yc S63 441 S63 442 443 83 0 0 211 .false 212 .none 444 83 445)
noncomputable def o134:J:=fun P=>(.mk (.type x2) none .plain #[(some (.ref 213)),(some (.ref 3)),(some (.ref 210)),none,(some (.str S26 396)),none,(some (.ref 0))])
noncomputable def o135:J:=fun P=>(yg S45 S83 (inClass (q 28) 0))
noncomputable def o136:J:=fun P=>(yc S45 451 S83 452 453 85 3 3 215 .true 216 (.ref 217) 454 85 455)
noncomputable def o137:J:=fun P=>(yf S45 S83 (inClass (q 28) 0) 3 (.str S26 396) 218)
noncomputable def o138:J:=fun P=>(ys x0 #[(.str S46 460)])
noncomputable def o139:J:=fun P=>(yg S80 S84 (inClass (q 28) 1))
noncomputable def o140:J:=fun P=>(.mk (.type x1) none (.fields #[(.str S80 457),(.str S84 458),(.str S1 459),(.int 91 0),(.int 1 0),(.int 0 0),(.int 0 0),(.int 3 0),(.ref 220),(.bool .true),(.int 181 0),(.ref 221),.none,(.ref 222),(.ref 223),(.ref 224),(.int 461 0),(.int 91 0),(.str S1 462)]) #[])
noncomputable def o141:J:=fun P=>(yf S80 S84 (inClass (q 28) 1) 3 (.str S26 396) 225)
noncomputable def o142:J:=fun P=>(ys x0 #[(.str S46 467),(.str S85 468),(.str S86 469),(.str S87 470),(.str S88 471),(.str S89 472)])
noncomputable def o143:J:=fun P=>(yg S81 S90 (inClass (q 28) 2))
noncomputable def o144:J:=fun P=>(.mk (.type x1) none (.fields #[(.str S81 464),(.str S90 465),(.str S1 466),(.int 94 0),(.int 2 0),(.int 0 0),(.int 0 0),(.int 3 0),(.ref 227),(.bool .true),(.int 181 0),(.ref 228),.none,(.ref 229),(.ref 230),(.ref 231),(.int 473 0),(.int 94 0),(.str S1 474)]) #[])
noncomputable def o145:J:=fun P=>(yf S81 S90 (inClass (q 28) 2) 3 (.str S26 396) 232)
noncomputable def o146:J:=fun P=>(ys x0 #[(.str S46 479)])
noncomputable def o147:J:=fun P=>(yg S82 S91 (inClass (q 28) 3))
noncomputable def o148:J:=fun P=>(.mk (.type x1) none (.fields #[(.str S82 476),(.str S91 477),(.str S1 478),(.int 107 0),(.int 1 0),(.int 0 0),(.int 0 0),(.int 3 0),(.ref 234),(.bool .true),(.int 181 0),(.ref 235),.none,(.ref 236),(.ref 237),(.ref 238),(.int 480 0),(.int 107 0),(.str S1 481)]) #[])
noncomputable def o149:J:=fun P=>(yf S82 S91 (inClass (q 28) 3) 3 (.str S26 396) 239)
noncomputable def o150:J:=fun P=>(ys x0 #[(.str S92 483),(.str S93 484)])
noncomputable def o151:J:=fun P=>(.mk (.type x3) none (.dict #[(e P S18 446 (.str S26 396)),(e P S20 450 (.int 83 449)),(e P S45 456 (.ref 219)),(e P S80 463 (.ref 226)),(e P S81 475 (.ref 233)),(e P S82 482 (.ref 240)),(e P S21 485 (.ref 241)),(e P S94 487 (.ref 244)),(e P S22 489 (.ref 245)),(e P S5 490 .none)] 4) #[])
noncomputable def o152:J:=fun P=>(.mk (.type x9) none (.cls (.mk S63 [(.type x12)] [(.ref 243),(.type x12)] 242 S63 .true [] [] .false none .false)) #[none,none,(some (.str S63 439)),(some (.str S63 447)),(some (.builtin x18)),(some (.bool .true))])
noncomputable def o153:J:=fun P=>(.mk (.type x14) none (.fields #[(.str S94 486),(.ref 243),(.builtin x19),(.builtin x20)]) #[])
noncomputable def o154:J:=fun P=>(.mk (.type x14) none (.fields #[(.str S22 488),(.ref 243),(.builtin x15),.none]) #[])
noncomputable def o155:J:=fun P=>(.mk (.type x16) none (.fields #[(.ref 243),(.ref 243),(.ref 243)]) #[])
noncomputable def o156:J:=fun P=>(.mk (.type x7) none (.fields #[(.builtin x17),(.ref 243)]) #[])
noncomputable def o157:J:=fun P=>(ys x0 #[(.str S95 496),(.str S53 497),(.str S54 498),(.str S96 499)])
noncomputable def o158:J:=fun P=>(yg S64 S64 (q 29))
noncomputable def o159:J:=fun P=>(.mk (.type x1) none (.fields #[(.str S64 493),(.str S64 494),(.str S1 495),(.int 109 0),(.int 4 0),(.int 0 0),(.int 0 0),(.int 3 0),(.ref 248),(.bool .true),(.int 181 0),(.ref 249),.none,(.ref 250),(.ref 251),(.ref 252),(.int 500 0),(.int 109 0),(.str S1 501)]) #[])
noncomputable def o160:J:=fun P=>(yf S64 S64 (q 29) 3 (.str S26 396) 253)
noncomputable def o161:J:=fun P=>(ys x0 #[(.str S95 506),(.str S85 507),(.str S80 508)])
noncomputable def o162:J:=fun P=>(yg S65 S65 (q 30))
noncomputable def o163:J:=fun P=>(.mk (.type x1) none (.fields #[(.str S65 503),(.str S65 504),(.str S1 505),(.int 111 0),(.int 2 0),(.int 0 0),(.int 0 0),(.int 3 0),(.ref 255),(.bool .true),(.int 181 0),(.ref 256),.none,(.ref 257),(.ref 258),(.ref 259),(.int 509 0),(.int 111 0),(.str S1 510)]) #[])
noncomputable def o164:J:=fun P=>(yf S65 S65 (q 30) 3 (.str S26 396) 260)
noncomputable def o165:J:=fun P=>(yg S66 S66 (q 32))
noncomputable def o166:J:=fun P=>(yc S66 514 S66 515 516 117 3 3 262 .true 263 (.ref 264) 517 117 518)
noncomputable def o167:J:=fun P=>(yf S66 S66 (q 32) 3 (.str S97 512) 265)
noncomputable def o168:J:=fun P=>(yg S67 S67 (q 33))
noncomputable def o169:J:=fun P=>(yc S67 520 S67 521 522 120 2 3 267 .true 268 (.ref 269) 523 120 524)
noncomputable def o170:J:=fun P=>(yf S67 S67 (q 33) 3 (.str S97 512) 270)
noncomputable def o171:J:=fun P=>(ys x0 #[(.str S80 529),(.str S53 530),(.str S85 531),(.str S54 532),(.str S98 533)])
noncomputable def o172:J:=fun P=>(yg S68 S68 (q 34))
noncomputable def o173:J:=fun P=>(.mk (.type x1) none (.fields #[(.str S68 526),(.str S68 527),(.str S1 528),(.int 122 0),(.int 4 0),(.int 0 0),(.int 0 0),(.int 3 0),(.ref 272),(.bool .true),(.int 181 0),(.ref 273),.none,(.ref 274),(.ref 275),(.ref 276),(.int 534 0),(.int 122 0),(.str S1 535)]) #[])
noncomputable def o174:J:=fun P=>(yf S68 S68 (q 34) 3 (.str S97 512) 277)
noncomputable def o175:J:=fun P=>(ys x0 #[(.str S60 540),(.str S58 541),(.str S53 542),(.str S54 543)])
noncomputable def o176:J:=fun P=>(yg S69 S69 (q 35))
noncomputable def o177:J:=fun P=>(.mk (.type x1) none (.fields #[(.str S69 537),(.str S69 538),(.str S1 539),(.int 127 0),(.int 1 0),(.int 0 0),(.int 0 0),(.int 3 0),(.ref 279),(.bool .true),(.int 181 0),(.ref 280),.none,(.ref 281),(.ref 282),(.ref 283),(.int 544 0),(.int 127 0),(.str S1 545)]) #[])
noncomputable def o178:J:=fun P=>(yf S69 S69 (q 35) 3 (.str S97 512) 284)
noncomputable def o179:J:=fun P=>(yg S70 S70 (q 36))
noncomputable def o180:J:=fun P=>(yc S70 547 S70 548 549 133 2 3 286 .true 287 (.ref 288) 550 133 551)
noncomputable def o181:J:=fun P=>(yf S70 S70 (q 36) 3 (.str S97 512) 289)
noncomputable def o182:J:=fun P=>(yg S71 S71 (q 37))
noncomputable def o183:J:=fun P=>(yc S71 553 S71 554 555 135 1 3 291 .true 292 (.ref 293) 556 135 557)
noncomputable def o184:J:=fun P=>(yf S71 S71 (q 37) 3 (.str S97 512) 294)
noncomputable def o185:J:=fun P=>(ys x0 #[(.str S80 562),(.str S53 563),(.str S85 564),(.str S54 565)])
noncomputable def o186:J:=fun P=>(yg S72 S72 (q 38))
noncomputable def o187:J:=fun P=>(.mk (.type x1) none (.fields #[(.str S72 559),(.str S72 560),(.str S1 561),(.int 138 0),(.int 4 0),(.int 0 0),(.int 0 0),(.int 3 0),(.ref 296),(.bool .true),(.int 181 0),(.ref 297),.none,(.ref 298),(.ref 299),(.ref 300),(.int 566 0),(.int 138 0),(.str S1 567)]) #[])
noncomputable def o188:J:=fun P=>(yf S72 S72 (q 38) 3 (.str S97 512) 301)
noncomputable def o189:J:=fun P=>(yg S73 S73 (q 39))
noncomputable def o190:J:=fun P=>(yc S73 569 S73 570 571 140 2 3 303 .true 304 (.ref 305) 572 140 573)
noncomputable def o191:J:=fun P=>(yf S73 S73 (q 39) 3 (.str S97 512) 306)
noncomputable def o192:J:=fun P=>(ys x0 #[(.str S80 580),(.str S99 581),(.str S100 582),(.str S101 583),(.str S96 584)])
noncomputable def o193:J:=fun P=>(yg S74 S74 (q 41))
noncomputable def o194:J:=fun P=>(.mk (.type x1) none (.fields #[(.str S74 577),(.str S74 578),(.str S1 579),(.int 147 0),(.int 1 0),(.int 0 0),(.int 0 0),(.int 3 0),(.ref 308),(.bool .true),(.int 181 0),(.ref 309),.none,(.ref 310),(.ref 311),(.ref 312),(.int 585 0),(.int 147 0),(.str S1 586)]) #[])
noncomputable def o195:J:=fun P=>(yf S74 S74 (q 41) 3 (.str S62 575) 313)
noncomputable def o196:J:=fun P=>(ys x0 #[(.str S96 591),(.str S99 592)])
noncomputable def o197:J:=fun P=>(yg S75 S75 (q 42))
noncomputable def o198:J:=fun P=>(.mk (.type x1) none (.fields #[(.str S75 588),(.str S75 589),(.str S1 590),(.int 152 0),(.int 2 0),(.int 0 0),(.int 0 0),(.int 3 0),(.ref 315),(.bool .true),(.int 181 0),(.ref 316),.none,(.ref 317),(.ref 318),(.ref 319),(.int 593 0),(.int 152 0),(.str S1 594)]) #[])
noncomputable def o199:J:=fun P=>(yf S75 S75 (q 42) 3 (.str S62 575) 320)
noncomputable def o200:J:=fun P=>(yg S76 S76 (q 43))
noncomputable def o201:J:=fun P=>(yc S76 596 S76 597 598 154 4 3 322 .true 323 (.ref 324) 599 154 600)
noncomputable def o202:J:=fun P=>(yf S76 S76 (q 43) 3 (.str S62 575) 325)
noncomputable def o203:J:=fun P=>(yg S77 S77 (q 44))
noncomputable def o204:J:=fun P=>(yc S77 602 S77 603 604 159 4 3 327 .true 328 (.ref 329) 605 159 606)
noncomputable def o205:J:=fun P=>(yf S77 S77 (q 44) 3 (.str S62 575) 330)
noncomputable def o206:J:=fun P=>(yg S78 S78 (q 45))
noncomputable def o207:J:=fun P=>(yc S78 608 S78 609 610 161 3 3 332 .true 333 (.ref 334) 611 161 612)
noncomputable def o208:J:=fun P=>(yf S78 S78 (q 45) 3 (.str S62 575) 335)
noncomputable def o209:J:=fun P=>(yg S79 S79 (q 46))
noncomputable def o210:J:=fun P=>(yc S79 614 S79 615 616 163 4 3 337 .true 338 (.ref 339) 617 163 618)
noncomputable def o211:J:=fun P=>(yf S79 S79 (q 46) 3 (.str S62 575) 340)
noncomputable def t_3 : Params → BT:=(N boot_o_0 (N boot_o_1 (N o129 (N boot_o_7 (N o0 (N o61 (N o1 (N o82 (L o0) Z) (N o0 (L o197) Z)) (N o20 (N o0 (L o1) Z) (L o0))) (N o20 (N o48 (N o1 (L o170) Z) (N o128 (L o207) Z)) (N o72 (N o109 (L o0) Z) (L o148)))) (N o11 (N o1 (N o20 (N o0 (L o1) Z) (N o1 (L o0) Z)) (N o1 (N o104 (L o184) Z) (L o143))) (N o31 (N o1 (N o95 (L o0) Z) (L o0)) (N o77 (N o114 (L o0) Z) (L o156))))) (N o0 (N o7 (N o20 (N o41 (N o0 (L o162) Z) (N o120 (L o1) Z)) (N o63 (N o0 (L o0) Z) (L o0))) (N o1 (N o20 (N o93 (L o0) Z) (N o0 (L o209) Z)) (N o1 (N o111 (L o191) Z) (L o152)))) (N o13 (N o24 (N o1 (N o88 (L o0) Z) (N o0 (L o205) Z)) (N o68 (N o1 (L o0) Z) (L o1))) (N o20 (N o55 (N o98 (L o176) Z) (L o137)) (N o79 (N o0 (L o0) Z) (L o0)))))) (N boot_o_5 (N boot_o_9 (N o6 (N o18 (N o40 (N o1 (L o161) Z) (N o119 (L o199) Z)) (N o62 (N o101 (L o180) Z) (L o140))) (N o28 (N o50 (N o0 (L o1) Z) (N o11 (L o0) Z)) (N o74 (N o0 (L o189) Z) (L o150)))) (N o0 (N o23 (N o45 (N o87 (L o166) Z) (N o124 (L o203) Z)) (N o0 (N o106 (L o1) Z) (L o145))) (N o33 (N o54 (N o96 (L o175) Z) (L o135)) (N o0 (N o1 (L o194) Z) (L o1))))) (N o2 (N o9 (N o21 (N o43 (N o85 (L o164) Z) (N o122 (L o201) Z)) (N o65 (N o103 (L o182) Z) (L o142))) (N o30 (N o52 (N o0 (L o173) Z) (N o133 (L o211) Z)) (N o0 (N o112 (L o1) Z) (L o154)))) (N o0 (N o26 (N o47 (N o90 (L o168) Z) (N o126 (L o1) Z)) (N o70 (N o0 (L o187) Z) (L o0))) (N o38 (N o57 (N o1 (L o178) Z) (L o1)) (N o80 (N o117 (L o196) Z) (L o159))))))) (N boot_o_2 (N boot_o_4 (N boot_o_8 (N o1 (N o17 (N o39 (N o0 (L o1) Z) (N o1 (L o198) Z)) (N o11 (N o100 (L o179) Z) (L o139))) (N o11 (N o49 (N o91 (L o0) Z) (N o0 (L o208) Z)) (N o73 (N o110 (L o1) Z) (L o149)))) (N o12 (N o22 (N o11 (N o1 (L o165) Z) (N o123 (L o1) Z)) (N o66 (N o105 (L o0) Z) (L o144))) (N o32 (N o53 (N o0 (L o1) Z) (L o1)) (N o78 (N o0 (L o193) Z) (L o0))))) (N o130 (N o8 (N o11 (N o42 (N o84 (L o163) Z) (N o121 (L o200) Z)) (N o64 (N o1 (L o1) Z) (L o1))) (N o29 (N o11 (N o94 (L o172) Z) (N o132 (L o210) Z)) (N o75 (N o0 (L o0) Z) (L o153)))) (N o14 (N o25 (N o46 (N o89 (L o1) Z) (N o1 (L o0) Z)) (N o69 (N o107 (L o186) Z) (L o146))) (N o11 (N o56 (N o0 (L o177) Z) (L o0)) (N o0 (N o116 (L o1) Z) (L o158)))))) (N boot_o_6 (N boot_o_10 (N o0 (N o19 (N o0 (N o83 (L o0) Z) (N o0 (L o0) Z)) (N o0 (N o102 (L o181) Z) (L o141))) (N o0 (N o51 (N o92 (L o171) Z) (N o131 (L o1) Z)) (N o0 (N o1 (L o190) Z) (L o151)))) (N o1 (N o0 (N o0 (N o0 (L o167) Z) (N o125 (L o204) Z)) (N o67 (N o0 (L o185) Z) (L o0))) (N o34 (N o0 (N o97 (L o0) Z) (L o136)) (N o1 (N o115 (L o195) Z) (L o157))))) (N o3 (N o10 (N o0 (N o44 (N o86 (L o0) Z) (N o0 (L o202) Z)) (N o0 (N o0 (L o183) Z) (L o0))) (N o0 (N o0 (N o1 (L o174) Z) (L o134)) (N o76 (N o113 (L o192) Z) (L o155)))) (N o15 (N o27 (N o0 (N o0 (L o169) Z) (N o127 (L o206) Z)) (N o71 (N o108 (L o188) Z) (L o147))) (N o0 (N o58 (N o99 (L o0) Z) (L o138)) (N o81 (N o118 (L o0) Z) (L o160))))))))
noncomputable def o212:J:=fun P=>(.mk (.type x3) none (.dict #[(e P S3 165 (.str S102 632)),(e P S5 166 .none),(e P S6 167 .none),(e P S7 168 (.builtin x4)),(e P S8 169 .none),(e P S9 170 (.ref 6)),(e P S10 171 (.ref 4)),(e P S11 173 (.str S1 172)),(e P S12 174 .none),(e P S13 193 (.ref 21)),(e P S14 213 (.ref 31)),(e P S15 229 (.ref 44)),(e P S16 245 (.ref 56)),(e P S23 261 (.ref 68)),(e P S24 277 (.ref 80)),(e P S25 293 (.ref 92)),(e P S27 318 (.ref 111)),(e P S28 327 (.ref 120)),(e P S29 334 (.ref 127)),(e P S30 345 (.ref 134)),(e P S31 354 (.ref 141)),(e P S32 362 (.ref 148)),(e P S33 370 (.ref 155)),(e P S34 378 (.ref 162)),(e P S35 386 (.ref 169)),(e P S36 395 (.ref 176)),(e P S37 399 (.int 8 398)),(e P S38 401 (.int 28 400)),(e P S39 403 (.int 1000000000 402)),(e P S40 411 (.ref 183)),(e P S41 418 (.ref 190)),(e P S42 426 (.ref 197)),(e P S43 432 (.ref 202)),(e P S44 438 (.ref 207)),(e P S63 492 (.ref 243)),(e P S64 502 (.ref 254)),(e P S65 511 (.ref 261)),(e P S66 519 (.ref 266)),(e P S67 525 (.ref 271)),(e P S68 536 (.ref 278)),(e P S69 546 (.ref 285)),(e P S70 552 (.ref 290)),(e P S71 558 (.ref 295)),(e P S72 568 (.ref 302)),(e P S73 574 (.ref 307)),(e P S74 587 (.ref 314)),(e P S75 595 (.ref 321)),(e P S76 601 (.ref 326)),(e P S77 607 (.ref 331)),(e P S78 613 (.ref 336)),(e P S79 619 (.ref 341)),(e P S103 625 (.ref 346)),(e P S104 631 (.ref 351)),(e P S105 639 (.ref 356)),(e P S106 645 (.ref 361)),(e P S107 653 (.ref 368)),(e P S108 661 (.ref 375)),(e P S109 667 (.ref 380)),(e P S110 673 (.ref 385)),(e P S111 679 (.ref 390)),(e P S112 688 (.ref 397)),(e P S113 694 (.ref 402)),(e P S114 724 (.ref 419))] 63) #[])
noncomputable def o213:J:=fun P=>(yv #[(.int 1 0),(.int 0 0),(.ref 20),(.int 5 0),(.int 0 0),(.ref 27),(.int 7 0),(.int 0 0),(.ref 40),(.int 9 0),(.int 0 0),(.ref 52),(.int 11 0),(.int 0 0),(.ref 64),(.int 13 0),(.int 0 0),(.ref 76),(.int 15 0),(.int 0 0),(.ref 88),(.int 17 0),(.int 0 0),(.ref 100),(.int 23 0),(.int 0 0),(.ref 119),(.int 25 0),(.int 0 0),(.ref 126),(.int 31 0),(.int 0 0),(.ref 133),(.int 39 0),(.int 0 0),(.ref 140),(.int 46 0),(.int 0 0),(.ref 147),(.int 48 0),(.int 0 0),(.ref 154),(.int 50 0),(.int 0 0),(.ref 161),(.int 52 0),(.int 0 0),(.ref 168),(.int 54 0),(.int 0 0),(.ref 175),(.int 63 0),(.int 0 0),(.ref 182),(.int 65 0),(.int 0 0),(.ref 189),(.int 67 0),(.int 0 0),(.ref 196),(.int 73 0),(.int 0 0),(.ref 201),(.int 79 0),(.int 0 0),(.ref 206),(.int 83 0),(.int 0 0),(.ref 213),(.int 109 0),(.int 0 0),(.ref 253),(.int 111 0),(.int 0 0),(.ref 260),(.int 117 0),(.int 0 0),(.ref 265),(.int 120 0),(.int 0 0),(.ref 270),(.int 122 0),(.int 0 0),(.ref 277),(.int 127 0),(.int 0 0),(.ref 284),(.int 133 0),(.int 0 0),(.ref 289),(.int 135 0),(.int 0 0),(.ref 294),(.int 138 0),(.int 0 0),(.ref 301),(.int 140 0),(.int 0 0),(.ref 306),(.int 147 0),(.int 0 0),(.ref 313),(.int 152 0),(.int 0 0),(.ref 320),(.int 154 0),(.int 0 0),(.ref 325),(.int 159 0),(.int 0 0),(.ref 330),(.int 161 0),(.int 0 0),(.ref 335),(.int 163 0),(.int 0 0),(.ref 340),(.int 165 0),(.int 0 0),(.ref 345),(.int 173 0),(.int 0 0),(.ref 350),(.int 177 0),(.int 0 0),(.ref 355),(.int 179 0),(.int 0 0),(.ref 360),(.int 181 0),(.int 0 0),(.ref 367),(.int 184 0),(.int 0 0),(.ref 374),(.int 187 0),(.int 0 0),(.ref 379),(.int 191 0),(.int 0 0),(.ref 384),(.int 194 0),(.int 0 0),(.ref 389),(.int 197 0),(.int 0 0),(.ref 396),(.int 201 0),(.int 0 0),(.ref 401),(.int 203 0),(.int 0 0),(.ref 408)])
noncomputable def o214:J:=fun P=>(yg S103 S103 (q 47))
noncomputable def o215:J:=fun P=>(yc S103 620 S103 621 622 165 1 3 342 .true 343 (.ref 344) 623 165 624)
noncomputable def o216:J:=fun P=>(yf S103 S103 (q 47) 3 (.str S62 575) 345)
noncomputable def o217:J:=fun P=>(yg S104 S104 (q 48))
noncomputable def o218:J:=fun P=>(yc S104 626 S104 627 628 173 2 3 347 .true 348 (.ref 349) 629 173 630)
noncomputable def o219:J:=fun P=>(yf S104 S104 (q 48) 3 (.str S62 575) 350)
noncomputable def o220:J:=fun P=>(yg S105 S105 (q 50))
noncomputable def o221:J:=fun P=>(yc S105 634 S105 635 636 177 2 3 352 .true 353 (.ref 354) 637 177 638)
noncomputable def o222:J:=fun P=>(yf S105 S105 (q 50) 3 (.str S102 632) 355)
noncomputable def o223:J:=fun P=>(yg S106 S106 (q 51))
noncomputable def o224:J:=fun P=>(yc S106 640 S106 641 642 179 2 3 357 .true 358 (.ref 359) 643 179 644)
noncomputable def o225:J:=fun P=>(yf S106 S106 (q 51) 3 (.str S102 632) 360)
noncomputable def o226:J:=fun P=>(ys x0 #[(.str S95 649),(.str S61 650)])
noncomputable def o227:J:=fun P=>(yg S107 S107 (q 52))
noncomputable def o228:J:=fun P=>(.mk (.type x1) none (.fields #[(.str S107 646),(.str S107 647),(.str S1 648),(.int 181 0),(.int 2 0),(.int 0 0),(.int 0 0),(.int 3 0),(.ref 362),(.bool .true),(.int 181 0),(.ref 363),.none,(.ref 364),(.ref 365),(.ref 366),(.int 651 0),(.int 181 0),(.str S1 652)]) #[])
noncomputable def o229:J:=fun P=>(yf S107 S107 (q 52) 3 (.str S102 632) 367)
noncomputable def o230:J:=fun P=>(ys x0 #[(.str S95 657),(.str S115 658)])
noncomputable def o231:J:=fun P=>(yg S108 S108 (q 53))
noncomputable def o232:J:=fun P=>(.mk (.type x1) none (.fields #[(.str S108 654),(.str S108 655),(.str S1 656),(.int 184 0),(.int 2 0),(.int 0 0),(.int 0 0),(.int 3 0),(.ref 369),(.bool .true),(.int 181 0),(.ref 370),.none,(.ref 371),(.ref 372),(.ref 373),(.int 659 0),(.int 184 0),(.str S1 660)]) #[])
noncomputable def o233:J:=fun P=>(yf S108 S108 (q 53) 3 (.str S102 632) 374)
noncomputable def o234:J:=fun P=>(yg S109 S109 (q 54))
noncomputable def o235:J:=fun P=>(yc S109 662 S109 663 664 187 3 3 376 .true 377 (.ref 378) 665 187 666)
noncomputable def o236:J:=fun P=>(yf S109 S109 (q 54) 3 (.str S102 632) 379)
noncomputable def o237:J:=fun P=>(yg S110 S110 (q 55))
noncomputable def o238:J:=fun P=>(yc S110 668 S110 669 670 191 2 3 381 .true 382 (.ref 383) 671 191 672)
noncomputable def o239:J:=fun P=>(yf S110 S110 (q 55) 3 (.str S102 632) 384)
noncomputable def o240:J:=fun P=>(yg S111 S111 (q 56))
noncomputable def o241:J:=fun P=>(yc S111 674 S111 675 676 194 2 3 386 .true 387 (.ref 388) 677 194 678)
noncomputable def o242:J:=fun P=>(yf S111 S111 (q 56) 3 (.str S102 632) 389)
noncomputable def o243:J:=fun P=>(ys x0 #[(.str S88 683),(.str S53 684),(.str S54 685)])
noncomputable def o244:J:=fun P=>(yg S112 S112 (q 57))
noncomputable def o245:J:=fun P=>(.mk (.type x1) none (.fields #[(.str S112 680),(.str S112 681),(.str S1 682),(.int 197 0),(.int 3 0),(.int 0 0),(.int 0 0),(.int 3 0),(.ref 391),(.bool .true),(.int 181 0),(.ref 392),.none,(.ref 393),(.ref 394),(.ref 395),(.int 686 0),(.int 197 0),(.str S1 687)]) #[])
noncomputable def o246:J:=fun P=>(yf S112 S112 (q 57) 3 (.str S102 632) 396)
noncomputable def o247:J:=fun P=>(yg S113 S113 (q 58))
noncomputable def o248:J:=fun P=>(yc S113 689 S113 690 691 201 2 3 398 .true 399 (.ref 400) 692 201 693)
noncomputable def o249:J:=fun P=>(yf S113 S113 (q 58) 3 (.str S102 632) 401)
noncomputable def o250:J:=fun P=>(.mk (.type x3) none (.dict #[(e P S18 702 (.str S102 632)),(e P S19 704 (.str S114 703)),(e P S20 706 (.int 203 705)),(e P S116 716 (.ref 416)),(e P S21 717 (.ref 417))] 5) #[])
noncomputable def o251:J:=fun P=>(yv #[(.int 205 0),(.int 4 0),(.ref 415)])
noncomputable def o252:J:=fun P=>(yc S114 697 S114 698 699 203 0 0 406 .false 407 .none 700 203 701)
noncomputable def o253:J:=fun P=>(.mk (.type x2) none .plain #[(some (.ref 408)),(some (.ref 3)),(some (.ref 405)),none,(some (.str S102 632)),none,(some (.ref 0))])
noncomputable def o254:J:=fun P=>(ys x0 #[(.str S46 710),(.str S95 711),(.str S53 712),(.str S54 713)])
noncomputable def o255:J:=fun P=>(.mk .none none (.func (.mk S116 S117 (defArgs (inClass (q 59) 0)) (.stmts (defBody (inClass (q 59) 0))) (defScope (inClass (q 61) 1)) 0 [] .none .none .none .none none .none .none 0)) #[])
noncomputable def o256:J:=fun P=>(.mk (.type x1) none (.fields #[(.str S116 707),(.str S117 708),(.str S1 709),(.int 205 0),(.int 4 0),(.int 0 0),(.int 0 0),(.int 3 0),(.ref 410),(.bool .true),(.int 181 0),(.ref 411),.none,(.ref 412),(.ref 413),(.ref 414),(.int 714 0),(.int 205 0),(.str S1 715)]) #[])
noncomputable def o257:J:=fun P=>(.mk (.type x5) none (.func (.mk S116 S117 (defArgs (inClass (q 59) 0)) (.stmts (defBody (inClass (q 59) 0))) (defScope (inClass (q 61) 1)) 3 [] .none .none .none (.str S102 632) none (.ref 415) .none 0)) #[])
noncomputable def o258:J:=fun P=>(.mk (.type x3) none (.dict #[(e P S18 702 (.str S102 632)),(e P S20 706 (.int 203 705)),(e P S116 716 (.ref 416)),(e P S21 717 (.ref 417)),(e P S94 719 (.ref 420)),(e P S22 721 (.ref 421)),(e P S5 722 .none)] 4) #[])
noncomputable def o259:J:=fun P=>(.mk (.type x9) none (.cls (.mk S114 [(.type x12)] [(.ref 419),(.type x12)] 418 S114 .true [] [] .false none .false)) #[none,none,(some (.str S114 695)),(some (.str S114 703)),(some (.builtin x18)),(some (.bool .true))])
noncomputable def o260:J:=fun P=>(.mk (.type x14) none (.fields #[(.str S94 718),(.ref 419),(.builtin x19),(.builtin x20)]) #[])
noncomputable def o261:J:=fun P=>(.mk (.type x14) none (.fields #[(.str S22 720),(.ref 419),(.builtin x15),.none]) #[])
noncomputable def o262:J:=fun P=>(.mk (.type x16) none (.fields #[(.ref 419),(.ref 419),(.ref 419)]) #[])
noncomputable def o263:J:=fun P=>(.mk (.type x7) none (.fields #[(.builtin x17),(.ref 419)]) #[])
noncomputable def t_4 : Params → BT:=(N boot_o_0 (N boot_o_1 (N o212 (N boot_o_7 (N o0 (N o61 (N o1 (N o82 (L o0) (L o237)) (N o0 (L o197) Z)) (N o20 (N o0 (L o1) (L o256)) (N o0 (L o219) Z))) (N o20 (N o48 (N o1 (L o170) (L o1)) (N o128 (L o207) Z)) (N o72 (N o109 (L o0) Z) (N o148 (L o228) Z)))) (N o11 (N o1 (N o20 (N o0 (L o1) (L o0)) (N o1 (L o0) Z)) (N o1 (N o104 (L o184) (L o263)) (N o143 (L o223) Z))) (N o31 (N o1 (N o95 (L o0) (L o251)) (N o0 (L o1) Z)) (N o77 (N o114 (L o0) Z) (N o156 (L o233) Z))))) (N o0 (N o7 (N o20 (N o41 (N o0 (L o162) (L o1)) (N o120 (L o1) Z)) (N o63 (N o0 (L o0) (L o259)) (N o0 (L o221) Z))) (N o1 (N o20 (N o93 (L o0) (L o0)) (N o0 (L o209) Z)) (N o1 (N o111 (L o191) Z) (N o152 (L o230) Z)))) (N o13 (N o24 (N o1 (N o88 (L o0) (L o244)) (N o0 (L o205) Z)) (N o68 (N o1 (L o0) Z) (N o1 (L o1) Z))) (N o20 (N o55 (N o98 (L o176) (L o1)) (N o137 (L o0) Z)) (N o79 (N o0 (L o0) Z) (N o0 (L o235) Z)))))) (N boot_o_5 (N boot_o_9 (N o6 (N o18 (N o40 (N o1 (L o161) (L o239)) (N o119 (L o199) Z)) (N o62 (N o101 (L o180) (L o0)) (N o140 (L o1) Z))) (N o28 (N o50 (N o0 (L o1) (L o248)) (N o11 (L o0) Z)) (N o74 (N o0 (L o189) Z) (N o150 (L o0) Z)))) (N o0 (N o23 (N o45 (N o87 (L o166) (L o243)) (N o124 (L o203) Z)) (N o0 (N o106 (L o1) Z) (N o145 (L o225) Z))) (N o33 (N o54 (N o96 (L o175) (L o253)) (N o135 (L o215) Z)) (N o0 (N o1 (L o194) Z) (N o1 (L o1) Z))))) (N o2 (N o9 (N o21 (N o43 (N o85 (L o164) (L o241)) (N o122 (L o201) Z)) (N o65 (N o103 (L o182) (L o261)) (N o142 (L o0) Z))) (N o30 (N o52 (N o0 (L o173) (L o250)) (N o133 (L o211) Z)) (N o0 (N o112 (L o1) Z) (N o154 (L o231) Z)))) (N o0 (N o26 (N o47 (N o90 (L o168) (L o246)) (N o126 (L o1) Z)) (N o70 (N o0 (L o187) Z) (N o0 (L o0) Z))) (N o38 (N o57 (N o1 (L o178) (L o0)) (N o1 (L o217) Z)) (N o80 (N o117 (L o196) Z) (N o159 (L o0) Z))))))) (N boot_o_2 (N boot_o_4 (N boot_o_8 (N o1 (N o17 (N o39 (N o0 (L o1) (L o238)) (N o1 (L o198) Z)) (N o11 (N o100 (L o179) (L o257)) (N o139 (L o0) Z))) (N o11 (N o49 (N o91 (L o0) (L o247)) (N o0 (L o208) Z)) (N o73 (N o110 (L o1) Z) (N o149 (L o229) Z)))) (N o12 (N o22 (N o11 (N o1 (L o165) (L o1)) (N o123 (L o1) Z)) (N o66 (N o105 (L o0) Z) (N o144 (L o224) Z))) (N o32 (N o53 (N o0 (L o1) (L o252)) (N o1 (L o214) Z)) (N o78 (N o0 (L o193) Z) (N o0 (L o0) Z))))) (N o213 (N o8 (N o11 (N o42 (N o84 (L o163) (L o240)) (N o121 (L o200) Z)) (N o64 (N o1 (L o1) (L o260)) (N o1 (L o222) Z))) (N o29 (N o11 (N o94 (L o172) (L o11)) (N o132 (L o210) Z)) (N o75 (N o0 (L o0) Z) (N o153 (L o0) Z)))) (N o14 (N o25 (N o46 (N o89 (L o1) (L o245)) (N o1 (L o0) Z)) (N o69 (N o107 (L o186) Z) (N o146 (L o226) Z))) (N o11 (N o56 (N o0 (L o177) (L o254)) (N o0 (L o1) Z)) (N o0 (N o116 (L o1) Z) (N o158 (L o236) Z)))))) (N boot_o_6 (N boot_o_10 (N o0 (N o19 (N o0 (N o83 (L o0) (L o0)) (N o0 (L o0) Z)) (N o0 (N o102 (L o181) (L o258)) (N o141 (L o220) Z))) (N o0 (N o51 (N o92 (L o171) (L o249)) (N o131 (L o1) Z)) (N o0 (N o1 (L o190) Z) (N o151 (L o1) Z)))) (N o1 (N o0 (N o0 (N o0 (L o167) (L o0)) (N o125 (L o204) Z)) (N o67 (N o0 (L o185) Z) (N o0 (L o0) Z))) (N o34 (N o0 (N o97 (L o0) (L o0)) (N o136 (L o216) Z)) (N o1 (N o115 (L o195) Z) (N o157 (L o234) Z))))) (N o3 (N o10 (N o0 (N o44 (N o86 (L o0) (L o242)) (N o0 (L o202) Z)) (N o0 (N o0 (L o183) (L o262)) (N o0 (L o1) Z))) (N o0 (N o0 (N o1 (L o174) (L o0)) (N o134 (L o0) Z)) (N o76 (N o113 (L o192) Z) (N o155 (L o232) Z)))) (N o15 (N o27 (N o0 (N o0 (L o169) (L o0)) (N o127 (L o206) Z)) (N o71 (N o108 (L o188) Z) (N o147 (L o227) Z))) (N o0 (N o58 (N o99 (L o0) (L o255)) (N o138 (L o218) Z)) (N o81 (N o118 (L o0) Z) (N o160 (L o1) Z))))))))
noncomputable def o264:J:=fun P=>(.mk (.type x3) none (.dict #[(e P S3 165 (.str S118 850)),(e P S5 166 .none),(e P S6 167 .none),(e P S7 168 (.builtin x4)),(e P S8 169 .none),(e P S9 170 (.ref 6)),(e P S10 171 (.ref 4)),(e P S11 173 (.str S1 172)),(e P S12 174 .none),(e P S13 193 (.ref 21)),(e P S14 213 (.ref 31)),(e P S15 229 (.ref 44)),(e P S16 245 (.ref 56)),(e P S23 261 (.ref 68)),(e P S24 277 (.ref 80)),(e P S25 293 (.ref 92)),(e P S27 318 (.ref 111)),(e P S28 327 (.ref 120)),(e P S29 334 (.ref 127)),(e P S30 345 (.ref 134)),(e P S31 354 (.ref 141)),(e P S32 362 (.ref 148)),(e P S33 370 (.ref 155)),(e P S34 378 (.ref 162)),(e P S35 386 (.ref 169)),(e P S36 395 (.ref 176)),(e P S37 399 (.int 8 398)),(e P S38 401 (.int 28 400)),(e P S39 403 (.int 1000000000 402)),(e P S40 411 (.ref 183)),(e P S41 418 (.ref 190)),(e P S42 426 (.ref 197)),(e P S43 432 (.ref 202)),(e P S44 438 (.ref 207)),(e P S63 492 (.ref 243)),(e P S64 502 (.ref 254)),(e P S65 511 (.ref 261)),(e P S66 519 (.ref 266)),(e P S67 525 (.ref 271)),(e P S68 536 (.ref 278)),(e P S69 546 (.ref 285)),(e P S70 552 (.ref 290)),(e P S71 558 (.ref 295)),(e P S72 568 (.ref 302)),(e P S73 574 (.ref 307)),(e P S74 587 (.ref 314)),(e P S75 595 (.ref 321)),(e P S76 601 (.ref 326)),(e P S77 607 (.ref 331)),(e P S78 613 (.ref 336)),(e P S79 619 (.ref 341)),(e P S103 625 (.ref 346)),(e P S104 631 (.ref 351)),(e P S105 639 (.ref 356)),(e P S106 645 (.ref 361)),(e P S107 653 (.ref 368)),(e P S108 661 (.ref 375)),(e P S109 667 (.ref 380)),(e P S110 673 (.ref 385)),(e P S111 679 (.ref 390)),(e P S112 688 (.ref 397)),(e P S113 694 (.ref 402)),(e P S114 724 (.ref 419)),(e P S119 769 (.ref 454)),(e P S120 804 (.ref 480)),(e P S121 810 (.ref 487)),(e P S122 816 (.ref 492)),(e P S123 825 (.ref 499)),(e P S124 837 (.ref 506)),(e P S125 849 (.ref 513)),(e P S126 859 (.ref 520))] 71) #[])
noncomputable def o265:J:=fun P=>(yv #[(.int 1 0),(.int 0 0),(.ref 20),(.int 5 0),(.int 0 0),(.ref 27),(.int 7 0),(.int 0 0),(.ref 40),(.int 9 0),(.int 0 0),(.ref 52),(.int 11 0),(.int 0 0),(.ref 64),(.int 13 0),(.int 0 0),(.ref 76),(.int 15 0),(.int 0 0),(.ref 88),(.int 17 0),(.int 0 0),(.ref 100),(.int 23 0),(.int 0 0),(.ref 119),(.int 25 0),(.int 0 0),(.ref 126),(.int 31 0),(.int 0 0),(.ref 133),(.int 39 0),(.int 0 0),(.ref 140),(.int 46 0),(.int 0 0),(.ref 147),(.int 48 0),(.int 0 0),(.ref 154),(.int 50 0),(.int 0 0),(.ref 161),(.int 52 0),(.int 0 0),(.ref 168),(.int 54 0),(.int 0 0),(.ref 175),(.int 63 0),(.int 0 0),(.ref 182),(.int 65 0),(.int 0 0),(.ref 189),(.int 67 0),(.int 0 0),(.ref 196),(.int 73 0),(.int 0 0),(.ref 201),(.int 79 0),(.int 0 0),(.ref 206),(.int 83 0),(.int 0 0),(.ref 213),(.int 109 0),(.int 0 0),(.ref 253),(.int 111 0),(.int 0 0),(.ref 260),(.int 117 0),(.int 0 0),(.ref 265),(.int 120 0),(.int 0 0),(.ref 270),(.int 122 0),(.int 0 0),(.ref 277),(.int 127 0),(.int 0 0),(.ref 284),(.int 133 0),(.int 0 0),(.ref 289),(.int 135 0),(.int 0 0),(.ref 294),(.int 138 0),(.int 0 0),(.ref 301),(.int 140 0),(.int 0 0),(.ref 306),(.int 147 0),(.int 0 0),(.ref 313),(.int 152 0),(.int 0 0),(.ref 320),(.int 154 0),(.int 0 0),(.ref 325),(.int 159 0),(.int 0 0),(.ref 330),(.int 161 0),(.int 0 0),(.ref 335),(.int 163 0),(.int 0 0),(.ref 340),(.int 165 0),(.int 0 0),(.ref 345),(.int 173 0),(.int 0 0),(.ref 350),(.int 177 0),(.int 0 0),(.ref 355),(.int 179 0),(.int 0 0),(.ref 360),(.int 181 0),(.int 0 0),(.ref 367),(.int 184 0),(.int 0 0),(.ref 374),(.int 187 0),(.int 0 0),(.ref 379),(.int 191 0),(.int 0 0),(.ref 384),(.int 194 0),(.int 0 0),(.ref 389),(.int 197 0),(.int 0 0),(.ref 396),(.int 201 0),(.int 0 0),(.ref 401),(.int 203 0),(.int 0 0),(.ref 408),(.int 207 0),(.int 0 0),(.ref 429),(.int 218 0),(.int 0 0),(.ref 462),(.int 225 0),(.int 0 0),(.ref 486),(.int 234 0),(.int 0 0),(.ref 491),(.int 242 0),(.int 0 0),(.ref 498),(.int 247 0),(.int 0 0),(.ref 505),(.int 259 0),(.int 0 0),(.ref 512),(.int 266 0),(.int 0 0),(.ref 519)])
noncomputable def o266:J:=fun P=>(.mk (.type x9) none (.cls (.mk S114 [(.type x12)] [(.ref 419),(.type x12)] 418 S114 .true [] [(.ref 454),(.ref 480)] .false none .false)) #[none,none,(some (.str S114 695)),(some (.str S114 703)),(some (.builtin x18)),(some (.bool .true))])
noncomputable def o267:J:=fun P=>(ys x0 #[(.ref 419)])
noncomputable def o268:J:=fun P=>(.mk (.type x3) none (.dict #[(e P S18 732 (.str S102 632)),(e P S19 734 (.str S119 733)),(e P S20 736 (.int 207 735)),(e P S45 745 (.ref 437)),(e P S127 753 (.ref 444)),(e P S116 763 (.ref 451)),(e P S21 766 (.ref 452))] 7) #[])
noncomputable def o269:J:=fun P=>(yv #[(.int 209 0),(.int 4 0),(.ref 436),(.int 213 0),(.int 4 0),(.ref 443),(.int 216 0),(.int 4 0),(.ref 450)])
noncomputable def o270:J:=fun P=>(yc S119 727 S119 728 729 207 0 0 427 .false 428 .none 730 207 731)
noncomputable def o271:J:=fun P=>(.mk (.type x2) none .plain #[(some (.ref 429)),(some (.ref 3)),(some (.ref 426)),none,(some (.str S102 632)),none,(some (.ref 0))])
noncomputable def o272:J:=fun P=>(ys x0 #[(.str S46 740),(.str S115 741),(.str S128 742)])
noncomputable def o273:J:=fun P=>(yg S45 S129 (inClass (q 60) 0))
noncomputable def o274:J:=fun P=>(.mk (.type x1) none (.fields #[(.str S45 737),(.str S129 738),(.str S1 739),(.int 209 0),(.int 3 0),(.int 0 0),(.int 0 0),(.int 3 0),(.ref 431),(.bool .true),(.int 181 0),(.ref 432),.none,(.ref 433),(.ref 434),(.ref 435),(.int 743 0),(.int 209 0),(.str S1 744)]) #[])
noncomputable def o275:J:=fun P=>(yf S45 S129 (inClass (q 60) 0) 3 (.str S102 632) 436)
noncomputable def o276:J:=fun P=>(ys x0 #[(.str S46 749),(.str S95 750)])
noncomputable def o277:J:=fun P=>(yg S127 S130 (inClass (q 60) 1))
noncomputable def o278:J:=fun P=>(.mk (.type x1) none (.fields #[(.str S127 746),(.str S130 747),(.str S1 748),(.int 213 0),(.int 2 0),(.int 0 0),(.int 0 0),(.int 3 0),(.ref 438),(.bool .true),(.int 181 0),(.ref 439),.none,(.ref 440),(.ref 441),(.ref 442),(.int 751 0),(.int 213 0),(.str S1 752)]) #[])
noncomputable def o279:J:=fun P=>(yf S127 S130 (inClass (q 60) 1) 3 (.str S102 632) 443)
noncomputable def o280:J:=fun P=>(ys x0 #[(.str S46 757),(.str S95 758),(.str S53 759),(.str S54 760)])
noncomputable def o281:J:=fun P=>(.mk .none none (.func (.mk S116 S131 (defArgs (inClass (q 60) 2)) (.stmts (defBody (inClass (q 60) 2))) (defScope (inClass (q 61) 1)) 0 [] .none .none .none .none none .none .none 0)) #[])
noncomputable def o282:J:=fun P=>(.mk (.type x1) none (.fields #[(.str S116 754),(.str S131 755),(.str S1 756),(.int 216 0),(.int 4 0),(.int 0 0),(.int 0 0),(.int 3 0),(.ref 445),(.bool .true),(.int 181 0),(.ref 446),.none,(.ref 447),(.ref 448),(.ref 449),(.int 761 0),(.int 216 0),(.str S1 762)]) #[])
noncomputable def o283:J:=fun P=>(.mk (.type x5) none (.func (.mk S116 S131 (defArgs (inClass (q 60) 2)) (.stmts (defBody (inClass (q 60) 2))) (defScope (inClass (q 61) 1)) 3 [] .none .none .none (.str S102 632) none (.ref 450) .none 0)) #[])
noncomputable def o284:J:=fun P=>(ys x0 #[(.str S115 764),(.str S128 765)])
noncomputable def o285:J:=fun P=>(.mk (.type x3) none (.dict #[(e P S18 732 (.str S102 632)),(e P S20 736 (.int 207 735)),(e P S45 745 (.ref 437)),(e P S127 753 (.ref 444)),(e P S116 763 (.ref 451)),(e P S21 766 (.ref 452)),(e P S5 767 .none)] 2) #[])
noncomputable def o286:J:=fun P=>(.mk (.type x9) none (.cls (.mk S119 [(.ref 419)] [(.ref 454),(.ref 419),(.type x12)] 453 S119 .true [] [] .false none .false)) #[(some (.ref 424)),none,(some (.str S119 725)),(some (.str S119 733)),(some (.builtin x18)),(some (.bool .true))])
noncomputable def o287:J:=fun P=>(.mk (.type x16) none (.fields #[(.ref 454),(.ref 454),(.ref 454)]) #[])
noncomputable def o288:J:=fun P=>(.mk (.type x7) none (.fields #[(.builtin x17),(.ref 454)]) #[])
noncomputable def o289:J:=fun P=>(.mk (.type x3) none (.dict #[(e P S18 777 (.str S102 632)),(e P S19 779 (.str S120 778)),(e P S20 781 (.int 218 780)),(e P S45 789 (.ref 470)),(e P S116 799 (.ref 477)),(e P S21 801 (.ref 478))] 6) #[])
noncomputable def o290:J:=fun P=>(yv #[(.int 220 0),(.int 4 0),(.ref 469),(.int 223 0),(.int 4 0),(.ref 476)])
noncomputable def o291:J:=fun P=>(yc S120 772 S120 773 774 218 0 0 460 .false 461 .none 775 218 776)
noncomputable def o292:J:=fun P=>(.mk (.type x2) none .plain #[(some (.ref 462)),(some (.ref 3)),(some (.ref 459)),none,(some (.str S102 632)),none,(some (.ref 0))])
noncomputable def o293:J:=fun P=>(ys x0 #[(.str S46 785),(.str S61 786)])
noncomputable def o294:J:=fun P=>(yg S45 S132 (inClass (q 61) 0))
noncomputable def o295:J:=fun P=>(.mk (.type x1) none (.fields #[(.str S45 782),(.str S132 783),(.str S1 784),(.int 220 0),(.int 2 0),(.int 0 0),(.int 0 0),(.int 3 0),(.ref 464),(.bool .true),(.int 181 0),(.ref 465),.none,(.ref 466),(.ref 467),(.ref 468),(.int 787 0),(.int 220 0),(.str S1 788)]) #[])
noncomputable def o296:J:=fun P=>(yf S45 S132 (inClass (q 61) 0) 3 (.str S102 632) 469)
noncomputable def o297:J:=fun P=>(ys x0 #[(.str S46 793),(.str S95 794),(.str S53 795),(.str S54 796)])
noncomputable def o298:J:=fun P=>(yg S116 S133 (inClass (q 61) 1))
noncomputable def o299:J:=fun P=>(.mk (.type x1) none (.fields #[(.str S116 790),(.str S133 791),(.str S1 792),(.int 223 0),(.int 4 0),(.int 0 0),(.int 0 0),(.int 3 0),(.ref 471),(.bool .true),(.int 181 0),(.ref 472),.none,(.ref 473),(.ref 474),(.ref 475),(.int 797 0),(.int 223 0),(.str S1 798)]) #[])
noncomputable def o300:J:=fun P=>(yf S116 S133 (inClass (q 61) 1) 3 (.str S102 632) 476)
noncomputable def o301:J:=fun P=>(ys x0 #[(.str S61 800)])
noncomputable def o302:J:=fun P=>(.mk (.type x3) none (.dict #[(e P S18 777 (.str S102 632)),(e P S20 781 (.int 218 780)),(e P S45 789 (.ref 470)),(e P S116 799 (.ref 477)),(e P S21 801 (.ref 478)),(e P S5 802 .none)] 2) #[])
noncomputable def o303:J:=fun P=>(.mk (.type x9) none (.cls (.mk S120 [(.ref 419)] [(.ref 480),(.ref 419),(.type x12)] 479 S120 .true [] [] .false none .false)) #[(some (.ref 457)),none,(some (.str S120 770)),(some (.str S120 778)),(some (.builtin x18)),(some (.bool .true))])
noncomputable def o304:J:=fun P=>(.mk (.type x16) none (.fields #[(.ref 480),(.ref 480),(.ref 480)]) #[])
noncomputable def o305:J:=fun P=>(.mk (.type x7) none (.fields #[(.builtin x17),(.ref 480)]) #[])
noncomputable def o306:J:=fun P=>(yg S121 S121 (q 62))
noncomputable def o307:J:=fun P=>(yc S121 805 S121 806 807 225 3 3 483 .true 484 (.ref 485) 808 225 809)
noncomputable def o308:J:=fun P=>(yf S121 S121 (q 62) 3 (.str S102 632) 486)
noncomputable def o309:J:=fun P=>(yg S122 S122 (q 63))
noncomputable def o310:J:=fun P=>(yc S122 811 S122 812 813 234 3 3 488 .true 489 (.ref 490) 814 234 815)
noncomputable def o311:J:=fun P=>(yf S122 S122 (q 63) 3 (.str S102 632) 491)
noncomputable def o312:J:=fun P=>(ys x0 #[(.str S95 820),(.str S53 821),(.str S54 822)])
noncomputable def o313:J:=fun P=>(yg S123 S123 (q 64))
noncomputable def o314:J:=fun P=>(.mk (.type x1) none (.fields #[(.str S123 817),(.str S123 818),(.str S1 819),(.int 242 0),(.int 3 0),(.int 0 0),(.int 0 0),(.int 3 0),(.ref 493),(.bool .true),(.int 181 0),(.ref 494),.none,(.ref 495),(.ref 496),(.ref 497),(.int 823 0),(.int 242 0),(.str S1 824)]) #[])
noncomputable def o315:J:=fun P=>(yf S123 S123 (q 64) 3 (.str S102 632) 498)
noncomputable def o316:J:=fun P=>(ys x0 #[(.str S95 829),(.str S100 830),(.str S53 831),(.str S54 832),(.str S81 833),(.str S128 834)])
noncomputable def o317:J:=fun P=>(yg S124 S124 (q 65))
noncomputable def o318:J:=fun P=>(.mk (.type x1) none (.fields #[(.str S124 826),(.str S124 827),(.str S1 828),(.int 247 0),(.int 4 0),(.int 0 0),(.int 0 0),(.int 3 0),(.ref 500),(.bool .true),(.int 181 0),(.ref 501),.none,(.ref 502),(.ref 503),(.ref 504),(.int 835 0),(.int 247 0),(.str S1 836)]) #[])
noncomputable def o319:J:=fun P=>(yf S124 S124 (q 65) 3 (.str S102 632) 505)
noncomputable def o320:J:=fun P=>(ys x0 #[(.str S95 843),(.str S85 844),(.str S80 845),(.str S134 846)])
noncomputable def o321:J:=fun P=>(yg S125 S125 (q 67))
noncomputable def o322:J:=fun P=>(.mk (.type x1) none (.fields #[(.str S125 840),(.str S125 841),(.str S1 842),(.int 259 0),(.int 2 0),(.int 0 0),(.int 0 0),(.int 3 0),(.ref 507),(.bool .true),(.int 181 0),(.ref 508),.none,(.ref 509),(.ref 510),(.ref 511),(.int 847 0),(.int 259 0),(.str S1 848)]) #[])
noncomputable def o323:J:=fun P=>(yf S125 S125 (q 67) 3 (.str S135 838) 512)
noncomputable def o324:J:=fun P=>(ys x0 #[(.str S136 855),(.str S137 856)])
noncomputable def o325:J:=fun P=>(yg S126 S126 (q 69))
noncomputable def o326:J:=fun P=>(.mk (.type x1) none (.fields #[(.str S126 852),(.str S126 853),(.str S1 854),(.int 266 0),(.int 2 0),(.int 0 0),(.int 0 0),(.int 3 0),(.ref 514),(.bool .true),(.int 181 0),(.ref 515),.none,(.ref 516),(.ref 517),(.ref 518),(.int 857 0),(.int 266 0),(.str S1 858)]) #[])
noncomputable def o327:J:=fun P=>(yf S126 S126 (q 69) 3 (.str S118 850) 519)
noncomputable def t_5 : Params → BT:=(N boot_o_0 (N boot_o_1 (N o264 (N boot_o_7 (N o0 (N o61 (N o1 (N o82 (N o0 (L o321) Z) (L o237)) (N o0 (L o197) (L o280))) (N o20 (N o0 (L o1) (L o256)) (N o0 (L o219) (L o302)))) (N o20 (N o48 (N o1 (L o170) (L o1)) (N o128 (L o207) (L o292))) (N o72 (N o109 (L o0) (L o0)) (N o148 (L o228) (L o312))))) (N o11 (N o1 (N o20 (N o0 (N o1 (L o326) Z) (L o0)) (N o1 (L o0) (L o287))) (N o1 (N o104 (L o184) (L o263)) (N o143 (L o223) (L o308)))) (N o31 (N o1 (N o95 (L o0) (L o251)) (N o0 (L o1) (L o0))) (N o77 (N o114 (L o0) (L o1)) (N o156 (L o233) (L o0)))))) (N o0 (N o7 (N o20 (N o41 (N o0 (N o162 (L o1) Z) (L o1)) (N o120 (L o1) (L o283))) (N o63 (N o0 (L o0) (L o266)) (N o0 (L o221) (L o0)))) (N o1 (N o20 (N o93 (L o0) (L o0)) (N o0 (L o209) (L o0))) (N o1 (N o111 (L o191) (L o273)) (N o152 (L o230) (L o315))))) (N o13 (N o24 (N o1 (N o88 (L o0) (L o244)) (N o0 (L o205) (L o289))) (N o68 (N o1 (L o0) (L o0)) (N o1 (L o1) (L o310)))) (N o20 (N o55 (N o98 (L o176) (L o1)) (N o137 (L o0) (L o298))) (N o79 (N o0 (L o0) (L o278)) (N o0 (L o235) (L o0))))))) (N boot_o_5 (N boot_o_9 (N o6 (N o18 (N o40 (N o1 (N o161 (L o323) Z) (L o239)) (N o119 (L o199) (L o281))) (N o62 (N o101 (L o180) (L o0)) (N o140 (L o1) (L o304)))) (N o28 (N o50 (N o0 (L o1) (L o248)) (N o11 (L o0) (L o1))) (N o74 (N o0 (L o189) (L o272)) (N o150 (L o0) (L o313))))) (N o0 (N o23 (N o45 (N o87 (L o166) (L o243)) (N o124 (L o203) (L o267))) (N o0 (N o106 (L o1) (L o11)) (N o145 (L o225) (L o1)))) (N o33 (N o54 (N o96 (L o175) (L o253)) (N o135 (L o215) (L o297))) (N o0 (N o1 (L o194) (L o0)) (N o1 (L o1) (L o318)))))) (N o2 (N o9 (N o21 (N o43 (N o85 (N o164 (L o0) Z) (L o241)) (N o122 (L o201) (L o285))) (N o65 (N o103 (L o182) (L o261)) (N o142 (L o0) (L o306)))) (N o30 (N o52 (N o0 (L o173) (L o250)) (N o133 (L o211) (L o295))) (N o0 (N o112 (L o1) (L o275)) (N o154 (L o231) (L o1))))) (N o0 (N o26 (N o47 (N o90 (L o168) (L o246)) (N o126 (L o1) (L o290))) (N o70 (N o0 (L o187) (L o270)) (N o0 (L o0) (L o0)))) (N o38 (N o57 (N o1 (L o178) (L o0)) (N o1 (L o217) (L o300))) (N o80 (N o117 (L o196) (L o0)) (N o159 (L o0) (L o320)))))))) (N boot_o_2 (N boot_o_4 (N boot_o_8 (N o1 (N o17 (N o39 (N o0 (N o1 (L o322) Z) (L o238)) (N o1 (L o198) (L o0))) (N o11 (N o100 (L o179) (L o257)) (N o139 (L o0) (L o303)))) (N o11 (N o49 (N o91 (L o0) (L o247)) (N o0 (L o208) (L o0))) (N o73 (N o110 (L o1) (L o1)) (N o149 (L o229) (L o0))))) (N o12 (N o22 (N o11 (N o1 (N o165 (L o327) Z) (L o1)) (N o123 (L o1) (L o288))) (N o66 (N o105 (L o0) (L o267)) (N o144 (L o224) (L o0)))) (N o32 (N o53 (N o0 (L o1) (L o252)) (N o1 (L o214) (L o1))) (N o78 (N o0 (L o193) (L o276)) (N o0 (L o0) (L o317)))))) (N o265 (N o8 (N o11 (N o42 (N o84 (N o163 (L o324) Z) (L o240)) (N o121 (L o200) (L o284))) (N o64 (N o1 (L o1) (L o260)) (N o1 (L o222) (L o1)))) (N o29 (N o11 (N o94 (L o172) (L o11)) (N o132 (L o210) (L o294))) (N o75 (N o0 (L o0) (L o274)) (N o153 (L o0) (L o0))))) (N o14 (N o25 (N o46 (N o89 (L o1) (L o245)) (N o1 (L o0) (L o0))) (N o69 (N o107 (L o186) (L o269)) (N o146 (L o226) (L o311)))) (N o11 (N o56 (N o0 (L o177) (L o254)) (N o0 (L o1) (L o299))) (N o0 (N o116 (L o1) (L o279)) (N o158 (L o236) (L o1))))))) (N boot_o_6 (N boot_o_10 (N o0 (N o19 (N o0 (N o83 (N o0 (L o0) Z) (L o0)) (N o0 (L o0) (L o282))) (N o0 (N o102 (L o181) (L o258)) (N o141 (L o220) (L o305)))) (N o0 (N o51 (N o92 (L o171) (L o249)) (N o131 (L o1) (L o293))) (N o0 (N o1 (L o190) (L o0)) (N o151 (L o1) (L o314))))) (N o1 (N o0 (N o0 (N o0 (L o167) (L o0)) (N o125 (L o204) (L o11))) (N o67 (N o0 (L o185) (L o268)) (N o0 (L o0) (L o309)))) (N o34 (N o0 (N o97 (L o0) (L o0)) (N o136 (L o216) (L o0))) (N o1 (N o115 (L o195) (L o277)) (N o157 (L o234) (L o319)))))) (N o3 (N o10 (N o0 (N o44 (N o86 (N o0 (L o325) Z) (L o242)) (N o0 (L o202) (L o286))) (N o0 (N o0 (L o183) (L o262)) (N o0 (L o1) (L o307)))) (N o0 (N o0 (N o1 (L o174) (L o0)) (N o134 (L o0) (L o296))) (N o76 (N o113 (L o192) (L o0)) (N o155 (L o232) (L o316))))) (N o15 (N o27 (N o0 (N o0 (L o169) (L o0)) (N o127 (L o206) (L o291))) (N o71 (N o108 (L o188) (L o271)) (N o147 (L o227) (L o1)))) (N o0 (N o58 (N o99 (L o0) (L o255)) (N o138 (L o218) (L o301))) (N o81 (N o118 (L o0) (L o1)) (N o160 (L o1) (L o0)))))))))
noncomputable def o328:J:=fun P=>(.mk (.type x3) none (.dict #[(e P S3 165 (.str S118 850)),(e P S5 166 .none),(e P S6 167 .none),(e P S7 168 (.builtin x4)),(e P S8 169 .none),(e P S9 170 (.ref 6)),(e P S10 171 (.ref 4)),(e P S11 173 (.str S1 172)),(e P S12 174 .none),(e P S13 193 (.ref 21)),(e P S14 213 (.ref 31)),(e P S15 229 (.ref 44)),(e P S16 245 (.ref 56)),(e P S23 261 (.ref 68)),(e P S24 277 (.ref 80)),(e P S25 293 (.ref 92)),(e P S27 318 (.ref 111)),(e P S28 327 (.ref 120)),(e P S29 334 (.ref 127)),(e P S30 345 (.ref 134)),(e P S31 354 (.ref 141)),(e P S32 362 (.ref 148)),(e P S33 370 (.ref 155)),(e P S34 378 (.ref 162)),(e P S35 386 (.ref 169)),(e P S36 395 (.ref 176)),(e P S37 399 (.int 8 398)),(e P S38 401 (.int 28 400)),(e P S39 403 (.int 1000000000 402)),(e P S40 411 (.ref 183)),(e P S41 418 (.ref 190)),(e P S42 426 (.ref 197)),(e P S43 432 (.ref 202)),(e P S44 438 (.ref 207)),(e P S63 492 (.ref 243)),(e P S64 502 (.ref 254)),(e P S65 511 (.ref 261)),(e P S66 519 (.ref 266)),(e P S67 525 (.ref 271)),(e P S68 536 (.ref 278)),(e P S69 546 (.ref 285)),(e P S70 552 (.ref 290)),(e P S71 558 (.ref 295)),(e P S72 568 (.ref 302)),(e P S73 574 (.ref 307)),(e P S74 587 (.ref 314)),(e P S75 595 (.ref 321)),(e P S76 601 (.ref 326)),(e P S77 607 (.ref 331)),(e P S78 613 (.ref 336)),(e P S79 619 (.ref 341)),(e P S103 625 (.ref 346)),(e P S104 631 (.ref 351)),(e P S105 639 (.ref 356)),(e P S106 645 (.ref 361)),(e P S107 653 (.ref 368)),(e P S108 661 (.ref 375)),(e P S109 667 (.ref 380)),(e P S110 673 (.ref 385)),(e P S111 679 (.ref 390)),(e P S112 688 (.ref 397)),(e P S113 694 (.ref 402)),(e P S114 724 (.ref 419)),(e P S119 769 (.ref 454)),(e P S120 804 (.ref 480)),(e P S121 810 (.ref 487)),(e P S122 816 (.ref 492)),(e P S123 825 (.ref 499)),(e P S124 837 (.ref 506)),(e P S125 849 (.ref 513)),(e P S126 859 (.ref 520)),(e P S138 870 (.ref 527)),(e P S139 878 (.ref 534)),(e P S140 887 (.ref 541)),(e P S141 896 (.ref 548)),(e P S142 906 (.ref 555)),(e P S143 915 (.ref 562)),(e P S144 921 (.ref 567)),(e P S145 927 (.ref 572))] 79) #[])
noncomputable def o329:J:=fun P=>(yv #[(.int 1 0),(.int 0 0),(.ref 20),(.int 5 0),(.int 0 0),(.ref 27),(.int 7 0),(.int 0 0),(.ref 40),(.int 9 0),(.int 0 0),(.ref 52),(.int 11 0),(.int 0 0),(.ref 64),(.int 13 0),(.int 0 0),(.ref 76),(.int 15 0),(.int 0 0),(.ref 88),(.int 17 0),(.int 0 0),(.ref 100),(.int 23 0),(.int 0 0),(.ref 119),(.int 25 0),(.int 0 0),(.ref 126),(.int 31 0),(.int 0 0),(.ref 133),(.int 39 0),(.int 0 0),(.ref 140),(.int 46 0),(.int 0 0),(.ref 147),(.int 48 0),(.int 0 0),(.ref 154),(.int 50 0),(.int 0 0),(.ref 161),(.int 52 0),(.int 0 0),(.ref 168),(.int 54 0),(.int 0 0),(.ref 175),(.int 63 0),(.int 0 0),(.ref 182),(.int 65 0),(.int 0 0),(.ref 189),(.int 67 0),(.int 0 0),(.ref 196),(.int 73 0),(.int 0 0),(.ref 201),(.int 79 0),(.int 0 0),(.ref 206),(.int 83 0),(.int 0 0),(.ref 213),(.int 109 0),(.int 0 0),(.ref 253),(.int 111 0),(.int 0 0),(.ref 260),(.int 117 0),(.int 0 0),(.ref 265),(.int 120 0),(.int 0 0),(.ref 270),(.int 122 0),(.int 0 0),(.ref 277),(.int 127 0),(.int 0 0),(.ref 284),(.int 133 0),(.int 0 0),(.ref 289),(.int 135 0),(.int 0 0),(.ref 294),(.int 138 0),(.int 0 0),(.ref 301),(.int 140 0),(.int 0 0),(.ref 306),(.int 147 0),(.int 0 0),(.ref 313),(.int 152 0),(.int 0 0),(.ref 320),(.int 154 0),(.int 0 0),(.ref 325),(.int 159 0),(.int 0 0),(.ref 330),(.int 161 0),(.int 0 0),(.ref 335),(.int 163 0),(.int 0 0),(.ref 340),(.int 165 0),(.int 0 0),(.ref 345),(.int 173 0),(.int 0 0),(.ref 350),(.int 177 0),(.int 0 0),(.ref 355),(.int 179 0),(.int 0 0),(.ref 360),(.int 181 0),(.int 0 0),(.ref 367),(.int 184 0),(.int 0 0),(.ref 374),(.int 187 0),(.int 0 0),(.ref 379),(.int 191 0),(.int 0 0),(.ref 384),(.int 194 0),(.int 0 0),(.ref 389),(.int 197 0),(.int 0 0),(.ref 396),(.int 201 0),(.int 0 0),(.ref 401),(.int 203 0),(.int 0 0),(.ref 408),(.int 207 0),(.int 0 0),(.ref 429),(.int 218 0),(.int 0 0),(.ref 462),(.int 225 0),(.int 0 0),(.ref 486),(.int 234 0),(.int 0 0),(.ref 491),(.int 242 0),(.int 0 0),(.ref 498),(.int 247 0),(.int 0 0),(.ref 505),(.int 259 0),(.int 0 0),(.ref 512),(.int 266 0),(.int 0 0),(.ref 519),(.int 270 0),(.int 0 0),(.ref 526),(.int 274 0),(.int 0 0),(.ref 533),(.int 280 0),(.int 0 0),(.ref 540),(.int 286 0),(.int 0 0),(.ref 547),(.int 307 0),(.int 0 0),(.ref 554),(.int 313 0),(.int 0 0),(.ref 561),(.int 319 0),(.int 0 0),(.ref 566),(.int 341 0),(.int 0 0),(.ref 571)])
noncomputable def o330:J:=fun P=>(ys x0 #[(.str S146 863),(.str S137 864),(.str S147 865),(.str S148 866),(.str S149 867)])
noncomputable def o331:J:=fun P=>(yg S138 S138 (q 70))
noncomputable def o332:J:=fun P=>(.mk (.type x1) none (.fields #[(.str S138 860),(.str S138 861),(.str S1 862),(.int 270 0),(.int 3 0),(.int 0 0),(.int 0 0),(.int 3 0),(.ref 521),(.bool .true),(.int 181 0),(.ref 522),.none,(.ref 523),(.ref 524),(.ref 525),(.int 868 0),(.int 270 0),(.str S1 869)]) #[])
noncomputable def o333:J:=fun P=>(yf S138 S138 (q 70) 3 (.str S118 850) 526)
noncomputable def o334:J:=fun P=>(ys x0 #[(.str S150 874),(.str S151 875)])
noncomputable def o335:J:=fun P=>(yg S139 S139 (q 71))
noncomputable def o336:J:=fun P=>(.mk (.type x1) none (.fields #[(.str S139 871),(.str S139 872),(.str S1 873),(.int 274 0),(.int 1 0),(.int 0 0),(.int 0 0),(.int 3 0),(.ref 528),(.bool .true),(.int 181 0),(.ref 529),.none,(.ref 530),(.ref 531),(.ref 532),(.int 876 0),(.int 274 0),(.str S1 877)]) #[])
noncomputable def o337:J:=fun P=>(yf S139 S139 (q 71) 3 (.str S118 850) 533)
noncomputable def o338:J:=fun P=>(ys x0 #[(.str S152 882),(.str S153 883),(.str S150 884)])
noncomputable def o339:J:=fun P=>(yg S140 S140 (q 72))
noncomputable def o340:J:=fun P=>(.mk (.type x1) none (.fields #[(.str S140 879),(.str S140 880),(.str S1 881),(.int 280 0),(.int 2 0),(.int 0 0),(.int 0 0),(.int 3 0),(.ref 535),(.bool .true),(.int 181 0),(.ref 536),.none,(.ref 537),(.ref 538),(.ref 539),(.int 885 0),(.int 280 0),(.str S1 886)]) #[])
noncomputable def o341:J:=fun P=>(yf S140 S140 (q 72) 3 (.str S118 850) 540)
noncomputable def o342:J:=fun P=>(ys x0 #[(.str S154 891),(.str S155 892),(.str S156 893)])
noncomputable def o343:J:=fun P=>(yg S141 S141 (q 73))
noncomputable def o344:J:=fun P=>(.mk (.type x1) none (.fields #[(.str S141 888),(.str S141 889),(.str S1 890),(.int 286 0),(.int 3 0),(.int 0 0),(.int 0 0),(.int 3 0),(.ref 542),(.bool .true),(.int 181 0),(.ref 543),.none,(.ref 544),(.ref 545),(.ref 546),(.int 894 0),(.int 286 0),(.str S1 895)]) #[])
noncomputable def o345:J:=fun P=>(yf S141 S141 (q 73) 3 (.str S118 850) 547)
noncomputable def o346:J:=fun P=>(ys x0 #[(.str S154 900),(.str S155 901),(.str S156 902),(.str S150 903)])
noncomputable def o347:J:=fun P=>(yg S142 S142 (q 74))
noncomputable def o348:J:=fun P=>(.mk (.type x1) none (.fields #[(.str S142 897),(.str S142 898),(.str S1 899),(.int 307 0),(.int 3 0),(.int 0 0),(.int 0 0),(.int 3 0),(.ref 549),(.bool .true),(.int 181 0),(.ref 550),.none,(.ref 551),(.ref 552),(.ref 553),(.int 904 0),(.int 307 0),(.str S1 905)]) #[])
noncomputable def o349:J:=fun P=>(yf S142 S142 (q 74) 3 (.str S118 850) 554)
noncomputable def o350:J:=fun P=>(ys x0 #[(.str S154 910),(.str S156 911),(.str S150 912)])
noncomputable def o351:J:=fun P=>(yg S143 S143 (q 75))
noncomputable def o352:J:=fun P=>(.mk (.type x1) none (.fields #[(.str S143 907),(.str S143 908),(.str S1 909),(.int 313 0),(.int 2 0),(.int 0 0),(.int 0 0),(.int 3 0),(.ref 556),(.bool .true),(.int 181 0),(.ref 557),.none,(.ref 558),(.ref 559),(.ref 560),(.int 913 0),(.int 313 0),(.str S1 914)]) #[])
noncomputable def o353:J:=fun P=>(yf S143 S143 (q 75) 3 (.str S118 850) 561)
noncomputable def o354:J:=fun P=>(yg S144 S144 (q 76))
noncomputable def o355:J:=fun P=>(yc S144 916 S144 917 918 319 2 3 563 .true 564 (.ref 565) 919 319 920)
noncomputable def o356:J:=fun P=>(yf S144 S144 (q 76) 3 (.str S118 850) 566)
noncomputable def o357:J:=fun P=>(yg S145 S145 (q 77))
noncomputable def o358:J:=fun P=>(yc S145 922 S145 923 924 341 1 3 568 .true 569 (.ref 570) 925 341 926)
noncomputable def o359:J:=fun P=>(yf S145 S145 (q 77) 3 (.str S118 850) 571)
noncomputable def t_6 : Params → BT:=(N boot_o_0 (N boot_o_1 (N o328 (N boot_o_7 (N o0 (N o61 (N o1 (N o82 (N o0 (L o321) Z) (L o237)) (N o0 (L o197) (L o280))) (N o20 (N o0 (N o1 (L o1) Z) (L o256)) (N o0 (L o219) (L o302)))) (N o20 (N o48 (N o1 (N o170 (L o333) Z) (L o1)) (N o128 (L o207) (L o292))) (N o72 (N o109 (N o0 (L o0) Z) (L o0)) (N o148 (L o228) (L o312))))) (N o11 (N o1 (N o20 (N o0 (N o1 (L o326) Z) (L o0)) (N o1 (L o0) (L o287))) (N o1 (N o104 (N o184 (L o346) Z) (L o263)) (N o143 (L o223) (L o308)))) (N o31 (N o1 (N o95 (N o0 (L o0) Z) (L o251)) (N o0 (L o1) (L o0))) (N o77 (N o114 (N o0 (L o356) Z) (L o1)) (N o156 (L o233) (L o0)))))) (N o0 (N o7 (N o20 (N o41 (N o0 (N o162 (L o1) Z) (L o1)) (N o120 (L o1) (L o283))) (N o63 (N o0 (N o0 (L o344) Z) (L o266)) (N o0 (L o221) (L o0)))) (N o1 (N o20 (N o93 (N o0 (L o0) Z) (L o0)) (N o0 (L o209) (L o0))) (N o1 (N o111 (N o191 (L o0) Z) (L o273)) (N o152 (L o230) (L o315))))) (N o13 (N o24 (N o1 (N o88 (N o0 (L o330) Z) (L o244)) (N o0 (L o205) (L o289))) (N o68 (N o1 (N o0 (L o349) Z) (L o0)) (N o1 (L o1) (L o310)))) (N o20 (N o55 (N o98 (N o176 (L o339) Z) (L o1)) (N o137 (L o0) (L o298))) (N o79 (N o0 (N o0 (L o358) Z) (L o278)) (N o0 (L o235) (L o0))))))) (N boot_o_5 (N boot_o_9 (N o6 (N o18 (N o40 (N o1 (N o161 (L o323) Z) (L o239)) (N o119 (L o199) (L o281))) (N o62 (N o101 (N o180 (L o0) Z) (L o0)) (N o140 (L o1) (L o304)))) (N o28 (N o50 (N o0 (N o1 (L o1) Z) (L o248)) (N o11 (L o0) (L o1))) (N o74 (N o0 (N o189 (L o352) Z) (L o272)) (N o150 (L o0) (L o313))))) (N o0 (N o23 (N o45 (N o87 (N o166 (L o0) Z) (L o243)) (N o124 (L o203) (L o267))) (N o0 (N o106 (N o1 (L o347) Z) (L o11)) (N o145 (L o225) (L o1)))) (N o33 (N o54 (N o96 (N o175 (L o338) Z) (L o253)) (N o135 (L o215) (L o297))) (N o0 (N o1 (N o194 (L o1) Z) (L o0)) (N o1 (L o1) (L o318)))))) (N o2 (N o9 (N o21 (N o43 (N o85 (N o164 (L o0) Z) (L o241)) (N o122 (L o201) (L o285))) (N o65 (N o103 (N o182 (L o0) Z) (L o261)) (N o142 (L o0) (L o306)))) (N o30 (N o52 (N o0 (N o173 (L o336) Z) (L o250)) (N o133 (L o211) (L o295))) (N o0 (N o112 (N o1 (L o354) Z) (L o275)) (N o154 (L o231) (L o1))))) (N o0 (N o26 (N o47 (N o90 (N o168 (L o331) Z) (L o246)) (N o126 (L o1) (L o290))) (N o70 (N o0 (N o187 (L o1) Z) (L o270)) (N o0 (L o0) (L o0)))) (N o38 (N o57 (N o1 (N o178 (L o341) Z) (L o0)) (N o1 (L o217) (L o300))) (N o80 (N o117 (L o196) (L o0)) (N o159 (L o0) (L o320)))))))) (N boot_o_2 (N boot_o_4 (N boot_o_8 (N o1 (N o17 (N o39 (N o0 (N o1 (L o322) Z) (L o238)) (N o1 (L o198) (L o0))) (N o11 (N o100 (N o179 (L o342) Z) (L o257)) (N o139 (L o0) (L o303)))) (N o11 (N o49 (N o91 (N o0 (L o0) Z) (L o247)) (N o0 (L o208) (L o0))) (N o73 (N o110 (N o1 (L o351) Z) (L o1)) (N o149 (L o229) (L o0))))) (N o12 (N o22 (N o11 (N o1 (N o165 (L o327) Z) (L o1)) (N o123 (L o1) (L o288))) (N o66 (N o105 (N o0 (L o0) Z) (L o267)) (N o144 (L o224) (L o0)))) (N o32 (N o53 (N o0 (N o1 (L o1) Z) (L o252)) (N o1 (L o214) (L o1))) (N o78 (N o0 (N o193 (L o0) Z) (L o276)) (N o0 (L o0) (L o317)))))) (N o329 (N o8 (N o11 (N o42 (N o84 (N o163 (L o324) Z) (L o240)) (N o121 (L o200) (L o284))) (N o64 (N o1 (N o1 (L o345) Z) (L o260)) (N o1 (L o222) (L o1)))) (N o29 (N o11 (N o94 (N o172 (L o335) Z) (L o11)) (N o132 (L o210) (L o294))) (N o75 (N o0 (N o0 (L o1) Z) (L o274)) (N o153 (L o0) (L o0))))) (N o14 (N o25 (N o46 (N o89 (N o1 (L o0) Z) (L o245)) (N o1 (L o0) (L o0))) (N o69 (N o107 (N o186 (L o0) Z) (L o269)) (N o146 (L o226) (L o311)))) (N o11 (N o56 (N o0 (N o177 (L o340) Z) (L o254)) (N o0 (L o1) (L o299))) (N o0 (N o116 (N o1 (L o359) Z) (L o279)) (N o158 (L o236) (L o1))))))) (N boot_o_6 (N boot_o_10 (N o0 (N o19 (N o0 (N o83 (N o0 (L o0) Z) (L o0)) (N o0 (L o0) (L o282))) (N o0 (N o102 (N o181 (L o343) Z) (L o258)) (N o141 (L o220) (L o305)))) (N o0 (N o51 (N o92 (N o171 (L o334) Z) (L o249)) (N o131 (L o1) (L o293))) (N o0 (N o1 (N o190 (L o353) Z) (L o0)) (N o151 (L o1) (L o314))))) (N o1 (N o0 (N o0 (N o0 (N o167 (L o1) Z) (L o0)) (N o125 (L o204) (L o11))) (N o67 (N o0 (N o185 (L o348) Z) (L o268)) (N o0 (L o0) (L o309)))) (N o34 (N o0 (N o97 (N o0 (L o0) Z) (L o0)) (N o136 (L o216) (L o0))) (N o1 (N o115 (N o195 (L o357) Z) (L o277)) (N o157 (L o234) (L o319)))))) (N o3 (N o10 (N o0 (N o44 (N o86 (N o0 (L o325) Z) (L o242)) (N o0 (L o202) (L o286))) (N o0 (N o0 (N o183 (L o1) Z) (L o262)) (N o0 (L o1) (L o307)))) (N o0 (N o0 (N o1 (N o174 (L o337) Z) (L o0)) (N o134 (L o0) (L o296))) (N o76 (N o113 (N o192 (L o355) Z) (L o0)) (N o155 (L o232) (L o316))))) (N o15 (N o27 (N o0 (N o0 (N o169 (L o332) Z) (L o0)) (N o127 (L o206) (L o291))) (N o71 (N o108 (N o188 (L o350) Z) (L o271)) (N o147 (L o227) (L o1)))) (N o0 (N o58 (N o99 (N o0 (L o0) Z) (L o255)) (N o138 (L o218) (L o301))) (N o81 (N o118 (L o0) (L o1)) (N o160 (L o1) (L o0)))))))))
noncomputable def h_z (P : Params) : Heap:=⟨#[boot_o_0 P,boot_o_1 P,boot_o_2 P,o328 P,boot_o_4 P,boot_o_5 P,boot_o_6 P,boot_o_7 P,boot_o_8 P,boot_o_9 P,boot_o_10 P,o0 P,o329 P,o2 P,o3 P,o0 P,o1 P,o6 P,o0 P,o7 P,o8 P,o9 P,o10 P,o11 P,o12 P,o0 P,o1 P,o13 P,o14 P,o0 P,o15 P,o61 P,o17 P,o18 P,o19 P,o20 P,o11 P,o21 P,o0 P,o1 P,o22 P,o23 P,o0 P,o24 P,o25 P,o26 P,o27 P,o20 P,o11 P,o28 P,o0 P,o1 P,o29 P,o30 P,o0 P,o31 P,o32 P,o33 P,o34 P,o20 P,o11 P,o38 P,o0 P,o1 P,o39 P,o40 P,o0 P,o41 P,o42 P,o43 P,o44 P,o20 P,o11 P,o45 P,o0 P,o1 P,o46 P,o47 P,o0 P,o48 P,o49 P,o50 P,o51 P,o20 P,o11 P,o52 P,o0 P,o1 P,o53 P,o54 P,o0 P,o55 P,o56 P,o57 P,o58 P,o20 P,o11 P,o62 P,o0 P,o63 P,o64 P,o65 P,o0 P,o1 P,o66 P,o0 P,o67 P,o68 P,o69 P,o70 P,o71 P,o72 P,o73 P,o74 P,o0 P,o1 P,o75 P,o0 P,o76 P,o77 P,o78 P,o0 P,o1 P,o79 P,o0 P,o80 P,o81 P,o82 P,o0 P,o1 P,o83 P,o0 P,o84 P,o85 P,o86 P,o0 P,o1 P,o87 P,o0 P,o88 P,o89 P,o90 P,o0 P,o1 P,o91 P,o0 P,o92 P,o93 P,o94 P,o0 P,o1 P,o95 P,o0 P,o96 P,o97 P,o98 P,o0 P,o1 P,o99 P,o0 P,o100 P,o101 P,o102 P,o0 P,o1 P,o103 P,o0 P,o104 P,o105 P,o106 P,o0 P,o1 P,o107 P,o0 P,o108 P,o109 P,o110 P,o0 P,o1 P,o111 P,o0 P,o112 P,o113 P,o114 P,o0 P,o1 P,o115 P,o0 P,o116 P,o117 P,o118 P,o0 P,o1 P,o119 P,o0 P,o120 P,o121 P,o122 P,o0 P,o1 P,o123 P,o124 P,o125 P,o0 P,o1 P,o126 P,o127 P,o128 P,o0 P,o11 P,o131 P,o0 P,o132 P,o133 P,o134 P,o0 P,o1 P,o135 P,o136 P,o137 P,o0 P,o1 P,o138 P,o0 P,o139 P,o140 P,o141 P,o0 P,o1 P,o142 P,o0 P,o143 P,o144 P,o145 P,o0 P,o1 P,o146 P,o0 P,o147 P,o148 P,o149 P,o150 P,o151 P,o152 P,o153 P,o154 P,o155 P,o156 P,o0 P,o1 P,o157 P,o0 P,o158 P,o159 P,o160 P,o0 P,o1 P,o161 P,o0 P,o162 P,o163 P,o164 P,o0 P,o1 P,o165 P,o166 P,o167 P,o0 P,o1 P,o168 P,o169 P,o170 P,o0 P,o1 P,o171 P,o0 P,o172 P,o173 P,o174 P,o0 P,o1 P,o175 P,o0 P,o176 P,o177 P,o178 P,o0 P,o1 P,o179 P,o180 P,o181 P,o0 P,o1 P,o182 P,o183 P,o184 P,o0 P,o1 P,o185 P,o0 P,o186 P,o187 P,o188 P,o0 P,o1 P,o189 P,o190 P,o191 P,o0 P,o1 P,o192 P,o0 P,o193 P,o194 P,o195 P,o0 P,o1 P,o196 P,o0 P,o197 P,o198 P,o199 P,o0 P,o1 P,o200 P,o201 P,o202 P,o0 P,o1 P,o203 P,o204 P,o205 P,o0 P,o1 P,o206 P,o207 P,o208 P,o0 P,o1 P,o209 P,o210 P,o211 P,o0 P,o1 P,o214 P,o215 P,o216 P,o0 P,o1 P,o217 P,o218 P,o219 P,o0 P,o1 P,o220 P,o221 P,o222 P,o0 P,o1 P,o223 P,o224 P,o225 P,o0 P,o1 P,o226 P,o0 P,o227 P,o228 P,o229 P,o0 P,o1 P,o230 P,o0 P,o231 P,o232 P,o233 P,o0 P,o1 P,o234 P,o235 P,o236 P,o0 P,o1 P,o237 P,o238 P,o239 P,o0 P,o1 P,o240 P,o241 P,o242 P,o0 P,o1 P,o243 P,o0 P,o244 P,o245 P,o246 P,o0 P,o1 P,o247 P,o248 P,o249 P,o0 P,o11 P,o250 P,o0 P,o251 P,o252 P,o253 P,o0 P,o1 P,o254 P,o0 P,o255 P,o256 P,o257 P,o0 P,o258 P,o266 P,o260 P,o261 P,o262 P,o263 P,o267 P,o11 P,o268 P,o0 P,o269 P,o270 P,o271 P,o0 P,o1 P,o272 P,o0 P,o273 P,o274 P,o275 P,o0 P,o1 P,o276 P,o0 P,o277 P,o278 P,o279 P,o0 P,o1 P,o280 P,o0 P,o281 P,o282 P,o283 P,o284 P,o285 P,o286 P,o287 P,o288 P,o267 P,o11 P,o289 P,o0 P,o290 P,o291 P,o292 P,o0 P,o1 P,o293 P,o0 P,o294 P,o295 P,o296 P,o0 P,o1 P,o297 P,o0 P,o298 P,o299 P,o300 P,o301 P,o302 P,o303 P,o304 P,o305 P,o0 P,o1 P,o306 P,o307 P,o308 P,o0 P,o1 P,o309 P,o310 P,o311 P,o0 P,o1 P,o312 P,o0 P,o313 P,o314 P,o315 P,o0 P,o1 P,o316 P,o0 P,o317 P,o318 P,o319 P,o0 P,o1 P,o320 P,o0 P,o321 P,o322 P,o323 P,o0 P,o1 P,o324 P,o0 P,o325 P,o326 P,o327 P,o0 P,o1 P,o330 P,o0 P,o331 P,o332 P,o333 P,o0 P,o1 P,o334 P,o0 P,o335 P,o336 P,o337 P,o0 P,o1 P,o338 P,o0 P,o339 P,o340 P,o341 P,o0 P,o1 P,o342 P,o0 P,o343 P,o344 P,o345 P,o0 P,o1 P,o346 P,o0 P,o347 P,o348 P,o349 P,o0 P,o1 P,o350 P,o0 P,o351 P,o352 P,o353 P,o0 P,o1 P,o354 P,o355 P,o356 P,o0 P,o1 P,o357 P,o358 P,o359 P],{}⟩
noncomputable abbrev env : Env:={ scope:=Q.main.scope,locals:=mainNs,globals:=mainNs,cells:=[],code:=(.ref 13),frame:=some 14 }
noncomputable abbrev bd : List Stmt:=behindTheImports Q
noncomputable abbrev cE : Code:=.body bd env
noncomputable abbrev fr : Frame:=topFrame ⟨0,0,0,0⟩
noncomputable abbrev ann : Option Value:=(some (.ref 6))
noncomputable abbrev at_ (T : BT) (n k : Nat) (os : OsState) : SharedT:=⟨T,n,{},#[],{},k,os⟩
theorem l_pre (w : World) : (fun os=>topGo treeTable Q w 11 ann 12 ⟨boot_heap w.params,#[],boot_drawn,boot_toks,os⟩ (topStub Q)) = fun os=>some (⟨h_a w.params,#[],{},187,os⟩,(⟨denote treeTable cE,cE,⟨0,0,0,0⟩,[fr]⟩ : Thread)):=by
  rw [PySem.W.Fast.te14364793385576792824,PySem.W.Fast.te15667345088766844465,PySem.W.Fast.te11892475500146522536]; kernel_rfl
theorem l_block (w : World) : (fun os=>segRun treeTable Q w 11 ann 1 1 ⟨h_a w.params,#[],{},187,os⟩ (blockOf bd env cE ⟨0,0,0,0⟩ [fr])) = fun os=>some (Flow.next,(at_ (t_b w.params) 15 187 os).abs,cE,⟨0,0,0,0⟩):=by
  rw [PySem.W.Fast.te14364793385576792824,PySem.W.Fast.te14374325043358763698]; kernel_rfl
noncomputable abbrev sts_0 : List Stmt:=q 0 :: q 1 :: q 2 :: q 3 :: q 4 :: []
theorem l_0 (w : World) : (fun os=>segRunT treeTable Q w 11 ann 1 651 (at_ (t_b w.params) 15 187 os) (piecesOf sts_0 env cE ⟨0,0,0,0⟩ [fr])) = fun os=>some (Flow.next,at_ (t_0 w.params) 59 246 os,cE,⟨9,0,10,8⟩):=by
  rw [PySem.W.Fast.te14364793385576792824,PySem.W.Fast.te10110043849684766642]; kernel_rfl
noncomputable abbrev sts_1 : List Stmt:=q 5 :: q 6 :: q 7 :: []
theorem l_1 (w : World) : (fun os=>segRunT treeTable Q w 11 ann 1 640 (at_ (t_0 w.params) 59 246 os) (piecesOf sts_1 env cE ⟨9,0,10,8⟩ [fr])) = fun os=>some (Flow.next,at_ (t_1 w.params) 95 294 os,cE,⟨15,0,16,8⟩):=by
  rw [PySem.W.Fast.te14364793385576792824,PySem.W.Fast.te10110043849684766642]; kernel_rfl
noncomputable abbrev sts_2 : List Stmt:=q 8 :: q 9 :: q 10 :: q 11 :: q 12 :: q 13 :: q 14 :: q 15 :: q 16 :: q 17 :: q 18 :: q 19 :: q 20 :: q 21 :: q 22 :: q 23 :: q 24 :: q 25 :: q 26 :: q 27 :: []
theorem l_2 (w : World) : (fun os=>segRunT treeTable Q w 11 ann 1 705 (at_ (t_1 w.params) 95 294 os) (piecesOf sts_2 env cE ⟨15,0,16,8⟩ [fr])) = fun os=>some (Flow.next,at_ (t_2 w.params) 208 439 os,cE,⟨79,0,82,25⟩):=by
  rw [PySem.W.Fast.te14364793385576792824,PySem.W.Fast.te10110043849684766642]; kernel_rfl
noncomputable abbrev sts_3 : List Stmt:=q 28 :: q 29 :: q 30 :: q 31 :: q 32 :: q 33 :: q 34 :: q 35 :: q 36 :: q 37 :: q 38 :: q 39 :: q 40 :: q 41 :: q 42 :: q 43 :: q 44 :: q 45 :: q 46 :: []
theorem l_3 (w : World) : (fun os=>segRunT treeTable Q w 11 ann 1 793 (at_ (t_2 w.params) 208 439 os) (piecesOf sts_3 env cE ⟨79,0,82,25⟩ [fr])) = fun os=>some (Flow.next,at_ (t_3 w.params) 342 620 os,cE,⟨163,0,164,85⟩):=by
  rw [PySem.W.Fast.te14364793385576792824,PySem.W.Fast.te10110043849684766642]; kernel_rfl
noncomputable abbrev sts_4 : List Stmt:=q 47 :: q 48 :: q 49 :: q 50 :: q 51 :: q 52 :: q 53 :: q 54 :: q 55 :: q 56 :: q 57 :: q 58 :: q 59 :: []
theorem l_4 (w : World) : (fun os=>segRunT treeTable Q w 11 ann 1 532 (at_ (t_3 w.params) 342 620 os) (piecesOf sts_4 env cE ⟨163,0,164,85⟩ [fr])) = fun os=>some (Flow.next,at_ (t_4 w.params) 424 725 os,cE,⟨203,0,206,16⟩):=by
  rw [PySem.W.Fast.te14364793385576792824,PySem.W.Fast.te10110043849684766642]; kernel_rfl
noncomputable abbrev sts_5 : List Stmt:=q 60 :: q 61 :: q 62 :: q 63 :: q 64 :: q 65 :: q 66 :: q 67 :: q 68 :: q 69 :: []
theorem l_5 (w : World) : (fun os=>segRunT treeTable Q w 11 ann 1 790 (at_ (t_4 w.params) 424 725 os) (piecesOf sts_5 env cE ⟨203,0,206,16⟩ [fr])) = fun os=>some (Flow.next,at_ (t_5 w.params) 521 860 os,cE,⟨266,0,269,12⟩):=by
  rw [PySem.W.Fast.te14364793385576792824,PySem.W.Fast.te10110043849684766642]; kernel_rfl
noncomputable abbrev sts_6 : List Stmt:=q 70 :: q 71 :: q 72 :: q 73 :: q 74 :: q 75 :: q 76 :: q 77 :: []
theorem l_6 (w : World) : (fun os=>segRunT treeTable Q w 11 ann 1 241 (at_ (t_5 w.params) 521 860 os) (piecesOf sts_6 env cE ⟨266,0,269,12⟩ [fr])) = fun os=>some (Flow.next,at_ (t_6 w.params) 573 928 os,cE,⟨341,0,372,105⟩):=by
  rw [PySem.W.Fast.te14364793385576792824,PySem.W.Fast.te10110043849684766642]; kernel_rfl
theorem l_fin (w : World) : (fun os=>topRun treeTable Q w 11 ann 2 (at_ (t_6 w.params) 573 928 os).abs (⟨doneF .next,cE,⟨341,0,372,105⟩,[fr]⟩ : Thread)) = fun os=>some ⟨h_z w.params,#[],{},928,os⟩:=by
  rw [PySem.W.Fast.te14364793385576792824,PySem.W.Fast.te14082659384304107361]; kernel_rfl
end
end Hd
namespace Hd
open PySem PySem.W PySem.Calls PyProof.Rows L2
section
theorem bd_eq : bd = (sts_0 ++ (sts_1 ++ (sts_2 ++ (sts_3 ++ (sts_4 ++ (sts_5 ++ (sts_6 ++ []))))))):=by kernel_rfl
theorem run1 (w : World) (os : OsState) : topRun treeTable Q w 11 ann (651 + (640 + (705 + (793 + (532 + (790 + (241 + 2))))))) (at_ (t_b w.params) 15 187 os).abs (restOf (sts_0 ++ (sts_1 ++ (sts_2 ++ (sts_3 ++ (sts_4 ++ (sts_5 ++ (sts_6 ++ []))))))) env cE ⟨0,0,0,0⟩ [fr]) = some ⟨h_z w.params,#[],{},928,os⟩ :=
  (piece_app (segRun_of (congrFun (l_0 w) os)) (piece_app (segRun_of (congrFun (l_1 w) os)) (piece_app (segRun_of (congrFun (l_2 w) os)) (piece_app (segRun_of (congrFun (l_3 w) os)) (piece_app (segRun_of (congrFun (l_4 w) os)) (piece_app (segRun_of (congrFun (l_5 w) os)) (piece_app (segRun_of (congrFun (l_6 w) os)) (piece_nil (congrFun (l_fin w) os)))))))))
theorem run (w : World) (os : OsState) : topRun treeTable Q w 11 ann (12 + (1 + (651 + (640 + (705 + (793 + (532 + (790 + (241 + 2))))))))) ⟨boot_heap w.params,#[],boot_drawn,boot_toks,os⟩ (topStub Q) = some ⟨h_z w.params,#[],{},928,os⟩ :=
  go_top (congrFun (l_pre w) os) (piece_block (congrFun (l_block w) os) ((congrArg (fun b=>topRun treeTable Q w 11 ann (651 + (640 + (705 + (793 + (532 + (790 + (241 + 2))))))) (at_ (t_b w.params) 15 187 os).abs (restOf b env cE ⟨0,0,0,0⟩ [fr])) bd_eq).trans (run1 w os)))
theorem S_an : Str.ofString "__annotations__" = ⟨#[95,95,97,110,110,111,116,97,116,105,111,110,115,95,95]⟩:=PySem.W.Fast.ofString_ofList ['_','_','a','n','n','o','t','a','t','i','o','n','s','_','_']
theorem size (w : World) : ((boot_heap w.params).isNs mainGlobals && (#[] : Array GenState).size == 0,(boot_heap w.params).objs.size,(boot_heap w.params).nsMap mainGlobals "__annotations__") = (true,11,ann):=by
  rw [PySem.W.Fast.te8920871248978507458,S_an]; kernel_rfl
noncomputable abbrev vw (R : Program) : Program:={ R with main:={ R.main with body:=[nth R.main.body 0,nth R.main.body 2,nth R.main.body 3,nth R.main.body 4,nth R.main.body 5,nth R.main.body 6,nth R.main.body 7,nth R.main.body 8,nth R.main.body 10,nth R.main.body 11,nth R.main.body 12,nth R.main.body 13,nth R.main.body 14,nth R.main.body 15,nth R.main.body 16,nth R.main.body 17,nth R.main.body 18,nth R.main.body 20,nth R.main.body 21,nth R.main.body 22,nth R.main.body 23,nth R.main.body 24,nth R.main.body 25,nth R.main.body 26,nth R.main.body 27,nth R.main.body 28,nth R.main.body 29,nth R.main.body 30,nth R.main.body 32,nth R.main.body 33,nth R.main.body 34,nth R.main.body 35,nth R.main.body 36,nth R.main.body 37,nth R.main.body 38,nth R.main.body 39,nth R.main.body 41,nth R.main.body 42,nth R.main.body 43,nth R.main.body 44,nth R.main.body 45,nth R.main.body 46,nth R.main.body 47,nth R.main.body 48,nth R.main.body 50,nth R.main.body 51,nth R.main.body 52,nth R.main.body 53,nth R.main.body 54,nth R.main.body 55,nth R.main.body 56,nth R.main.body 57,nth R.main.body 58,nth R.main.body 59,nth R.main.body 60,nth R.main.body 61,nth R.main.body 62,nth R.main.body 63,nth R.main.body 64,nth R.main.body 65,nth R.main.body 67,nth R.main.body 69,nth R.main.body 70,nth R.main.body 71,nth R.main.body 72,nth R.main.body 73,nth R.main.body 74,nth R.main.body 75,nth R.main.body 76,nth R.main.body 77] } }
noncomputable def K (P : Params) : Frag:=(nat_lit 2,boot_o_2 P) :: (nat_lit 3,o328 P) :: (nat_lit 15,o0 P) :: (nat_lit 17,o6 P) :: (nat_lit 18,o0 P) :: (nat_lit 20,o8 P) :: (nat_lit 21,o9 P) :: (nat_lit 22,o10 P) :: (nat_lit 29,o0 P) :: (nat_lit 30,o15 P) :: (nat_lit 31,o61 P) :: (nat_lit 32,o17 P) :: (nat_lit 35,o20 P) :: (nat_lit 42,o0 P) :: (nat_lit 43,o24 P) :: (nat_lit 44,o25 P) :: (nat_lit 47,o20 P) :: (nat_lit 54,o0 P) :: (nat_lit 55,o31 P) :: (nat_lit 56,o32 P) :: (nat_lit 59,o20 P) :: (nat_lit 66,o0 P) :: (nat_lit 67,o41 P) :: (nat_lit 68,o42 P) :: (nat_lit 71,o20 P) :: (nat_lit 78,o0 P) :: (nat_lit 79,o48 P) :: (nat_lit 80,o49 P) :: (nat_lit 83,o20 P) :: (nat_lit 90,o0 P) :: (nat_lit 91,o55 P) :: (nat_lit 92,o56 P) :: (nat_lit 95,o20 P) :: (nat_lit 102,o0 P) :: (nat_lit 104,o66 P) :: (nat_lit 105,o0 P) :: (nat_lit 107,o68 P) :: (nat_lit 108,o69 P) :: (nat_lit 109,o70 P) :: (nat_lit 110,o71 P) :: (nat_lit 111,o72 P) :: (nat_lit 114,o0 P) :: (nat_lit 116,o75 P) :: (nat_lit 117,o0 P) :: (nat_lit 119,o77 P) :: (nat_lit 120,o78 P) :: (nat_lit 121,o0 P) :: (nat_lit 123,o79 P) :: (nat_lit 124,o0 P) :: (nat_lit 126,o81 P) :: (nat_lit 127,o82 P) :: (nat_lit 128,o0 P) :: (nat_lit 130,o83 P) :: (nat_lit 131,o0 P) :: (nat_lit 133,o85 P) :: (nat_lit 134,o86 P) :: (nat_lit 135,o0 P) :: (nat_lit 137,o87 P) :: (nat_lit 138,o0 P) :: (nat_lit 140,o89 P) :: (nat_lit 141,o90 P) :: (nat_lit 142,o0 P) :: (nat_lit 144,o91 P) :: (nat_lit 145,o0 P) :: (nat_lit 147,o93 P) :: (nat_lit 148,o94 P) :: (nat_lit 149,o0 P) :: (nat_lit 151,o95 P) :: (nat_lit 152,o0 P) :: (nat_lit 154,o97 P) :: (nat_lit 155,o98 P) :: (nat_lit 156,o0 P) :: (nat_lit 158,o99 P) :: (nat_lit 159,o0 P) :: (nat_lit 161,o101 P) :: (nat_lit 162,o102 P) :: (nat_lit 163,o0 P) :: (nat_lit 165,o103 P) :: (nat_lit 166,o0 P) :: (nat_lit 168,o105 P) :: (nat_lit 169,o106 P) :: (nat_lit 170,o0 P) :: (nat_lit 172,o107 P) :: (nat_lit 173,o0 P) :: (nat_lit 175,o109 P) :: (nat_lit 176,o110 P) :: (nat_lit 177,o0 P) :: (nat_lit 179,o111 P) :: (nat_lit 180,o0 P) :: (nat_lit 182,o113 P) :: (nat_lit 183,o114 P) :: (nat_lit 184,o0 P) :: (nat_lit 186,o115 P) :: (nat_lit 187,o0 P) :: (nat_lit 189,o117 P) :: (nat_lit 190,o118 P) :: (nat_lit 191,o0 P) :: (nat_lit 193,o119 P) :: (nat_lit 194,o0 P) :: (nat_lit 196,o121 P) :: (nat_lit 197,o122 P) :: (nat_lit 198,o0 P) :: (nat_lit 201,o124 P) :: (nat_lit 202,o125 P) :: (nat_lit 203,o0 P) :: (nat_lit 206,o127 P) :: (nat_lit 207,o128 P) :: (nat_lit 215,o0 P) :: (nat_lit 218,o136 P) :: (nat_lit 219,o137 P) :: (nat_lit 220,o0 P) :: (nat_lit 222,o138 P) :: (nat_lit 223,o0 P) :: (nat_lit 225,o140 P) :: (nat_lit 226,o141 P) :: (nat_lit 227,o0 P) :: (nat_lit 229,o142 P) :: (nat_lit 230,o0 P) :: (nat_lit 232,o144 P) :: (nat_lit 233,o145 P) :: (nat_lit 234,o0 P) :: (nat_lit 236,o146 P) :: (nat_lit 237,o0 P) :: (nat_lit 239,o148 P) :: (nat_lit 240,o149 P) :: (nat_lit 241,o150 P) :: (nat_lit 242,o151 P) :: (nat_lit 243,o152 P) :: (nat_lit 244,o153 P) :: (nat_lit 245,o154 P) :: (nat_lit 248,o0 P) :: (nat_lit 250,o157 P) :: (nat_lit 251,o0 P) :: (nat_lit 253,o159 P) :: (nat_lit 254,o160 P) :: (nat_lit 255,o0 P) :: (nat_lit 257,o161 P) :: (nat_lit 258,o0 P) :: (nat_lit 260,o163 P) :: (nat_lit 261,o164 P) :: (nat_lit 262,o0 P) :: (nat_lit 265,o166 P) :: (nat_lit 266,o167 P) :: (nat_lit 267,o0 P) :: (nat_lit 270,o169 P) :: (nat_lit 271,o170 P) :: (nat_lit 272,o0 P) :: (nat_lit 274,o171 P) :: (nat_lit 275,o0 P) :: (nat_lit 277,o173 P) :: (nat_lit 278,o174 P) :: (nat_lit 279,o0 P) :: (nat_lit 281,o175 P) :: (nat_lit 282,o0 P) :: (nat_lit 284,o177 P) :: (nat_lit 285,o178 P) :: (nat_lit 286,o0 P) :: (nat_lit 289,o180 P) :: (nat_lit 290,o181 P) :: (nat_lit 291,o0 P) :: (nat_lit 294,o183 P) :: (nat_lit 295,o184 P) :: (nat_lit 296,o0 P) :: (nat_lit 298,o185 P) :: (nat_lit 299,o0 P) :: (nat_lit 301,o187 P) :: (nat_lit 302,o188 P) :: (nat_lit 303,o0 P) :: (nat_lit 306,o190 P) :: (nat_lit 307,o191 P) :: (nat_lit 308,o0 P) :: (nat_lit 310,o192 P) :: (nat_lit 311,o0 P) :: (nat_lit 313,o194 P) :: (nat_lit 314,o195 P) :: (nat_lit 315,o0 P) :: (nat_lit 317,o196 P) :: (nat_lit 318,o0 P) :: (nat_lit 320,o198 P) :: (nat_lit 321,o199 P) :: (nat_lit 322,o0 P) :: (nat_lit 325,o201 P) :: (nat_lit 326,o202 P) :: (nat_lit 327,o0 P) :: (nat_lit 330,o204 P) :: (nat_lit 331,o205 P) :: (nat_lit 332,o0 P) :: (nat_lit 335,o207 P) :: (nat_lit 336,o208 P) :: (nat_lit 337,o0 P) :: (nat_lit 340,o210 P) :: (nat_lit 341,o211 P) :: (nat_lit 342,o0 P) :: (nat_lit 345,o215 P) :: (nat_lit 346,o216 P) :: (nat_lit 347,o0 P) :: (nat_lit 350,o218 P) :: (nat_lit 351,o219 P) :: (nat_lit 352,o0 P) :: (nat_lit 355,o221 P) :: (nat_lit 356,o222 P) :: (nat_lit 357,o0 P) :: (nat_lit 360,o224 P) :: (nat_lit 361,o225 P) :: (nat_lit 362,o0 P) :: (nat_lit 364,o226 P) :: (nat_lit 365,o0 P) :: (nat_lit 367,o228 P) :: (nat_lit 368,o229 P) :: (nat_lit 369,o0 P) :: (nat_lit 371,o230 P) :: (nat_lit 372,o0 P) :: (nat_lit 374,o232 P) :: (nat_lit 375,o233 P) :: (nat_lit 376,o0 P) :: (nat_lit 379,o235 P) :: (nat_lit 380,o236 P) :: (nat_lit 381,o0 P) :: (nat_lit 384,o238 P) :: (nat_lit 385,o239 P) :: (nat_lit 386,o0 P) :: (nat_lit 389,o241 P) :: (nat_lit 390,o242 P) :: (nat_lit 391,o0 P) :: (nat_lit 393,o243 P) :: (nat_lit 394,o0 P) :: (nat_lit 396,o245 P) :: (nat_lit 397,o246 P) :: (nat_lit 398,o0 P) :: (nat_lit 401,o248 P) :: (nat_lit 402,o249 P) :: (nat_lit 410,o0 P) :: (nat_lit 412,o254 P) :: (nat_lit 413,o0 P) :: (nat_lit 415,o256 P) :: (nat_lit 416,o257 P) :: (nat_lit 417,o0 P) :: (nat_lit 418,o258 P) :: (nat_lit 419,o266 P) :: (nat_lit 420,o260 P) :: (nat_lit 421,o261 P) :: (nat_lit 424,o267 P) :: (nat_lit 431,o0 P) :: (nat_lit 433,o272 P) :: (nat_lit 434,o0 P) :: (nat_lit 436,o274 P) :: (nat_lit 437,o275 P) :: (nat_lit 438,o0 P) :: (nat_lit 440,o276 P) :: (nat_lit 441,o0 P) :: (nat_lit 443,o278 P) :: (nat_lit 444,o279 P) :: (nat_lit 445,o0 P) :: (nat_lit 447,o280 P) :: (nat_lit 448,o0 P) :: (nat_lit 450,o282 P) :: (nat_lit 451,o283 P) :: (nat_lit 452,o284 P) :: (nat_lit 453,o285 P) :: (nat_lit 454,o286 P) :: (nat_lit 457,o267 P) :: (nat_lit 464,o0 P) :: (nat_lit 466,o293 P) :: (nat_lit 467,o0 P) :: (nat_lit 469,o295 P) :: (nat_lit 470,o296 P) :: (nat_lit 471,o0 P) :: (nat_lit 473,o297 P) :: (nat_lit 474,o0 P) :: (nat_lit 476,o299 P) :: (nat_lit 477,o300 P) :: (nat_lit 478,o301 P) :: (nat_lit 479,o302 P) :: (nat_lit 480,o303 P) :: (nat_lit 483,o0 P) :: (nat_lit 486,o307 P) :: (nat_lit 487,o308 P) :: (nat_lit 488,o0 P) :: (nat_lit 491,o310 P) :: (nat_lit 492,o311 P) :: (nat_lit 493,o0 P) :: (nat_lit 495,o312 P) :: (nat_lit 496,o0 P) :: (nat_lit 498,o314 P) :: (nat_lit 499,o315 P) :: (nat_lit 500,o0 P) :: (nat_lit 502,o316 P) :: (nat_lit 503,o0 P) :: (nat_lit 505,o318 P) :: (nat_lit 506,o319 P) :: (nat_lit 507,o0 P) :: (nat_lit 509,o320 P) :: (nat_lit 510,o0 P) :: (nat_lit 512,o322 P) :: (nat_lit 513,o323 P) :: (nat_lit 514,o0 P) :: (nat_lit 516,o324 P) :: (nat_lit 517,o0 P) :: (nat_lit 519,o326 P) :: (nat_lit 520,o327 P) :: (nat_lit 528,o0 P) :: (nat_lit 530,o334 P) :: (nat_lit 531,o0 P) :: (nat_lit 533,o336 P) :: (nat_lit 534,o337 P) :: (nat_lit 535,o0 P) :: (nat_lit 537,o338 P) :: (nat_lit 538,o0 P) :: (nat_lit 540,o340 P) :: (nat_lit 541,o341 P) :: (nat_lit 542,o0 P) :: (nat_lit 544,o342 P) :: (nat_lit 545,o0 P) :: (nat_lit 547,o344 P) :: (nat_lit 548,o345 P) :: (nat_lit 549,o0 P) :: (nat_lit 551,o346 P) :: (nat_lit 552,o0 P) :: (nat_lit 554,o348 P) :: (nat_lit 555,o349 P) :: (nat_lit 556,o0 P) :: (nat_lit 558,o350 P) :: (nat_lit 559,o0 P) :: (nat_lit 561,o352 P) :: (nat_lit 562,o353 P) :: (nat_lit 563,o0 P) :: (nat_lit 566,o355 P) :: (nat_lit 567,o356 P) :: (nat_lit 568,o0 P) :: (nat_lit 571,o358 P) :: (nat_lit 572,o359 P) :: []
noncomputable abbrev as : List Addr:=[2,3,15,17,18,20,21,22,29,30,31,32,35,42,43,44,47,54,55,56,59,66,67,68,71,78,79,80,83,90,91,92,95,102,104,105,107,108,109,110,111,114,116,117,119,120,121,123,124,126,127,128,130,131,133,134,135,137,138,140,141,142,144,145,147,148,149,151,152,154,155,156,158,159,161,162,163,165,166,168,169,170,172,173,175,176,177,179,180,182,183,184,186,187,189,190,191,193,194,196,197,198,201,202,203,206,207,215,218,219,220,222,223,225,226,227,229,230,232,233,234,236,237,239,240,241,242,243,244,245,248,250,251,253,254,255,257,258,260,261,262,265,266,267,270,271,272,274,275,277,278,279,281,282,284,285,286,289,290,291,294,295,296,298,299,301,302,303,306,307,308,310,311,313,314,315,317,318,320,321,322,325,326,327,330,331,332,335,336,337,340,341,342,345,346,347,350,351,352,355,356,357,360,361,362,364,365,367,368,369,371,372,374,375,376,379,380,381,384,385,386,389,390,391,393,394,396,397,398,401,402,410,412,413,415,416,417,418,419,420,421,424,431,433,434,436,437,438,440,441,443,444,445,447,448,450,451,452,453,454,457,464,466,467,469,470,471,473,474,476,477,478,479,480,483,486,487,488,491,492,493,495,496,498,499,500,502,503,505,506,507,509,510,512,513,514,516,517,519,520,528,530,531,533,534,535,537,538,540,541,542,544,545,547,548,549,551,552,554,555,556,558,559,561,562,563,566,567,568,571,572]
theorem as_eq (P : Params) : as = (K P).map (·.1):=by kernel_rfl
noncomputable abbrev sz (w : World) (os : OsState) : Shared:=⟨h_z w.params,#[],{},928,os⟩
noncomputable abbrev Xt (R : Program) (s : Shared) : Bool:=xlAt (vw R) [] s && recOk (RowW.records (OpenRow.toRowW PySem.Challenge.rw_splitstream_k12_refused.row)) s
theorem k0 (w : World) (os : OsState) : (staticsOk (importedModules Q.main.body) (boot_heap w.params) (h_z w.params) && namesBound Q (h_z w.params) && gensDone (sz w os) && laidKept (boot_heap w.params) (h_z w.params)) = true:=by
  rw [PySem.W.Fast.te5923862056798008813]; kernel_rfl
theorem k1 (w : World) (os : OsState) : (seen ((recsOf (vw Q)).map (·.name)) (ownsOf (vw Q)) [] { (sz w os) with gens:=#[] }) = expectedOf (vw Q):=by
  rw [PySem.W.Fast.te5160383126252970620,PySem.W.Fast.te3399658132070893891,PySem.W.Fast.te5991557255702980513]; kernel_rfl
theorem k2 (w : World) (os : OsState) : ((sz w os).heap.bltView) = bltViewBooted:=by
  kernel_rfl
theorem k3 (w : World) (os : OsState) : ((sz w os).heap.keysOk (looseW (vw Q) []) ((recsOf (vw Q)).map (·.name)) ((litsOf (vw Q)).map (·.1)) ((clssOf (vw Q) (looseW (vw Q) [])).map (·.name)) && (sz w os).heap.accountedOkI (importedModules Q.main.body) && (sz w os).heap.isNs mainGlobals && (sz w os).heap.isNs builtinsNs && tablesOk (vw Q) (sz w os).heap && Xt Q (sz w os) && (if true then (sz w os).gens.size == 0 else !leftWithCleanup (sz w os).gens)) = true:=by
  rw [PySem.W.Fast.te10880121769531294198,PySem.W.Fast.te821141287760084731,PySem.W.Fast.te3399658132070893891,PySem.W.Fast.te7409074990110511671,PySem.W.Fast.te13664370479719496447,PySem.W.Fast.te14722251495701143533,PySem.W.Fast.te5923862056798008813,PySem.W.Fast.te10994771534591457954]; kernel_rfl
theorem k4 (w : World) (os : OsState) : (tabsOk (vw Q) (sz w os)) = true:=by
  rw [PySem.W.Fast.te479339242167458305]; kernel_rfl
theorem k5 (w : World) (os : OsState) : (pinSeenD (vw Q) (drecsOf (vw Q)) (sz w os)) = pinGoodD (drecsOf (vw Q)):=by
  rw [PySem.W.Fast.te16090120013241838585,PySem.W.Fast.te3247288618530077131]; kernel_rfl
theorem k6 (w : World) (os : OsState) : (plainSeenE (vw Q) (looseW (vw Q) []) (sz w os)) = plainGoodE (vw Q) (looseW (vw Q) []):=by
  rw [PySem.W.Fast.te2386780881361962483,PySem.W.Fast.te821141287760084731]; kernel_rfl
theorem k7 (w : World) (os : OsState) : (plainSeenD (vw Q) [] (sz w os)) = plainGoodD (vw Q) []:=by
  rw [PySem.W.Fast.te11698064438423848299]; kernel_rfl
theorem k8 (w : World) (os : OsState) : (wideSeen (vw Q) (sz w os)) = wideGood (vw Q):=by
  rw [PySem.W.Fast.te7317090234206586261]; kernel_rfl
theorem k9 (w : World) (os : OsState) : (clsSeenW (vw Q) [] (sz w os)) = clsGoodW (vw Q) []:=by
  rw [PySem.W.Fast.te7369524293546568484]; kernel_rfl
theorem kY (w : World) (os : OsState) : as.map (sz w os).heap.get? = (K w.params).map fun p=>some p.2:=by kernel_rfl
noncomputable abbrev Yf (s : Shared) : List (Option Obj):=as.map s.heap.get?
noncomputable abbrev Ya (w : World) : List (Option Obj):=(K w.params).map fun p=>some p.2
theorem kS (w : World) (os : OsState) : openSeen (vw Q) [] (importedModules Q.main.body) (Xt Q) true (sz w os) = openGood (vw Q) [] :=
  looks_pair (k1 w os) (looks_pair (k2 w os) (looks_pair (k3 w os) (looks_pair (k4 w os) (looks_pair (k5 w os) (looks_pair (k6 w os) (looks_pair (k7 w os) (looks_pair (k8 w os) (k9 w os))))))))
theorem left_Q : LeftO Q (vw Q) [] (Xt Q) Yf Ya 8816 :=
  LeftO.of_pieces (boot_open (by kernel_rfl) (by decide) fun s=>by kernel_rfl) size run (by decide) fun w=>funext fun os=>looks_pair (k0 w os) (looks_pair (kS w os) (kY w os))
theorem left : LeftO PySem.Challenge.rw_splitstream_k12_refused.row.prog (vw PySem.Challenge.pw_splitstream_k12_refused) [] (Xt PySem.Challenge.pw_splitstream_k12_refused) Yf Ya 8816:=by
  show LeftO PySem.Challenge.pw_splitstream_k12_refused (vw PySem.Challenge.pw_splitstream_k12_refused) [] (Xt PySem.Challenge.pw_splitstream_k12_refused) Yf Ya 8816
  rw [Q_eq]; exact left_Q
end
end Hd
namespace Hd
open PySem PySem.W PySem.Calls PyProof.Rows L2
section
theorem nth_getD : ∀ (l : List Stmt) (i : Nat),l.getD i (.Pass ⟨0,0,0,0⟩) = nth l i
  | [],_=>rfl
  | _ :: _,0=>rfl
  | _ :: l,i + 1=>nth_getD l i
theorem top_q (i : Nat) : K2.top i = q i:=by
  unfold K2.top; rw [Q_eq]; exact nth_getD _ i
theorem ES13 : Str.ofString "_wall" = S13:=PySem.W.Fast.ofString_ofList ['_','w','a','l','l']
theorem lk__wall (P : Params) : (K P).lookup 21 = some ⟨(.type x5),none,.func (fnOf "_wall" "_wall" (defArgs (K2.top 0)) (defBody (K2.top 0)) (defScope (K2.top 0)) .none .none .none (.str S2 164) none (.ref 20) .none),#[]⟩:=by
  rw [top_q,ES13]; kernel_rfl
theorem ES45 : Str.ofString "__init__" = S45:=PySem.W.Fast.ofString_ofList ['_','_','i','n','i','t','_','_']
theorem ES48 : Str.ofString "BadRow.__init__" = S48:=PySem.W.Fast.ofString_ofList ['B','a','d','R','o','w','.','_','_','i','n','i','t','_','_']
theorem lk_BadRow___init__ (P : Params) : (K P).lookup 108 = some ⟨(.type x5),none,.func (fnOf "__init__" "BadRow.__init__" (defArgs (inClass (K2.top 8) 0)) (defBody (inClass (K2.top 8) 0)) (defScope (inClass (K2.top 8) 0)) .none .none .none (.str S4 194) none (.ref 107) .none),#[]⟩:=by
  rw [top_q,ES45,ES48]; kernel_rfl
theorem ES28 : Str.ofString "is_whole" = S28:=PySem.W.Fast.ofString_ofList ['i','s','_','w','h','o','l','e']
theorem lk_is_whole (P : Params) : (K P).lookup 120 = some ⟨(.type x5),none,.func (fnOf "is_whole" "is_whole" (defArgs (K2.top 10)) (defBody (K2.top 10)) (defScope (K2.top 10)) .none .none .none (.str S50 319) none (.ref 119) .none),#[]⟩:=by
  rw [top_q,ES28]; kernel_rfl
theorem ES29 : Str.ofString "is_fraction" = S29:=PySem.W.Fast.ofString_ofList ['i','s','_','f','r','a','c','t','i','o','n']
theorem lk_is_fraction (P : Params) : (K P).lookup 127 = some ⟨(.type x5),none,.func (fnOf "is_fraction" "is_fraction" (defArgs (K2.top 11)) (defBody (K2.top 11)) (defScope (K2.top 11)) .none .none .none (.str S50 319) none (.ref 126) .none),#[]⟩:=by
  rw [top_q,ES29]; kernel_rfl
theorem ES30 : Str.ofString "common_divisor" = S30:=PySem.W.Fast.ofString_ofList ['c','o','m','m','o','n','_','d','i','v','i','s','o','r']
theorem lk_common_divisor (P : Params) : (K P).lookup 134 = some ⟨(.type x5),none,.func (fnOf "common_divisor" "common_divisor" (defArgs (K2.top 12)) (defBody (K2.top 12)) (defScope (K2.top 12)) .none .none .none (.str S50 319) none (.ref 133) .none),#[]⟩:=by
  rw [top_q,ES30]; kernel_rfl
theorem ES31 : Str.ofString "made" = S31:=PySem.W.Fast.ofString_ofList ['m','a','d','e']
theorem lk_made (P : Params) : (K P).lookup 141 = some ⟨(.type x5),none,.func (fnOf "made" "made" (defArgs (K2.top 13)) (defBody (K2.top 13)) (defScope (K2.top 13)) .none .none .none (.str S50 319) none (.ref 140) .none),#[]⟩:=by
  rw [top_q,ES31]; kernel_rfl
theorem ES32 : Str.ofString "plus" = S32:=PySem.W.Fast.ofString_ofList ['p','l','u','s']
theorem lk_plus (P : Params) : (K P).lookup 148 = some ⟨(.type x5),none,.func (fnOf "plus" "plus" (defArgs (K2.top 14)) (defBody (K2.top 14)) (defScope (K2.top 14)) .none .none .none (.str S50 319) none (.ref 147) .none),#[]⟩:=by
  rw [top_q,ES32]; kernel_rfl
theorem ES33 : Str.ofString "minus" = S33:=PySem.W.Fast.ofString_ofList ['m','i','n','u','s']
theorem lk_minus (P : Params) : (K P).lookup 155 = some ⟨(.type x5),none,.func (fnOf "minus" "minus" (defArgs (K2.top 15)) (defBody (K2.top 15)) (defScope (K2.top 15)) .none .none .none (.str S50 319) none (.ref 154) .none),#[]⟩:=by
  rw [top_q,ES33]; kernel_rfl
theorem ES34 : Str.ofString "times" = S34:=PySem.W.Fast.ofString_ofList ['t','i','m','e','s']
theorem lk_times (P : Params) : (K P).lookup 162 = some ⟨(.type x5),none,.func (fnOf "times" "times" (defArgs (K2.top 16)) (defBody (K2.top 16)) (defScope (K2.top 16)) .none .none .none (.str S50 319) none (.ref 161) .none),#[]⟩:=by
  rw [top_q,ES34]; kernel_rfl
theorem ES35 : Str.ofString "over" = S35:=PySem.W.Fast.ofString_ofList ['o','v','e','r']
theorem lk_over (P : Params) : (K P).lookup 169 = some ⟨(.type x5),none,.func (fnOf "over" "over" (defArgs (K2.top 17)) (defBody (K2.top 17)) (defScope (K2.top 17)) .none .none .none (.str S50 319) none (.ref 168) .none),#[]⟩:=by
  rw [top_q,ES35]; kernel_rfl
theorem ES36 : Str.ofString "total" = S36:=PySem.W.Fast.ofString_ofList ['t','o','t','a','l']
theorem lk_total (P : Params) : (K P).lookup 176 = some ⟨(.type x5),none,.func (fnOf "total" "total" (defArgs (K2.top 18)) (defBody (K2.top 18)) (defScope (K2.top 18)) .none .none .none (.str S50 319) none (.ref 175) .none),#[]⟩:=by
  rw [top_q,ES36]; kernel_rfl
theorem ES40 : Str.ofString "counts_one_of" = S40:=PySem.W.Fast.ofString_ofList ['c','o','u','n','t','s','_','o','n','e','_','o','f']
theorem lk_counts_one_of (P : Params) : (K P).lookup 183 = some ⟨(.type x5),none,.func (fnOf "counts_one_of" "counts_one_of" (defArgs (K2.top 23)) (defBody (K2.top 23)) (defScope (K2.top 23)) .none .none .none (.str S26 396) none (.ref 182) .none),#[]⟩:=by
  rw [top_q,ES40]; kernel_rfl
theorem ES41 : Str.ofString "is_hardness" = S41:=PySem.W.Fast.ofString_ofList ['i','s','_','h','a','r','d','n','e','s','s']
theorem lk_is_hardness (P : Params) : (K P).lookup 190 = some ⟨(.type x5),none,.func (fnOf "is_hardness" "is_hardness" (defArgs (K2.top 24)) (defBody (K2.top 24)) (defScope (K2.top 24)) .none .none .none (.str S26 396) none (.ref 189) .none),#[]⟩:=by
  rw [top_q,ES41]; kernel_rfl
theorem ES42 : Str.ofString "is_pipe" = S42:=PySem.W.Fast.ofString_ofList ['i','s','_','p','i','p','e']
theorem lk_is_pipe (P : Params) : (K P).lookup 197 = some ⟨(.type x5),none,.func (fnOf "is_pipe" "is_pipe" (defArgs (K2.top 25)) (defBody (K2.top 25)) (defScope (K2.top 25)) .none .none .none (.str S26 396) none (.ref 196) .none),#[]⟩:=by
  rw [top_q,ES42]; kernel_rfl
theorem ES43 : Str.ofString "is_net" = S43:=PySem.W.Fast.ofString_ofList ['i','s','_','n','e','t']
theorem lk_is_net (P : Params) : (K P).lookup 202 = some ⟨(.type x5),none,.func (fnOf "is_net" "is_net" (defArgs (K2.top 26)) (defBody (K2.top 26)) (defScope (K2.top 26)) .none .none .none (.str S26 396) none (.ref 201) .none),#[]⟩:=by
  rw [top_q,ES43]; kernel_rfl
theorem ES44 : Str.ofString "neighbours" = S44:=PySem.W.Fast.ofString_ofList ['n','e','i','g','h','b','o','u','r','s']
theorem lk_neighbours (P : Params) : (K P).lookup 207 = some ⟨(.type x5),none,.func (fnOf "neighbours" "neighbours" (defArgs (K2.top 27)) (defBody (K2.top 27)) (defScope (K2.top 27)) .none .none .none (.str S26 396) none (.ref 206) .none),#[]⟩:=by
  rw [top_q,ES44]; kernel_rfl
theorem ES83 : Str.ofString "Net.__init__" = S83:=PySem.W.Fast.ofString_ofList ['N','e','t','.','_','_','i','n','i','t','_','_']
theorem lk_Net___init__ (P : Params) : (K P).lookup 219 = some ⟨(.type x5),none,.func (fnOf "__init__" "Net.__init__" (defArgs (inClass (K2.top 28) 0)) (defBody (inClass (K2.top 28) 0)) (defScope (inClass (K2.top 28) 0)) .none .none .none (.str S26 396) none (.ref 218) .none),#[]⟩:=by
  rw [top_q,ES45,ES83]; kernel_rfl
theorem ES80 : Str.ofString "pipes" = S80:=PySem.W.Fast.ofString_ofList ['p','i','p','e','s']
theorem ES84 : Str.ofString "Net.pipes" = S84:=PySem.W.Fast.ofString_ofList ['N','e','t','.','p','i','p','e','s']
theorem lk_Net_pipes (P : Params) : (K P).lookup 226 = some ⟨(.type x5),none,.func (fnOf "pipes" "Net.pipes" (defArgs (inClass (K2.top 28) 1)) (defBody (inClass (K2.top 28) 1)) (defScope (inClass (K2.top 28) 1)) .none .none .none (.str S26 396) none (.ref 225) .none),#[]⟩:=by
  rw [top_q,ES80,ES84]; kernel_rfl
theorem ES81 : Str.ofString "part" = S81:=PySem.W.Fast.ofString_ofList ['p','a','r','t']
theorem ES90 : Str.ofString "Net.part" = S90:=PySem.W.Fast.ofString_ofList ['N','e','t','.','p','a','r','t']
theorem lk_Net_part (P : Params) : (K P).lookup 233 = some ⟨(.type x5),none,.func (fnOf "part" "Net.part" (defArgs (inClass (K2.top 28) 2)) (defBody (inClass (K2.top 28) 2)) (defScope (inClass (K2.top 28) 2)) .none .none .none (.str S26 396) none (.ref 232) .none),#[]⟩:=by
  rw [top_q,ES81,ES90]; kernel_rfl
theorem ES82 : Str.ofString "parts" = S82:=PySem.W.Fast.ofString_ofList ['p','a','r','t','s']
theorem ES91 : Str.ofString "Net.parts" = S91:=PySem.W.Fast.ofString_ofList ['N','e','t','.','p','a','r','t','s']
theorem lk_Net_parts (P : Params) : (K P).lookup 240 = some ⟨(.type x5),none,.func (fnOf "parts" "Net.parts" (defArgs (inClass (K2.top 28) 3)) (defBody (inClass (K2.top 28) 3)) (defScope (inClass (K2.top 28) 3)) .none .none .none (.str S26 396) none (.ref 239) .none),#[]⟩:=by
  rw [top_q,ES82,ES91]; kernel_rfl
theorem ES64 : Str.ofString "with_pipe" = S64:=PySem.W.Fast.ofString_ofList ['w','i','t','h','_','p','i','p','e']
theorem lk_with_pipe (P : Params) : (K P).lookup 254 = some ⟨(.type x5),none,.func (fnOf "with_pipe" "with_pipe" (defArgs (K2.top 29)) (defBody (K2.top 29)) (defScope (K2.top 29)) .none .none .none (.str S26 396) none (.ref 253) .none),#[]⟩:=by
  rw [top_q,ES64]; kernel_rfl
theorem ES65 : Str.ofString "without_pipe" = S65:=PySem.W.Fast.ofString_ofList ['w','i','t','h','o','u','t','_','p','i','p','e']
theorem lk_without_pipe (P : Params) : (K P).lookup 261 = some ⟨(.type x5),none,.func (fnOf "without_pipe" "without_pipe" (defArgs (K2.top 30)) (defBody (K2.top 30)) (defScope (K2.top 30)) .none .none .none (.str S26 396) none (.ref 260) .none),#[]⟩:=by
  rw [top_q,ES65]; kernel_rfl
theorem ES66 : Str.ofString "ease_between" = S66:=PySem.W.Fast.ofString_ofList ['e','a','s','e','_','b','e','t','w','e','e','n']
theorem lk_ease_between (P : Params) : (K P).lookup 266 = some ⟨(.type x5),none,.func (fnOf "ease_between" "ease_between" (defArgs (K2.top 32)) (defBody (K2.top 32)) (defScope (K2.top 32)) .none .none .none (.str S97 512) none (.ref 265) .none),#[]⟩:=by
  rw [top_q,ES66]; kernel_rfl
theorem ES67 : Str.ofString "ease_at" = S67:=PySem.W.Fast.ofString_ofList ['e','a','s','e','_','a','t']
theorem lk_ease_at (P : Params) : (K P).lookup 271 = some ⟨(.type x5),none,.func (fnOf "ease_at" "ease_at" (defArgs (K2.top 33)) (defBody (K2.top 33)) (defScope (K2.top 33)) .none .none .none (.str S97 512) none (.ref 270) .none),#[]⟩:=by
  rw [top_q,ES67]; kernel_rfl
theorem ES68 : Str.ofString "ease_by_way_of" = S68:=PySem.W.Fast.ofString_ofList ['e','a','s','e','_','b','y','_','w','a','y','_','o','f']
theorem lk_ease_by_way_of (P : Params) : (K P).lookup 278 = some ⟨(.type x5),none,.func (fnOf "ease_by_way_of" "ease_by_way_of" (defArgs (K2.top 34)) (defBody (K2.top 34)) (defScope (K2.top 34)) .none .none .none (.str S97 512) none (.ref 277) .none),#[]⟩:=by
  rw [top_q,ES68]; kernel_rfl
theorem ES69 : Str.ofString "pairs" = S69:=PySem.W.Fast.ofString_ofList ['p','a','i','r','s']
theorem lk_pairs (P : Params) : (K P).lookup 285 = some ⟨(.type x5),none,.func (fnOf "pairs" "pairs" (defArgs (K2.top 35)) (defBody (K2.top 35)) (defScope (K2.top 35)) .none .none .none (.str S97 512) none (.ref 284) .none),#[]⟩:=by
  rw [top_q,ES69]; kernel_rfl
theorem ES70 : Str.ofString "net_of_eases" = S70:=PySem.W.Fast.ofString_ofList ['n','e','t','_','o','f','_','e','a','s','e','s']
theorem lk_net_of_eases (P : Params) : (K P).lookup 290 = some ⟨(.type x5),none,.func (fnOf "net_of_eases" "net_of_eases" (defArgs (K2.top 36)) (defBody (K2.top 36)) (defScope (K2.top 36)) .none .none .none (.str S97 512) none (.ref 289) .none),#[]⟩:=by
  rw [top_q,ES70]; kernel_rfl
theorem ES71 : Str.ofString "slim" = S71:=PySem.W.Fast.ofString_ofList ['s','l','i','m']
theorem lk_slim (P : Params) : (K P).lookup 295 = some ⟨(.type x5),none,.func (fnOf "slim" "slim" (defArgs (K2.top 37)) (defBody (K2.top 37)) (defScope (K2.top 37)) .none .none .none (.str S97 512) none (.ref 294) .none),#[]⟩:=by
  rw [top_q,ES71]; kernel_rfl
theorem ES72 : Str.ofString "ease_without" = S72:=PySem.W.Fast.ofString_ofList ['e','a','s','e','_','w','i','t','h','o','u','t']
theorem lk_ease_without (P : Params) : (K P).lookup 302 = some ⟨(.type x5),none,.func (fnOf "ease_without" "ease_without" (defArgs (K2.top 38)) (defBody (K2.top 38)) (defScope (K2.top 38)) .none .none .none (.str S97 512) none (.ref 301) .none),#[]⟩:=by
  rw [top_q,ES72]; kernel_rfl
theorem ES73 : Str.ofString "taken_out" = S73:=PySem.W.Fast.ofString_ofList ['t','a','k','e','n','_','o','u','t']
theorem lk_taken_out (P : Params) : (K P).lookup 307 = some ⟨(.type x5),none,.func (fnOf "taken_out" "taken_out" (defArgs (K2.top 39)) (defBody (K2.top 39)) (defScope (K2.top 39)) .none .none .none (.str S97 512) none (.ref 306) .none),#[]⟩:=by
  rw [top_q,ES73]; kernel_rfl
theorem ES74 : Str.ofString "scale_of" = S74:=PySem.W.Fast.ofString_ofList ['s','c','a','l','e','_','o','f']
theorem lk_scale_of (P : Params) : (K P).lookup 314 = some ⟨(.type x5),none,.func (fnOf "scale_of" "scale_of" (defArgs (K2.top 41)) (defBody (K2.top 41)) (defScope (K2.top 41)) .none .none .none (.str S62 575) none (.ref 313) .none),#[]⟩:=by
  rw [top_q,ES74]; kernel_rfl
theorem ES75 : Str.ofString "scaled_ease" = S75:=PySem.W.Fast.ofString_ofList ['s','c','a','l','e','d','_','e','a','s','e']
theorem lk_scaled_ease (P : Params) : (K P).lookup 321 = some ⟨(.type x5),none,.func (fnOf "scaled_ease" "scaled_ease" (defArgs (K2.top 42)) (defBody (K2.top 42)) (defScope (K2.top 42)) .none .none .none (.str S62 575) none (.ref 320) .none),#[]⟩:=by
  rw [top_q,ES75]; kernel_rfl
theorem ES76 : Str.ofString "entry" = S76:=PySem.W.Fast.ofString_ofList ['e','n','t','r','y']
theorem lk_entry (P : Params) : (K P).lookup 326 = some ⟨(.type x5),none,.func (fnOf "entry" "entry" (defArgs (K2.top 43)) (defBody (K2.top 43)) (defScope (K2.top 43)) .none .none .none (.str S62 575) none (.ref 325) .none),#[]⟩:=by
  rw [top_q,ES76]; kernel_rfl
theorem ES77 : Str.ofString "sheet_row" = S77:=PySem.W.Fast.ofString_ofList ['s','h','e','e','t','_','r','o','w']
theorem lk_sheet_row (P : Params) : (K P).lookup 331 = some ⟨(.type x5),none,.func (fnOf "sheet_row" "sheet_row" (defArgs (K2.top 44)) (defBody (K2.top 44)) (defScope (K2.top 44)) .none .none .none (.str S62 575) none (.ref 330) .none),#[]⟩:=by
  rw [top_q,ES77]; kernel_rfl
theorem ES78 : Str.ofString "sheet_of" = S78:=PySem.W.Fast.ofString_ofList ['s','h','e','e','t','_','o','f']
theorem lk_sheet_of (P : Params) : (K P).lookup 336 = some ⟨(.type x5),none,.func (fnOf "sheet_of" "sheet_of" (defArgs (K2.top 45)) (defBody (K2.top 45)) (defScope (K2.top 45)) .none .none .none (.str S62 575) none (.ref 335) .none),#[]⟩:=by
  rw [top_q,ES78]; kernel_rfl
theorem ES79 : Str.ofString "row_without" = S79:=PySem.W.Fast.ofString_ofList ['r','o','w','_','w','i','t','h','o','u','t']
theorem lk_row_without (P : Params) : (K P).lookup 341 = some ⟨(.type x5),none,.func (fnOf "row_without" "row_without" (defArgs (K2.top 46)) (defBody (K2.top 46)) (defScope (K2.top 46)) .none .none .none (.str S62 575) none (.ref 340) .none),#[]⟩:=by
  rw [top_q,ES79]; kernel_rfl
theorem ES103 : Str.ofString "cleared" = S103:=PySem.W.Fast.ofString_ofList ['c','l','e','a','r','e','d']
theorem lk_cleared (P : Params) : (K P).lookup 346 = some ⟨(.type x5),none,.func (fnOf "cleared" "cleared" (defArgs (K2.top 47)) (defBody (K2.top 47)) (defScope (K2.top 47)) .none .none .none (.str S62 575) none (.ref 345) .none),#[]⟩:=by
  rw [top_q,ES103]; kernel_rfl
theorem ES104 : Str.ofString "solved" = S104:=PySem.W.Fast.ofString_ofList ['s','o','l','v','e','d']
theorem lk_solved (P : Params) : (K P).lookup 351 = some ⟨(.type x5),none,.func (fnOf "solved" "solved" (defArgs (K2.top 48)) (defBody (K2.top 48)) (defScope (K2.top 48)) .none .none .none (.str S62 575) none (.ref 350) .none),#[]⟩:=by
  rw [top_q,ES104]; kernel_rfl
theorem ES105 : Str.ofString "are_fractions" = S105:=PySem.W.Fast.ofString_ofList ['a','r','e','_','f','r','a','c','t','i','o','n','s']
theorem lk_are_fractions (P : Params) : (K P).lookup 356 = some ⟨(.type x5),none,.func (fnOf "are_fractions" "are_fractions" (defArgs (K2.top 50)) (defBody (K2.top 50)) (defScope (K2.top 50)) .none .none .none (.str S102 632) none (.ref 355) .none),#[]⟩:=by
  rw [top_q,ES105]; kernel_rfl
theorem ES106 : Str.ofString "are_places" = S106:=PySem.W.Fast.ofString_ofList ['a','r','e','_','p','l','a','c','e','s']
theorem lk_are_places (P : Params) : (K P).lookup 361 = some ⟨(.type x5),none,.func (fnOf "are_places" "are_places" (defArgs (K2.top 51)) (defBody (K2.top 51)) (defScope (K2.top 51)) .none .none .none (.str S102 632) none (.ref 360) .none),#[]⟩:=by
  rw [top_q,ES106]; kernel_rfl
theorem ES107 : Str.ofString "check_places" = S107:=PySem.W.Fast.ofString_ofList ['c','h','e','c','k','_','p','l','a','c','e','s']
theorem lk_check_places (P : Params) : (K P).lookup 368 = some ⟨(.type x5),none,.func (fnOf "check_places" "check_places" (defArgs (K2.top 52)) (defBody (K2.top 52)) (defScope (K2.top 52)) .none .none .none (.str S102 632) none (.ref 367) .none),#[]⟩:=by
  rw [top_q,ES107]; kernel_rfl
theorem ES108 : Str.ofString "check_flows" = S108:=PySem.W.Fast.ofString_ofList ['c','h','e','c','k','_','f','l','o','w','s']
theorem lk_check_flows (P : Params) : (K P).lookup 375 = some ⟨(.type x5),none,.func (fnOf "check_flows" "check_flows" (defArgs (K2.top 53)) (defBody (K2.top 53)) (defScope (K2.top 53)) .none .none .none (.str S102 632) none (.ref 374) .none),#[]⟩:=by
  rw [top_q,ES108]; kernel_rfl
theorem ES109 : Str.ofString "sum_at" = S109:=PySem.W.Fast.ofString_ofList ['s','u','m','_','a','t']
theorem lk_sum_at (P : Params) : (K P).lookup 380 = some ⟨(.type x5),none,.func (fnOf "sum_at" "sum_at" (defArgs (K2.top 54)) (defBody (K2.top 54)) (defScope (K2.top 54)) .none .none .none (.str S102 632) none (.ref 379) .none),#[]⟩:=by
  rw [top_q,ES109]; kernel_rfl
theorem ES110 : Str.ofString "sums_of" = S110:=PySem.W.Fast.ofString_ofList ['s','u','m','s','_','o','f']
theorem lk_sums_of (P : Params) : (K P).lookup 385 = some ⟨(.type x5),none,.func (fnOf "sums_of" "sums_of" (defArgs (K2.top 55)) (defBody (K2.top 55)) (defScope (K2.top 55)) .none .none .none (.str S102 632) none (.ref 384) .none),#[]⟩:=by
  rw [top_q,ES110]; kernel_rfl
theorem ES111 : Str.ofString "heat" = S111:=PySem.W.Fast.ofString_ofList ['h','e','a','t']
theorem lk_heat (P : Params) : (K P).lookup 390 = some ⟨(.type x5),none,.func (fnOf "heat" "heat" (defArgs (K2.top 56)) (defBody (K2.top 56)) (defScope (K2.top 56)) .none .none .none (.str S102 632) none (.ref 389) .none),#[]⟩:=by
  rw [top_q,ES111]; kernel_rfl
theorem ES112 : Str.ofString "asked_sum" = S112:=PySem.W.Fast.ofString_ofList ['a','s','k','e','d','_','s','u','m']
theorem lk_asked_sum (P : Params) : (K P).lookup 397 = some ⟨(.type x5),none,.func (fnOf "asked_sum" "asked_sum" (defArgs (K2.top 57)) (defBody (K2.top 57)) (defScope (K2.top 57)) .none .none .none (.str S102 632) none (.ref 396) .none),#[]⟩:=by
  rw [top_q,ES112]; kernel_rfl
theorem ES113 : Str.ofString "falls" = S113:=PySem.W.Fast.ofString_ofList ['f','a','l','l','s']
theorem lk_falls (P : Params) : (K P).lookup 402 = some ⟨(.type x5),none,.func (fnOf "falls" "falls" (defArgs (K2.top 58)) (defBody (K2.top 58)) (defScope (K2.top 58)) .none .none .none (.str S102 632) none (.ref 401) .none),#[]⟩:=by
  rw [top_q,ES113]; kernel_rfl
theorem ES116 : Str.ofString "shows" = S116:=PySem.W.Fast.ofString_ofList ['s','h','o','w','s']
theorem ES117 : Str.ofString "Answer.shows" = S117:=PySem.W.Fast.ofString_ofList ['A','n','s','w','e','r','.','s','h','o','w','s']
theorem lk_Answer_shows (P : Params) : (K P).lookup 416 = some ⟨(.type x5),none,.func (fnOf "shows" "Answer.shows" (defArgs (inClass (K2.top 59) 0)) (defBody (inClass (K2.top 59) 0)) (defScope (inClass (K2.top 59) 0)) .none .none .none (.str S102 632) none (.ref 415) .none),#[]⟩:=by
  rw [top_q,ES116,ES117]; kernel_rfl
theorem ES129 : Str.ofString "Stream.__init__" = S129:=PySem.W.Fast.ofString_ofList ['S','t','r','e','a','m','.','_','_','i','n','i','t','_','_']
theorem lk_Stream___init__ (P : Params) : (K P).lookup 437 = some ⟨(.type x5),none,.func (fnOf "__init__" "Stream.__init__" (defArgs (inClass (K2.top 60) 0)) (defBody (inClass (K2.top 60) 0)) (defScope (inClass (K2.top 60) 0)) .none .none .none (.str S102 632) none (.ref 436) .none),#[]⟩:=by
  rw [top_q,ES45,ES129]; kernel_rfl
theorem ES127 : Str.ofString "fits" = S127:=PySem.W.Fast.ofString_ofList ['f','i','t','s']
theorem ES130 : Str.ofString "Stream.fits" = S130:=PySem.W.Fast.ofString_ofList ['S','t','r','e','a','m','.','f','i','t','s']
theorem lk_Stream_fits (P : Params) : (K P).lookup 444 = some ⟨(.type x5),none,.func (fnOf "fits" "Stream.fits" (defArgs (inClass (K2.top 60) 1)) (defBody (inClass (K2.top 60) 1)) (defScope (inClass (K2.top 60) 1)) .none .none .none (.str S102 632) none (.ref 443) .none),#[]⟩:=by
  rw [top_q,ES127,ES130]; kernel_rfl
theorem ES131 : Str.ofString "Stream.shows" = S131:=PySem.W.Fast.ofString_ofList ['S','t','r','e','a','m','.','s','h','o','w','s']
theorem lk_Stream_shows (P : Params) : (K P).lookup 451 = some ⟨(.type x5),none,.func (fnOf "shows" "Stream.shows" (defArgs (inClass (K2.top 60) 2)) (defBody (inClass (K2.top 60) 2)) (defScope (inClass (K2.top 60) 2)) .none .none .none (.str S102 632) none (.ref 450) .none),#[]⟩:=by
  rw [top_q,ES116,ES131]; kernel_rfl
theorem ES132 : Str.ofString "Apart.__init__" = S132:=PySem.W.Fast.ofString_ofList ['A','p','a','r','t','.','_','_','i','n','i','t','_','_']
theorem lk_Apart___init__ (P : Params) : (K P).lookup 470 = some ⟨(.type x5),none,.func (fnOf "__init__" "Apart.__init__" (defArgs (inClass (K2.top 61) 0)) (defBody (inClass (K2.top 61) 0)) (defScope (inClass (K2.top 61) 0)) .none .none .none (.str S102 632) none (.ref 469) .none),#[]⟩:=by
  rw [top_q,ES45,ES132]; kernel_rfl
theorem ES133 : Str.ofString "Apart.shows" = S133:=PySem.W.Fast.ofString_ofList ['A','p','a','r','t','.','s','h','o','w','s']
theorem lk_Apart_shows (P : Params) : (K P).lookup 477 = some ⟨(.type x5),none,.func (fnOf "shows" "Apart.shows" (defArgs (inClass (K2.top 61) 1)) (defBody (inClass (K2.top 61) 1)) (defScope (inClass (K2.top 61) 1)) .none .none .none (.str S102 632) none (.ref 476) .none),#[]⟩:=by
  rw [top_q,ES116,ES133]; kernel_rfl
theorem ES121 : Str.ofString "heights_between" = S121:=PySem.W.Fast.ofString_ofList ['h','e','i','g','h','t','s','_','b','e','t','w','e','e','n']
theorem lk_heights_between (P : Params) : (K P).lookup 487 = some ⟨(.type x5),none,.func (fnOf "heights_between" "heights_between" (defArgs (K2.top 62)) (defBody (K2.top 62)) (defScope (K2.top 62)) .none .none .none (.str S102 632) none (.ref 486) .none),#[]⟩:=by
  rw [top_q,ES121]; kernel_rfl
theorem ES122 : Str.ofString "stream" = S122:=PySem.W.Fast.ofString_ofList ['s','t','r','e','a','m']
theorem lk_stream (P : Params) : (K P).lookup 492 = some ⟨(.type x5),none,.func (fnOf "stream" "stream" (defArgs (K2.top 63)) (defBody (K2.top 63)) (defScope (K2.top 63)) .none .none .none (.str S102 632) none (.ref 491) .none),#[]⟩:=by
  rw [top_q,ES122]; kernel_rfl
theorem ES123 : Str.ofString "hardness_of" = S123:=PySem.W.Fast.ofString_ofList ['h','a','r','d','n','e','s','s','_','o','f']
theorem lk_hardness_of (P : Params) : (K P).lookup 499 = some ⟨(.type x5),none,.func (fnOf "hardness_of" "hardness_of" (defArgs (K2.top 64)) (defBody (K2.top 64)) (defScope (K2.top 64)) .none .none .none (.str S102 632) none (.ref 498) .none),#[]⟩:=by
  rw [top_q,ES123]; kernel_rfl
theorem ES124 : Str.ofString "chance" = S124:=PySem.W.Fast.ofString_ofList ['c','h','a','n','c','e']
theorem lk_chance (P : Params) : (K P).lookup 506 = some ⟨(.type x5),none,.func (fnOf "chance" "chance" (defArgs (K2.top 65)) (defBody (K2.top 65)) (defScope (K2.top 65)) .none .none .none (.str S102 632) none (.ref 505) .none),#[]⟩:=by
  rw [top_q,ES124]; kernel_rfl
theorem ES125 : Str.ofString "share" = S125:=PySem.W.Fast.ofString_ofList ['s','h','a','r','e']
theorem lk_share (P : Params) : (K P).lookup 513 = some ⟨(.type x5),none,.func (fnOf "share" "share" (defArgs (K2.top 67)) (defBody (K2.top 67)) (defScope (K2.top 67)) .none .none .none (.str S135 838) none (.ref 512) .none),#[]⟩:=by
  rw [top_q,ES125]; kernel_rfl
theorem ES126 : Str.ofString "_law_cell_at" = S126:=PySem.W.Fast.ofString_ofList ['_','l','a','w','_','c','e','l','l','_','a','t']
theorem lk__law_cell_at (P : Params) : (K P).lookup 520 = some ⟨(.type x5),none,.func (fnOf "_law_cell_at" "_law_cell_at" (defArgs (K2.top 69)) (defBody (K2.top 69)) (defScope (K2.top 69)) .none .none .none (.str S118 850) none (.ref 519) .none),#[]⟩:=by
  rw [top_q,ES126]; kernel_rfl
theorem ES139 : Str.ofString "_law_sort" = S139:=PySem.W.Fast.ofString_ofList ['_','l','a','w','_','s','o','r','t']
theorem lk__law_sort (P : Params) : (K P).lookup 534 = some ⟨(.type x5),none,.func (fnOf "_law_sort" "_law_sort" (defArgs (K2.top 71)) (defBody (K2.top 71)) (defScope (K2.top 71)) .none .none .none (.str S118 850) none (.ref 533) .none),#[]⟩:=by
  rw [top_q,ES139]; kernel_rfl
theorem ES140 : Str.ofString "_law_net" = S140:=PySem.W.Fast.ofString_ofList ['_','l','a','w','_','n','e','t']
theorem lk__law_net (P : Params) : (K P).lookup 541 = some ⟨(.type x5),none,.func (fnOf "_law_net" "_law_net" (defArgs (K2.top 72)) (defBody (K2.top 72)) (defScope (K2.top 72)) .none .none .none (.str S118 850) none (.ref 540) .none),#[]⟩:=by
  rw [top_q,ES140]; kernel_rfl
theorem ES141 : Str.ofString "_law_ask" = S141:=PySem.W.Fast.ofString_ofList ['_','l','a','w','_','a','s','k']
theorem lk__law_ask (P : Params) : (K P).lookup 548 = some ⟨(.type x5),none,.func (fnOf "_law_ask" "_law_ask" (defArgs (K2.top 73)) (defBody (K2.top 73)) (defScope (K2.top 73)) .none .none .none (.str S118 850) none (.ref 547) .none),#[]⟩:=by
  rw [top_q,ES141]; kernel_rfl
theorem ES142 : Str.ofString "_law_asked" = S142:=PySem.W.Fast.ofString_ofList ['_','l','a','w','_','a','s','k','e','d']
theorem lk__law_asked (P : Params) : (K P).lookup 555 = some ⟨(.type x5),none,.func (fnOf "_law_asked" "_law_asked" (defArgs (K2.top 74)) (defBody (K2.top 74)) (defScope (K2.top 74)) .none .none .none (.str S118 850) none (.ref 554) .none),#[]⟩:=by
  rw [top_q,ES142]; kernel_rfl
theorem ES143 : Str.ofString "_law_told" = S143:=PySem.W.Fast.ofString_ofList ['_','l','a','w','_','t','o','l','d']
theorem lk__law_told (P : Params) : (K P).lookup 562 = some ⟨(.type x5),none,.func (fnOf "_law_told" "_law_told" (defArgs (K2.top 75)) (defBody (K2.top 75)) (defScope (K2.top 75)) .none .none .none (.str S118 850) none (.ref 561) .none),#[]⟩:=by
  rw [top_q,ES143]; kernel_rfl
theorem ES144 : Str.ofString "_law_come" = S144:=PySem.W.Fast.ofString_ofList ['_','l','a','w','_','c','o','m','e']
theorem lk__law_come (P : Params) : (K P).lookup 567 = some ⟨(.type x5),none,.func (fnOf "_law_come" "_law_come" (defArgs (K2.top 76)) (defBody (K2.top 76)) (defScope (K2.top 76)) .none .none .none (.str S118 850) none (.ref 566) .none),#[]⟩:=by
  rw [top_q,ES144]; kernel_rfl
theorem ES145 : Str.ofString "law" = S145:=PySem.W.Fast.ofString_ofList ['l','a','w']
theorem lk_law (P : Params) : (K P).lookup 572 = some ⟨(.type x5),none,.func (fnOf "law" "law" (defArgs (K2.top 77)) (defBody (K2.top 77)) (defScope (K2.top 77)) .none .none .none (.str S118 850) none (.ref 571) .none),#[]⟩:=by
  rw [top_q,ES145]; kernel_rfl
end
end Hd
open PySem PySem.W PyProof.Rows
set_option maxRecDepth 100000 in
set_option maxHeartbeats 0 in
theorem PySem.Challenge.cw_splitstream_k12_refused_holds : PySem.Challenge.rw_splitstream_k12_refused.Holds := by
  w_on; o_law
  refine PySem.W.holds_open (q:=Hd.vw PySem.Challenge.pw_splitstream_k12_refused) (loose:=[]) (Xt:=Hd.Xt PySem.Challenge.pw_splitstream_k12_refused) (XP:=XL (Hd.vw PySem.Challenge.pw_splitstream_k12_refused) []) (Yf:=Hd.Yf) (Ya:=Hd.Ya) (YP:=InK Hd.K) (N:=8816) Hd.left (InK.of Hd.as_eq) InK.keeps (fun s e=>xl_of s (Bool.and_eq_true_iff.mp e).1) XL.keeps (by rfl) (by rfl) (by rfl) (fun s e=>recFacts_of (Bool.and_eq_true_iff.mp e).2) (by rfl) (by first | assumption | decide +kernel) (by decide +kernel) ⟨rfl,rfl,rfl,rfl,rfl,by decide +kernel⟩ ?hw ?hc
  (case hw=>w_witness2)
  k_fill
  refine K2.walk (l:=PySem.Challenge.rw_splitstream_k12_refused) rfl rfl (fun w h Y=>Y) ?F
  case F =>
    intro w mg fa h KX G hmg
    refine' K2.all_mk KX G hmg ?z227_BadNet ?z229_NoPlace ?z231_NoPipe ?z233_BadFlows ?z236_Net ?z237_BadFraction ?z238_BadRow ?z239_NetError ?z0_a ?z1_l ?z2_o ?z3_k ?z4_a ?z5_l ?z6_o ?z7_k ?z8_a ?z9_l ?z10_o ?z11_k ?z12_a ?z13_l ?z14_o ?z15_k ?z16_a ?z17_l ?z18_o ?z19_k ?z20_a ?z21_l ?z22_o ?z23_k ?z24_a ?z25_i ?z26_l ?z27_o ?z28_k ?z29_a ?z30_l ?z31_o ?z32_k ?z33_a ?z34_l ?z35_o ?z36_k ?z37_a ?z38_l ?z39_o ?z40_k ?z41_a ?z42_l ?z43_o ?z44_k ?z45_a ?z46_l ?z47_o ?z48_k ?z49_a ?z50_l ?z51_o ?z52_k ?z53_a ?z54_i ?z55_l ?z56_o ?z57_k ?z58_a ?z59_i ?z60_l ?z61_o ?z62_k ?z63_a ?z64_l ?z65_o ?z66_k ?z67_a ?z68_l ?z69_o ?z70_k ?z71_a ?z72_l ?z73_o ?z74_k ?z75_a ?z76_l ?z77_o ?z78_k ?z79_a ?z80_l ?z81_o ?z82_k ?z83_a ?z84_l ?z85_o ?z86_k ?z87_a ?z88_l ?z89_o ?z90_k ?z91_a ?z92_l ?z93_o ?z94_k ?z95_a ?z96_l ?z97_o ?z98_k ?z99_a ?z100_l ?z101_o ?z102_k ?z103_a ?z104_l ?z105_o ?z106_k ?z107_a ?z108_l ?z109_o ?z110_k ?z111_a ?z112_l ?z113_o ?z114_k ?z115_a ?z116_l ?z117_o ?z118_k ?z119_a ?z120_l ?z121_o ?z122_k ?z123_a ?z124_l ?z125_o ?z126_k ?z127_a ?z128_l ?z129_o ?z130_k ?z131_a ?z132_l ?z133_o ?z134_k ?z135_a ?z136_l ?z137_o ?z138_k ?z139_a ?z140_l ?z141_o ?z142_k ?z143_a ?z144_l ?z145_o ?z146_k ?z147_a ?z148_l ?z149_o ?z150_k ?z151_a ?z152_l ?z153_o ?z154_k ?z155_a ?z156_l ?z157_o ?z158_k ?z159_a ?z160_l ?z161_o ?z162_k ?z163_a ?z164_l ?z165_o ?z166_k ?z167_a ?z168_l ?z169_o ?z170_k ?z171_a ?z172_l ?z173_o ?z174_k ?z175_a ?z176_l ?z177_o ?z178_k ?z179_a ?z180_l ?z181_o ?z182_k ?z183_a ?z184_l ?z185_o ?z186_k ?z187_a ?z188_l ?z189_o ?z190_k ?z191_a ?z192_l ?z193_o ?z194_k ?z195_a ?z196_l ?z197_o ?z198_k ?z199_isinstance ?z200_int ?z201_bool ?z202_abs ?z203_len ?z204_tuple ?z205_list ?z206_min ?z207_max ?z208_range ?z209_all ?z210_sorted ?z211_enumerate ?z212_reversed ?z213_zip ?z214_sum ?z215_any ?z216_ValueError ?z217_MOST_PLACES ?z218_MOST_PIPES ?z219_MOST_IN_HARDNESS ?z220_pg ?z221_hd ?z222_po ?z223_sa ?z224_nsize ?z225_nlaid ?z226_exc ?z228_exc ?z230_exc ?z232_exc ?z234_mk ?z235_kc ?z240_e1 ?z241_e2 ?z242_e3 ?z243_e4 ?z244_e5 ?z245_e6 ?z246_e7 ?z247_e8 ?z248_i ?z249_i ?z250_i ?z251_i ?z252_i ?z253_i ?z254_i ?z255_x ?z256_e1 ?z257_e2 ?z258_e3 ?z259_e4 ?z260_e7 ?z261_e8 ?z262_i ?z263_i ?z264_i ?z265_i ?z266_i ?z267_i ?z268_i ?z269_x ?z270_e1 ?z271_e2 ?z272_e3 ?z273_e4 ?z274_e7 ?z275_e8 ?z276_i ?z277_i ?z278_i ?z279_i ?z280_i ?z281_i ?z282_i ?z283_x ?z284_e1 ?z285_e2 ?z286_e3 ?z287_e4 ?z288_e7 ?z289_e8 ?z290_i ?z291_i ?z292_i ?z293_i ?z294_i ?z295_i ?z296_i ?z297_x
    (case z227_BadNet=>k_is)
    (case z229_NoPlace=>k_is)
    (case z231_NoPipe=>k_is)
    (case z233_BadFlows=>k_is)
    (case z236_Net=>k_is)
    (case z237_BadFraction=>k_is)
    (case z238_BadRow=>k_is)
    (case z239_NetError=>k_is)
    (case z0_a=>k_is)
    (case z1_l=>exact Hd.lk_is_whole _)
    (case z2_o=>k_is)
    (case z3_k=>k_is)
    (case z4_a=>k_is)
    (case z5_l=>exact Hd.lk_common_divisor _)
    (case z6_o=>k_is)
    (case z7_k=>k_is)
    (case z8_a=>k_is)
    (case z9_l=>exact Hd.lk_is_fraction _)
    (case z10_o=>k_is)
    (case z11_k=>k_is)
    (case z12_a=>k_is)
    (case z13_l=>exact Hd.lk_counts_one_of _)
    (case z14_o=>k_is)
    (case z15_k=>k_is)
    (case z16_a=>k_is)
    (case z17_l=>exact Hd.lk_is_hardness _)
    (case z18_o=>k_is)
    (case z19_k=>k_is)
    (case z20_a=>k_is)
    (case z21_l=>exact Hd.lk_is_pipe _)
    (case z22_o=>k_is)
    (case z23_k=>k_is)
    (case z24_a=>k_is)
    (case z25_i=>k_is)
    (case z26_l=>exact Hd.lk_Net_pipes _)
    (case z27_o=>k_is)
    (case z28_k=>k_is)
    (case z29_a=>k_is)
    (case z30_l=>exact Hd.lk_is_whole _)
    (case z31_o=>k_is)
    (case z32_k=>k_is)
    (case z33_a=>k_is)
    (case z34_l=>exact Hd.lk_counts_one_of _)
    (case z35_o=>k_is)
    (case z36_k=>k_is)
    (case z37_a=>k_is)
    (case z38_l=>exact Hd.lk_is_fraction _)
    (case z39_o=>k_is)
    (case z40_k=>k_is)
    (case z41_a=>k_is)
    (case z42_l=>exact Hd.lk_is_hardness _)
    (case z43_o=>k_is)
    (case z44_k=>k_is)
    (case z45_a=>k_is)
    (case z46_l=>exact Hd.lk_is_pipe _)
    (case z47_o=>k_is)
    (case z48_k=>k_is)
    (case z49_a=>k_is)
    (case z50_l=>exact Hd.lk_is_net _)
    (case z51_o=>k_is)
    (case z52_k=>k_is)
    (case z53_a=>k_is)
    (case z54_i=>k_is)
    (case z55_l=>exact Hd.lk_Net___init__ _)
    (case z56_o=>k_is)
    (case z57_k=>k_is)
    (case z58_a=>k_is)
    (case z59_i=>k_is)
    (case z60_l=>exact Hd.lk_Net_part _)
    (case z61_o=>k_is)
    (case z62_k=>k_is)
    (case z63_a=>k_is)
    (case z64_l=>exact Hd.lk_are_places _)
    (case z65_o=>k_is)
    (case z66_k=>k_is)
    (case z67_a=>k_is)
    (case z68_l=>exact Hd.lk_check_places _)
    (case z69_o=>k_is)
    (case z70_k=>k_is)
    (case z71_a=>k_is)
    (case z72_l=>exact Hd.lk_stream _)
    (case z73_o=>k_is)
    (case z74_k=>k_is)
    (case z75_a=>k_is)
    (case z76_l=>exact Hd.lk_hardness_of _)
    (case z77_o=>k_is)
    (case z78_k=>k_is)
    (case z79_a=>k_is)
    (case z80_l=>exact Hd.lk_chance _)
    (case z81_o=>k_is)
    (case z82_k=>k_is)
    (case z83_a=>k_is)
    (case z84_l=>exact Hd.lk_share _)
    (case z85_o=>k_is)
    (case z86_k=>k_is)
    (case z87_a=>k_is)
    (case z88_l=>exact Hd.lk_without_pipe _)
    (case z89_o=>k_is)
    (case z90_k=>k_is)
    (case z91_a=>k_is)
    (case z92_l=>exact Hd.lk_are_fractions _)
    (case z93_o=>k_is)
    (case z94_k=>k_is)
    (case z95_a=>k_is)
    (case z96_l=>exact Hd.lk_check_flows _)
    (case z97_o=>k_is)
    (case z98_k=>k_is)
    (case z99_a=>k_is)
    (case z100_l=>exact Hd.lk_heat _)
    (case z101_o=>k_is)
    (case z102_k=>k_is)
    (case z103_a=>k_is)
    (case z104_l=>exact Hd.lk_sums_of _)
    (case z105_o=>k_is)
    (case z106_k=>k_is)
    (case z107_a=>k_is)
    (case z108_l=>exact Hd.lk_made _)
    (case z109_o=>k_is)
    (case z110_k=>k_is)
    (case z111_a=>k_is)
    (case z112_l=>exact Hd.lk_plus _)
    (case z113_o=>k_is)
    (case z114_k=>k_is)
    (case z115_a=>k_is)
    (case z116_l=>exact Hd.lk_minus _)
    (case z117_o=>k_is)
    (case z118_k=>k_is)
    (case z119_a=>k_is)
    (case z120_l=>exact Hd.lk_times _)
    (case z121_o=>k_is)
    (case z122_k=>k_is)
    (case z123_a=>k_is)
    (case z124_l=>exact Hd.lk_over _)
    (case z125_o=>k_is)
    (case z126_k=>k_is)
    (case z127_a=>k_is)
    (case z128_l=>exact Hd.lk_total _)
    (case z129_o=>k_is)
    (case z130_k=>k_is)
    (case z131_a=>k_is)
    (case z132_l=>exact Hd.lk_ease_between _)
    (case z133_o=>k_is)
    (case z134_k=>k_is)
    (case z135_a=>k_is)
    (case z136_l=>exact Hd.lk_ease_at _)
    (case z137_o=>k_is)
    (case z138_k=>k_is)
    (case z139_a=>k_is)
    (case z140_l=>exact Hd.lk_ease_by_way_of _)
    (case z141_o=>k_is)
    (case z142_k=>k_is)
    (case z143_a=>k_is)
    (case z144_l=>exact Hd.lk_ease_without _)
    (case z145_o=>k_is)
    (case z146_k=>k_is)
    (case z147_a=>k_is)
    (case z148_l=>exact Hd.lk_pairs _)
    (case z149_o=>k_is)
    (case z150_k=>k_is)
    (case z151_a=>k_is)
    (case z152_l=>exact Hd.lk_net_of_eases _)
    (case z153_o=>k_is)
    (case z154_k=>k_is)
    (case z155_a=>k_is)
    (case z156_l=>exact Hd.lk_slim _)
    (case z157_o=>k_is)
    (case z158_k=>k_is)
    (case z159_a=>k_is)
    (case z160_l=>exact Hd.lk_taken_out _)
    (case z161_o=>k_is)
    (case z162_k=>k_is)
    (case z163_a=>k_is)
    (case z164_l=>exact Hd.lk__law_sort _)
    (case z165_o=>k_is)
    (case z166_k=>k_is)
    (case z167_a=>k_is)
    (case z168_l=>exact Hd.lk_with_pipe _)
    (case z169_o=>k_is)
    (case z170_k=>k_is)
    (case z171_a=>k_is)
    (case z172_l=>exact Hd.lk__law_ask _)
    (case z173_o=>k_is)
    (case z174_k=>k_is)
    (case z175_a=>k_is)
    (case z176_l=>exact Hd.lk__law_net _)
    (case z177_o=>k_is)
    (case z178_k=>k_is)
    (case z179_a=>k_is)
    (case z180_l=>exact Hd.lk__law_told _)
    (case z181_o=>k_is)
    (case z182_k=>k_is)
    (case z183_a=>k_is)
    (case z184_l=>exact Hd.lk__law_asked _)
    (case z185_o=>k_is)
    (case z186_k=>k_is)
    (case z187_a=>k_is)
    (case z188_l=>exact Hd.lk__law_come _)
    (case z189_o=>k_is)
    (case z190_k=>k_is)
    (case z191_a=>k_is)
    (case z192_l=>exact Hd.lk__law_cell_at _)
    (case z193_o=>k_is)
    (case z194_k=>k_is)
    (case z195_a=>k_is)
    (case z196_l=>exact Hd.lk_law _)
    (case z197_o=>k_is)
    (case z198_k=>k_is)
    (case z199_isinstance=>k_is)
    (case z200_int=>k_is)
    (case z201_bool=>k_is)
    (case z202_abs=>k_is)
    (case z203_len=>k_is)
    (case z204_tuple=>k_is)
    (case z205_list=>k_is)
    (case z206_min=>k_is)
    (case z207_max=>k_is)
    (case z208_range=>k_is)
    (case z209_all=>k_is)
    (case z210_sorted=>k_is)
    (case z211_enumerate=>k_is)
    (case z212_reversed=>k_is)
    (case z213_zip=>k_is)
    (case z214_sum=>k_is)
    (case z215_any=>k_is)
    (case z216_ValueError=>k_is)
    (case z217_MOST_PLACES=>k_is)
    (case z218_MOST_PIPES=>k_is)
    (case z219_MOST_IN_HARDNESS=>k_is)
    (case z220_pg=>k_is)
    (case z221_hd=>k_is)
    (case z222_po=>k_is)
    (case z223_sa=>k_is)
    (case z224_nsize=>k_is)
    (case z225_nlaid=>k_is)
    (case z226_exc=>k_exc)
    (case z228_exc=>k_exc)
    (case z230_exc=>k_exc)
    (case z232_exc=>k_exc)
    (case z234_mk=>k_is)
    (case z235_kc=>k_is)
    (case z240_e1=>kernel_rfl)
    (case z241_e2=>k_is)
    (case z242_e3=>k_is)
    (case z243_e4=>k_is)
    (case z244_e5=>k_is)
    (case z245_e6=>k_is)
    (case z246_e7=>k_is)
    (case z247_e8=>k_is)
    (case z248_i=>kit_is)
    (case z249_i=>kit_is)
    (case z250_i=>kit_is)
    (case z251_i=>kit_is)
    (case z252_i=>kit_is)
    (case z253_i=>kit_is)
    (case z254_i=>kit_is)
    (case z255_x=>kts_exm)
    (case z256_e1=>kernel_rfl)
    (case z257_e2=>k_is)
    (case z258_e3=>k_is)
    (case z259_e4=>k_is)
    (case z260_e7=>k_is)
    (case z261_e8=>k_is)
    (case z262_i=>kit_is)
    (case z263_i=>kit_is)
    (case z264_i=>kit_is)
    (case z265_i=>kit_is)
    (case z266_i=>kit_is)
    (case z267_i=>kit_is)
    (case z268_i=>kit_is)
    (case z269_x=>kts_exm)
    (case z270_e1=>kernel_rfl)
    (case z271_e2=>k_is)
    (case z272_e3=>k_is)
    (case z273_e4=>k_is)
    (case z274_e7=>k_is)
    (case z275_e8=>k_is)
    (case z276_i=>kit_is)
    (case z277_i=>kit_is)
    (case z278_i=>kit_is)
    (case z279_i=>kit_is)
    (case z280_i=>kit_is)
    (case z281_i=>kit_is)
    (case z282_i=>kit_is)
    (case z283_x=>kts_exm)
    (case z284_e1=>kernel_rfl)
    (case z285_e2=>k_is)
    (case z286_e3=>k_is)
    (case z287_e4=>k_is)
    (case z288_e7=>k_is)
    (case z289_e8=>k_is)
    (case z290_i=>kit_is)
    (case z291_i=>kit_is)
    (case z292_i=>kit_is)
    (case z293_i=>kit_is)
    (case z294_i=>kit_is)
    (case z295_i=>kit_is)
    (case z296_i=>kit_is)
    (case z297_x=>kts_exm)
