import PyProof.Rows.All
import Wide.All
import OpenK.AllK
import Wide.FinOn
import Lean
import PyProof.EqAt
import PyProof.EqKinds
import PyProof.TupleCall
import PySem.Challenge.RW_splitstream_k08_whole_taken_out
set_option Elab.async false
set_option linter.all false
set_option maxRecDepth 100000
set_option maxHeartbeats 4000000
set_option exponentiation.threshold 10000
namespace L2
open PySem PySem.Spec PyProof.Rows
abbrev Key:=Sum Int Str
def keyIs:Key→Value→Bool
 | .inl k,v=>Value.isInt k v
 | .inr x,v=>Value.isStrOf x v
def keyH (w:World):Key→Int
 | .inl k=>hashInt k
 | .inr x=>hashStr w x
theorem keyIs_shape:∀ {k:Key} {v:Value},keyIs k v=true→(∃ i t,k=Sum.inl i∧v=Value.int i t)∨(∃ x t,k=Sum.inr x∧v=Value.str x t)
 | .inl i,v,h=>by
  obtain ⟨t,e⟩:=Value.isInt_shape (k:=i) (v:=v) h
  exact .inl ⟨i,t,rfl,e⟩
 | .inr x,v,h=>by
  obtain ⟨t,e⟩:=Value.isStrOf_shape (x:=x) (v:=v) h
  exact .inr ⟨x,t,rfl,e⟩
theorem keyIs_int (i:Int) (t:Tok):keyIs (.inl i) (.int i t)=true:=by simp [keyIs,Value.isInt]
theorem keyIs_str (x:Str) (t:Tok):keyIs (.inr x) (.str x t)=true:=by simp [keyIs,Value.isStrOf]
theorem key_ll (a b:Int):decide ((Sum.inl a:Key)=Sum.inl b)=(a==b):=by
 by_cases e:a=b
 ·subst e;simp
 ·have h:¬ (Sum.inl a:Key)=Sum.inl b:=fun q=>e (Sum.inl.inj q)
  rw [decide_eq_false h]
  exact (beq_eq_false_iff_ne.mpr e).symm
theorem key_rr (a b:Str):decide ((Sum.inr a:Key)=Sum.inr b)=decide (a=b):=by
 by_cases e:a=b
 ·subst e;simp
 ·have h:¬ (Sum.inr a:Key)=Sum.inr b:=fun q=>e (Sum.inr.inj q)
  rw [decide_eq_false h,decide_eq_false e]
theorem key_lr (a:Int) (b:Str):decide ((Sum.inl a:Key)=Sum.inr b)=false:=decide_eq_false (fun q=>nomatch q)
theorem key_rl (a:Str) (b:Int):decide ((Sum.inr a:Key)=Sum.inl b)=false:=decide_eq_false (fun q=>nomatch q)
def mixKind (prog:Program) (w:World):PySem.KeyKind prog w Key where
 is:=keyIs
 hash:=keyH w
 inj:=fun v a b ha hb=>by
  rcases keyIs_shape ha with ⟨i,t,rfl,rfl⟩ | ⟨x,t,rfl,rfl⟩
  ·rcases keyIs_shape hb with ⟨j,u,rfl,e⟩ | ⟨y,u,rfl,e⟩
   ·injection e with e1 _;rw [e1]
   ·exact nomatch e
  ·rcases keyIs_shape hb with ⟨j,u,rfl,e⟩ | ⟨y,u,rfl,e⟩
   ·exact nomatch e
   ·injection e with e1 _;rw [e1]
 byValue:=fun k v h=>by
  rcases keyIs_shape h with ⟨i,t,rfl,rfl⟩ | ⟨x,t,rfl,rfl⟩ <;> rfl
 pyHash:=fun hv h=>by
  rcases keyIs_shape hv with ⟨i,t,rfl,rfl⟩ | ⟨x,t,rfl,rfl⟩
  ·exact wpAny_pyHash_int h
  ·exact wpAny_pyHash_str h
 eqBool:=fun hu hv h=>by
  rcases keyIs_shape hu with ⟨i,t,rfl,rfl⟩ | ⟨x,t,rfl,rfl⟩
  ·rcases keyIs_shape hv with ⟨j,u,rfl,rfl⟩ | ⟨y,u,rfl,rfl⟩
   ·rw [key_ll] at h;exact wpAny_eqBool_int h
   ·rw [key_lr] at h;exact SeqAt.EqAt.int_str i t y u _ _ _ _ h
  ·rcases keyIs_shape hv with ⟨j,u,rfl,rfl⟩ | ⟨y,u,rfl,rfl⟩
   ·rw [key_rl] at h;exact SeqAt.EqAt.str_int x t j u _ _ _ _ h
   ·rw [key_rr] at h;exact wpAny_eqBool_str h
 «strs»:=fun k x t v h=>by
  rcases keyIs_shape h with ⟨i,u,rfl,e⟩ | ⟨y,u,rfl,e⟩
  ·exact nomatch e
  ·injection e with e1 _
   subst e1
   cases v <;> rfl
theorem mixKind_int (prog:Program) (w:World) (i:Int) (t:Tok):(mixKind prog w).is (.inl i) (.int i t)=true:=keyIs_int i t
theorem mixKind_str (prog:Program) (w:World) (x:Str) (t:Tok):(mixKind prog w).is (.inr x) (.str x t)=true:=keyIs_str x t
end L2
namespace L2
open PySem PySem.Spec PyProof.Rows
inductive V where
 | non | bl (b:Bool) | int (i:Int) | str (x:Str) | byt (b:Array UInt8) | flt (b:UInt64) | ref (a:Addr) | ty (n:String)
 deriving DecidableEq
def RelV:V→Value→Prop
 | .non,u=>u=Value.none
 | .bl b,u=>u=Value.bool b
 | .int i,u=>∃ t,u=Value.int i t
 | .str x,u=>∃ t,u=Value.str x t
 | .byt b,u=>∃ t,u=Value.bytes b t
 | .flt b,u=>∃ t,u=Value.float b t
 | .ref a,u=>u=Value.ref a
 | .ty n,u=>u=Value.type n
abbrev Vals:List V→List Value→Prop:=Paired RelV
theorem Vals.length {xs:List V} {us:List Value} (r:Vals xs us):xs.length=us.length:=Paired.length r
theorem Vals.get:∀ {xs:List V} {us:List Value} {i:Nat} {x:V},Vals xs us→xs[i]? = some x→∃ u,us[i]? = some u∧RelV x u
 | _,_,_,_,.nil,e=>by simp at e
 | _,_,0,_,.cons r _,e=>by simp at e;subst e;exact ⟨_,rfl,r⟩
 | _,_,i+1,x,.cons _ t,e=>by
  obtain ⟨u,h1,h2⟩:=Vals.get (i:=i) (x:=x) t (by simpa using e)
  exact ⟨u,by simpa using h1,h2⟩
theorem Vals.set {x:V} {u:Value} (r:RelV x u):∀ {xs:List V} {us:List Value} (i:Nat),Vals xs us→Vals (xs.set i x) (us.set i u)
 | _,_,_,.nil=>.nil
 | _,_,0,.cons _ t=>.cons r t
 | _,_,i+1,.cons q t=>.cons q (Vals.set r i t)
theorem Vals.append:∀ {xs ys:List V} {us ws:List Value},Vals xs us→Vals ys ws→Vals (xs++ys) (us++ws)
 | _,_,_,_,.nil,s=>s
 | _,_,_,_,.cons r t,s=>.cons r (Vals.append t s)
def RelO:Option V→Option Value→Prop
 | some v,some u=>RelV v u
 | none,none=>True
 | _,_=>False
def KV {κ:Type}:List (κ×V)→List (κ×Value)→Prop:=Paired fun (p:κ×V) (q:κ×Value)=>p.1=q.1∧RelV p.2 q.2
def kV:Key→V
 | .inl i=>.int i
 | .inr x=>.str x
inductive HO where
  | lst (xs:List V)
  | tup (xs:List V)
  | dK (kvs:List (Key×V)) | dT (kvs:List (List Key×V))
  | set (S:Int→Bool) (n:Nat)
  | ins (C dx:Addr) (fs:List (Str×V))
  | own (x:Addr)
  | xd (fs:List (Str×V))
  | met (f x:Addr)
  | rng (lo hi:Int)
  | frz (o:Obj) (u:HO)
  | tbl (ps:Array Value)
  | ext (φ:Heap→Prop)
abbrev Hp:=Addr→Option HO
def upd (H:Hp) (a:Addr) (o:HO):Hp:=fun b=>if b=a then some o else H b
theorem upd_same {H:Hp} {a:Addr} {o:HO}:upd H a o a=some o:=by unfold upd;rw [if_pos rfl]
theorem upd_ne {H:Hp} {a b:Addr} {o:HO} (h:b≠a):upd H a o b=H b:=by unfold upd;rw [if_neg h]
theorem ne_of {H:Hp} {a b:Addr} {o u:HO} (h:H a=some o) (h':H b=some u) (d:o≠u):a≠b:=by
 intro e;subst e;rw [h] at h';exact d (Option.some.inj h')
theorem ne_of_none {H:Hp} {a b:Addr} {o:HO} (h:H a=some o) (h':H b=none):a≠b:=by
 intro e;subst e;rw [h] at h';cases h'
section
variable (P:Program) (w:World)
def ObjOk (H:Hp) (h:Heap) (a:Addr):HO→Prop
 | .lst xs=>xs.length≤sizeLine∧∃ (its:List Value) (n:Nat),Vals xs its∧h.get? a=some { cls:=.type "list",data:=.seq its.toArray n }
 | .tup xs=>xs.length≤sizeLine∧∃ its:List Value,Vals xs its∧IsTup h a its.toArray
 | .dK kvs=>kvs.length≤sizeLine∧(a==sysModules)=false∧∃ vs,KV kvs vs∧h.DictOf (mixKind P w) a vs
 | .dT kvs=>kvs.length≤sizeLine∧(a==sysModules)=false∧∃ xs:List (List Key×Addr×Value),
   Paired (fun (p:List Key×V) (q:List Key×Addr×Value)=>p.1=q.1∧H q.2.1=some (.tup (p.1.map kV))∧RelV p.2 q.2.2) kvs xs ∧
   ∃ o es ep,h.get? a=some o∧o.ExactDict∧o.data=.dict es ep∧es.toList=xs.map (entryOfKey (tupleKind (mixKind P w)))∧(xs.map (·.1)).Nodup
 | .set S n=>h.SetOf (intKind P w) a S n
 | .ins C dx fs=>H dx=some (.own a)∧fs.length≤1000∧dx≠a∧h.get? a=some (PySem.W.instObj C dx) ∧
   ∃ mA,h.Ns1 dx mA∧(∀ f,RelO (fs.lookup f) (mA f))∧PySem.Within mA (fs.map (·.1))
 | .own _=>∃ o,h.get? a=some o
 | .xd fs=>∃ mA,h.Ns1 a mA∧∀ f,RelO (fs.lookup f) (mA f)
 | .rng lo hi=>∃ t u v,h.get? a=some { cls:=.type "range",data:=.fields #[.int lo t,.int hi u,.int 1 v] }
 | .frz o u=>h.get? a=some o∧ObjOk H h a u
 | .tbl ps=>h.get? a=some { cls:=.none,data:=.fields ps }
 | .met f x=>h.get? a=some (PySem.W.methodObj (.ref f) (.ref x))
 | .ext φ=>φ h∧(∃ o,h.get? a=some o)∧∀ h1 h2:Heap,φ h1→(∀ o,h1.get? a=some o→h2.get? a=some o)→φ h2
def HOk (H:Hp) (h:Heap):Prop:=∀ a o,H a=some o→ObjOk P w H h a o
end
section
variable {P:Program} {w:World} {H H':Hp} {h h':Heap} {a:Addr} {o:HO}
theorem ObjOk.lt (x:ObjOk P w H h a o):a<h.objs.size:=by
 cases o with
 | lst xs=>obtain ⟨_,_,_,_,e⟩:=x;exact Heap.lt_size e
 | tup xs=>obtain ⟨_,_,_,p⟩:=x;exact p.lt
 | dK kvs=>obtain ⟨_,_,_,_,o,_,_,e,_⟩:=x;exact Heap.lt_size e
 | dT kvs=>obtain ⟨_,_,_,_,o,_,_,e,_⟩:=x;exact Heap.lt_size e
 | set S n=>obtain ⟨o,_,_,_,e,_⟩:=x;exact Heap.lt_size e
 | ins C dx fs=>obtain ⟨_,_,_,e,_⟩:=x;exact Heap.lt_size e
 | own y=>obtain ⟨_,e⟩:=x;exact Heap.lt_size e
 | xd fs=>obtain ⟨_,⟨_,_,_,e,_⟩,_⟩:=x;exact Heap.lt_size e
 | rng lo hi=>obtain ⟨_,_,_,e⟩:=x;exact Heap.lt_size e
 | frz ob u=>obtain ⟨e,_⟩:=x;exact Heap.lt_size e
 | tbl ps=>exact Heap.lt_size (show h.get? a=some _ from x)
 | met f y=>exact Heap.lt_size (show h.get? a=some _ from x)
 | ext φ=>obtain ⟨_,⟨_,e⟩,_⟩:=x;exact Heap.lt_size e
theorem Paired.mapP {α β:Type} {F G:α→β→Prop}:∀ {l₁:List α} {l₂:List β},Paired F l₁ l₂→(∀ a b,F a b→G a b)→Paired G l₁ l₂
 | _,_,.nil,_=>.nil
 | _,_,.cons r t,f=>.cons (f _ _ r) (Paired.mapP t f)
theorem ObjOk.stay (x:ObjOk P w H h a o) (k:∀ b u,(b=a∨H b=some (.own a))→h.get? b=some u→h'.get? b=some u)
  (ho:∀ b,H b=some (.own a)→H' b=some (.own a)) (ht:∀ b xs,H b=some (.tup xs)→H' b=some (.tup xs)):ObjOk P w H' h' a o:=by
 induction o with
 | lst xs=>obtain ⟨z,its,n,r,e⟩:=x;exact ⟨z,its,n,r,k _ _ (.inl rfl) e⟩
 | tup xs=>obtain ⟨z,its,r,ob,e,c⟩:=x;exact ⟨z,its,r,ob,k _ _ (.inl rfl) e,c⟩
 | dK kvs=>obtain ⟨z,y,vs,r,ob,es,ep,e,c⟩:=x;exact ⟨z,y,vs,r,ob,es,ep,k _ _ (.inl rfl) e,c⟩
 | dT kvs =>
  obtain ⟨z,y,xs,r,ob,es,ep,e,c⟩:=x
  exact ⟨z,y,xs,Paired.mapP r fun p q z=>⟨z.1,ht _ _ z.2.1,z.2.2⟩,ob,es,ep,k _ _ (.inl rfl) e,c⟩
 | set S n=>obtain ⟨ob,es,ep,t,e,c⟩:=x;exact ⟨ob,es,ep,t,k _ _ (.inl rfl) e,c⟩
 | ins C dx fs =>
  obtain ⟨d,z,ne,e,mA,⟨od,es,ep,e2,c⟩,r⟩:=x
  exact ⟨ho _ d,z,ne,k _ _ (.inl rfl) e,mA,⟨od,es,ep,k _ _ (.inr d) e2,c⟩,r⟩
 | own y=>obtain ⟨ob,e⟩:=x;exact ⟨ob,k _ _ (.inl rfl) e⟩
 | xd fs=>obtain ⟨mA,⟨od,es,ep,e,c⟩,r⟩:=x;exact ⟨mA,⟨od,es,ep,k _ _ (.inl rfl) e,c⟩,r⟩
 | rng lo hi=>obtain ⟨t,u,v,e⟩:=x;exact ⟨t,u,v,k _ _ (.inl rfl) e⟩
 | frz ob u ih=>obtain ⟨e,q⟩:=x;exact ⟨k _ _ (.inl rfl) e,ih q⟩
 | tbl ps =>
  have e:h.get? a=some { cls:=.none,data:=.fields ps }:=x
  show h'.get? a=some { cls:=.none,data:=.fields ps }
  exact k a _ (.inl rfl) e
 | met f y =>
  have e:h.get? a=some (PySem.W.methodObj (.ref f) (.ref y)):=x
  show h'.get? a=some (PySem.W.methodObj (.ref f) (.ref y))
  exact k a _ (.inl rfl) e
 | ext φ=>obtain ⟨p,⟨o,e⟩,st⟩:=x;exact ⟨st _ _ p fun o q=>k _ _ (.inl rfl) q,⟨o,k _ _ (.inl rfl) e⟩,st⟩
theorem HOk.lt (x:HOk P w H h) (e:H a=some o):a<h.objs.size:=(x a o e).lt
theorem HOk.fresh (x:HOk P w H h) (e:h.objs.size≤a):H a=none:=by
 cases q:H a with
 | none=>rfl
 | some u=>exact absurd (Nat.lt_of_lt_of_le (x.lt q) e) (Nat.lt_irrefl _)
theorem HOk.kept (x:HOk P w H h) (k:∀ b u,h.get? b=some u→h'.get? b=some u):HOk P w H h':=fun a o e =>
 (x a o e).stay (fun b u _ q=>k b u q) (fun _ q=>q) fun _ _ q=>q
theorem HOk.laid (x:HOk P w H h) (k:∀ b u,h.get? b=some u→h'.get? b=some u) (hp:h.objs.size≤a) (new:ObjOk P w (upd H a o) h' a o):HOk P w (upd H a o) h':=fun b u e=>by
 have hn:=x.fresh hp
 by_cases hb:b=a
 ·subst hb;rw [upd_same] at e;cases e;exact new
 ·rw [upd_ne hb] at e
  exact (x b u e).stay (fun c v _ q=>k c v q) (fun c q=>by rw [upd_ne (ne_of_none q hn)];exact q) fun c xs q=>by rw [upd_ne (ne_of_none q hn)];exact q
end
def Rd (H:Hp) (a:Addr) (u:HO):Prop:=H a=some u∨∃ o,H a=some (.frz o u)
theorem Rd.ok {P:Program} {w:World} {H:Hp} {h:Heap} {a:Addr} {u:HO} (r:Rd H a u) (x:HOk P w H h):ObjOk P w H h a u:=by
 rcases r with r | ⟨o,r⟩
 ·exact x a u r
 ·obtain ⟨_,q⟩:=x a _ r
  exact q
def Mut:Option HO→Prop
 | some (.lst _)=>True
 | some (.dK _)=>True
 | some (.dT _)=>True
 | some (.set _ _)=>True
 | some (.ins _ _ _)=>True
 | some (.ext _)=>True
 | _=>False
section
variable {P:Program} {w:World} {H:Hp} {h h':Heap} {x e:Addr} {o':HO}
theorem HOk.write (ok:HOk P w H h) (mu:Mut (H x)) (he:e=x∨H e=some (.own x)) (k:∀ b u,b≠e→h.get? b=some u→h'.get? b=some u) (heo:∃ u,h'.get? e=some u)
  (new:ObjOk P w (upd H x o') h' x o'):HOk P w (upd H x o') h':=fun b u q=>by
 have nown:∀ c y,H c=some (.own y)→c≠x:=fun c y r z=>by subst z;rw [r] at mu;exact mu
 have ntup:∀ c xs,H c=some (.tup xs)→c≠x:=fun c xs r z=>by subst z;rw [r] at mu;exact mu
 by_cases hb:b=x
 ·subst hb;rw [upd_same] at q;cases q;exact new
 ·rw [upd_ne hb] at q
  by_cases hbe:b=e
  ·have q':H b=some (.own x):=by
    rcases he with z | z
    ·exact absurd (hbe.trans z) hb
    ·rw [hbe];exact z
   rw [q] at q';cases q'
   obtain ⟨v,hv⟩:=heo
   exact ⟨v,by rw [hbe];exact hv⟩
  ·refine (ok b u q).stay (fun c v hc r=>k c v ?_ r) (fun c r=>by rw [upd_ne (nown c b r)];exact r) fun c xs r=>by rw [upd_ne (ntup c xs r)];exact r
   rcases hc with rfl | hc
   ·exact hbe
   ·rintro rfl
    rcases he with z | z
    ·exact nown c b hc z
    ·rw [hc] at z;cases z;exact hb rfl
end
structure Un (fs ex:List Addr) (H H':Hp) (h h':Heap):Prop where
 keep:∀ b o,h.get? b=some o→H b=none→b∉fs→b∉ex→h'.get? b=some o
 slot:∀ b o,h.get? b=some o→H b=none→b∈fs→b∉ex→∃ sl,h'.get? b=some { o with slots:=sl }
 free:∀ b o,h.get? b=some o→H b=none→b∉ex→H' b=none
 there:∀ b o,h.get? b=some o→b∉ex→∃ o',h'.get? b=some o'
 tups:∀ b xs,H b=some (.tup xs)→H' b=some (.tup xs)
 frzs:∀ b o u,H b=some (.frz o u)→H' b=some (.frz o u)
 tbls:∀ b ps,H b=some (.tbl ps)→∃ more,H' b=some (.tbl (ps++more))
section
variable {fs fs' ex ex':List Addr} {H H1 H2:Hp} {h h1 h2 h':Heap} {a x e:Addr} {o:HO}
theorem Un.any (u:Un fs ex H H1 h h1) {b:Addr} {ob:Obj} (q:h.get? b=some ob) (n:H b=none) (hx:b∉ex):∃ sl,h1.get? b=some { ob with slots:=sl }:=by
 by_cases hb:b∈fs
 ·exact u.slot b ob q n hb hx
 ·exact ⟨ob.slots,u.keep b ob q n hb hx⟩
theorem Un.kept (k:∀ b u,h.get? b=some u→h'.get? b=some u):Un fs ex H H h h' :=
 ⟨fun b ob q _ _ _=>k b ob q,fun b ob q _ _ _=>⟨ob.slots,k b ob q⟩,fun _ _ _ n _=>n,fun b ob q _=>⟨ob,k b ob q⟩,fun _ _ q=>q,fun _ _ _ q=>q,fun _ ps q=>⟨#[],by rw [q];simp⟩⟩
theorem Un.refl:Un fs ex H H h h:=Un.kept fun _ _ q=>q
theorem Un.laid (k:∀ b u,h.get? b=some u→h'.get? b=some u) (hp:h.objs.size≤a) (hn:H a=none):Un fs ex H (upd H a o) h h' where
 keep:=fun b u q _ _ _=>k b u q
 slot:=fun b u q _ _ _=>⟨u.slots,k b u q⟩
 free:=fun b u q n _=>by rw [upd_ne (Nat.ne_of_lt (Nat.lt_of_lt_of_le (Heap.lt_size q) hp))];exact n
 there:=fun b u q _=>⟨u,k b u q⟩
 tups:=fun b xs q=>by rw [upd_ne (ne_of_none q hn)];exact q
 frzs:=fun b u xs q=>by rw [upd_ne (ne_of_none q hn)];exact q
 tbls:=fun b ps q=>⟨#[],by rw [upd_ne (ne_of_none q hn),q];simp⟩
theorem Un.write (mu:Mut (H x)) (he:e=x∨H e=some (.own x)) (k:∀ b u,b≠e→h.get? b=some u→h'.get? b=some u) (heo:∃ u,h'.get? e=some u):Un fs ex H (upd H x o) h h':=by
 have hx:∀ b,H b=none→b≠x:=fun b n z=>by subst z;rw [n] at mu;exact mu
 have hb:∀ b,H b=none→b≠e:=fun b n z=>by
  subst z
  rcases he with r | r
  ·exact hx b n r
  ·rw [n] at r;cases r
 have hm:∀ b u,H b=some u→¬ Mut (some u)→b≠x:=fun b u q nm z=>by subst z;rw [q] at mu;exact nm mu
 refine ⟨fun b u q n _ _=>k b u (hb b n) q,fun b u q n _ _=>⟨u.slots,k b u (hb b n) q⟩,fun b u q n _=>by rw [upd_ne (hx b n)];exact n,fun b u q _=>?_,
  fun b xs q=>by rw [upd_ne (hm b _ q fun z=>z)];exact q,fun b u xs q=>by rw [upd_ne (hm b _ q fun z=>z)];exact q,fun b ps q=>⟨#[],by rw [upd_ne (hm b _ q fun z=>z),q];simp⟩⟩
 by_cases hbe:b=e
 ·subst hbe;exact heo
 ·exact ⟨u,k b u hbe q⟩
end
def trk (h:Heap) (H:Hp):List Addr:=(List.range h.objs.size).filter fun a=>(H a).isSome
def hidT (h:Heap) (H:Hp):Heap:=PySem.W.hideAll h (trk h H)
theorem hidT_size (h:Heap) (H:Hp):(hidT h H).objs.size=h.objs.size:=PySem.W.hideAll_size _ _
theorem hidT_get {h:Heap} {H:Hp} {b:Addr} {o:Obj} (e:h.get? b=some o) (n:H b=none):(hidT h H).get? b=some o :=
 PySem.W.hideAll_get _ e fun hm=>by
  have q:(H b).isSome=true:=(List.mem_filter.mp hm).2
  rw [n] at q;simp at q
theorem of_hidT {h:Heap} {H:Hp} {b:Addr} {o:Obj} (e:(hidT h H).get? b=some o):h.get? b=some o∧H b=none:=by
 have e':h.get? b=some o:=PySem.W.of_hideAll (trk h H) e
 refine ⟨e',?_⟩
 cases q:H b with
 | none=>rfl
 | some x =>
  have hm:b∈trk h H:=List.mem_filter.mpr ⟨List.mem_range.mpr (Heap.lt_size e'),by simp [q]⟩
  have z:(hidT h H).get? b=none:=PySem.W.hideAll_none (trk h H) hm
  rw [z] at e;cases e
end L2
namespace L2
open PySem PySem.Spec PyProof.Rows
structure Mod (K:PySem.W.Frag) (mg:Str→Option Value) (base:Heap):Prop where
 kin:K.In base
 glob:base.Ns mainGlobals mg
 blt:∃ mb,base.Ns builtinsNs mb∧∀ x:Str,x≠"__name__"→mb x=bootBuiltins x
 nolimit:base.NoLimit
structure Cx where
 prog:Program
 w:World
 K:PySem.W.Frag
 mg:Str→Option Value
 base:Heap
 A:Around
 N:List Str
 s₀:Shared
 H₀:Hp
 env:Env
 outer:List Env
 stack:List Env
 ex:List Addr
 fn:Str→Bool
 calm:Bool
 pn:List (Addr×Obj)
 xe:Value→Shared→Prop
def frs (l:List Env):List Addr:=l.filterMap (·.frame)
abbrev Cx.fs (X:Cx):List Addr:=frs X.outer
def Vis (sc:Scope) (x:Str):Prop:=sc.names.lookup x=some .local∨sc.names.lookup x=some .cell∨sc.names.lookup x=some .free
def Loc (sc:Scope) (x:Str):Prop:=sc.names.lookup x=some .local∨sc.names.lookup x=some .cell
def Look (env:Env) (h:Heap) (m:Str→Option Value) (x:Str) (u:Value):Prop :=
 (env.kindOf x=some .local∧m x=some u)∨((env.kindOf x=some .cell∨env.kindOf x=some .free)∧∃ c,env.cells.lookup x=some c∧h.IsCell c (some u))
structure Cx.Ok (X:Cx):Prop where
 mod:Mod X.K X.mg X.base
 kind:X.env.scope.kind=.function
 glob:X.env.globals=mainGlobals
 blt:X.env.builtins=builtinsNs
 above:X.s₀.heap.objs.size≤X.env.locals
 inj:∀ x y c,X.env.cells.lookup x=some c→X.env.cells.lookup y=some c→x=y
 has:∀ x,(X.env.kindOf x=some .cell∨X.env.kindOf x=some .free)→∃ c,X.env.cells.lookup x=some c
 cab:∀ x c,X.fn x=true→X.env.cells.lookup x=some c→X.s₀.heap.objs.size≤c
 hd:X.calm=true→X.A.handled=none
 frames:X.A.frames=some X.stack
 stk:X.stack=X.outer∨(X.stack=X.env::X.outer∧X.env.frame=some X.env.locals)
 exf:∀ b∈X.ex,b≠X.env.locals∧∀ x c,X.env.cells.lookup x=some c→c≠b
 bs:∀ b o,X.base.get? b=some o→X.s₀.heap.get? b=some o∧X.H₀ b=none
 bsz:X.base.objs.size≤X.s₀.heap.objs.size
 noex:∀ b o,X.base.get? b=some o→b∉X.ex
 exfs:∀ b∈X.ex,b∉X.fs
 funs:X.s₀.heap.FunFrames X.base X.outer
 frf:∀ b∈X.fs,X.H₀ b=none
structure Inv (X:Cx) (pins:List (Addr×Obj)) (σ:List (Option V)) (H:Hp) (s:Shared):Prop where
 ok:X.Ok
 os:s.os=X.s₀.os
 bare:AllBare s.gens
 base:Un X.fs X.ex X.H₀ H X.s₀.heap s.heap
 loc:∃ m,s.heap.Ns X.env.locals m∧∀ (i:Nat) (x:Str) (v:V),X.N[i]? = some x→σ[i]? = some (some v)→Vis X.env.scope x→∃ u,RelV v u∧Look X.env s.heap m x u
 cell:∀ x c,X.env.cells.lookup x=some c→∃ v,s.heap.IsCell c v
 free:H X.env.locals=none
 freeC:∀ x c,X.env.cells.lookup x=some c→H c=none
 pin:∀ p∈X.pn++pins,s.heap.get? p.1=some p.2∧H p.1=none∧p.1≠X.env.locals∧p.1∉X.fs∧∀ v,p.2.data≠.cell v
 hok:HOk X.prog X.w H s.heap
 len:σ.length=X.N.length
section
variable {X:Cx} {pins:List (Addr×Obj)} {σ:List (Option V)} {H H':Hp} {s:Shared} {h':Heap}
theorem Cx.Ok.nofr (ok:X.Ok) {b:Addr} {o:Obj} (e:X.base.get? b=some o):b∉X.fs:=fun hb=>by
 have:=(ok.funs.mem hb).1
 rw [e] at this;cases this
theorem Inv.bs (I:Inv X pins σ H s):∀ b o,X.base.get? b=some o→s.heap.get? b=some o∧H b=none:=fun b o e =>
 ⟨I.base.keep b o (I.ok.bs b o e).1 (I.ok.bs b o e).2 (I.ok.nofr e) (I.ok.noex b o e),I.base.free b o (I.ok.bs b o e).1 (I.ok.bs b o e).2 (I.ok.noex b o e)⟩
theorem Inv.bk (I:Inv X pins σ H s):∀ b o,X.base.get? b=some o→s.heap.get? b=some o:=fun b o e=>(I.bs b o e).1
theorem Inv.mod (I:Inv X pins σ H s):Mod X.K X.mg X.base:=I.ok.mod
theorem Inv.kIn (I:Inv X pins σ H s):X.K.In s.heap:=I.ok.mod.kin.keeps I.bk
theorem Inv.lt (I:Inv X pins σ H s):X.env.locals<s.heap.objs.size:=let ⟨_,hn,_⟩:=I.loc;hn.lt
theorem Inv.sz (I:Inv X pins σ H s):X.s₀.heap.objs.size≤s.heap.objs.size:=Nat.le_trans I.ok.above (Nat.le_of_lt I.lt)
theorem Inv.nofs (I:Inv X pins σ H s) {a:Addr} (h:s.heap.objs.size≤a):a∉X.fs:=fun hb=>by
 obtain ⟨_,o,ho,_⟩:=I.ok.funs.mem hb
 exact absurd (Nat.lt_of_lt_of_le (Heap.lt_size ho) (Nat.le_trans I.sz h)) (Nat.lt_irrefl _)
theorem Inv.cne (I:Inv X pins σ H s):∀ x c,X.env.cells.lookup x=some c→c≠X.env.locals:=fun x c e z=>by
 obtain ⟨v,o,ho,hd⟩:=I.cell x c e
 obtain ⟨m,⟨o',es,ep,ho',hd',_⟩,_⟩:=I.loc
 rw [z,ho'] at ho;cases ho;rw [hd'] at hd;cases hd
theorem Inv.funs (I:Inv X pins σ H s):s.heap.FunFrames X.base X.outer:=by
 have all:∀ (l:List Env),(∀ b∈frs l,b∈X.fs)→X.s₀.heap.FunFrames X.base l→s.heap.FunFrames X.base l:=by
  intro l
  induction l with
  | nil=>intro _ _;trivial
  | cons env r ih =>
   intro hs hl
   obtain ⟨hk,⟨L,o,hf,hn,ho,hd⟩,hr⟩:=hl
   have hL:L∈X.fs:=hs L (by unfold frs;rw [List.filterMap_cons,hf];exact List.mem_cons_self)
   obtain ⟨sl,e⟩:=I.base.slot L o ho (I.ok.frf L hL) hL fun z=>I.ok.exfs L z hL
   exact ⟨hk,⟨L,_,hf,hn,e,hd⟩,ih (fun b hb=>hs b (by unfold frs;rw [List.filterMap_cons,hf];exact List.mem_cons_of_mem _ hb)) hr⟩
 exact all X.outer (fun _ hb=>hb) I.ok.funs
theorem Inv.stack (I:Inv X pins σ H s):s.heap.FunFrames X.base X.stack:=by
 rcases I.ok.stk with e | ⟨e,hf⟩
 ·rw [e];exact I.funs
 ·rw [e]
  obtain ⟨m,hn,_⟩:=I.loc
  refine .cons (by rw [I.ok.kind];decide) hf hn ?_ I.funs
  exact Heap.get?_none_of_le (Nat.le_trans I.ok.bsz I.ok.above)
theorem Inv.stkSub (I:Inv X pins σ H s):∀ b∈frs X.stack,b∈X.env.locals::X.fs:=fun b hb=>by
 rcases I.ok.stk with e | ⟨e,hf⟩
 ·rw [e] at hb;exact List.mem_cons_of_mem _ hb
 ·rw [e] at hb
  unfold frs at hb
  rw [List.filterMap_cons,hf] at hb
  exact hb
theorem Inv.stkFree (I:Inv X pins σ H s):∀ b∈frs X.stack,H b=none:=fun b hb=>by
 rcases List.mem_cons.mp (I.stkSub b hb) with e | hb
 ·rw [e];exact I.free
 ·obtain ⟨_,o,ho,_⟩:=I.ok.funs.mem hb
  exact I.base.free b o ho (I.ok.frf b hb) fun z=>I.ok.exfs b z hb
theorem Inv.step {g':Array GenState} {t':Nat} {d':Drawn} {ch:List Addr} (I:Inv X pins σ H s)
  (hch:∀ b∈ch,(b∈X.ex∨X.s₀.heap.objs.size≤b)∧b≠X.env.locals∧(∀ x c,X.env.cells.lookup x=some c→c≠b)∧∀ p∈X.pn++pins,p.1≠b)
  (keep:∀ b o,b≠X.env.locals→b∉X.fs→b∉ch→s.heap.get? b=some o→H b=none→h'.get? b=some o)
  (slot:∀ b o,b≠X.env.locals→b∈X.fs→b∉ch→s.heap.get? b=some o→H b=none→∃ sl,h'.get? b=some { o with slots:=sl }) (free:∀ b o,b∉ch→s.heap.get? b=some o→H b=none→H' b=none)
  (there:∀ b o,b∉ch→s.heap.get? b=some o→∃ o',h'.get? b=some o')
  (tups:∀ b xs,H b=some (.tup xs)→H' b=some (.tup xs)) (frzs:∀ b o u,H b=some (.frz o u)→H' b=some (.frz o u)) (tbls:∀ b ps,H b=some (.tbl ps)→∃ more,H' b=some (.tbl (ps++more)))
  (ns:∀ m,s.heap.Ns X.env.locals m→h'.Ns X.env.locals m) (hok:HOk X.prog X.w H' h') (hg:AllBare g') :
  Inv X pins σ H' { s with heap:=h',gens:=g',drawn:=d',toks:=t' }:=by
 have neL:∀ b o,X.s₀.heap.get? b=some o→b≠X.env.locals:=fun b o e=>Nat.ne_of_lt (Nat.lt_of_lt_of_le (Heap.lt_size e) I.ok.above)
 have neC:∀ b o,X.s₀.heap.get? b=some o→b∉X.ex→b∉ch:=fun b o e hx hb=>by
  rcases (hch b hb).1 with z | z
  ·exact hx z
  ·exact absurd (Nat.lt_of_lt_of_le (Heap.lt_size e) z) (Nat.lt_irrefl _)
 have cellK:∀ x c,X.env.cells.lookup x=some c→∀ v,s.heap.IsCell c v→h'.IsCell c v:=fun x c e v ⟨o,ho,hd⟩=>by
  have nch:c∉ch:=fun z=>(hch c z).2.2.1 x c e rfl
  by_cases hc:c∈X.fs
  ·obtain ⟨sl,q⟩:=slot c o (I.cne x c e) hc nch ho (I.freeC x c e)
   exact ⟨_,q,hd⟩
  ·exact ⟨o,keep c o (I.cne x c e) hc nch ho (I.freeC x c e),hd⟩
 refine ⟨I.ok,I.os,hg,⟨fun b o e n hb hx=>?_,fun b o e n hb hx=>?_,fun b o e n hx=>?_,fun b o e hx=>?_,fun b xs e=>tups b xs (I.base.tups b xs e),fun b o xs e=>frzs b o xs (I.base.frzs b o xs e),fun b ps e=>?_⟩,?_,fun x c e=>?_,?_,fun x c e=>?_,fun p hp=>?_,hok,I.len⟩
 ·exact keep b o (neL b o e) hb (neC b o e hx) (I.base.keep b o e n hb hx) (I.base.free b o e n hx)
 ·obtain ⟨sl,e1⟩:=I.base.slot b o e n hb hx
  obtain ⟨sl',e2⟩:=slot b _ (neL b o e) hb (neC b o e hx) e1 (I.base.free b o e n hx)
  exact ⟨sl',e2⟩
 ·obtain ⟨o',e1⟩:=I.base.there b o e hx
  exact free b o' (neC b o e hx) e1 (I.base.free b o e n hx)
 ·obtain ⟨o',e1⟩:=I.base.there b o e hx
  exact there b o' (neC b o e hx) e1
 ·obtain ⟨m1,e1⟩:=I.base.tbls b ps e
  obtain ⟨m2,e2⟩:=tbls b _ e1
  exact ⟨m1++m2,by rw [e2,Array.append_assoc]⟩
 ·obtain ⟨m,hn,hl⟩:=I.loc
  refine ⟨m,ns m hn,fun i x v e1 e2 e3=>?_⟩
  obtain ⟨u,r,l⟩:=hl i x v e1 e2 e3
  refine ⟨u,r,?_⟩
  rcases l with l | ⟨k,c,e,z⟩
  ·exact .inl l
  ·exact .inr ⟨k,c,e,cellK x c e _ z⟩
 ·obtain ⟨v,z⟩:=I.cell x c e
  exact ⟨v,cellK x c e v z⟩
 ·obtain ⟨m,⟨o,_,_,ho,_⟩,_⟩:=I.loc
  exact free _ o (fun z=>(hch _ z).2.1 rfl) ho I.free
 ·obtain ⟨v,o,ho,hd⟩:=I.cell x c e
  exact free c o (fun z=>(hch c z).2.2.1 x c e rfl) ho (I.freeC x c e)
 ·obtain ⟨e,n,ne,nf,d⟩:=I.pin p hp
  have nch:p.1∉ch:=fun z=>(hch p.1 z).2.2.2 p hp rfl
  exact ⟨keep p.1 p.2 ne nf nch e n,free p.1 p.2 nch e n,ne,nf,d⟩
theorem Inv.un {t':Nat} (I:Inv X pins σ H s) (u:Un X.fs [] H H' s.heap h') (hok:HOk X.prog X.w H' h'):Inv X pins σ H' { s with heap:=h',toks:=t' }:=by
 obtain ⟨m,⟨o,es,ep,ho,r⟩,_⟩:=id I.loc
 obtain ⟨sl,hL⟩:=u.any ho I.free (by simp)
 exact I.step (g':=s.gens) (d':=s.drawn) (ch:=[]) (fun _ z=>nomatch z) (fun b o _ hb _ e n=>u.keep b o e n hb (by simp)) (fun b o _ hb _ e n=>u.slot b o e n hb (by simp)) (fun b o _ e n=>u.free b o e n (by simp)) (fun b o _ e=>u.there b o e (by simp)) u.tups u.frzs u.tbls (fun m' hm=>by
  obtain ⟨o',es',ep',ho',r'⟩:=hm
  rw [ho] at ho';cases ho'
  exact ⟨_,es',ep',hL,r'⟩) hok I.bare
theorem Inv.call {g':Array GenState} {t':Nat} {d':Drawn} {ch:List Addr} (I:Inv X pins σ H s) (u:Un (frs X.stack) ch H H' s.heap h') (hok:HOk X.prog X.w H' h') (hg:AllBare g')
  (hch:∀ b∈ch,(b∈X.ex∨X.s₀.heap.objs.size≤b)∧b≠X.env.locals∧(∀ x c,X.env.cells.lookup x=some c→c≠b)∧∀ p∈X.pn++pins,p.1≠b) :
  Inv X pins σ H' { s with heap:=h',gens:=g',drawn:=d',toks:=t' }:=by
 obtain ⟨m,⟨o,es,ep,ho,r⟩,_⟩:=id I.loc
 obtain ⟨sl,hL⟩:=u.any ho I.free fun z=>(hch _ z).2.1 rfl
 exact I.step (ch:=ch) hch (fun b o hL hb hc e n=>u.keep b o e n (fun z=>(List.mem_cons.mp (I.stkSub b z)).elim hL hb) hc) (fun b o _ _ hc e n=>u.any e n hc) (fun b o hc e n=>u.free b o e n hc) (fun b o hc e=>u.there b o e hc) u.tups u.frzs u.tbls (fun m' hm=>by
  obtain ⟨o',es',ep',ho',r'⟩:=hm
  rw [ho] at ho';cases ho'
  exact ⟨_,es',ep',hL,r'⟩) hok hg
theorem Inv.turned {t':Nat} {it:Addr} (I:Inv X pins σ H s) (k:∀ b o,b≠it→s.heap.get? b=some o→h'.get? b=some o) (hn:H it=none) (hL:it≠X.env.locals)
  (h1:it∈X.ex∨X.s₀.heap.objs.size≤it) (h2:∀ x c,X.env.cells.lookup x=some c→c≠it) (h3:∀ p∈X.pn++pins,p.1≠it):Inv X pins σ H { s with heap:=h',toks:=t' }:=by
 have nit:∀ b u,H b=some u→b≠it:=fun b u e z=>by rw [z,hn] at e;cases e
 refine I.step (g':=s.gens) (d':=s.drawn) (ch:=[it]) (fun b hb=>?_) (fun b o _ _ hc e _=>k b o (fun z=>hc (by simp [z])) e) (fun b o _ _ hc e _=>⟨o.slots,k b o (fun z=>hc (by simp [z])) e⟩) (fun _ _ _ _ n=>n)
  (fun b o hc e=>⟨o,k b o (fun z=>hc (by simp [z])) e⟩) (fun _ _ e=>e) (fun _ _ _ e=>e) (fun b ps e=>⟨#[],by rw [e];simp⟩) (fun m hm=>?_) (fun b u e=>?_) I.bare
 ·have e:b=it:=by simpa using hb
  subst e
  exact ⟨h1,hL,h2,h3⟩
 ·obtain ⟨o,es,ep,ho,r⟩:=hm
  exact ⟨o,es,ep,k _ o (Ne.symm hL) ho,r⟩
 ·refine (I.hok b u e).stay (fun c v hc q=>k c v ?_ q) (fun _ q=>q) fun _ _ q=>q
  rcases hc with z | z
  ·rw [z];exact nit b u e
  ·exact nit c _ z
theorem Inv.tok (I:Inv X pins σ H s) (t:Nat):Inv X pins σ H { s with toks:=t }:=I.un (h':=s.heap) (t':=t) Un.refl I.hok
theorem Inv.kept {t':Nat} (I:Inv X pins σ H s) (k:∀ b u,s.heap.get? b=some u→h'.get? b=some u):Inv X pins σ H { s with heap:=h',toks:=t' }:=I.un (Un.kept k) (I.hok.kept k)
theorem Inv.laid {a:Addr} {o:HO} {t':Nat} (I:Inv X pins σ H s) (k:∀ b u,s.heap.get? b=some u→h'.get? b=some u) (hp:s.heap.objs.size≤a) (new:ObjOk X.prog X.w (upd H a o) h' a o) :
  Inv X pins σ (upd H a o) { s with heap:=h',toks:=t' }:=I.un (Un.laid k hp (I.hok.fresh hp)) (I.hok.laid k hp new)
theorem Inv.write {x e:Addr} {o:HO} {t':Nat} (I:Inv X pins σ H s) (mu:Mut (H x)) (he:e=x∨H e=some (.own x)) (k:∀ b u,b≠e→s.heap.get? b=some u→h'.get? b=some u) (heo:∃ u,h'.get? e=some u)
  (new:ObjOk X.prog X.w (upd H x o) h' x o):Inv X pins σ (upd H x o) { s with heap:=h',toks:=t' }:=I.un (Un.write mu he k heo) (I.hok.write mu he k heo new)
theorem Inv.weak {σ':List (Option V)} (I:Inv X pins σ H s) (hl:σ'.length=σ.length) (w:∀ (i:Nat) v,σ'[i]? = some (some v)→σ[i]? = some (some v)):Inv X pins σ' H s :=
 ⟨I.ok,I.os,I.bare,I.base,let ⟨m,hn,hl'⟩:=I.loc;⟨m,hn,fun i x v e1 e2 e3=>hl' i x v e1 (w i v e2) e3⟩,I.cell,I.free,I.freeC,I.pin,I.hok,hl.trans I.len⟩
theorem Inv.pins_of {pins':List (Addr×Obj)} (I:Inv X pins σ H s) (h:∀ p∈pins',s.heap.get? p.1=some p.2∧H p.1=none∧p.1≠X.env.locals∧p.1∉X.fs∧∀ v,p.2.data≠.cell v):Inv X pins' σ H s :=
 ⟨I.ok,I.os,I.bare,I.base,I.loc,I.cell,I.free,I.freeC,fun p hp=>(List.mem_append.mp hp).elim (fun z=>I.pin p (List.mem_append_left _ z)) (h p),I.hok,I.len⟩
theorem nodup_ix {N:List Str} (hN:N.Nodup) {i j:Nat} {x:Str} (a:N[i]? = some x) (b:N[j]? = some x):i=j:=by
 obtain ⟨h1,e1⟩:=List.getElem?_eq_some_iff.mp a
 obtain ⟨h2,e2⟩:=List.getElem?_eq_some_iff.mp b
 exact (List.getElem_inj hN).mp (e1.trans e2.symm)
theorem store_ok2 {M:Model} {A:Around} {E:Value→Shared→Prop} {i:Nat} {x:Str} {v:V} {u:Value} {Q:Unit→Shared→Prop} (I:Inv X pins σ H s) (hN:X.N.Nodup) (hi:X.N[i]? = some x) (hx:Loc X.env.scope x) (r:RelV v u)
  (h:∀ s',Inv X pins (σ.set i (some v)) H s'→(∃ a,Heap.SameBut a s.heap s'.heap∧(a=X.env.locals∨X.env.cells.lookup x=some a))→Q () s') (hf:X.fn x=true∨X.env.scope.names.lookup x=some .local:=by first | exact .inl rfl | exact .inr rfl | assumption):wpAny M A (storeName X.env x u) Q E s:=by
 obtain ⟨m,hn,hl⟩:=id I.loc
 have hcls:(X.env.scope.kind==.class||(X.env.scope.kind==.module&&X.env.locals != X.env.globals))=false:=by rw [I.ok.kind];rfl
 have hiσ:i<σ.length:=by rw [I.len];exact (List.getElem?_eq_some_iff.mp hi).1
 have cne:=I.cne
 have tracked:∀ {a:Addr} {h':Heap},(∃ o,s.heap.get? a=some o∧H a=none)→Heap.SameBut a s.heap h'→HOk X.prog X.w H h':=fun {a h'} ha hs b ob e=>by
  obtain ⟨_,_,hfree⟩:=ha
  refine (I.hok b ob e).stay (fun c w' hc q=>(hs.2 c ?_).trans q) (fun _ q=>q) fun _ _ q=>q
  rintro rfl
  rcases hc with rfl | hc
  ·rw [hfree] at e;cases e
  ·rw [hfree] at hc;cases hc
 rcases hx with hk | hk
 ·refine wpAny_storeName_local hk hn (fun h' hn' hs=>?_) hcls
  obtain ⟨oL,_,_,hoL,_⟩:=id hn
  refine h _ ⟨I.ok,I.os,I.bare,⟨fun b o e n hb hx=>?_,fun b o e n hb hx=>?_,I.base.free,fun b o e hx=>?_,I.base.tups,I.base.frzs,I.base.tbls⟩,⟨_,hn',fun j y v' e1 e2 e3=>?_⟩,fun y c e=>?_,I.free,I.freeC,fun p hp=>?_,tracked ⟨oL,hoL,I.free⟩ hs,by simpa using I.len⟩ ⟨_,hs,.inl rfl⟩
  ·exact (hs.2 b (Nat.ne_of_lt (Nat.lt_of_lt_of_le (Heap.lt_size e) I.ok.above))).trans (I.base.keep b o e n hb hx)
  ·obtain ⟨sl,e1⟩:=I.base.slot b o e n hb hx
   exact ⟨sl,(hs.2 b (Nat.ne_of_lt (Nat.lt_of_lt_of_le (Heap.lt_size e) I.ok.above))).trans e1⟩
  ·obtain ⟨o',e1⟩:=I.base.there b o e hx
   exact ⟨o',(hs.2 b (Nat.ne_of_lt (Nat.lt_of_lt_of_le (Heap.lt_size e) I.ok.above))).trans e1⟩
  ·by_cases hj:j=i
   ·subst hj
    rw [hi] at e1;cases e1
    rw [List.getElem?_set_self hiσ] at e2
    cases e2
    exact ⟨u,r,.inl ⟨hk,by simp⟩⟩
   ·rw [List.getElem?_set_ne (Ne.symm hj)] at e2
    obtain ⟨u',r',q⟩:=hl j y v' e1 e2 e3
    refine ⟨u',r',?_⟩
    rcases q with ⟨k,e⟩ | ⟨k,c,e,z⟩
    ·refine .inl ⟨k,?_⟩
     have:y≠x:=fun e=>hj (nodup_ix hN e1 (e▸hi))
     simp [this,e]
    ·exact .inr ⟨k,c,e,z.sameBut hs (cne y c e)⟩
  ·obtain ⟨w',z⟩:=I.cell y c e
   exact ⟨w',z.sameBut hs (cne y c e)⟩
  ·obtain ⟨e,n,ne,nf,d⟩:=I.pin p hp
   exact ⟨(hs.2 p.1 ne).trans e,n,ne,nf,d⟩
 ·have hfn:X.fn x=true:=by
   rcases hf with z | z
   ·exact z
   ·rw [z] at hk;cases hk
  obtain ⟨c,hc⟩:=I.ok.has x (.inl hk)
  obtain ⟨w',z⟩:=I.cell x c hc
  refine wpAny_storeName_cell I.ok.kind hk hc z (fun h' hc' hs=>?_)
  obtain ⟨oc,hoc,hocd⟩:=id z
  refine h { s with heap:=h' } ⟨I.ok,I.os,I.bare,⟨fun b o e n hb hx=>?_,fun b o e n hb hx=>?_,I.base.free,fun b o e hx=>?_,I.base.tups,I.base.frzs,I.base.tbls⟩,⟨m,hn.sameBut hs (Ne.symm (cne x c hc)),fun j y v' e1 e2 e3=>?_⟩,fun y c' e=>?_,I.free,I.freeC,fun p hp=>?_,tracked ⟨oc,hoc,I.freeC x c hc⟩ hs,by simpa using I.len⟩ ⟨c,hs,.inr hc⟩
  ·exact (hs.2 b (Nat.ne_of_lt (Nat.lt_of_lt_of_le (Heap.lt_size e) (I.ok.cab x c hfn hc)))).trans (I.base.keep b o e n hb hx)
  ·obtain ⟨sl,e1⟩:=I.base.slot b o e n hb hx
   exact ⟨sl,(hs.2 b (Nat.ne_of_lt (Nat.lt_of_lt_of_le (Heap.lt_size e) (I.ok.cab x c hfn hc)))).trans e1⟩
  ·obtain ⟨o',e1⟩:=I.base.there b o e hx
   exact ⟨o',(hs.2 b (Nat.ne_of_lt (Nat.lt_of_lt_of_le (Heap.lt_size e) (I.ok.cab x c hfn hc)))).trans e1⟩
  ·by_cases hj:j=i
   ·subst hj
    rw [hi] at e1;cases e1
    rw [List.getElem?_set_self hiσ] at e2
    cases e2
    exact ⟨u,r,.inr ⟨.inl hk,c,hc,hc'⟩⟩
   ·rw [List.getElem?_set_ne (Ne.symm hj)] at e2
    obtain ⟨u',r',q⟩:=hl j y v' e1 e2 e3
    refine ⟨u',r',?_⟩
    rcases q with q | ⟨k,c',e,z'⟩
    ·exact .inl q
    ·refine .inr ⟨k,c',e,z'.sameBut hs ?_⟩
     rintro rfl
     exact hj (nodup_ix hN e1 (I.ok.inj _ _ _ e hc▸hi))
  ·by_cases hcc:c'=c
   ·subst hcc;exact ⟨_,hc'⟩
   ·obtain ⟨w2,z2⟩:=I.cell y c' e
    exact ⟨w2,z2.sameBut hs hcc⟩
  ·obtain ⟨e,n,ne,nf,d⟩:=I.pin p hp
   refine ⟨(hs.2 p.1 ?_).trans e,n,ne,nf,d⟩
   intro q
   rw [q,hoc] at e
   have q':oc=p.2:=Option.some.inj e
   exact d w' (by rw [← q'];exact hocd)
theorem store_ok {M:Model} {A:Around} {E:Value→Shared→Prop} {i:Nat} {x:Str} {v:V} {u:Value} {Q:Unit→Shared→Prop} (I:Inv X pins σ H s) (hN:X.N.Nodup) (hi:X.N[i]? = some x) (hx:Loc X.env.scope x) (r:RelV v u)
  (h:∀ s',Inv X pins (σ.set i (some v)) H s'→Q () s') (hf:X.fn x=true∨X.env.scope.names.lookup x=some .local:=by first | exact .inl rfl | exact .inr rfl | assumption):wpAny M A (storeName X.env x u) Q E s :=
 store_ok2 I hN hi hx r (fun s' I' _=>h s' I') hf
theorem Inv.call' {s':Shared} {ch:List Addr} (I:Inv X pins σ H s) (ho:s'.os=s.os) (u:Un (frs X.stack) ch H H' s.heap s'.heap) (hok:HOk X.prog X.w H' s'.heap) (hg:AllBare s'.gens)
  (hch:∀ b∈ch,(b∈X.ex∨X.s₀.heap.objs.size≤b)∧b≠X.env.locals∧(∀ x c,X.env.cells.lookup x=some c→c≠b)∧∀ p∈X.pn++pins,p.1≠b):Inv X pins σ H' s':=by
 obtain ⟨h',g',d',t',o'⟩:=s'
 have e:o'=s.os:=ho
 subst e
 exact I.call (g':=g') (t':=t') (d':=d') u hok hg hch
end
abbrev XK:=Value→Option Addr→Hp→Prop
abbrev St:=List (Option V)
abbrev VK:=V→Hp→Prop
abbrev TE:=St→Hp→VK→Prop
abbrev TT:=St→Hp→(Bool→Hp→Prop)→Prop
abbrev TA:=St→Hp→(List V→Hp→Prop)→Prop
structure Ends where
 nx:St→Hp→Prop
 rt:VK
 bk:St→Hp→Prop:=fun _ _=>False
 ct:St→Hp→Prop:=fun _ _=>False
abbrev TS:=Ends→St→Hp→Prop
def EP (X:Cx) (pins:List (Addr×Obj)) (σ:St) (Q:VK) (u:Value) (s':Shared):Prop:=∃ v H',Inv X pins σ H' s'∧RelV v u∧Q v H'
def TP (X:Cx) (pins:List (Addr×Obj)) (σ:St) (Q:Bool→Hp→Prop) (b:Bool) (s':Shared):Prop:=∃ H',Inv X pins σ H' s'∧Q b H'
def AP (X:Cx) (pins:List (Addr×Obj)) (σ:St) (Q:List V→Hp→Prop) (us:List Value) (s':Shared):Prop:=∃ vs H',Inv X pins σ H' s'∧Vals vs us∧Q vs H'
def SP (X:Cx) (pins:List (Addr×Obj)) (D:Ends) (f:Flow) (s':Shared):Prop :=
 match f with
 | .next=>∃ σ' H',Inv X pins σ' H' s'∧D.nx σ' H'
 | .brk=>∃ σ' H',Inv X pins σ' H' s'∧D.bk σ' H'
 | .cont=>∃ σ' H',Inv X pins σ' H' s'∧D.ct σ' H'
 | .ret u=>∃ v σ' H',Inv X pins σ' H' s'∧RelV v u∧D.rt v H'
def PE (X:Cx) (e:Expr) (t:TE):Prop :=
 ∀ (pins:List (Addr×Obj)) (s:Shared) (σ:St) (H:Hp) (Q:VK),Inv X pins σ H s→t σ H Q→wpAny (model X.prog X.w) X.A (eval e X.env) (EP X pins σ Q) X.xe s
def PT (X:Cx) (e:Expr) (t:TT):Prop :=
 ∀ (pins:List (Addr×Obj)) (s:Shared) (σ:St) (H:Hp) (Q:Bool→Hp→Prop),Inv X pins σ H s→t σ H Q→wpAny (model X.prog X.w) X.A (isTrue e X.env (eval e X.env)) (TP X pins σ Q) X.xe s
def PW (X:Cx) (e:Expr) (t:TT):Prop :=
 ∀ (whole:Sem Value) (pins:List (Addr×Obj)) (s:Shared) (σ:St) (H:Hp) (Q:Bool→Hp→Prop),Inv X pins σ H s→t σ H Q→wpAny (model X.prog X.w) X.A (isTrue e X.env whole) (TP X pins σ Q) X.xe s
theorem PW.pt {X:Cx} {e:Expr} {t:TT} (h:PW X e t):PT X e t:=h _
def PA (X:Cx) (es:List Expr) (t:TA):Prop :=
 ∀ (pos:Pos) (pins:List (Addr×Obj)) (s:Shared) (σ:St) (H:Hp) (Q:List V→Hp→Prop),Inv X pins σ H s→t σ H Q→wpAny (model X.prog X.w) X.A (spliced (backTo pos (starEach es X.env))) (AP X pins σ Q) X.xe s
def PS (X:Cx) (st:Stmt) (t:TS):Prop :=
 ∀ (pins:List (Addr×Obj)) (s:Shared) (σ:St) (H:Hp) (D:Ends),Inv X pins σ H s→t D σ H→wpAny (model X.prog X.w) X.A (exec st X.env) (SP X pins D) X.xe s
def PSs (X:Cx) (st:List Stmt) (t:TS):Prop :=
 ∀ (pins:List (Addr×Obj)) (s:Shared) (σ:St) (H:Hp) (D:Ends),Inv X pins σ H s→t D σ H→wpAny (model X.prog X.w) X.A (execs st X.env) (SP X pins D) X.xe s
theorem thn {α:Type} {t:Sem α} {Q Q':α→Shared→Prop} {M:Model} {A:Around} {E:Value→Shared→Prop} {s:Shared} (h:wpAny M A t Q E s) (hQ:∀ a s,Q a s→Q' a s):wpAny M A t Q' E s:=wpAny_mono h hQ fun _ _ x=>x
end L2
namespace L2
open PySem PySem.Spec PyProof.Rows
section
variable {X:Cx}
def tVar (i:Nat):TE:=fun σ H Q=>∃ v,σ[i]? = some (some v)∧Q v H
def tC (v:V):TE:=fun _ H Q=>Q v H
theorem pe_var {i:Nat} {x:Str} {pos:Pos} (hN:X.N[i]? = some x) (hv:Vis X.env.scope x) (hd:(x==("__debug__" : Str))=false:=by decide) (hcd:(x==("__classdict__" : Str))=false:=by decide):PE X (.Name x pos) (tVar i):=by
 intro pins s σ H Q I h
 obtain ⟨v,e,h⟩:=h
 obtain ⟨m,hn,hl⟩:=I.loc
 obtain ⟨u,r,l⟩:=hl i x v hN e hv
 have fin:EP X pins σ Q u s:=⟨v,H,I,r,h⟩
 rcases l with ⟨hk,hm⟩ | ⟨hk,c,hc,hcell⟩
 ·exact wpAny_Name (wpAny_loadName_local I.ok.kind hk hn hm fin) hd
 ·rcases hk with hk | hk
  ·exact wpAny_Name (wpAny_loadName_cell I.ok.kind hk hc hcell fin) hd
  ·exact wpAny_Name (wpAny_loadName_free I.ok.kind hk hc hcell fin hcd) hd
theorem pe_int {i j pos}:PE X (.Constant (.int i) j pos) (tC (.int i)):=fun _ _ _ H _ I h=>wpAny_Constant_int ⟨.int i,H,I.tok _,⟨_,rfl⟩,h⟩
theorem pe_bl {b j pos}:PE X (.Constant (.bool b) j pos) (tC (.bl b)):=fun _ _ _ H _ I h=>Constant_bool ⟨.bl b,H,I,rfl,h⟩
theorem pe_non {j pos}:PE X (.Constant .none j pos) (tC .non):=fun _ _ _ H _ I h=>Constant_none ⟨.non,H,I,rfl,h⟩
theorem pe_str {x j pos}:PE X (.Constant (.str x) j pos) (tC (.str x)):=fun _ _ _ H _ I h=>Calls.Constant_str ⟨.str x,H,I.tok _,⟨_,rfl⟩,h⟩
def Gl (X:Cx) (x:Str):Prop:=X.env.kindOf x=some .globalImplicit
theorem ld_glob {E:Value→Shared→Prop} {pins:List (Addr×Obj)} {s:Shared} {σ:St} {H:Hp} {x:Str} {u:Value} {pos:Pos} {Q:Value→Shared→Prop} (I:Inv X pins σ H s) (hg:Gl X x) (hm:X.mg x=some u) (h:Q u s)
  (hd:(x==("__debug__" : Str))=false:=by decide):wpAny (model X.prog X.w) X.A (eval (.Name x pos) X.env) Q E s :=
 Calls.Name_function_global I.ok.kind hg (Calls.loadGlobal_global (by rw [I.ok.glob];exact I.mod.glob.keeps I.bk) hm h) hd
theorem ld_blt {E:Value→Shared→Prop} {pins:List (Addr×Obj)} {s:Shared} {σ:St} {H:Hp} {x:Str} {u:Value} {pos:Pos} {Q:Value→Shared→Prop} (I:Inv X pins σ H s) (hg:Gl X x) (hm:X.mg x=none) (hv:bootBuiltins x=some u) (h:Q u s)
  (hn:x≠"__name__":=by decide) (hd:(x==("__debug__" : Str))=false:=by decide):wpAny (model X.prog X.w) X.A (eval (.Name x pos) X.env) Q E s:=by
 obtain ⟨mb,h1,h2⟩:=I.mod.blt
 exact Calls.Name_function_global I.ok.kind hg (Calls.loadGlobal_builtin (by rw [I.ok.glob];exact I.mod.glob.keeps I.bk) hm (by rw [I.ok.blt];exact h1.keeps I.bk) ((h2 x hn).trans hv) h) hd
theorem pe_glob {x:Str} {v:V} {u:Value} {pos:Pos} (hg:Gl X x) (hm:X.mg x=some u) (r:RelV v u) (hd:(x==("__debug__" : Str))=false:=by decide):PE X (.Name x pos) (tC v) :=
 fun _ _ _ H _ I h=>ld_glob I hg hm ⟨v,H,I,r,h⟩ hd
theorem pe_bltn {x:Str} {v:V} {u:Value} {pos:Pos} (hg:Gl X x) (hm:X.mg x=none) (hv:bootBuiltins x=some u) (r:RelV v u) (hn:x≠"__name__":=by decide) (hd:(x==("__debug__" : Str))=false:=by decide):PE X (.Name x pos) (tC v) :=
 fun _ _ _ H _ I h=>ld_blt I hg hm hv ⟨v,H,I,r,h⟩ hn hd
variable {a b:Expr} {ta tb:TE} {pos:Pos}
def PC (X:Cx) (op:CmpOp) (a b:Expr) (t:TE):Prop :=
 ∀ (pins:List (Addr×Obj)) (s:Shared) (σ:St) (H:Hp) (Q:VK),Inv X pins σ H s→t σ H Q →
  wpAny (model X.prog X.w) X.A (eval a X.env) (fun v s₁=>wpAny (model X.prog X.w) X.A (eval b X.env) (fun u s₂=>wpAny (model X.prog X.w) X.A (compareOp op v u) (EP X pins σ Q) X.xe s₂) X.xe s₁) X.xe s
def tB (t:TE):TT:=fun σ H Q=>t σ H fun x H1=>∃ c,x=.bl c∧Q c H1
theorem pt_cmp {op:CmpOp} {t:TE} (h:PC X op a b t) (h1:behindInMarks op b=false:=by first | exact nobehind _ (by decide) (by decide) | rfl):PT X (.Compare a [op] [b] pos) (tB t):=by
 intro pins s σ H Q I hw
 refine wpAny_isTrue_Compare1 (thn (h pins s σ H _ I hw) fun v s1 h1=>thn h1 fun u s2 h2=>thn h2 fun c s3 ⟨x,H1,I1,r1,q1⟩=>?_) h1
 obtain ⟨d,rfl,q⟩:=q1
 cases r1
 exact wpAny_truthy_bool ⟨H1,I1,q⟩
theorem pt_val {e:Expr} {t:TE} (h:PE X e t) (he:∀ whole,isTrue e X.env whole=(do let v ← whole;standAt e.pos;holding [v] (truthy v)):=by intro _;rfl):PT X e (tB t):=by
 intro pins s σ H Q I hw
 refine isTrue_plain (thn (h pins s σ H _ I hw) fun v s1 ⟨x,H1,I1,r1,q1⟩=>?_) (he _)
 obtain ⟨d,rfl,q⟩:=q1
 cases r1
 exact wpAny_truthy_bool ⟨H1,I1,q⟩
variable {tA tB':TT} {rest:List Expr}
def tAnd (t u:TT):TT:=fun σ H Q=>t σ H fun c H1=>if c=true then u σ H1 Q else Q false H1
def tOr (t u:TT):TT:=fun σ H Q=>t σ H fun c H1=>if c=true then Q true H1 else u σ H1 Q
def tNot (t:TT):TT:=fun σ H Q=>t σ H fun c H1=>Q (!c) H1
theorem pw_and1 (ha:PT X a tA):PW X (.BoolOp .And [a] pos) tA:=by
 intro wh pins s σ H Q I h
 refine isTrue_and (thn (ha pins s σ H Q I h) fun c s1 e=>?_)
 cases c with
 | true=>exact isTrue_and_nil e
 | false=>exact e
theorem pw_or1 (ha:PT X a tA):PW X (.BoolOp .Or [a] pos) tA:=by
 intro wh pins s σ H Q I h
 refine isTrue_or (thn (ha pins s σ H Q I h) fun c s1 e=>?_)
 cases c with
 | false=>exact isTrue_or_nil e
 | true=>exact e
theorem pw_and (ha:PT X a tA) (hb:PW X (.BoolOp .And (b::rest) pos) tB'):PW X (.BoolOp .And (a::b::rest) pos) (tAnd tA tB'):=by
 intro wh pins s σ H Q I h
 refine isTrue_and (thn (ha pins s σ H _ I h) fun c s1 ⟨H1,I1,q1⟩=>?_)
 cases c with
 | true=>exact hb wh pins s1 σ H1 Q I1 q1
 | false=>exact ⟨H1,I1,q1⟩
theorem pw_or (ha:PT X a tA) (hb:PW X (.BoolOp .Or (b::rest) pos) tB'):PW X (.BoolOp .Or (a::b::rest) pos) (tOr tA tB'):=by
 intro wh pins s σ H Q I h
 refine isTrue_or (thn (ha pins s σ H _ I h) fun c s1 ⟨H1,I1,q1⟩=>?_)
 cases c with
 | true=>exact ⟨H1,I1,q1⟩
 | false=>exact hb wh pins s1 σ H1 Q I1 q1
theorem pt_not (ha:PT X a tA):PT X (.UnaryOp .Not a pos) (tNot tA):=by
 intro pins s σ H Q I h
 exact isTrue_not (ha pins s σ H (fun c H1=>Q (!c) H1) I h)
def tAndV (ta tb:TE):TE:=fun σ H Q=>ta σ H fun x H1=>∃ c,x=.bl c∧if c=true then tb σ H1 Q else Q (.bl false) H1
def tNotV (ta:TE):TE:=fun σ H Q=>ta σ H fun x H1=>∃ c,x=.bl c∧Q (.bl (!c)) H1
theorem pe_one {op} {t:TE} (h:PE X a t):PE X (.BoolOp op [a] pos) t:=fun pins s σ H Q I hw=>BoolOp_one (h pins s σ H Q I hw)
theorem pe_and (ha:PE X a ta) (hb:PE X (.BoolOp .And (b::rest) pos) tb):PE X (.BoolOp .And (a::b::rest) pos) (tAndV ta tb):=by
 intro pins s σ H Q I h
 refine BoolOp_and (thn (ha pins s σ H _ I h) fun v s1 ⟨x,H1,I1,r1,q1⟩=>?_)
 obtain ⟨c,rfl,q1⟩:=q1
 cases r1
 refine wpAny_truthy_bool ?_
 cases c with
 | true=>exact hb pins s1 σ H1 Q I1 q1
 | false=>exact ⟨.bl false,H1,I1,rfl,q1⟩
theorem pe_not (ha:PE X a ta):PE X (.UnaryOp .Not a pos) (tNotV ta):=by
 intro pins s σ H Q I h
 refine UnaryOp_ (thn (ha pins s σ H _ I h) fun v s1 ⟨x,H1,I1,r1,q1⟩=>?_)
 obtain ⟨c,rfl,q1⟩:=q1
 cases r1
 exact not_of (wpAny_truthy_bool ⟨.bl (!c),H1,I1,rfl,q1⟩)
def tIf (t:TT) (ta tb:TE):TE:=fun σ H Q=>t σ H fun c H1=>if c=true then ta σ H1 Q else tb σ H1 Q
theorem pe_ifExp {c:Expr} (hc:PT X c tA) (ha:PE X a ta) (hb:PE X b tb):PE X (.IfExp c a b pos) (tIf tA ta tb):=by
 intro pins s σ H Q I h
 refine wpAny_IfExp (thn (hc pins s σ H _ I h) fun d s1 ⟨H1,I1,q1⟩=>?_)
 cases d with
 | true=>exact ha pins s1 σ H1 Q I1 q1
 | false=>exact hb pins s1 σ H1 Q I1 q1
end
end L2
namespace L2
open PySem PySem.Spec PyProof.Rows
def SqL (K:PySem.W.Frag) (H:Hp) (a:Addr) (xs:List V):Prop :=
 Rd H a (.lst xs) ∨
  ∃ (o:Obj) (its:Array Value) (n:Nat),K.lookup a=some o∧o.cls=.type "list"∧o.dict=none∧o.data=.seq its n∧its.size≤sizeLine∧Vals xs its.toList
def SqT (K:PySem.W.Frag) (H:Hp) (a:Addr) (xs:List V):Prop :=
 Rd H a (.tup xs) ∨
  ∃ (o:Obj) (its:Array Value) (n:Nat),K.lookup a=some o∧o.cls=.type "tuple"∧o.data=.seq its n∧its.size≤sizeLine∧Vals xs its.toList
def absV:Value→Option V
 | .none=>some .non
 | .bool b=>some (.bl b)
 | .int i _=>some (.int i)
 | .str x _=>some (.str x)
 | .bytes b _=>some (.byt b)
 | .float b _=>some (.flt b)
 | .ref a=>some (.ref a)
 | .type n=>some (.ty n)
 | _=>none
theorem RelV.abs {x:V} {u:Value} (r:RelV x u):absV u=some x:=by
 cases x with
 | non=>cases r;rfl
 | bl _=>cases r;rfl
 | int _=>obtain ⟨t,rfl⟩:=r;rfl
 | str _=>obtain ⟨t,rfl⟩:=r;rfl
 | byt _=>obtain ⟨t,rfl⟩:=r;rfl
 | flt _=>obtain ⟨t,rfl⟩:=r;rfl
 | ref _=>cases r;rfl
 | ty _=>cases r;rfl
theorem RelV.inj {x y:V} {u:Value} (r:RelV x u) (q:RelV y u):x=y:=Option.some.inj (r.abs.symm.trans q.abs)
theorem Vals.inj:∀ {xs ys:List V} {us:List Value},Vals xs us→Vals ys us→xs=ys
 | _,_,_,.nil,.nil=>rfl
 | _,_,_,.cons r t,.cons r' t'=>by rw [r.inj r',Vals.inj t t']
section
variable {X:Cx} {pins:List (Addr×Obj)} {σ:St} {H:Hp} {s:Shared} {a:Addr} {xs ys:List V}
theorem SqL.of {K:PySem.W.Frag} (h:H a=some (.lst xs)):SqL K H a xs:=.inl (.inl h)
theorem SqT.of {K:PySem.W.Frag} (h:H a=some (.tup xs)):SqT K H a xs:=.inl (.inl h)
theorem Inv.list (I:Inv X pins σ H s) (h:SqL X.K H a xs):∃ its:List Value,Vals xs its∧PlainL s.heap a its.toArray∧xs.length≤sizeLine:=by
 rcases h with h | ⟨o,its,n,hk,hc,hd,hs,hz,r⟩
 ·obtain ⟨z,its,n,r,e⟩:=h.ok I.hok
  exact ⟨its,r,⟨_,n,e,rfl,rfl,rfl⟩,z⟩
 ·refine ⟨its.toList,r,⟨o,n,I.kIn a o hk,hc,hd,by simpa using hs⟩,?_⟩
  have e:=r.length
  simp only [Array.length_toList] at e
  omega
theorem Inv.tuple (I:Inv X pins σ H s) (h:SqT X.K H a xs):∃ its:List Value,Vals xs its∧IsTup s.heap a its.toArray∧xs.length≤sizeLine:=by
 rcases h with h | ⟨o,its,n,hk,hc,hs,hz,r⟩
 ·obtain ⟨z,its,r,p⟩:=h.ok I.hok
  exact ⟨its,r,p,z⟩
 ·refine ⟨its.toList,r,⟨o,I.kIn a o hk,hc,n,by simpa using hs⟩,?_⟩
  have e:=r.length
  simp only [Array.length_toList] at e
  omega
theorem Inv.list_inj (I:Inv X pins σ H s) (h:SqL X.K H a xs) (h':SqL X.K H a ys):xs=ys:=by
 obtain ⟨its,r,⟨o,n,e,_,_,d⟩,_⟩:=I.list h
 obtain ⟨its',r',⟨o',n',e',_,_,d'⟩,_⟩:=I.list h'
 rw [e] at e';cases e'
 rw [d] at d'
 injection d' with d1 _
 have:its=its':=by simpa using congrArg Array.toList d1
 subst this
 exact r.inj r'
end
abbrev Cx.wish (X:Cx) (E:Value→Shared→Prop):Cx:={ X with xe:=E }
abbrev Cx.nox (X:Cx):Cx:=X.wish fun _ _=>False
theorem Cx.Ok.wish {X:Cx} (ok:X.Ok) (E:Value→Shared→Prop):(X.wish E).Ok :=
 ⟨ok.mod,ok.kind,ok.glob,ok.blt,ok.above,ok.inj,ok.has,ok.cab,ok.hd,ok.frames,ok.stk,ok.exf,ok.bs,ok.bsz,ok.noex,ok.exfs,ok.funs,ok.frf⟩
theorem Cx.Ok.unwish {X:Cx} {E:Value→Shared→Prop} (ok:(X.wish E).Ok):X.Ok :=
 ⟨ok.mod,ok.kind,ok.glob,ok.blt,ok.above,ok.inj,ok.has,ok.cab,ok.hd,ok.frames,ok.stk,ok.exf,ok.bs,ok.bsz,ok.noex,ok.exfs,ok.funs,ok.frf⟩
section
variable {X:Cx} {pins:List (Addr×Obj)} {σ:St} {H:Hp} {s:Shared} {E:Value→Shared→Prop}
theorem Inv.wish (I:Inv X pins σ H s) (E:Value→Shared→Prop):Inv (X.wish E) pins σ H s:=⟨I.ok.wish E,I.os,I.bare,I.base,I.loc,I.cell,I.free,I.freeC,I.pin,I.hok,I.len⟩
theorem Inv.unwish (I:Inv (X.wish E) pins σ H s):Inv X pins σ H s:=⟨I.ok.unwish,I.os,I.bare,I.base,I.loc,I.cell,I.free,I.freeC,I.pin,I.hok,I.len⟩
theorem SP.unwish {D:Ends} {f:Flow} {s':Shared} (h:SP (X.wish E) pins D f s'):SP X pins D f s':=by
 cases f with
 | next=>obtain ⟨σ',H',I,q⟩:=h;exact ⟨σ',H',I.unwish,q⟩
 | brk=>obtain ⟨σ',H',I,q⟩:=h;exact ⟨σ',H',I.unwish,q⟩
 | cont=>obtain ⟨σ',H',I,q⟩:=h;exact ⟨σ',H',I.unwish,q⟩
 | ret u=>obtain ⟨v,σ',H',I,r,q⟩:=h;exact ⟨v,σ',H',I.unwish,r,q⟩
theorem PSs.nox {st:List Stmt} {t:TS} (h:PSs X.nox st t):PSs X st t:=fun pins s σ H D I hw =>
 wpAny_mono (h pins s σ H D (I.wish _) hw) (fun _ _ q=>q.unwish) fun _ _ z=>False.elim z
end
section
variable {X:Cx} {st:Stmt} {rest:List Stmt} {t u:TS} {e:Expr} {te:TE} {pos:Pos}
def tNext:TS:=fun D σ H=>D.nx σ H
def tSeq (t u:TS):TS:=fun D σ H=>t { D with nx:=u D } σ H
theorem pss_nil:PSs X [] tNext:=fun _ _ σ H _ I h=>wpAny_execs_nil ⟨σ,H,I,h⟩
theorem pss_cons (h1:PS X st t) (h2:PSs X rest u):PSs X (st::rest) (tSeq t u):=by
 intro pins s σ H D I h
 refine wpAny_execs_cons (thn (h1 pins s σ H { D with nx:=u D } I h) fun f s1 q=>?_)
 cases f with
 | next =>
  obtain ⟨σ',H',I',q⟩:=q
  exact h2 pins s1 σ' H' D I' q
 | ret v=>exact q
 | brk=>exact q
 | cont=>exact q
theorem pss_one (h1:PS X st t):PSs X [st] t:=by
 intro pins s σ H D I h
 refine wpAny_execs_cons (thn (h1 pins s σ H D I h) fun f s1 q=>?_)
 cases f with
 | next=>exact wpAny_execs_nil q
 | ret v=>exact q
 | brk=>exact q
 | cont=>exact q
theorem Inv.quiet {pins:List (Addr×Obj)} {σ:St} {H:Hp} {s:Shared} (I:Inv X pins σ H s):interactive X.env=false:=by simp [interactive,I.ok.kind]
def tDrop (te:TE):TS:=fun D σ H=>te σ H fun _ H1=>D.nx σ H1
theorem ps_expr (he:PE X e te) (hs:swapsWith e none pos.line X.env=pure false:=by rfl):PS X (.Expr e pos) (tDrop te):=by
 intro pins s σ H D I h
 exact wpAny_Expr_any (thn (he pins s σ H _ I h) fun v s1 ⟨x,H1,I1,r1,q1⟩=>⟨σ,H1,I1,q1⟩) I.quiet hs
def tRet (te:TE):TS:=fun D σ H=>te σ H D.rt
theorem ps_ret (he:PE X e te):PS X (.Return (some e) pos) (tRet te):=by
 intro pins s σ H D I h
 exact wpAny_Return_some (thn (he pins s σ H _ I h) fun v s1 ⟨x,H1,I1,r1,q1⟩=>⟨x,σ,H1,I1,r1,q1⟩)
def tIfS (c:TT) (t u:TS):TS:=fun D σ H=>c σ H fun b H1=>if b=true then t D σ H1 else u D σ H1
theorem ps_if {c:Expr} {a b:List Stmt} {tc:TT} (hc:PT X c tc) (ha:PSs X a t) (hb:PSs X b u):PS X (.If c a b pos) (tIfS tc t u):=by
 intro pins s σ H D I h
 refine wpAny_If (thn (hc pins s σ H _ I h) fun d s1 ⟨H1,I1,q1⟩=>?_)
 cases d with
 | true=>exact ha pins s1 σ H1 D I1 q1
 | false=>exact hb pins s1 σ H1 D I1 q1
end
abbrev TG:=V→St→Hp→(St→Hp→Prop)→Prop
abbrev TGs:=List V→St→Hp→(St→Hp→Prop)→Prop
def PG (X:Cx) (target:Expr) (t:TG):Prop :=
 ∀ (pins:List (Addr×Obj)) (s:Shared) (σ:St) (H:Hp) (v:V) (u:Value) (Q:St→Hp→Prop),Inv X pins σ H s→RelV v u→t v σ H Q →
  wpAny (model X.prog X.w) X.A (assign target X.env u) (fun _ s'=>∃ σ' H',Inv X pins σ' H' s'∧Q σ' H') X.xe s
def PGs (X:Cx) (ts:List Expr) (t:TGs):Prop :=
 ∀ (pins:List (Addr×Obj)) (s:Shared) (σ:St) (H:Hp) (vs:List V) (us:List Value) (Q:St→Hp→Prop),Inv X pins σ H s→Vals vs us→t vs σ H Q →
  wpAny (model X.prog X.w) X.A (assignInOrder ((assignEach ts X.env).map (·.2)) us) (fun _ s'=>∃ σ' H',Inv X pins σ' H' s'∧Q σ' H') X.xe s
abbrev TSet:=V→V→V→Hp→(Hp→Prop)→Prop
def PSet (X:Cx) (t:TSet):Prop :=
 ∀ (pins:List (Addr×Obj)) (s:Shared) (σ:St) (H:Hp) (o i v:V) (ov iv u:Value) (Q:Hp→Prop),Inv X pins σ H s→RelV o ov→RelV i iv→RelV v u→t o i v H Q →
  wpAny (model X.prog X.w) X.A (setItem ov iv u) (fun _ s'=>∃ H',Inv X pins σ H' s'∧Q H') X.xe s
section
variable {X:Cx} {pos:Pos}
def gName (i:Nat):TG:=fun v σ H Q=>Q (σ.set i (some v)) H
theorem pg_name {i:Nat} {x:Str} (hN:X.N.Nodup) (hi:X.N[i]? = some x) (hx:Loc X.env.scope x) (hf:X.fn x=true∨X.env.scope.names.lookup x=some .local:=by first | exact .inl rfl | exact .inr rfl | assumption):PG X (.Name x pos) (gName i):=by
 intro pins s σ H v u Q I r h
 exact wpAny_assign_Name (store_ok I hN hi hx r (fun s' I'=>⟨_,H,I',h⟩) hf)
def gNil:TGs:=fun vs σ H Q=>vs=[]∧Q σ H
def gCons (t:TG) (u:TGs):TGs:=fun vs σ H Q=>∃ v r,vs=v::r∧t v σ H fun σ' H'=>u r σ' H' Q
theorem pgs_nil:PGs X [] gNil:=by
 intro pins s σ H vs us Q I r h
 obtain ⟨e,h⟩:=h
 subst e
 cases r
 exact assignInOrder_nil ⟨σ,H,I,h⟩
theorem pgs_cons {e:Expr} {es:List Expr} {t:TG} {u:TGs} (h1:PG X e t) (h2:PGs X es u)
  (hs:(assignEach (e::es) X.env).map (·.2)=assign e X.env::(assignEach es X.env).map (·.2):=by rfl):PGs X (e::es) (gCons t u):=by
 intro pins s σ H vs us Q I r h
 obtain ⟨v,vr,e1,h⟩:=h
 subst e1
 cases r with
 | cons r rr =>
  rw [hs]
  refine assignInOrder_cons (thn (h1 pins s σ H _ _ _ I r h) fun _ s1 ⟨σ1,H1,I1,q1⟩=>?_)
  exact h2 pins s1 σ1 H1 _ _ Q I1 rr q1
def gTup (K:PySem.W.Frag) (n:Nat) (t:TGs):TG:=fun v σ H Q=>∃ a xs,v=.ref a∧SqT K H a xs∧xs.length=n∧t xs σ H Q
theorem pg_tup {es:List Expr} {k:Nat} {t:TGs} {n:Nat} (hc:X.calm=true) (h:PGs X es t)
  (hn:(assignEach es X.env).length=n:=by rfl) (hst:(assignEach es X.env).findIdx? (·.1)=none:=by rfl):PG X (.Tuple es k pos) (gTup X.K n t):=by
 intro pins s σ H v u Q I r hw
 obtain ⟨a,xs,e1,hq,hl,hw⟩:=hw
 subst e1
 cases r
 obtain ⟨its,rv,ht,hz⟩:=I.tuple hq
 refine assign_Tuple_tuple (I.ok.hd hc) ht (by simp [hn,← hl,rv.length]) hst fun h' hx=>?_
 have I1:Inv X pins σ H { s with heap:=h' }:=I.kept (t':=s.toks) fun b o e=>hx b o (Nat.ne_of_lt (Heap.lt_size e)) e
 exact h pins _ σ H xs _ Q I1 (by simpa using rv) hw
def gSub (to ti:TE) (t:TSet):TG:=fun v σ H Q=>to σ H fun o H1=>ti σ H1 fun i H2=>t o i v H2 fun H3=>Q σ H3
theorem pg_sub {o i:Expr} {to ti:TE} {t:TSet} (ho:PE X o to) (hi:PE X i ti) (hs:PSet X t)
  (ha:∀ v,assign (.Subscript o i pos) X.env v=(do
   let ov ← holding [v] (eval o X.env)
   let iv ← holding [v,ov] (eval i X.env)
   standAt pos
   holding [v,ov,iv] (setItem ov iv v)
   release [v,ov,iv] []):=by intro _;rfl):PG X (.Subscript o i pos) (gSub to ti t):=by
 intro pins s σ H v u Q I r h
 rw [ha]
 refine wpAny_bind (wpAny_holding (thn (ho pins s σ H _ I h) fun ov s1 ⟨x,H1,I1,r1,q1⟩=>?_))
 refine wpAny_bind (wpAny_holding (thn (hi pins s1 σ H1 _ I1 q1) fun iv s2 ⟨y,H2,I2,r2,q2⟩=>?_))
 refine wpAny_bind (wpAny_standAt (wpAny_bind (wpAny_holding (thn (hs pins s2 σ H2 x y v ov iv u _ I2 r1 r2 r q2) fun _ s3 ⟨H3,I3,q3⟩=>?_))))
 exact wpAny_release ⟨σ,H3,I3,q3⟩
def tAsg (te:TE) (g:TG):TS:=fun D σ H=>te σ H fun x H1=>g x σ H1 D.nx
theorem ps_asg {tg e:Expr} {te:TE} {g:TG} (he:PE X e te) (hg:PG X tg g) (hs:swapsWithSole [tg] e pos.line X.env=pure false:=by rfl) (hw:swappedStores [tg] e X.env=pure none:=by rfl)
  (h1:(assignEach [tg] X.env).map (·.2)=[assign tg X.env]:=by rfl):PS X (.Assign [tg] e pos) (tAsg te g):=by
 intro pins s σ H D I h
 refine wpAny_Assign_stores (thn (he pins s σ H _ I h) fun v s1 ⟨x,H1,I1,r1,q1⟩=>?_) hs hw
 rw [h1]
 exact thn (hg pins s1 σ H1 x v _ I1 r1 q1) fun _ s2 q=>q
theorem ps_set {i:Nat} {x:Str} {e:Expr} {te:TE} {pos':Pos} (hN:X.N.Nodup) (hi:X.N[i]? = some x) (hx:Loc X.env.scope x) (he:PE X e te) (hs:swapsWith e (some (.Name x pos')) pos.line X.env=pure false:=by rfl) (hf:X.fn x=true∨X.env.scope.names.lookup x=some .local:=by first | exact .inl rfl | exact .inr rfl | assumption) :
  PS X (.Assign [.Name x pos'] e pos) (tAsg te (gName i)):=by
 intro pins s σ H D I h
 refine wpAny_Assign_Name (thn (he pins s σ H _ I h) fun v s1 ⟨y,H1,I1,r1,q1⟩=>?_) hs
 exact store_ok I1 hN hi hx r1 (fun s2 I2=>⟨_,H1,I2,q1⟩) hf
def tPar (i j:Nat) (ta:TA):TS:=fun D σ H=>ta σ H fun vs H1=>∃ v w,vs=[v,w]∧D.nx ((σ.set i (some v)).set j (some w)) H1
theorem ps_par {i j:Nat} {x y:Str} {a b:Expr} {ta:TA} {px py pt:Pos} {kt k2 pt2} (hc:X.calm=true) (hN:X.N.Nodup) (hi:X.N[i]? = some x) (hj:X.N[j]? = some y) (hij:i≠j)
  (hx:X.env.scope.names.lookup x=some .local) (hy:X.env.scope.names.lookup y=some .local) (ha:PA X [a,b] ta)
  (hw:swappedStores [.Tuple [.Name x px,.Name y py] kt pt] (.Tuple [a,b] k2 pt2) X.env=pure (some [x,y]))
  (hs:swapsWithSole [.Tuple [.Name x px,.Name y py] kt pt] (.Tuple [a,b] k2 pt2) pos.line X.env=pure false:=by rfl) :
  PS X (.Assign [.Tuple [.Name x px,.Name y py] kt pt] (.Tuple [a,b] k2 pt2) pos) (tPar i j ta):=by
 intro pins s σ H D I h
 rw [exec_Assign_arm]
 refine wpAny_bind (wpAny_standAt ?_)
 rw [hs]
 refine wpAny_bind (wpAny_pure ?_)
 rw [if_neg (by decide)]
 refine wpAny_bind (Tuple_ (thn (ha _ pins s σ H _ I h) fun us s1 ⟨vs,H1,I1,r1,q1⟩=>?_))
 obtain ⟨v,w,e1,q1⟩:=q1
 subst e1
 obtain ⟨u1,u2,rfl,rv,rw'⟩:∃ u1 u2,us=[u1,u2]∧RelV v u1∧RelV w u2:=by
  cases r1 with
  | cons p q =>
   cases q with
   | cons p' q' =>
    cases q'
    exact ⟨_,_,rfl,p,p'⟩
 refine wpAny_newObj_type ?_ (by show 2≤sizeLine;decide)
 have I2:Inv X pins σ H1 { s1 with heap:=s1.heap.push { cls:=.type "tuple",data:=.seq [u1,u2].toArray } }:=I1.kept (t':=s1.toks) fun b o e=>Heap.get?_push_of_some _ e
 rw [hw]
 refine wpAny_bind (wpAny_pure ?_)
 show wpAny (model X.prog X.w) X.A (do rule "assign.swapped-stores";let items ← unpackItems (.ref s1.heap.objs.size) 2 none;assignInOrder [fun v=>bindName X.env y v,fun v=>bindName X.env x v] items.reverse;pure Flow.next) _ _ _
 refine wpAny_bind (wpAny_rule (wpAny_bind (unpackItems_tuple (items:=#[u1,u2]) (I.ok.hd hc) (IsTup.new s1.heap _) fun h' hx'=>?_)))
 have I3:=I2.kept (h':=h') (t':=s1.toks) fun b o e=>hx' b o (Nat.ne_of_lt (Heap.lt_size e)) e
 show wpAny _ _ (assignInOrder [fun v=>bindName X.env y v,fun v=>bindName X.env x v] [u2,u1] >>= fun _=>pure Flow.next) _ _ _
 refine wpAny_bind (assignInOrder_cons (wpAny_bindName (store_ok I3 hN hj (.inl hy) rw' (fun s2 I4=>?_) (.inr hy))))
 refine assignInOrder_cons (wpAny_bindName (store_ok I4 hN hi (.inl hx) rv (fun s3 I5=>assignInOrder_nil (wpAny_pure ?_)) (.inr hx)))
 rw [List.set_comm _ _ (Ne.symm hij)] at I5
 exact ⟨_,H1,I5,q1⟩
end
section
variable {X:Cx} {pos:Pos}
def tWhile (c:TT) (tb:TS):TS:=fun D σ H=>∃ W:Nat→St→Hp→Prop,(∃ m,W m σ H)∧∀ m σ H,W m σ H →
 c σ H fun b H1=>if b=true then ∃ N:St→Hp→Prop,(∀ σ' H',N σ' H'→∃ m',m' < m∧W m' σ' H')∧tb { D with nx:=N,ct:=N,bk:=D.nx } σ H1 else D.nx σ H1
theorem ps_while {c:Expr} {body:List Stmt} {tc:TT} {tb:TS} (hp:PassesOwn (model X.prog X.w) X.A X.env X.xe) (hc:PT X c tc) (hb:PSs X body tb):PS X (.While c body [] pos) (tWhile tc tb):=by
 intro pins s σ H D I h
 obtain ⟨W,⟨m0,w0⟩,turn⟩:=h
 refine wpAny_While (codeAny_whileLoop (fun n s'=>∃ σ' H',Inv X pins σ' H' s'∧W n σ' H') ?_ m0 ⟨σ,H,I,w0⟩)
 rintro n s1 ⟨σ1,H1,I1,w1⟩
 refine wpAny_passesOwn hp (thn (hc pins s1 σ1 H1 _ I1 (turn n σ1 H1 w1)) fun b s2 ⟨H2,I2,q2⟩=>?_)
 cases b with
 | true =>
  obtain ⟨N,hN,q2⟩:=q2
  rw [if_pos rfl]
  refine wpAny_passesOwn hp (thn (hb pins s2 σ1 H2 _ I2 q2) fun f s3 q3=>?_)
  cases f with
  | next =>
   obtain ⟨σ3,H3,I3,n3⟩:=q3
   obtain ⟨m',hm,w3⟩:=hN σ3 H3 n3
   exact ⟨m',hm,σ3,H3,I3,w3⟩
  | cont =>
   obtain ⟨σ3,H3,I3,n3⟩:=q3
   obtain ⟨m',hm,w3⟩:=hN σ3 H3 n3
   exact ⟨m',hm,σ3,H3,I3,w3⟩
  | brk=>exact q3
  | ret v=>exact q3
 | false =>
  rw [if_neg Bool.false_ne_true]
  exact wpAny_execs_nil ⟨σ1,H2,I2,q2⟩
end
structure It where
 go:Nat→Hp→Prop
 yld:Nat→Hp→V→Hp→Prop
 stop:Nat→Hp→Prop
def FpOk (X:Cx) (pins:List (Addr×Obj)) (H:Hp) (b:Addr):Prop :=
 H b=none∧b≠X.env.locals∧b∉X.fs∧(b∈X.ex∨X.s₀.heap.objs.size≤b)∧(∀ x c,X.env.cells.lookup x=some c→c≠b)∧∀ p∈X.pn++pins,p.1≠b
theorem Inv.fpOk {X:Cx} {pins:List (Addr×Obj)} {σ:St} {H H':Hp} {s:Shared} {b:Addr} (I:Inv X pins σ H s) (hb:s.heap.objs.size≤b) (hn:H' b=none):FpOk X pins H' b:=by
 refine ⟨hn,Nat.ne_of_gt (Nat.lt_of_lt_of_le I.lt hb),I.nofs hb,.inr (Nat.le_trans I.sz hb),fun x c e z=>?_,fun p hp z=>?_⟩
 ·obtain ⟨v,q⟩:=I.cell x c e
  exact absurd (Nat.lt_of_lt_of_le q.lt (by rw [z];exact hb)) (Nat.lt_irrefl _)
 ·exact absurd (Nat.lt_of_lt_of_le (Heap.lt_size (I.pin p hp).1) (by rw [z];exact hb)) (Nat.lt_irrefl _)
structure Turn (P:Program) (w:World) (K:PySem.W.Frag) (tg:Expr) (J:It) (fp:List Addr) (it:Addr) (tn:Nat→Heap→Prop):Prop where
 mem:it∈fp
 obj:∀ i h,tn i h→∀ b∈fp,∃ o,h.get? b=some o∧∀ v,o.data≠.cell v
 keep:∀ i h h',tn i h→(∀ b∈fp,∀ o,h.get? b=some o→h'.get? b=some o)→tn i h'
 item:∀ (X:Cx),X.prog=P→X.w=w→X.K=K→X.calm=true→∀ (i:Nat) (pins:List (Addr×Obj)) (s:Shared) (σ:St) (H:Hp) (E:Value→Shared→Prop),Inv X pins σ H s→(∀ b∈fp,FpOk X pins H b)→tn i s.heap→J.go i H →
  wpAny (model P w) X.A (pyNext (.ref it)) (fun r s1=>∃ u,r=some u ∧
   wpAny (model P w) X.A (letOwnedTupleGo tg (.ref it) u) (fun _ s2=>∃ x H',Inv X pins σ H' s2∧RelV x u∧J.yld i H x H'∧tn (i+1) s2.heap∧∀ b∈fp,H' b=none) E s1) E s
 done:∀ (X:Cx),X.prog=P→X.w=w→X.K=K→X.calm=true→∀ (i:Nat) (pins:List (Addr×Obj)) (s:Shared) (σ:St) (H:Hp) (E:Value→Shared→Prop),Inv X pins σ H s→(∀ b∈fp,FpOk X pins H b)→tn i s.heap→J.stop i H →
  wpAny (model P w) X.A (pyNext (.ref it)) (fun r s1=>r=none∧Inv X pins σ H s1) E s
 self:∀ (A:Around) (i:Nat) (s:Shared) (Q:Value→Shared→Prop) (E:Value→Shared→Prop),tn i s.heap→Q (.ref it) s→wpAny (model P w) A (pyIter (.ref it)) Q E s
abbrev TI:=St→Hp→(It→Hp→Prop)→Prop
def PIE (X:Cx) (pins:List (Addr×Obj)) (σ:St) (tg:Expr) (R:It→Hp→Prop) (itv:Value) (s2:Shared):Prop :=
 ∃ (it:Addr) (fp:List Addr) (tn:Nat→Heap→Prop) (J:It) (H':Hp),itv=.ref it∧Inv X pins σ H' s2∧Turn X.prog X.w X.K tg J fp it tn∧tn 0 s2.heap∧(∀ b∈fp,FpOk X pins H' b)∧R J H'
def PI (X:Cx) (tg iter:Expr) (wi:TI):Prop :=
 ∀ (pins:List (Addr×Obj)) (s:Shared) (σ:St) (H:Hp) (R:It→Hp→Prop),Inv X pins σ H s→wi σ H R →
  wpAny (model X.prog X.w) X.A (eval iter X.env) (fun v s1=>wpAny (model X.prog X.w) X.A (pyIter v) (PIE X pins σ tg R) X.xe s1) X.xe s
theorem go_of {M:Model} {A:Around} {E:Value→Shared→Prop} {s:Shared} {tg:Expr} {it:Addr} {u:Value} {o:Obj} {n:String} {vs:Array Value} {Q:Unit→Shared→Prop} (ho:s.heap.get? it=some o) (hc:o.cls=.type n) (hd:o.data=.fields vs)
    (hn:["enumerate","zip","dict_itemiterator","dict_reverseitemiterator","odict_iterator","itertools.zip_longest","itertools.pairwise"].contains n=false) (hQ:Q () s):wpAny M A (letOwnedTupleGo tg (.ref it) u) Q E s:=by
  unfold letOwnedTupleGo
  cases tg <;> first
    | exact wpAny_pure hQ
    | (cases u <;> first
        | exact wpAny_pure hQ
        | (refine wpAny_bind (wpAny_load ho ?_)
           rw [hc,hd]
           show wpAny M A (if (["enumerate","zip","dict_itemiterator","dict_reverseitemiterator","odict_iterator","itertools.zip_longest","itertools.pairwise"].contains n&&vs[0]?==some (rawInt _))=true then _ else _) Q E s
           rw [if_neg (by intro h;rw [hn,Bool.false_and] at h;cases h)]
           exact wpAny_pure hQ))
def Itl (K:PySem.W.Frag) (a:Addr):It :=
 ⟨fun i H=>∃ xs x,SqL K H a xs∧xs[i]? = some x,fun i H x H'=>H'=H∧∀ xs,SqL K H a xs→xs[i]? = some x,fun i H=>∃ xs,SqL K H a xs∧xs.length≤i⟩
def Itr (lo:Int) (n:Nat):It:=⟨fun i _=>i<n,fun i H x H'=>H'=H∧x=.int (lo+i),fun i _=>n≤i⟩
theorem turn_list {P:Program} {w:World} {K:PySem.W.Frag} {tg:Expr} (a it:Addr):Turn P w K tg (Itl K a) [it] it (fun i h=>h.IsListIter it a i) where
 mem:=by simp
 obj:=fun i h st b hb=>by
  have e:b=it:=by simpa using hb
  subst e
  obtain ⟨o,e,c,d⟩:=st
  exact ⟨o,e,fun v z=>by rw [d] at z;cases z⟩
 keep:=fun i h h' st k=>st.at fun o e=>k it (by simp) o e
 item:=by
  intro X hP hw hK hc i pins s σ H E I hf st hg
  subst hP hw hK
  obtain ⟨xs,x,hq,hx⟩:=hg
  obtain ⟨its,rv,p,hz⟩:=I.list hq
  obtain ⟨u,hu,ru⟩:=rv.get hx
  obtain ⟨f0,f1,f2,f3,f4,f5⟩:=hf it (by simp)
  refine wpAny_pyNext_list_item st p.isList (x:=u) (by simpa using hu) fun h' st' sb=>?_
  have I1:Inv X pins σ H { s with heap:=h' }:=I.turned (t':=s.toks) (fun b o hb e=>(sb.2 b hb).trans e) f0 f1 f3 f4 f5
  obtain ⟨o,e,c,d⟩:=id st'
  exact ⟨u,rfl,go_of (s:={ s with heap:=h' }) e c d (by decide) ⟨x,H,I1,ru,⟨rfl,fun ys hy=>by rw [I.list_inj hy hq];exact hx⟩,st',fun b hb=>(hf b hb).1⟩⟩
 done:=by
  intro X hP hw hK hc i pins s σ H E I hf st hg
  subst hP hw hK
  obtain ⟨xs,hq,hx⟩:=hg
  obtain ⟨its,rv,p,hz⟩:=I.list hq
  obtain ⟨f0,f1,f2,f3,f4,f5⟩:=hf it (by simp)
  have hl:=rv.length
  exact wpAny_pyNext_list_end (I.ok.hd hc) st p.isList (by simp;omega) fun h' eb=>⟨rfl,I.turned (t':=s.toks) (fun b o hb e=>eb b o hb e) f0 f1 f3 f4 f5⟩
 self:=fun _ _ _ _ _ st h=>wpAny_pyIter_listiter st h
theorem turn_range {P:Program} {w:World} {K:PySem.W.Frag} {tg:Expr} (it:Addr) (lo:Int) (n:Nat):Turn P w K tg (Itr lo n) [it] it (fun i h=>IsRangeIter h it (lo+(i:Nat)*1) ((n:Int)-(i:Nat)) 1) where
 mem:=by simp
 obj:=fun i h st b hb=>by
  have e:b=it:=by simpa using hb
  subst e
  exact ⟨_,st,fun v z=>by
   have z':Data.fields _=Data.cell v:=z
   cases z'⟩
 keep:=fun i h h' st k=>k it (by simp) _ st
 item:=by
  intro X hP hw hK hc i pins s σ H E I hf st hg
  subst hP hw hK
  obtain ⟨f0,f1,f2,f3,f4,f5⟩:=hf it (by simp)
  have W:=Walks.range (prog:=X.prog) (w:=X.w) (I.ok.hd hc) it lo 1 n
  refine W.item i s _ _ hg st fun v h' tk hv st' kk=>?_
  obtain ⟨t,rfl⟩:=hv
  have I1:Inv X pins σ H { s with heap:=h',toks:=tk }:=I.turned (fun b o hb e=>kk b o (by simpa using hb) e) f0 f1 f3 f4 f5
  refine ⟨_,rfl,go_of (s:={ s with heap:=h',toks:=tk }) (n:="range_iterator") st' rfl rfl (by decide) ⟨.int (lo+i),H,I1,⟨t,?_⟩,⟨rfl,rfl⟩,st',fun b hb=>(hf b hb).1⟩⟩
  rw [Int.mul_one]
 done:=by
  intro X hP hw hK hc i pins s σ H E I hf st hg
  subst hP hw hK
  obtain ⟨f0,f1,f2,f3,f4,f5⟩:=hf it (by simp)
  exact wpAny_pyNext_range_end (I.ok.hd hc) st (by have:n≤i:=hg;omega) fun h' eb=>⟨rfl,I.turned (t':=s.toks) (fun b o hb e=>eb b o hb e) f0 f1 f3 f4 f5⟩
 self:=fun _ _ _ _ _ st h=>wpAny_pyIter_rangeiter st h
end L2
namespace L2
open PySem PySem.Spec PyProof.Rows
section
variable {X:Cx} {tg:Expr}
def iList (K:PySem.W.Frag) (tl:TE):TI:=fun σ H R=>tl σ H fun x H1=>∃ a,x=.ref a∧(∃ xs,SqL K H1 a xs)∧R (Itl K a) H1
theorem pi_list {l:Expr} {tl:TE} (hl:PE X l tl):PI X tg l (iList X.K tl):=by
 intro pins s σ H R I h
 refine thn (hl pins s σ H _ I h) fun v s1 ⟨x,H1,I1,r1,q1⟩=>?_
 obtain ⟨a,e,⟨xs,hq⟩,q⟩:=q1
 subst e
 cases r1
 obtain ⟨its,rv,p,hz⟩:=I1.list hq
 refine wpAny_pyIter_list p.isList ?_
 refine ⟨s1.heap.objs.size,[s1.heap.objs.size],_,_,H1,rfl,I1.kept (t':=s1.toks) fun b o e=>Heap.get?_push_of_some _ e,turn_list a _,⟨_,Heap.get?_push_size _ rfl,rfl,rfl⟩,fun b hb=>?_,q⟩
 have e:b=s1.heap.objs.size:=by simpa using hb
 subst e
 exact I1.fpOk (Nat.le_refl _) (I1.hok.fresh (Nat.le_refl _))
theorem range_it {pins:List (Addr×Obj)} {σ:St} {H:Hp} {s:Shared} {R:It→Hp→Prop} {E:Value→Shared→Prop} {lo hi:Int} {t u v:Tok} {tk:Nat} (I:Inv X pins σ H s) (h1 : -(2^62)≤lo) (h2:lo<2^62) (h3 : -(2^62)≤hi) (h4:hi<2^62)
  (q:R (Itr lo (hi-lo).toNat) H):wpAny (model X.prog X.w) X.A (pyIter (.ref s.heap.objs.size)) (PIE X pins σ tg R) E { s with heap:=s.heap.push { cls:=.type "range",data:=.fields #[.int lo t,.int hi u,.int 1 v] },toks:=tk }:=by
 refine wpAny_pyIter_range (IsRange.new ..) (small_one h1 h2 h3 h4) ?_
 have I1:Inv X pins σ H { s with heap:=s.heap.push { cls:=.type "range",data:=.fields #[.int lo t,.int hi u,.int 1 v] },toks:=tk }:=I.kept fun b o e=>Heap.get?_push_of_some _ e
 refine ⟨(s.heap.push { cls:=.type "range",data:=.fields #[.int lo t,.int hi u,.int 1 v] }).objs.size,[(s.heap.push { cls:=.type "range",data:=.fields #[.int lo t,.int hi u,.int 1 v] }).objs.size],_,_,H,rfl,
  I1.kept (t':=tk) fun b o e=>Heap.get?_push_of_some _ e,turn_range _ lo (hi-lo).toNat,?_,fun b hb=>?_,q⟩
 ·have e1:lo+((0:Nat):Int)*1=lo:=by simp
  have e2:(((hi-lo).toNat:Nat):Int)-((0:Nat):Int)=Builtin.Range.rangeSize lo hi 1:=by rw [rangeSize_one];split <;> omega
  show IsRangeIter _ _ (lo+((0:Nat):Int)*1) ((((hi-lo).toNat:Nat):Int)-((0:Nat):Int)) 1
  rw [e1,e2]
  exact Heap.get?_push_size _ rfl
 ·have e:b=(s.heap.push { cls:=.type "range",data:=.fields #[.int lo t,.int hi u,.int 1 v] }).objs.size:=by simpa using hb
  subst e
  exact I1.fpOk (Nat.le_refl _) (I1.hok.fresh (Nat.le_refl _))
def iRng1 (ta:TA):TI:=fun σ H R=>ta σ H fun vs H1=>∃ j:Int,vs=[.int j]∧-(2^62)≤j∧j<2^62∧R (Itr 0 j.toNat) H1
def iRng2 (ta:TA):TI:=fun σ H R=>ta σ H fun vs H1=>∃ i j:Int,vs=[.int i,.int j]∧(-(2^62)≤i∧i<2^62∧-(2^62)≤j∧j<2^62)∧R (Itr i (j-i).toNat) H1
theorem pi_range1 {a:Expr} {ta:TA} {p pos:Pos} (hg:Gl X "range") (hm:X.mg "range" = none) (ha:PA X [a] ta) (hs:starEach [a] X.env=[(false,eval a X.env)]:=by rfl):PI X tg (.Call (.Name "range" p) [a] [] pos) (iRng1 ta):=by
 intro pins s σ H R I h
 refine Call_ (ld_blt I hg hm boot_range (PyProof.Rows.callWith_type1 (thn (ha pos pins s σ H _ I h) fun us s1 ⟨vs,H1,I1,r1,q1⟩=>?_) hs rfl))
 obtain ⟨j,e,q1,q2,q⟩:=q1
 subst e
 cases r1 with
 | cons r rr =>
  cases rr
  obtain ⟨t,rfl⟩:=r
  exact call_range_1 (range_it I1 (by omega) (by omega) q1 q2 (by simpa using q))
theorem pi_range2 {a b:Expr} {ta:TA} {p pos:Pos} (hg:Gl X "range") (hm:X.mg "range" = none) (ha:PA X [a,b] ta) (hs:starEach [a,b] X.env=[(false,eval a X.env),(false,eval b X.env)]:=by rfl) (hs2:starEach [b] X.env=[(false,eval b X.env)]:=by rfl) :
  PI X tg (.Call (.Name "range" p) [a,b] [] pos) (iRng2 ta):=by
 intro pins s σ H R I h
 refine Call_ (ld_blt I hg hm boot_range (PyProof.Rows.callWith_type1 (thn (ha pos pins s σ H _ I h) fun us s1 ⟨vs,H1,I1,r1,q1⟩=>?_) (by rw [hs,hs2]) (by rw [hs2];rfl)))
 obtain ⟨i,j,e,⟨q1,q2,q3,q4⟩,q⟩:=q1
 subst e
 cases r1 with
 | cons r rr =>
  cases rr with
  | cons r' rr =>
   cases rr
   obtain ⟨t,rfl⟩:=r
   obtain ⟨t',rfl⟩:=r'
   exact call_range_2 (range_it I1 q1 q2 q3 q4 q)
def tFor (wi:TI) (g:TG) (tb:TS):TS:=fun D σ H=>wi σ H fun J H1=>∃ W:Nat→Nat→St→Hp→Prop,(∃ m,W 0 m σ H1)∧∀ i m σ H,W i m σ H →
 (J.stop i H∧D.nx σ H)∨(J.go i H∧∃ N:St→Hp→Prop,(∀ σ' H',N σ' H'→∃ m',m' < m∧W (i+1) m' σ' H')∧∀ x H',J.yld i H x H'→g x σ H' fun σ2 H2=>tb { D with nx:=N,ct:=N,bk:=D.nx } σ2 H2)
def pinsAt (fp:List Addr) (h:Heap):List (Addr×Obj):=fp.filterMap fun b=>(h.get? b).map fun o=>(b,o)
theorem mem_pinsAt {fp:List Addr} {h:Heap} {b:Addr} {o:Obj} (hb:b∈fp) (e:h.get? b=some o):(b,o)∈pinsAt fp h:=List.mem_filterMap.mpr ⟨b,hb,by rw [e];rfl⟩
theorem of_pinsAt {fp:List Addr} {h:Heap} {p:Addr×Obj} (hp:p∈pinsAt fp h):p.1∈fp∧h.get? p.1=some p.2:=by
 obtain ⟨b,hb,e⟩:=List.mem_filterMap.mp hp
 cases q:h.get? b with
 | none=>rw [q] at e;cases e
 | some o =>
  rw [q] at e
  have e':(b,o)=p:=Option.some.inj e
  subst e'
  exact ⟨hb,q⟩
theorem Inv.pinned {pins:List (Addr×Obj)} {σ:St} {H:Hp} {s:Shared} {fp:List Addr} (I:Inv X pins σ H s) (hf:∀ b∈fp,FpOk X pins H b) (ho:∀ b∈fp,∃ o,s.heap.get? b=some o∧∀ v,o.data≠.cell v):Inv X (pins++pinsAt fp s.heap) σ H s :=
 I.pins_of fun p hp=>(List.mem_append.mp hp).elim (fun z=>I.pin p (List.mem_append_right _ z)) fun z=>by
  obtain ⟨hb,e⟩:=of_pinsAt z
  obtain ⟨f0,f1,f2,_⟩:=hf p.1 hb
  obtain ⟨o,e',d⟩:=ho p.1 hb
  rw [e] at e';cases e'
  exact ⟨e,f0,f1,f2,d⟩
theorem Inv.unpinned {pins pl:List (Addr×Obj)} {σ:St} {H:Hp} {s:Shared} (I:Inv X (pins++pl) σ H s):Inv X pins σ H s:=I.pins_of fun p hp=>I.pin p (List.mem_append_right _ (List.mem_append_left _ hp))
theorem ps_for {iter:Expr} {body:List Stmt} {wi:TI} {g:TG} {tb:TS} {pos:Pos} (hp:PassesOwn (model X.prog X.w) X.A X.env X.xe) (hc:X.calm=true) (hi:PI X tg iter wi) (hg:PG X tg g) (hb:PSs X body tb)
  (hs:∀ x,foldedSetIterable iter X.env x=pure x:=by intro _;rfl):PS X (.For tg iter body [] pos) (tFor wi g tb):=by
 intro pins s σ H D I h
 refine wpAny_For (thn (hi pins s σ H _ I h) fun v s1 h1=>thn h1 fun itv s2 h2=>?_) hs
 obtain ⟨it,fp,tn,J,H2,e,I2,T,st2,f2,W,⟨m0,w0⟩,turn⟩:=h2
 subst e
 have stat:∀ {H':Hp},(∀ b∈fp,H' b=none)→∀ b∈fp,FpOk X pins H' b:=fun hn b hb=>⟨hn b hb,(f2 b hb).2⟩
 refine codeAny_forLoop_any (fun n s'=>∃ i σ' H',Inv X pins σ' H' s'∧tn i s'.heap∧(∀ b∈fp,H' b=none)∧W i n σ' H') ?_ m0 ⟨0,σ,H2,I2,st2,fun b hb=>(f2 b hb).1,w0⟩
 rintro n s3 ⟨i,σ3,H3,I3,st3,fr3,w3⟩
 rcases turn i n σ3 H3 w3 with ⟨stop,qn⟩ | ⟨go,N,hN,step⟩
 ·refine wpAny_passesOwn hp (thn (T.done X rfl rfl rfl hc i pins s3 σ3 H3 X.xe I3 (stat fr3) st3 stop) fun r s4 ⟨hr,I4⟩=>?_)
  subst hr
  exact wpAny_execs_nil ⟨σ3,H3,I4,qn⟩
 ·refine wpAny_passesOwn hp (thn (T.item X rfl rfl rfl hc i pins s3 σ3 H3 X.xe I3 (stat fr3) st3 go) fun r s4 ⟨u,hr,h4⟩=>?_)
  subst hr
  refine wpAny_passesOwn hp (thn h4 fun _ s5 ⟨x,H5,I5,r5,y5,st5,fr5⟩=>?_)
  have I5':=I5.pinned (stat fr5) (T.obj _ _ st5)
  refine wpAny_passesOwn hp (thn (hg _ s5 σ3 H5 x u _ I5' r5 (step x H5 y5)) fun _ s6 ⟨σ6,H6,I6,q6⟩=>?_)
  refine wpAny_passesOwn hp (thn (hb _ s6 σ6 H6 _ I6 q6) fun f s7 q7=>?_)
  have again:∀ {σ7:St} {H7:Hp},Inv X (pins++pinsAt fp s5.heap) σ7 H7 s7→N σ7 H7→∃ m,m<n∧∃ i σ' H',Inv X pins σ' H' s7∧tn i s7.heap∧(∀ b∈fp,H' b=none)∧W i m σ' H':=fun {σ7 H7} I7 n7=>by
   obtain ⟨m',hm,w7⟩:=hN σ7 H7 n7
   refine ⟨m',hm,i+1,σ7,H7,I7.unpinned,T.keep _ _ _ st5 fun b hb o e=>(I7.pin (b,o) (List.mem_append_right _ (List.mem_append_right _ (mem_pinsAt hb e)))).1,fun b hb=>?_,w7⟩
   obtain ⟨o,e,d⟩:=T.obj _ _ st5 b hb
   exact (I7.pin (b,o) (List.mem_append_right _ (List.mem_append_right _ (mem_pinsAt hb e)))).2.1
  cases f with
  | next=>obtain ⟨σ7,H7,I7,n7⟩:=q7;exact again I7 n7
  | cont=>obtain ⟨σ7,H7,I7,n7⟩:=q7;exact again I7 n7
  | brk=>obtain ⟨σ7,H7,I7,q7⟩:=q7;exact ⟨σ7,H7,I7.unpinned,q7⟩
  | ret v=>obtain ⟨x7,σ7,H7,I7,r7,q7⟩:=q7;exact ⟨x7,σ7,H7,I7.unpinned,r7,q7⟩
end
theorem for_list {K:PySem.W.Frag} {a:Addr} {xs:List V} {g:TG} {tb:TS} {D:Ends} {σ:St} {H:Hp} (Pv:Nat→St→Hp→Prop) (h0:Pv 0 σ H) (hl:∀ i σ H,i≤xs.length→Pv i σ H→SqL K H a xs)
  (hs:∀ i x σ H,xs[i]? = some x→Pv i σ H→g x σ H fun σ2 H2=>tb { D with nx:=Pv (i+1),ct:=Pv (i+1),bk:=D.nx } σ2 H2) (hd:∀ σ H,Pv xs.length σ H→D.nx σ H) :
  ∃ W:Nat→Nat→St→Hp→Prop,(∃ m,W 0 m σ H)∧∀ i m σ H,W i m σ H →
   ((Itl K a).stop i H∧D.nx σ H)∨((Itl K a).go i H∧∃ N:St→Hp→Prop,(∀ σ' H',N σ' H'→∃ m',m' < m∧W (i+1) m' σ' H')∧∀ x H',(Itl K a).yld i H x H'→g x σ H' fun σ2 H2=>tb { D with nx:=N,ct:=N,bk:=D.nx } σ2 H2):=by
 refine ⟨fun i m σ H=>m=xs.length-i∧i≤xs.length∧Pv i σ H,⟨xs.length,by simp,Nat.zero_le _,h0⟩,?_⟩
 rintro i m σ H ⟨rfl,hi,p⟩
 have q:=hl i σ H hi p
 by_cases hlt:i<xs.length
 ·refine .inr ⟨⟨xs,xs[i],q,by simp [hlt]⟩,Pv (i+1),fun σ' H' p'=>⟨xs.length-(i+1),by omega,rfl,hlt,p'⟩,fun x H' y=>?_⟩
  obtain ⟨e,y⟩:=y
  subst e
  exact hs i x σ _ (y xs q) p
 ·have e:i=xs.length:=by omega
  subst e
  exact .inl ⟨⟨xs,q,Nat.le_refl _⟩,hd σ H p⟩
theorem for_range {lo:Int} {n:Nat} {g:TG} {tb:TS} {D:Ends} {σ:St} {H:Hp} (Pv:Nat→St→Hp→Prop) (h0:Pv 0 σ H)
  (hs:∀ i σ H,i<n→Pv i σ H→g (.int (lo+i)) σ H fun σ2 H2=>tb { D with nx:=Pv (i+1),ct:=Pv (i+1),bk:=D.nx } σ2 H2) (hd:∀ σ H,Pv n σ H→D.nx σ H) :
  ∃ W:Nat→Nat→St→Hp→Prop,(∃ m,W 0 m σ H)∧∀ i m σ H,W i m σ H →
   ((Itr lo n).stop i H∧D.nx σ H)∨((Itr lo n).go i H∧∃ N:St→Hp→Prop,(∀ σ' H',N σ' H'→∃ m',m' < m∧W (i+1) m' σ' H')∧∀ x H',(Itr lo n).yld i H x H'→g x σ H' fun σ2 H2=>tb { D with nx:=N,ct:=N,bk:=D.nx } σ2 H2):=by
 refine ⟨fun i m σ H=>m=n-i∧i≤n∧Pv i σ H,⟨n,by simp,Nat.zero_le _,h0⟩,?_⟩
 rintro i m σ H ⟨rfl,hi,p⟩
 by_cases hlt:i<n
 ·refine .inr ⟨hlt,Pv (i+1),fun σ' H' p'=>⟨n-(i+1),by omega,rfl,hlt,p'⟩,fun x H' y=>?_⟩
  obtain ⟨e,y⟩:=y
  subst e y
  exact hs i σ _ hlt p
 ·have e:i=n:=by omega
  subst e
  exact .inl ⟨Nat.le_refl _,hd σ H p⟩
theorem while_by {c:TT} {tb:TS} {D:Ends} {σ:St} {H:Hp} (Pv:St→Hp→Prop) (μ:St→Hp→Nat) (h0:Pv σ H)
  (hs:∀ σ H,Pv σ H→c σ H fun b H1=>if b=true then tb { D with nx:=fun σ' H'=>Pv σ' H'∧μ σ' H' < μ σ H,ct:=fun σ' H'=>Pv σ' H'∧μ σ' H' < μ σ H,bk:=D.nx } σ H1 else D.nx σ H1)
  (mono:∀ σ H Q Q',(∀ b H1,Q b H1→Q' b H1)→c σ H Q→c σ H Q'):tWhile c tb D σ H:=by
 refine ⟨fun m σ H=>m=μ σ H∧Pv σ H,⟨_,rfl,h0⟩,?_⟩
 rintro m σ H ⟨rfl,p⟩
 refine mono σ H _ _ (fun b H1 q=>?_) (hs σ H p)
 cases b with
 | true=>exact ⟨_,fun σ' H' ⟨p',l⟩=>⟨_,l,rfl,p'⟩,q⟩
 | false=>exact q
end L2
namespace L2
open PySem PySem.Spec PyProof.Rows
abbrev R2:=V→V→Hp→VK→Prop
def OpR (X:Cx) (f:Value→Value→Sem Value) (r:R2):Prop :=
 ∀ (pins:List (Addr×Obj)) (s:Shared) (σ:St) (H:Hp) (x y:V) (v u:Value) (Q:VK),Inv X pins σ H s→RelV x v→RelV y u→r x y H Q →
  wpAny (model X.prog X.w) X.A (f v u) (EP X pins σ Q) X.xe s
def UnR (X:Cx) (f:Value→Sem Value) (r:V→Hp→VK→Prop):Prop :=
 ∀ (pins:List (Addr×Obj)) (s:Shared) (σ:St) (H:Hp) (x:V) (v:Value) (Q:VK),Inv X pins σ H s→RelV x v→r x H Q →
  wpAny (model X.prog X.w) X.A (f v) (EP X pins σ Q) X.xe s
def CallR (X:Cx) (f:Value) (r:List V→Hp→VK→Prop):Prop :=
 ∀ (pins:List (Addr×Obj)) (s:Shared) (σ:St) (H:Hp) (xs:List V) (us:List Value) (Q:VK),Inv X pins σ H s→Vals xs us→r xs H Q →
  wpAny (model X.prog X.w) X.A (call f us) (EP X pins σ Q) X.xe s
def tOp (r:R2) (ta tb:TE):TE:=fun σ H Q=>ta σ H fun x H1=>tb σ H1 fun y H2=>r x y H2 Q
def tUn (r:V→Hp→VK→Prop) (ta:TE):TE:=fun σ H Q=>ta σ H fun x H1=>r x H1 Q
def rI (C:Int→Int→Prop) (g:Int→Int→V):R2:=fun x y H Q=>∃ i j,x=.int i∧y=.int j∧C i j∧Q (g i j) H
def rI0 (g:Int→Int→V):R2:=fun x y H Q=>∃ i j,x=.int i∧y=.int j∧Q (g i j) H
def rU (g:Int→V):V→Hp→VK→Prop:=fun x H Q=>∃ i,x=.int i∧Q (g i) H
section
variable {X:Cx} {a b c:Expr} {ta tb tc:TE} {pos:Pos}
theorem binT (ha:PE X a ta) (hb:PE X b tb) {pins:List (Addr×Obj)} {s:Shared} {σ:St} {H:Hp} {R:V→V→Hp→Prop} (I:Inv X pins σ H s)
  (h:ta σ H fun x H1=>tb σ H1 fun y H2=>R x y H2) {Q:Value→Shared→Prop} {f:Value→Value→Sem Value}
  (hf:∀ v u s2 x y H2,Inv X pins σ H2 s2→RelV x v→RelV y u→R x y H2→wpAny (model X.prog X.w) X.A (f v u) Q X.xe s2) :
  wpAny (model X.prog X.w) X.A (eval a X.env) (fun v s₁=>wpAny (model X.prog X.w) X.A (eval b X.env) (fun u s₂=>wpAny (model X.prog X.w) X.A (f v u) Q X.xe s₂) X.xe s₁) X.xe s:=by
 refine thn (ha pins s σ H _ I h) fun v s1 ⟨x,H1,I1,r1,q1⟩=>?_
 refine thn (hb pins s1 σ H1 _ I1 q1) fun u s2 ⟨y,H2,I2,r2,q2⟩=>?_
 exact hf v u s2 x y H2 I2 r1 r2 q2
theorem pe_op {op:Operator} {r:R2} (ho:OpR X (binaryOp op) r) (ha:PE X a ta) (hb:PE X b tb):PE X (.BinOp a op b pos) (tOp r ta tb):=by
 intro pins s σ H Q I h
 exact wpAny_BinOp (binT ha hb I h fun v u s2 x y H2 I2 rx ry q=>ho pins s2 σ H2 x y v u Q I2 rx ry q)
theorem pe_un {op:UnaryOp} {r:V→Hp→VK→Prop} (ho:UnR X (unaryOp op) r) (ha:PE X a ta):PE X (.UnaryOp op a pos) (tUn r ta):=by
 intro pins s σ H Q I h
 exact UnaryOp_ (thn (ha pins s σ H _ I h) fun v s1 ⟨x,H1,I1,r1,q1⟩=>ho pins s1 σ H1 x v Q I1 r1 q1)
theorem opI {f:Value→Value→Sem Value} {C:Int→Int→Prop} {g:Int→Int→Int}
  (rule:∀ (i j:Int) (t u:Tok) (s:Shared) (Q:Value→Shared→Prop) (E:Value→Shared→Prop),C i j→Q (.int (g i j) s.toks) { s with toks:=s.toks+1 }→wpAny (model X.prog X.w) X.A (f (.int i t) (.int j u)) Q E s) :
  OpR X f (rI C fun i j=>.int (g i j)):=by
 intro pins s σ H x y v u Q I rx ry h
 obtain ⟨i,j,rfl,rfl,hc,q⟩:=h
 obtain ⟨t,rfl⟩:=rx
 obtain ⟨t',rfl⟩:=ry
 exact rule i j t t' s _ _ hc ⟨.int (g i j),H,I.tok _,⟨_,rfl⟩,q⟩
theorem opI0 {f:Value→Value→Sem Value} {g:Int→Int→Int}
  (rule:∀ (i j:Int) (t u:Tok) (s:Shared) (Q:Value→Shared→Prop) (E:Value→Shared→Prop),Q (.int (g i j) s.toks) { s with toks:=s.toks+1 }→wpAny (model X.prog X.w) X.A (f (.int i t) (.int j u)) Q E s) :
  OpR X f (rI0 fun i j=>.int (g i j)):=by
 intro pins s σ H x y v u Q I rx ry h
 obtain ⟨i,j,rfl,rfl,q⟩:=h
 obtain ⟨t,rfl⟩:=rx
 obtain ⟨t',rfl⟩:=ry
 exact rule i j t t' s _ _ ⟨.int (g i j),H,I.tok _,⟨_,rfl⟩,q⟩
theorem opB0 {f:Value→Value→Sem Value} {g:Int→Int→Bool}
  (rule:∀ (i j:Int) (t u:Tok) (s:Shared) (Q:Value→Shared→Prop) (E:Value→Shared→Prop),Q (.bool (g i j)) s→wpAny (model X.prog X.w) X.A (f (.int i t) (.int j u)) Q E s) :
  OpR X f (rI0 fun i j=>.bl (g i j)):=by
 intro pins s σ H x y v u Q I rx ry h
 obtain ⟨i,j,rfl,rfl,q⟩:=h
 obtain ⟨t,rfl⟩:=rx
 obtain ⟨t',rfl⟩:=ry
 exact rule i j t t' s _ _ ⟨.bl (g i j),H,I,rfl,q⟩
def CDiv (i j:Int):Prop:=0<j∧j<1073741824
def CMul (i j:Int):Prop:=(-(2^64)<i∧i<2^64)∨(-(2^64)<j∧j<2^64)
theorem CMul.ok {i j:Int} (h:CMul i j):IntMulOk i j:=by
 rcases h with ⟨h1,h2⟩ | ⟨h1,h2⟩
 ·exact .of_left (intBits_le_64 h1 h2)
 ·exact .of_right (intBits_le_64 h1 h2)
theorem op_add:OpR X (binaryOp .Add) (rI0 fun i j=>.int (i+j)):=opI0 fun _ _ _ _ _ _ _ q=>add_int q
theorem op_sub:OpR X (binaryOp .Sub) (rI0 fun i j=>.int (i-j)):=opI0 fun _ _ _ _ _ _ _ q=>sub_int q
theorem op_mul:OpR X (binaryOp .Mult) (rI CMul fun i j=>.int (i*j)):=opI fun _ _ _ _ _ _ _ hc q=>mul_int q hc.ok
theorem op_fdiv:OpR X (binaryOp .FloorDiv) (rI CDiv fun i j=>.int (i/j)):=opI fun i j _ _ _ _ _ hc q=>by
 have h1:(0:Int)<j:=hc.1
 have h2:j<1073741824:=hc.2
 exact floordiv_int (by omega) (by rw [Int.fdiv_eq_ediv_of_nonneg i (by omega)];exact q) (.inl (PyProof.noPylong_small (by omega)))
theorem op_mod:OpR X (binaryOp .Mod) (rI (fun _ j=>0<j) fun i j=>.int (i % j)):=opI fun i j _ _ _ _ _ hc q=>by
 have h1:(0:Int)<j:=hc
 exact mod_int' (by omega) (by rw [Int.fmod_eq_emod_of_nonneg i (by omega)];exact q)
theorem unI {f:Value→Sem Value} {g:Int→Int}
  (rule:∀ (i:Int) (t:Tok) (s:Shared) (Q:Value→Shared→Prop) (E:Value→Shared→Prop),Q (.int (g i) s.toks) { s with toks:=s.toks+1 }→wpAny (model X.prog X.w) X.A (f (.int i t)) Q E s) :
  UnR X f (rU fun i=>.int (g i)):=by
 intro pins s σ H x v Q I rx h
 obtain ⟨i,rfl,q⟩:=h
 obtain ⟨t,rfl⟩:=rx
 exact rule i t s _ _ ⟨.int (g i),H,I.tok _,⟨_,rfl⟩,q⟩
theorem un_neg:UnR X (unaryOp .USub) (rU fun i=>.int (-i)):=unI fun _ _ _ _ _ q=>neg_int q
end
def scal:V→V→Bool
 | .non,.non=>true | .non,.int _=>true | .int _,.non=>true | .non,.bl _=>true | .bl _,.non=>true | .non,.str _=>true | .str _,.non=>true
 | .int _,.int _=>true | .bl _,.bl _=>true | .str _,.str _=>true | .byt _,.byt _=>true
 | .int _,.str _=>true | .str _,.int _=>true | .bl _,.str _=>true | .str _,.bl _=>true
 | _,_=>false
def rEq:R2:=fun x y H Q=>scal x y=true∧Q (.bl (decide (x=y))) H
def rNe:R2:=fun x y H Q=>scal x y=true∧Q (.bl (!decide (x=y))) H
theorem dec_int {i j:Int}:decide (V.int i=V.int j)=(i==j):=by
 rw [Bool.eq_iff_iff]
 simp
theorem dec_bl {i j:Bool}:decide (V.bl i=V.bl j)=(i==j):=by
 rw [Bool.eq_iff_iff]
 simp
theorem dec_str {i j:Str}:decide (V.str i=V.str j)=(i==j):=by
 rw [Bool.eq_iff_iff]
 simp
theorem dec_byt {i j:Array UInt8}:decide (V.byt i=V.byt j)=(i.toList==j.toList):=by
 rw [Bool.eq_iff_iff]
 cases i
 cases j
 simp
section
variable {X:Cx} {a b c:Expr} {ta tb tc:TE} {pos:Pos}
theorem fin_bl {pins:List (Addr×Obj)} {σ:St} {H:Hp} {s:Shared} {Q:VK} {k k':Bool} (I:Inv X pins σ H s) (q:Q (.bl k) H) (e:k=k'):EP X pins σ Q (.bool k') s:=by
 subst e
 exact ⟨.bl k,H,I,rfl,q⟩
theorem op_eq:OpR X (compareOp .Eq) rEq:=by
 intro pins s σ H x y v u Q I rx ry h
 obtain ⟨hs,q⟩:=h
 cases x with
 | non =>
  cases rx
  cases y with
  | non=>cases ry;exact PySem.EqNone.eq_none_none (fin_bl I q (by simp))
  | bl j=>cases ry;exact PySem.EqNone.eq_none_bool (fin_bl I q (by simp))
  | int j=>obtain ⟨t',rfl⟩:=ry;exact PySem.EqNone.eq_none_int (fin_bl I q (by simp))
  | str j=>obtain ⟨t',rfl⟩:=ry;exact PySem.EqNone.eq_none_str (fin_bl I q (by simp))
  | _=>exact absurd (show false=true from hs) Bool.false_ne_true
 | bl i =>
  cases rx
  cases y with
  | non=>cases ry;exact PySem.EqNone.eq_bool_none (fin_bl I q (by simp))
  | bl j=>cases ry;exact eq_bool (fin_bl I q dec_bl)
  | str j=>obtain ⟨t',rfl⟩:=ry;exact PySem.EqMixed.eq_bool_str (fin_bl I q (by simp))
  | _=>exact absurd (show false=true from hs) Bool.false_ne_true
 | int i =>
  obtain ⟨t,rfl⟩:=rx
  cases y with
  | non=>cases ry;exact PySem.EqNone.eq_int_none (fin_bl I q (by simp))
  | int j=>obtain ⟨t',rfl⟩:=ry;exact eq_int (fin_bl I q dec_int)
  | str j=>obtain ⟨t',rfl⟩:=ry;exact PySem.EqMixed.eq_int_str (fin_bl I q (by simp))
  | _=>exact absurd (show false=true from hs) Bool.false_ne_true
 | str i =>
  obtain ⟨t,rfl⟩:=rx
  cases y with
  | non=>cases ry;exact PySem.EqNone.eq_str_none (fin_bl I q (by simp))
  | bl j=>cases ry;exact PySem.EqMixed.eq_str_bool (fin_bl I q (by simp))
  | int j=>obtain ⟨t',rfl⟩:=ry;exact PySem.EqMixed.eq_str_int (fin_bl I q (by simp))
  | str j=>obtain ⟨t',rfl⟩:=ry;exact eq_str (fin_bl I q dec_str)
  | _=>exact absurd (show false=true from hs) Bool.false_ne_true
 | byt i =>
  obtain ⟨t,rfl⟩:=rx
  cases y with
  | byt j=>obtain ⟨t',rfl⟩:=ry;exact PySem.W.eq_bytes (fin_bl I q dec_byt)
  | _=>exact absurd (show false=true from hs) Bool.false_ne_true
 | _=>cases y <;> exact absurd (show false=true from hs) Bool.false_ne_true
theorem op_ne:OpR X (compareOp .NotEq) rNe:=by
 intro pins s σ H x y v u Q I rx ry h
 obtain ⟨hs,q⟩:=h
 cases x with
 | non =>
  cases rx
  cases y with
  | non=>cases ry;exact PySem.EqNone.ne_none_none (fin_bl I q (by simp))
  | bl j=>cases ry;exact PySem.EqNone.ne_none_bool (fin_bl I q (by simp))
  | int j=>obtain ⟨t',rfl⟩:=ry;exact PySem.EqNone.ne_none_int (fin_bl I q (by simp))
  | str j=>obtain ⟨t',rfl⟩:=ry;exact PySem.EqNone.ne_none_str (fin_bl I q (by simp))
  | _=>exact absurd (show false=true from hs) Bool.false_ne_true
 | bl i =>
  cases rx
  cases y with
  | non=>cases ry;exact PySem.EqNone.ne_bool_none (fin_bl I q (by simp))
  | bl j=>cases ry;exact ne_bool (fin_bl I q (congrArg not dec_bl))
  | str j=>obtain ⟨t',rfl⟩:=ry;exact PySem.EqMixed.ne_bool_str (fin_bl I q (by simp))
  | _=>exact absurd (show false=true from hs) Bool.false_ne_true
 | int i =>
  obtain ⟨t,rfl⟩:=rx
  cases y with
  | non=>cases ry;exact PySem.EqNone.ne_int_none (fin_bl I q (by simp))
  | int j=>obtain ⟨t',rfl⟩:=ry;exact ne_int (fin_bl I q (congrArg not dec_int))
  | str j=>obtain ⟨t',rfl⟩:=ry;exact PySem.EqMixed.ne_int_str (fin_bl I q (by simp))
  | _=>exact absurd (show false=true from hs) Bool.false_ne_true
 | str i =>
  obtain ⟨t,rfl⟩:=rx
  cases y with
  | non=>cases ry;exact PySem.EqNone.ne_str_none (fin_bl I q (by simp))
  | bl j=>cases ry;exact PySem.EqMixed.ne_str_bool (fin_bl I q (by simp))
  | int j=>obtain ⟨t',rfl⟩:=ry;exact PySem.EqMixed.ne_str_int (fin_bl I q (by simp))
  | str j=>obtain ⟨t',rfl⟩:=ry;exact ne_str (fin_bl I q (congrArg not dec_str))
  | _=>exact absurd (show false=true from hs) Bool.false_ne_true
 | byt i =>
  obtain ⟨t,rfl⟩:=rx
  cases y with
  | byt j=>obtain ⟨t',rfl⟩:=ry;exact PySem.W.ne_bytes (fin_bl I q (congrArg not dec_byt))
  | _=>exact absurd (show false=true from hs) Bool.false_ne_true
 | _=>cases y <;> exact absurd (show false=true from hs) Bool.false_ne_true
theorem op_lt:OpR X (compareOp .Lt) (rI0 fun i j=>.bl (decide (i<j))):=opB0 fun _ _ _ _ _ _ _ q=>lt_int q
theorem op_le:OpR X (compareOp .LtE) (rI0 fun i j=>.bl (decide (i≤j))):=opB0 fun _ _ _ _ _ _ _ q=>le_int q
theorem op_gt:OpR X (compareOp .Gt) (rI0 fun i j=>.bl (decide (j<i))):=opB0 fun _ _ _ _ _ _ _ q=>gt_int q
theorem op_ge:OpR X (compareOp .GtE) (rI0 fun i j=>.bl (decide (j≤i))):=opB0 fun _ _ _ _ _ _ _ q=>ge_int q
theorem nomark (b:Expr) {op:CmpOp} (h:op≠.In:=by decide) (h2:op≠.NotIn:=by decide):behindInMarks op b=false:=by
 have e1:(op==CmpOp.In)=false:=by cases op <;> first | rfl | exact absurd rfl h
 have e2:(op==CmpOp.NotIn)=false:=by cases op <;> first | rfl | exact absurd rfl h2
 cases b <;> simp [behindInMarks,e1,e2]
theorem pe_cmpR {op:CmpOp} {r:R2} (ho:OpR X (compareOp op) r) (ha:PE X a ta) (hb:PE X b tb) (hm:behindInMarks op b=false):PE X (.Compare a [op] [b] pos) (tOp r ta tb):=by
 intro pins s σ H Q I h
 exact wpAny_Compare1 (binT ha hb I h fun v u s2 x y H2 I2 rx ry q=>ho pins s2 σ H2 x y v u Q I2 rx ry q) hm
def tTest (t:TE):TT:=fun σ H Q=>t σ H fun x H'=>∃ k,x=.bl k∧Q k H'
theorem pt_cmpR {op:CmpOp} {r:R2} (ho:OpR X (compareOp op) r) (ha:PE X a ta) (hb:PE X b tb) (hm:behindInMarks op b=false):PT X (.Compare a [op] [b] pos) (tTest (tOp r ta tb)):=by
 intro pins s σ H Q I h
 refine wpAny_isTrue_Compare1 (thn (ha pins s σ H _ I h) fun v s1 ⟨x,H1,I1,r1,q1⟩=>thn (hb pins s1 σ H1 _ I1 q1) fun u s2 ⟨y,H2,I2,r2,q2⟩ =>
  thn (ho pins s2 σ H2 x y v u _ I2 r1 r2 q2) fun c s3 ⟨z,H3,I3,r3,k,e,q3⟩=>?_) hm
 subst e
 cases r3
 exact wpAny_truthy_bool ⟨H3,I3,q3⟩
def tChain (r r':R2) (ta tb tc:TE):TE:=fun σ H Q=>ta σ H fun x H1=>tb σ H1 fun y H2=>r x y H2 fun z H3=>∃ k,z=.bl k ∧
 (if k=true then tc σ H3 fun w' H4=>r' y w' H4 Q else Q (.bl false) H3)
theorem pe_chain {op op':CmpOp} {r r':R2} (ho:OpR X (compareOp op) r) (ho':OpR X (compareOp op') r') (ha:PE X a ta) (hb:PE X b tb) (hc:PE X c tc)
  (hm:lastMarks [op,op'] [b,c]=false:=by with_unfolding_all rfl):PE X (.Compare a [op,op'] [b,c] pos) (tChain r r' ta tb tc):=by
 intro pins s σ H Q I h
 refine Compare_chain (thn (ha pins s σ H _ I h) fun v s1 ⟨x,H1,I1,r1,q1⟩=>chain_link (thn (hb pins s1 σ H1 _ I1 q1) fun u s2 ⟨y,H2,I2,r2,q2⟩ =>
  thn (ho pins s2 σ H2 x y v u _ I2 r1 r2 q2) fun d s3 ⟨z,H3,I3,r3,k,e,q3⟩=>?_)) hm
 subst e
 cases r3
 refine wpAny_truthy_bool ?_
 cases k with
 | false=>exact ite_ff ⟨.bl false,H3,I3,rfl,q3⟩
 | true=>exact ite_tt (chain_last (thn (hc pins s3 σ H3 _ I3 q3) fun w' s4 ⟨z',H4,I4,r4,q4⟩=>ho' pins s4 σ H4 y z' u w' Q I4 r2 r4 q4))
theorem pt_chain {op op':CmpOp} {r r':R2} (ho:OpR X (compareOp op) r) (ho':OpR X (compareOp op') r') (ha:PE X a ta) (hb:PE X b tb) (hc:PE X c tc)
  (hm:lastMarks [op,op'] [b,c]=false:=by with_unfolding_all rfl):PT X (.Compare a [op,op'] [b,c] pos) (tTest (tChain r r' ta tb tc)):=by
 intro pins s σ H Q I h
 refine isTrue_chain (thn (ha pins s σ H _ I h) fun v s1 ⟨x,H1,I1,r1,q1⟩=>test_link (thn (hb pins s1 σ H1 _ I1 q1) fun u s2 ⟨y,H2,I2,r2,q2⟩ =>
  thn (ho pins s2 σ H2 x y v u _ I2 r1 r2 q2) fun d s3 ⟨z,H3,I3,r3,k,e,q3⟩=>?_)) hm
 subst e
 cases r3
 refine wpAny_truthy_bool ?_
 cases k with
 | false =>
  obtain ⟨k',e',q'⟩:=q3
  cases e'
  exact ite_ff ⟨H3,I3,q'⟩
 | true =>
  refine ite_tt (test_last (thn (hc pins s3 σ H3 _ I3 q3) fun w' s4 ⟨z',H4,I4,r4,q4⟩=>thn (ho' pins s4 σ H4 y z' u w' _ I4 r2 r4 q4) fun d' s5 ⟨z2,H5,I5,r5,k2,e2,q5⟩=>?_))
  subst e2
  cases r5
  exact wpAny_truthy_bool ⟨H5,I5,q5⟩
theorem line63:(sizeLine:Nat)<2^63:=by rw [sizeLine_eq];decide
theorem vals1 {x:V} {us:List Value} (r:Vals [x] us):∃ u,us=[u]∧RelV x u:=by
 cases r with
 | cons r1 r2=>cases r2;exact ⟨_,rfl,r1⟩
theorem vals2 {x y:V} {us:List Value} (r:Vals [x,y] us):∃ u w',us=[u,w']∧RelV x u∧RelV y w':=by
 cases r with
 | cons r1 r2 =>
  cases r2 with
  | cons r3 r4=>cases r4;exact ⟨_,_,rfl,r1,r3⟩
theorem call_abs:CallR X (.builtin "abs") (fun xs H Q=>∃ i,xs=[.int i]∧Q (.int (if i<0 then -i else i)) H):=by
 intro pins s σ H xs us Q I r h
 obtain ⟨i,rfl,q⟩:=h
 obtain ⟨u,rfl,t,rfl⟩:=vals1 r
 exact call_abs_int fun u tk=>⟨.int (if i<0 then -i else i),H,I.tok _,⟨_,rfl⟩,q⟩
theorem call_max2 (hc:X.calm=true):CallR X (.builtin "max") (fun xs H Q=>∃ i j,xs=[.int i,.int j]∧Q (.int (if j>i then j else i)) H):=by
 intro pins s σ H xs us Q I r h
 obtain ⟨i,j,rfl,q⟩:=h
 obtain ⟨u,w',rfl,⟨t,rfl⟩,⟨t',rfl⟩⟩:=vals2 r
 refine max_two_ints (I.ok.hd hc) fun h' tk k=>⟨_,H,I.kept k,?_,q⟩
 by_cases hj:j>i
 ·rw [if_pos hj,if_pos hj];exact ⟨_,rfl⟩
 ·rw [if_neg hj,if_neg hj];exact ⟨_,rfl⟩
theorem call_min2 (hc:X.calm=true):CallR X (.builtin "min") (fun xs H Q=>∃ i j,xs=[.int i,.int j]∧Q (.int (if j<i then j else i)) H):=by
 intro pins s σ H xs us Q I r h
 obtain ⟨i,j,rfl,q⟩:=h
 obtain ⟨u,w',rfl,⟨t,rfl⟩,⟨t',rfl⟩⟩:=vals2 r
 refine min_two_ints (I.ok.hd hc) fun h' tk k=>⟨_,H,I.kept k,?_,q⟩
 by_cases hj:j<i
 ·rw [if_pos hj,if_pos hj];exact ⟨_,rfl⟩
 ·rw [if_neg hj,if_neg hj];exact ⟨_,rfl⟩
end
end L2
namespace L2
open PySem PySem.Spec PyProof.Rows
structure ObjM (h:Heap) (x dx C:Addr) (mA:Str→Option Value):Prop where
 obj:h.get? x=some (PySem.W.instObj C dx)
 ns:h.Ns1 dx mA
 ne:dx≠x
theorem lookIn_ns {h:Heap} {dx:Addr} {mA:Str→Option Value} (n:h.Ns1 dx mA):∃ od,h.get? dx=some od∧∀ name,PySem.W.lookIn name od=some (mA name):=by
 obtain ⟨o,es,ep,ho,hd,hk,_,hm⟩:=n
 refine ⟨o,ho,fun name=>?_⟩
 have e:=hm name
 unfold nsFind findBy at e
 rw [← Array.find?_toList] at e
 unfold PySem.W.lookIn
 rw [hd]
 dsimp only
 split
 ·rename_i y q
  rw [q] at e
  exact congrArg some e
 ·rename_i q
  rw [q] at e
  have a:es.toList.any (·.refKey)=false:=by
   rw [List.any_eq_false]
   intro y hy
   obtain ⟨z,t,hkey⟩:=hk y (Array.mem_toList_iff.mp hy)
   simp [DictEntry.refKey,hkey]
  have a':¬ es.toList.any (·.refKey)=true:=by rw [a];exact Bool.false_ne_true
  rw [if_neg a']
  exact congrArg some e
theorem ObjM.look {h:Heap} {x dx C:Addr} {mA:Str→Option Value} (I:ObjM h x dx C mA):∃ od,PySem.W.InstAt h x (PySem.W.instObj C dx) C (some od)∧∀ name,PySem.W.lookIn name od=some (mA name) :=
 let ⟨od,ho,hl⟩:=lookIn_ns I.ns
 ⟨od,⟨I.obj,rfl,rfl,ho⟩,hl⟩
section
variable {prog:Program} {w:World} {A:Around} {E:Value→Shared→Prop} {s:Shared} {K:PySem.W.Frag} {x dx C f:Addr} {mA:Str→Option Value} {name:Str} {v:Value}
theorem get_map {expr:Bool} {Q:Value→Shared→Prop} (X:K.In s.heap) (I:ObjM s.heap x dx C mA) (hg:PySem.W.plainGet K C name=true) (hh:PySem.W.hasDictIn K C=true)
  (ha:PySem.W.findIn K (.ref C) name=some none) (hv:mA name=some v) (hv':PySem.W.handedIn v=true) (h:Q v { s with toks:=s.toks+1 }) :
  wpAny (model prog w) A (getAttr (.ref x) name expr) Q E s:=by
 obtain ⟨od,J,hl⟩:=I.look
 exact PySem.W.get_value X J (PySem.W.plainGet_of hg).1 (PySem.W.findObj_own hh ha rfl (by rw [hl,hv])) hv' h
theorem get_meth {pl:Sem Bool} {Q:Value×List Value→Shared→Prop} (X:K.In s.heap) (I:ObjM s.heap x dx C mA) (hg:PySem.W.plainGet K C name=true)
  (hf:PySem.W.findIn K (.ref C) name=some (some (.ref f))) (ht:PySem.W.isFn K (.ref f)=true) (hv:mA name=none) (h:Q (.ref f,[.ref x]) s) :
  wpAny (model prog w) A (getMethod (.ref x) name pl) Q E s:=by
 obtain ⟨od,J,hl⟩:=I.look
 exact PySem.W.method_fn X J (PySem.W.plainGet_of hg).1 (PySem.W.plainGet_of hg).2 hf (beq_iff_eq.mp ht) (by show (PySem.W.lookIn name od).map (·.isSome)=some false;rw [hl,hv];rfl) h
theorem set_map {ns:List Str} {Q:Unit→Shared→Prop} (X:K.In s.heap) (I:ObjM s.heap x dx C mA)
  (hs:PySem.W.findIn K (.ref C) "__setattr__" = some (some (.builtin "object.__setattr__"))) (hp:PySem.W.plainOver K C=true) (ht:PySem.W.takerIn K C name=some none) (hh:PySem.W.hasDictIn K C=true)
  (hw:PySem.Within mA ns) (hsz:ns.length≤sizeLine)
  (h:∀ h',ObjM h' x dx C (fun y=>if y=name then some v else mA y)→Heap.SameBut dx s.heap h'→Q () { s with heap:=h',toks:=s.toks+2 }) :
  wpAny (model prog w) A (setAttr (.ref x) name v) Q E s:=by
 obtain ⟨od,J,hl⟩:=I.look
 refine PySem.W.set_plain X J hs (PySem.W.osa_open (s:={ s with toks:=s.toks+1 }) (r:=none) X J hp ht fun b=>?_)
 obtain ⟨cd,hc,hd'⟩:=PySem.W.any_some hh
 have hx:s.heap.get? x=some ⟨.ref C,some dx,.plain,#[]⟩:=I.obj
 refine wpAny_bind (wpAny_pure (wpAny_bind (wpAny_bind (wpAny_loadPart hx (wpAny_bind (PySem.W.Looks.here (s:={ s with toks:=s.toks+1 }) (PySem.W.looks_clsIn X hc) ?_))))))
 rw [hd']
 refine wpAny_pure (a:=some dx) (wpAny_bind (wpAny_pure (wpAny_bind ?_)))
 refine wpAny_nsSet1 (s:={ s with toks:=s.toks+1 }) I.ns fun h' hn2 hs2=>?_
 obtain ⟨oD,esD,epD,hoD,hdD,hcD⟩:=hn2.count (PySem.Within.cons name v hw)
 refine wpAny_bind (wpAny_lookBehind hoD (by rw [hdD];exact pastItsLine_dict (Nat.le_trans hcD (by rw [List.length_cons];omega))) ?_)
 exact wpAny_pure (h _ ⟨(hs2.2 _ (Ne.symm I.ne)).trans I.obj,hn2,I.ne⟩ hs2)
theorem make_map {R:Result→Shared→Prop} {vs:List Value} {kw:List (Str×Value)} (X:K.In s.heap) (hm:PySem.W.makesIn K C=true)
  (hi:PySem.W.findIn K (.ref C) "__init__" = some (some (.ref f))) (hf:PySem.W.typeIn K (.ref f)=some (.type "function"))
  (h:codeAny (model prog w) (A.under (.builtin "type.__call__" ⟨.ref C::vs,kw⟩)) (.call (.ref f) ⟨.ref (s.heap.objs.size+1)::vs,kw⟩) (PySem.W.InitBack (s.heap.objs.size+1) R)
   { s with heap:=(s.heap.push PySem.W.emptyDict).push (PySem.W.instObj C s.heap.objs.size) }) :
  codeAny (model prog w) A (.call (.ref C) ⟨vs,kw⟩) R s:=by
 obtain ⟨hh,g,d,t,os⟩:=s
 exact PySem.W.make_core (PySem.W.makes_of X hm) (PySem.W.looks_findIn X hi) (fun self=>PySem.W.bind_fn X self hf) (.inl rfl) h
end
def putF (f:Str) (v:V):List (Str×V)→List (Str×V)
 | []=>[(f,v)]
 | (g,x)::r=>if g=f then (g,v)::r else (g,x)::putF f v r
theorem lookup_putF (f g:Str) (v:V):∀ fs:List (Str×V),(putF f v fs).lookup g=if g=f then some v else fs.lookup g
 | []=>by
  show List.lookup g [(f,v)]=_
  by_cases h:g=f
  ·have hb:(g==f)=true:=beq_iff_eq.mpr h
   simp only [List.lookup,hb,if_pos h]
  ·have hb:(g==f)=false:=beq_eq_false_iff_ne.mpr h
   simp only [List.lookup,hb,if_neg h]
 | (k,x)::r=>by
  have ih:=lookup_putF f g v r
  rw [show putF f v ((k,x)::r)=(if k=f then (k,v)::r else (k,x)::putF f v r) from rfl]
  by_cases hk:k=f
  ·rw [if_pos hk]
   by_cases h:g=k
   ·have hb:(g==k)=true:=beq_iff_eq.mpr h
    simp only [List.lookup,hb,if_pos (h.trans hk)]
   ·have hb:(g==k)=false:=beq_eq_false_iff_ne.mpr h
    simp only [List.lookup,hb,if_neg (fun e:g=f=>h (e.trans hk.symm))]
  ·rw [if_neg hk]
   by_cases h:g=k
   ·have hb:(g==k)=true:=beq_iff_eq.mpr h
    simp only [List.lookup,hb,if_neg (fun e:g=f=>hk (h.symm.trans e))]
   ·have hb:(g==k)=false:=beq_eq_false_iff_ne.mpr h
    simp only [List.lookup,hb]
    exact ih
theorem keys_putF (f:Str) (v:V):∀ fs:List (Str×V),f∈(putF f v fs).map (·.1)∧∀ g,g∈fs.map (·.1)→g∈(putF f v fs).map (·.1)
 | []=>⟨by simp [putF],fun g h=>by simp at h⟩
 | (k,x)::r=>by
  obtain ⟨i1,i2⟩:=keys_putF f v r
  rw [show putF f v ((k,x)::r)=(if k=f then (k,v)::r else (k,x)::putF f v r) from rfl]
  by_cases hk:k=f
  ·rw [if_pos hk]
   subst hk
   exact ⟨by simp,fun g h=>by simpa using h⟩
  ·rw [if_neg hk]
   refine ⟨?_,fun g h=>?_⟩
   ·rw [List.map_cons]
    exact List.mem_cons_of_mem _ i1
   ·rw [List.map_cons] at h ⊢
    rcases List.mem_cons.mp h with e | e
    ·exact List.mem_cons.mpr (.inl e)
    ·exact List.mem_cons_of_mem _ (i2 g e)
theorem length_putF (f:Str) (v:V):∀ fs:List (Str×V),(putF f v fs).length≤fs.length+1
 | []=>by simp [putF]
 | (k,x)::r=>by
  have ih:=length_putF f v r
  rw [show putF f v ((k,x)::r)=(if k=f then (k,v)::r else (k,x)::putF f v r) from rfl]
  by_cases hk:k=f
  ·rw [if_pos hk,List.length_cons,List.length_cons];omega
  ·rw [if_neg hk,List.length_cons,List.length_cons];omega
theorem RelO.some_of {v:V} {o:Option Value} (r:RelO (some v) o):∃ u,o=some u∧RelV v u:=by
 cases o with
 | none=>exact (show False from r).elim
 | some u=>exact ⟨u,rfl,r⟩
theorem RelO.none_of {o:Option Value} (r:RelO none o):o=none:=by
 cases o with
 | none=>rfl
 | some u=>exact (show False from r).elim
theorem handed_of {v:V} {u:Value} (r:RelV v u):PySem.W.handedIn u=true:=by
 cases v with
 | non=>cases (show u=Value.none from r);rfl
 | bl b=>cases (show u=Value.bool b from r);rfl
 | int i=>obtain ⟨t,e⟩:=(show ∃ t,u=Value.int i t from r);cases e;rfl
 | str x=>obtain ⟨t,e⟩:=(show ∃ t,u=Value.str x t from r);cases e;rfl
 | byt b=>obtain ⟨t,e⟩:=(show ∃ t,u=Value.bytes b t from r);cases e;rfl
 | flt b=>obtain ⟨t,e⟩:=(show ∃ t,u=Value.float b t from r);cases e;rfl
 | ref a=>cases (show u=Value.ref a from r);rfl
 | ty n=>cases (show u=Value.type n from r);rfl
section
variable {P:Program} {w:World} {H H':Hp} {h h':Heap} {a C dx:Addr} {fs fs':List (Str×V)}
theorem ins_get (hok:HOk P w H h) (e:H a=some (.ins C dx fs)):∃ mA,ObjM h a dx C mA∧(∀ f,RelO (fs.lookup f) (mA f))∧PySem.Within mA (fs.map (·.1))∧fs.length≤1000∧H dx=some (.own a):=by
 obtain ⟨d,z,ne,ob,mA,n,r,q⟩:=(show ObjOk P w H h a (.ins C dx fs) from hok a _ e)
 exact ⟨mA,⟨ob,n,ne⟩,r,q,z,d⟩
end
structure Cls (K:PySem.W.Frag) (C:Addr):Prop where
 pg:PySem.W.plainGet K C Str.empty=true
 hd:PySem.W.hasDictIn K C=true
 po:PySem.W.plainOver K C=true
 sa:PySem.W.findIn K (.ref C) "__setattr__" = some (some (.builtin "object.__setattr__"))
theorem Cls.get {K:PySem.W.Frag} {C:Addr} (c:Cls K C) (f:Str):PySem.W.plainGet K C f=true:=c.pg
def NoAttr (K:PySem.W.Frag) (C:Addr) (f:Str):Prop:=PySem.W.findIn K (.ref C) f=some none
theorem NoAttr.taker {K:PySem.W.Frag} {C:Addr} {f:Str} (n:NoAttr K C f):PySem.W.takerIn K C f=some none:=by
 unfold PySem.W.takerIn
 rw [show PySem.W.findIn K (.ref C) f=some none from n]
 rfl
structure Con (K:PySem.W.Frag) (C:Addr) (f:Str) (v:V) (u:Value):Prop where
 at_:PySem.W.findIn K (.ref C) f=some (some u)
 rel:RelV v u
 get:PySem.W.specialIn K u "__get__" = some none
 cp:PySem.W.copiedNames.contains f=false
structure Meth (K:PySem.W.Frag) (C:Addr) (m:Str) (f:Addr):Prop where
 at_:PySem.W.findIn K (.ref C) m=some (some (.ref f))
 fn:PySem.W.isFn K (.ref f)=true
 kp:PySem.W.keepIn K (.ref f)=true
section
variable {X:Cx} {pins:List (Addr×Obj)} {σ:St} {H:Hp} {s:Shared} {a C dx:Addr} {fs:List (Str×V)} {f:Str} {v:V} {A:Around} {E:Value→Shared→Prop}
theorem getattr_ok {b:Bool} {Q:Value→Shared→Prop} (I:Inv X pins σ H s) (e:H a=some (.ins C dx fs)) (c:Cls X.K C) (n:NoAttr X.K C f) (l:fs.lookup f=some v)
  (h:∀ u s',Inv X pins σ H s'→RelV v u→Q u s'):wpAny (model X.prog X.w) A (getAttr (.ref a) f b) Q E s:=by
 obtain ⟨mA,O,r,_,_,_⟩:=ins_get I.hok e
 obtain ⟨u,hu,ru⟩:=RelO.some_of (v:=v) (o:=mA f) (by rw [← l];exact r f)
 exact get_map I.kIn O (c.get f) c.hd n hu (handed_of ru) (h u _ (I.tok _) ru)
theorem getmeth_ok {m:Str} {g:Addr} {pl:Sem Bool} {Q:Value×List Value→Shared→Prop} (I:Inv X pins σ H s) (e:H a=some (.ins C dx fs)) (c:Cls X.K C) (k:Meth X.K C m g) (l:fs.lookup m=none)
  (h:Q (.ref g,[.ref a]) s):wpAny (model X.prog X.w) A (getMethod (.ref a) m pl) Q E s:=by
 obtain ⟨mA,O,r,_,_,_⟩:=ins_get I.hok e
 have hn:mA m=none:=RelO.none_of (by rw [← l];exact r m)
 exact get_meth I.kIn O (c.get m) k.at_ k.fn hn h
theorem setattr_ok {y:V} {u:Value} {Q:Unit→Shared→Prop} (I:Inv X pins σ H s) (e:H a=some (.ins C dx fs)) (c:Cls X.K C) (n:NoAttr X.K C f) (hl:fs.length<1000) (ry:RelV y u)
  (h:∀ s',Inv X pins σ (upd H a (.ins C dx (putF f y fs))) s'→Q () s'):wpAny (model X.prog X.w) A (setAttr (.ref a) f u) Q E s:=by
 obtain ⟨mA,O,r,wi,_,ho⟩:=ins_get I.hok e
 have hz:(fs.map (·.1)).length≤sizeLine:=by rw [List.length_map,sizeLine_eq];omega
 refine set_map I.kIn O c.sa c.po n.taker c.hd wi hz fun h' O' sb=>h _ ?_
 have hd:∃ o,h'.get? dx=some o:=let ⟨o,_,_,e',_⟩:=O'.ns;⟨o,e'⟩
 refine I.write (x:=a) (e:=dx) (by rw [e];exact True.intro) (.inr ho) (fun b q hb z=>(sb.2 b hb).trans z) hd ?_
 refine ⟨by rw [upd_ne O.ne];exact ho,?_,O.ne,O'.obj,_,O'.ns,fun g=>?_,fun g hg=>?_⟩
 ·have:=length_putF f y fs;omega
 ·show RelO ((putF f y fs).lookup g) (if g=f then some u else mA g)
  rw [lookup_putF]
  by_cases q:g=f
  ·rw [if_pos q,if_pos q];exact ry
  ·rw [if_neg q,if_neg q];exact r g
 ·by_cases q:g=f
  ·rw [q];exact (keys_putF f y fs).1
  ·refine (keys_putF f y fs).2 g (wi g fun z=>hg ?_)
   show (if g=f then some u else mA g)=none
   rw [if_neg q];exact z
theorem Inv.made (I:Inv X pins σ H s):Inv X pins σ (upd (upd H s.heap.objs.size (.own (s.heap.objs.size+1))) (s.heap.objs.size+1) (.ins C s.heap.objs.size []))
  { s with heap:=(s.heap.push PySem.W.emptyDict).push (PySem.W.instObj C s.heap.objs.size) }:=by
 have e1:(s.heap.push PySem.W.emptyDict).get? s.heap.objs.size=some PySem.W.emptyDict:=Heap.get?_push_size s.heap rfl
 have e2:((s.heap.push PySem.W.emptyDict).push (PySem.W.instObj C s.heap.objs.size)).get? (s.heap.objs.size+1)=some (PySem.W.instObj C s.heap.objs.size):=by
  have:=Heap.get?_push_size (s.heap.push PySem.W.emptyDict) (o:=PySem.W.instObj C s.heap.objs.size) rfl
  rwa [Heap.size_push] at this
 have e3:(s.heap.push PySem.W.emptyDict).Ns s.heap.objs.size (fun _=>none):=⟨PySem.W.emptyDict,#[],_,e1,rfl,(fun e he=>absurd he (by simp)),fun _=>rfl⟩
 have I1:=I.laid (a:=s.heap.objs.size) (o:=.own (s.heap.objs.size+1)) (h':=s.heap.push PySem.W.emptyDict) (t':=s.toks) (fun b u q=>Heap.get?_push_of_some _ q) (Nat.le_refl _) ⟨_,e1⟩
 refine I1.laid (a:=s.heap.objs.size+1) (o:=.ins C s.heap.objs.size []) (t':=s.toks) (fun b u q=>Heap.get?_push_of_some _ q) (Nat.le_of_eq (Heap.size_push _ _)) ?_
 have ne:s.heap.objs.size≠s.heap.objs.size+1:=Nat.ne_of_lt (Nat.lt_succ_self _)
 refine ⟨by rw [upd_ne ne,upd_same],Nat.zero_le _,ne,e2,fun _=>none,(Heap.Ns1.of_empty e3).at fun o q=>Heap.get?_push_of_some _ q,fun _=>True.intro,fun y hy=>absurd rfl hy⟩
theorem attr_of {prog:Program} {w:World} {env:Env} {e:Expr} {f:Str} {pos:Pos} {s:Shared} {Q:Value→Shared→Prop} (hb:attributeBase e f env (eval e env)=eval e env)
  (h:wpAny (model prog w) A (eval e env) (fun o s₁=>wpAny (model prog w) A (getAttr o f true) Q E s₁) E s):wpAny (model prog w) A (eval (.Attribute e f pos) env) Q E s :=
 Attribute_any_ h (by rw [arm_eval_Attribute,hb])
end
def tFld (K:PySem.W.Frag) (ta:TE) (f:Str):TE:=fun σ H Q=>ta σ H fun x H1=>∃ a C dx fs v,x=.ref a∧H1 a=some (.ins C dx fs)∧Cls K C∧NoAttr K C f∧fs.lookup f=some v∧Q v H1
def sFld (K:PySem.W.Frag) (ta tv:TE) (f:Str):TS:=fun D σ H=>tv σ H fun y H1=>ta σ H1 fun x H2=>∃ a C dx fs,x=.ref a∧H2 a=some (.ins C dx fs)∧Cls K C∧NoAttr K C f∧fs.length<1000 ∧
 D.nx σ (upd H2 a (.ins C dx (putF f y fs)))
section
variable {X:Cx} {o e value:Expr} {f:Str} {pos pos' tpos:Pos} {ta tv:TE}
theorem pe_fld (he:PE X e ta) (hb:attributeBase e f X.env (eval e X.env)=eval e X.env):PE X (.Attribute e f pos) (tFld X.K ta f):=by
 intro pins s σ H Q I h
 refine attr_of hb (thn (he pins s σ H _ I h) fun u s1 ⟨x,H1,I1,rx,a,C,dx,fs,v,ex,ea,c,n,l,q⟩=>?_)
 subst ex
 obtain rfl:u=Value.ref a:=rx
 exact getattr_ok I1 ea c n l fun u' s2 I2 ru=>⟨v,H1,I2,ru,q⟩
theorem ps_fld (ha:PE X o ta) (hv:PE X value tv) (hs:swapsWith value (some (.Attribute o f pos')) pos.line X.env=pure false):PS X (.Assign [.Attribute o f pos'] value pos) (sFld X.K ta tv f):=by
 intro pins s σ H D I h
 refine plainObj_wpAny_Assign_Attribute (thn (hv pins s σ H _ I h) fun u s1 ⟨y,H1,I1,ry,q⟩=>thn (ha pins s1 σ H1 _ I1 q) fun ov s2 ⟨x,H2,I2,rx,a,C,dx,fs,ex,ea,c,n,l,q2⟩=>?_) hs
 subst ex
 obtain rfl:ov=Value.ref a:=rx
 exact setattr_ok I2 ea c n l ry fun s3 I3=>⟨σ,_,I3,q2⟩
end
section
variable {X:Cx} {pins:List (Addr×Obj)} {σ:St} {H:Hp} {s:Shared} {A:Around} {E:Value→Shared→Prop} {Q:Value→Shared→Prop} {c:Value} {b:Bool}
inductive TyOf (K:PySem.W.Frag) (H:Hp):V→Value→Prop where
 | non:TyOf K H .non (.type "NoneType")
 | bl (x:Bool):TyOf K H (.bl x) (.type "bool")
 | int (i:Int):TyOf K H (.int i) (.type "int")
 | str (x:Str):TyOf K H (.str x) (.type "str")
 | flt (x:UInt64):TyOf K H (.flt x) (.type "float")
 | lst {a:Addr} {xs:List V} (e:H a=some (.lst xs)):TyOf K H (.ref a) (.type "list")
 | frz {a:Addr} {o:Obj} {xs:List V} (e:H a=some (.frz o (.lst xs))):TyOf K H (.ref a) (.type "list")
 | tup {a:Addr} {xs:List V} (e:H a=some (.tup xs)):TyOf K H (.ref a) (.type "tuple")
 | dK {a:Addr} {kvs:List (Key×V)} (e:H a=some (.dK kvs)):TyOf K H (.ref a) (.type "dict")
 | dT {a:Addr} {kvs:List (List Key×V)} (e:H a=some (.dT kvs)):TyOf K H (.ref a) (.type "dict")
 | ins {a C dx:Addr} {fs:List (Str×V)} (e:H a=some (.ins C dx fs)) (cl:Cls K C) (ha:PySem.W.findIn K (.ref C) "__class__" = some (some (.builtin "object.__class__")))
   (hn:PySem.W.specialIn K (.builtin "object.__class__") "__get__" = some (some (.builtin "getset_descriptor.__get__"))) (htk:PySem.W.takesIn K (.builtin "object.__class__")=some true)
   (hm:PySem.W.mroIn K C (.type "object")=some true):TyOf K H (.ref a) (.ref C)
theorem isinst_ok {x:V} {u t:Value} (I:Inv X pins σ H s) (rx:RelV x u) (ty:TyOf X.K H x t) (e:PySem.W.kitOne X.K t c=some b) (h:∀ tk,Q (.bool b) { s with toks:=tk }) :
  wpAny (model X.prog X.w) A (call (.builtin "isinstance") [u,c]) Q E s:=by
 cases ty with
 | non=>cases (show u=Value.none from rx);exact PySem.W.kia_one PySem.W.kitx_none I.kIn True.intro e (fun z=>nomatch z) h
 | bl y=>cases (show u=Value.bool y from rx);exact PySem.W.kia_one PySem.W.kitx_bool I.kIn True.intro e (fun z=>nomatch z) h
 | int i=>obtain ⟨t,q⟩:=(show ∃ t,u=Value.int i t from rx);cases q;exact PySem.W.kia_one PySem.W.kitx_int I.kIn True.intro e (fun z=>nomatch z) h
 | str y=>obtain ⟨t,q⟩:=(show ∃ t,u=Value.str y t from rx);cases q;exact PySem.W.kia_one PySem.W.kitx_str I.kIn True.intro e (fun z=>nomatch z) h
 | flt y=>obtain ⟨t,q⟩:=(show ∃ t,u=Value.float y t from rx);cases q;exact PySem.W.kia_one PySem.W.kitx_float I.kIn True.intro e (fun z=>nomatch z) h
 | @lst a xs ea =>
  cases (show u=Value.ref a from rx)
  obtain ⟨_,_,n,_,h1⟩:=(show ObjOk X.prog X.w H s.heap a (.lst xs) from I.hok a _ ea)
  exact PySem.W.kia_one PySem.W.kitx_list I.kIn ⟨_,h1,rfl⟩ e (fun z=>nomatch z) h
 | @frz a ob xs ea =>
  cases (show u=Value.ref a from rx)
  obtain ⟨_,_,_,n,_,h1⟩:=(show ObjOk X.prog X.w H s.heap a (.frz ob (.lst xs)) from I.hok a _ ea)
  exact PySem.W.kia_one PySem.W.kitx_list I.kIn ⟨_,h1,rfl⟩ e (fun z=>nomatch z) h
 | @tup a xs ea =>
  cases (show u=Value.ref a from rx)
  obtain ⟨_,_,_,p⟩:=(show ObjOk X.prog X.w H s.heap a (.tup xs) from I.hok a _ ea)
  obtain ⟨o,h1,h2,_⟩:=p
  exact PySem.W.kia_one PySem.W.kitx_tuple I.kIn ⟨o,h1,h2⟩ e (fun z=>nomatch z) h
 | @dK a kvs ea =>
  cases (show u=Value.ref a from rx)
  obtain ⟨_,_,vs,_,p⟩:=(show ObjOk X.prog X.w H s.heap a (.dK kvs) from I.hok a _ ea)
  obtain ⟨o,es,ep,h1,h2,_⟩:=p
  exact PySem.W.kia_one PySem.W.kitx_dict I.kIn ⟨o,h1,h2.1⟩ e (fun z=>nomatch z) h
 | @dT a kvs ea =>
  cases (show u=Value.ref a from rx)
  obtain ⟨_,_,xs,_,o,es,ep,h1,h2,_⟩:=(show ObjOk X.prog X.w H s.heap a (.dT kvs) from I.hok a _ ea)
  exact PySem.W.kia_one PySem.W.kitx_dict I.kIn ⟨o,h1,h2.1⟩ e (fun z=>nomatch z) h
 | @ins a C dx fs ea cl ha hn htk hm =>
  cases (show u=Value.ref a from rx)
  obtain ⟨mA,O,_⟩:=ins_get I.hok ea
  obtain ⟨od,J,_⟩:=O.look
  exact PySem.W.kia_one (PySem.W.kitx_own (cl.get _) cl.hd ha hn htk hm) I.kIn J e (fun z=>nomatch z) h
end
end L2
namespace L2
open PySem PySem.Spec PyProof.Rows
structure Room (k:Nat) (A:Around):Prop where
 hd:A.handled=none
 dp:A.depth+3*k+5<recursionLimit
 un:A.units+16*k+200<cLine
theorem Room.mono {j k:Nat} {A:Around} (r:Room k A) (h:j≤k):Room j A:=⟨r.hd,by have:=r.dp;omega,by have:=r.un;omega⟩
theorem Room.deeper {k:Nat} {A:Around} (r:Room (k+1) A) (env:Env):Room k (A.deeper env) :=
 ⟨r.hd,by have:=r.dp;show A.depth+1+3*k+5<_;omega,by have:=r.un;show A.units+3+16*k+200<_;omega⟩
theorem make_depth {A:Around} {C:Addr} {us:List Value} {kw:List (Str×Value)}:(A.under (.builtin "type.__call__" ⟨.ref C::us,kw⟩)).depth=A.depth+1:=by
 first | rfl | simp [Around.under,Code.weight,Code.isCreation,Code.isGuard,Code.isCaller,Code.frames,Code.isFrame,guardIds]
theorem make_units {A:Around} {C:Addr} {us:List Value} {kw:List (Str×Value)}:(A.under (.builtin "type.__call__" ⟨.ref C::us,kw⟩)).units=A.units+1:=by
 first | rfl | simp [Around.under,Code.cUnits,Code.frames,Code.isFrame]
theorem Room.make {k:Nat} {A:Around} (r:Room (k+1) A) (C:Addr) (us:List Value) (kw:List (Str×Value)):Room k (A.under (.builtin "type.__call__" ⟨.ref C::us,kw⟩)) :=
 ⟨r.hd,by have:=r.dp;rw [make_depth];omega,by have:=r.un;rw [make_units];omega⟩
theorem Room.depth {k:Nat} {A:Around} (r:Room k A):A.depth<recursionLimit:=by have:=r.dp;omega
theorem Room.units {k:Nat} {A:Around} (r:Room k A):A.units+64<cLine:=by have:=r.un;omega
def tNil:TA:=fun _ H Q=>Q [] H
def tCons (ta:TE) (tr:TA):TA:=fun σ H Q=>ta σ H fun x H1=>tr σ H1 fun xs H2=>Q (x::xs) H2
section
variable {X:Cx} {e:Expr} {es:List Expr} {te:TE} {t:TA} {pos:Pos}
theorem pa_nil:PA X [] tNil:=fun _ _ _ _ H Q I h=>Calls.spliced_nil ⟨[],H,I,.nil,h⟩
theorem pa_cons (ha:PE X e te) (hr:PA X es t) (hs:starEach (e::es) X.env=(false,eval e X.env)::starEach es X.env:=by rfl):PA X (e::es) (tCons te t):=by
 intro pos pins s σ H Q I h
 rw [hs]
 show wpAny _ _ (spliced ((false,eval e X.env)::backTo pos (starEach es X.env))) _ _ s
 refine Calls.spliced_cons (thn (ha pins s σ H _ I h) fun u s1 ⟨x,H1,I1,r1,q1⟩=>?_)
 exact thn (hr pos pins s1 σ H1 _ I1 q1) fun us s2 ⟨xs,H2,I2,r2,q2⟩=>⟨x::xs,H2,I2,.cons r1 r2,q2⟩
def tTup (t:TA):TE:=fun σ H Q=>t σ H fun xs H1=>xs.length≤sizeLine∧∀ p,H1 p=none→Q (.ref p) (upd H1 p (.tup xs))
def tLst (t:TA):TE:=fun σ H Q=>t σ H fun xs H1=>xs.length≤sizeLine∧∀ p,H1 p=none→Q (.ref p) (upd H1 p (.lst xs))
theorem pe_tup {x1} (h:PA X es t):PE X (.Tuple es x1 pos) (tTup t):=by
 intro pins s σ H Q I hq
 refine wpAny_Tuple_spliced (thn (h pos pins s σ H _ I hq) fun us s1 ⟨xs,H1,I1,r,z,q⟩=>⟨by rw [← r.length];exact z,?_⟩)
 have hf:H1 s1.heap.objs.size=none:=I1.hok.fresh (Nat.le_refl _)
 refine ⟨.ref s1.heap.objs.size,upd H1 s1.heap.objs.size (.tup xs),I1.laid (t':=s1.toks) (fun b u e=>Heap.get?_push_of_some _ e) (Nat.le_refl _) ?_,rfl,q _ hf⟩
 exact ⟨z,us,r,⟨_,Heap.get?_push_size _ rfl,rfl,_,rfl⟩⟩
theorem pe_lst (h:PA X es t):PE X (.List es pos) (tLst t):=by
 intro pins s σ H Q I hq
 refine wpAny_List_spliced (thn (h pos pins s σ H _ I hq) fun us s1 ⟨xs,H1,I1,r,z,q⟩=>⟨by rw [← r.length];exact z,?_⟩)
 have hf:H1 s1.heap.objs.size=none:=I1.hok.fresh (Nat.le_refl _)
 refine ⟨.ref s1.heap.objs.size,upd H1 s1.heap.objs.size (.lst xs),I1.laid (t':=s1.toks) (fun b u e=>Heap.get?_push_of_some _ e) (Nat.le_refl _) ?_,rfl,q _ hf⟩
 exact ⟨z,us,0,r,Heap.get?_push_size _ rfl⟩
end
abbrev Sp:=List V→Hp→VK→XK→Prop
abbrev CXT:=List Env→Hp→Shared→XK→Value→Shared→Prop
structure Env0 (P:Program) (w:World) (K:PySem.W.Frag) (mg:Str→Option Value) (base:Heap) (A:Around) (outer:List Env) (s:Shared) (H:Hp):Prop where
 frames:A.frames=some outer
 mod:Mod K mg base
 bs:∀ b o,base.get? b=some o→s.heap.get? b=some o∧H b=none
 bsz:base.objs.size≤s.heap.objs.size
 funs:s.heap.FunFrames base outer
 frf:∀ b∈frs outer,H b=none
 hok:HOk P w H s.heap
 bare:AllBare s.gens
def CE (outer:List Env) (P:Program) (w:World) (H:Hp) (s:Shared) (Q:VK) (u:Value) (s':Shared):Prop :=
 ∃ v H',s'.os=s.os∧AllBare s'.gens∧Un (frs outer) [] H H' s.heap s'.heap∧HOk P w H' s'.heap∧RelV v u∧Q v H'
def CR (CX:CXT) (outer:List Env) (P:Program) (w:World) (H:Hp) (s:Shared) (Q:VK) (E:XK) (r:Result) (s':Shared):Prop :=
 match r with
 | .ok (.ret u)=>CE outer P w H s Q u s'
 | .ok _=>False
 | .error e=>CX outer H s E e s'
structure FnOk (P:Program) (w:World) (K:PySem.W.Frag) (mg:Str→Option Value) (base:Heap) (CX:CXT) (k:Nat) (f:Addr) (fd:FuncData) (ps:List Str) (sp:Sp):Prop where
 len:∀ vs H Q E,sp vs H Q E→vs.length=ps.length
 run:∀ (A:Around) (outer:List Env) (s:Shared) (H:Hp) (args:Args) (us:List Value) (vs:List V) (Q:VK) (E:XK),Room k A→Env0 P w K mg base A outer s H→BindsTo s fd args (ps.zip us)→Vals vs us→sp vs H Q E →
  codeAny (model P w) A (.call (.ref f) args) (CR CX outer P w H s Q E) s
theorem Env0.make {P:Program} {w:World} {K:PySem.W.Frag} {mg:Str→Option Value} {base:Heap} {A:Around} {outer:List Env} {s:Shared} {H:Hp} (e:Env0 P w K mg base A outer s H) (C:Addr) (us:List Value) (kw:List (Str×Value)) :
  Env0 P w K mg base (A.under (.builtin "type.__call__" ⟨.ref C::us,kw⟩)) outer s H:=⟨by first | exact e.frames | (simpa [Around.under,Code.envs,Code.isFrame,pushEnvs] using e.frames),e.mod,e.bs,e.bsz,e.funs,e.frf,e.hok,e.bare⟩
section
variable {X:Cx} {pins:List (Addr×Obj)} {σ:St} {H:Hp} {s s':Shared}
theorem Inv.env0 (I:Inv X pins σ H s):Env0 X.prog X.w X.K X.mg X.base X.A X.stack s H :=
 ⟨I.ok.frames,I.ok.mod,I.bs,Nat.le_trans I.ok.bsz I.sz,I.stack,I.stkFree,I.hok,I.bare⟩
theorem Inv.after {Q:VK} {u:Value} (I:Inv X pins σ H s) (h:CE X.stack X.prog X.w H s Q u s'):EP X pins σ Q u s':=by
 obtain ⟨v,H',os,bare,un,hok,r,q⟩:=h
 obtain ⟨hh,g,d,t,os'⟩:=s'
 obtain rfl:os'=s.os:=os
 exact ⟨v,H',I.call (h':=hh) (g':=g) (d':=d) (t':=t) (ch:=[]) un hok bare (fun b z=>absurd z (by simp)),r,q⟩
end
def tCall (sp:Sp) (dvs:List V) (E:XK) (t:TA):TE:=fun σ H Q=>t σ H fun vs H1=>sp (vs++dvs) H1 Q E
def tMeth (C:Addr) (m:Str) (sp:Sp) (dvs:List V) (E:XK) (ta:TE) (t:TA):TE:=fun σ H Q=>ta σ H fun x H1=>∃ a dx fs,x=.ref a∧H1 a=some (.ins C dx fs)∧fs.lookup m=none ∧
 t σ H1 fun vs H2=>sp (x::(vs++dvs)) H2 Q E
def tMake (C:Addr) (sp:Sp) (dvs:List V) (E:XK) (t:TA):TE:=fun σ H Q=>t σ H fun vs H1=>∀ x dx,H1 x=none→H1 dx=none→dx≠x →
 sp (.ref x::(vs++dvs)) (upd (upd H1 dx (.own x)) x (.ins C dx [])) (fun v H2=>v=.non∧Q (.ref x) H2) E
def Binds (K:PySem.W.Frag) (fd:FuncData) (ps:List Str) (ds:List Value):Prop :=
 ∀ (s:Shared) (us:List Value),K.In s.heap→(us++ds).length=ps.length→BindsTo s fd ⟨us,[]⟩ (ps.zip (us++ds))
theorem Binds.all {K:PySem.W.Frag} {fd:FuncData} {ps:List Str} (h:∀ us:List Value,us.length=ps.length→bindArgs fd ⟨us,[]⟩=pure (ps.zip us)):Binds K fd ps []:=fun s us _ hl=>by
 rw [List.append_nil] at hl ⊢
 exact .of_eq (h us hl)
def Passes (CX:CXT) (X:Cx) (E:XK):Prop:=∀ (pins:List (Addr×Obj)) (σ:St) (H:Hp) (s:Shared) (e:Value) (s':Shared),Inv X pins σ H s→CX X.stack H s E e s'→X.xe e s'
section
variable {X:Cx} {CX:CXT} {k:Nat} {f C:Addr} {fd:FuncData} {ps:List Str} {sp:Sp} {dvs:List V} {ds:List Value} {E:XK} {x m:Str} {p pos apos:Pos} {e o:Expr} {es:List Expr} {ta:TE} {t:TA}
theorem run_fn {pins:List (Addr×Obj)} {σ:St} {H:Hp} {s:Shared} {Q:VK} {us:List Value} {vs:List V} (F:FnOk X.prog X.w X.K X.mg X.base CX k f fd ps sp) (hr:Room k X.A) (hb:Binds X.K fd ps ds) (hd:Vals dvs ds) (hx:Passes CX X E)
  (I:Inv X pins σ H s) (r:Vals vs us) (h:sp (vs++dvs) H Q E):wpAny (model X.prog X.w) X.A (call (.ref f) us) (EP X pins σ Q) X.xe s:=by
 have r2:Vals (vs++dvs) (us++ds):=r.append hd
 have hl:(us++ds).length=ps.length:=by rw [← r2.length];exact F.len _ _ _ _ h
 refine wpAny_call (codeAny_mono (F.run X.A X.stack s H ⟨us,[]⟩ (us++ds) (vs++dvs) Q E hr I.env0 (hb s us I.kIn hl) r2 h) fun r s' hq=>?_)
 cases r with
 | error e=>exact hx pins σ H s e s' I hq
 | ok fl =>
  cases fl with
  | ret u=>exact I.after hq
  | next=>exact False.elim hq
  | brk=>exact False.elim hq
  | cont=>exact False.elim hq
theorem pe_call (F:FnOk X.prog X.w X.K X.mg X.base CX k f fd ps sp) (hr:Room k X.A) (hg:Gl X x) (hm:X.mg x=some (.ref f)) (hk:PySem.W.keepIn X.K (.ref f)=true) (hb:Binds X.K fd ps ds) (hd:Vals dvs ds) (hx:Passes CX X E)
  (ha:PA X (e::es) t) (hdb:(x==("__debug__" : Str))=false:=by decide) (he:starEach (e::es) X.env=(false,eval e X.env)::starEach es X.env:=by rfl) (hpl:(backTo pos (starEach es X.env)).any (·.1)=false:=by rfl) :
  PE X (.Call (.Name x p) (e::es) [] pos) (tCall sp dvs E t):=by
 intro pins s σ H Q I h
 refine wpAny_Call_Name_kw (ld_glob I hg hm ?_ hdb)
 refine PySem.W.callWith_K (h₀:=X.base) I.ok.mod.kin hk (thn (ha pos pins s σ H _ I h) fun us s1 ⟨vs,H1,I1,r,q⟩=>⟨I1.kIn,?_⟩) he hpl
 exact run_fn F hr hb hd hx I1 r q
theorem pe_meth {pl:Sem Bool} (he:PE X o ta) (c:Cls X.K C) (hm:Meth X.K C m f) (F:FnOk X.prog X.w X.K X.mg X.base CX k f fd ps sp) (hr:Room k X.A) (hb:Binds X.K fd ps ds) (hd:Vals dvs ds) (hx:Passes CX X E) (ha:PA X (e::es) t)
  (hst:starEach (e::es) X.env=(false,eval e X.env)::starEach es X.env:=by rfl) (hpl:(backTo pos (starEach es X.env)).any (·.1)=false:=by rfl)
  (ht:eval (.Call (.Attribute o m apos) (e::es) [] pos) X.env=(do
   let ov ← eval o X.env
   standAt apos.atName
   let (f,first) ← holding [ov] (getMethod ov m pl)
   callWith pos f first (backTo pos (starEach (e::es) X.env)) (backToKw pos (keywordEach [] X.env))):=by rfl) :
  PE X (.Call (.Attribute o m apos) (e::es) [] pos) (tMeth C m sp dvs E ta t):=by
 intro pins s σ H Q I h
 refine PySem.W.methodCall_KW (pl:=pl) (thn (he pins s σ H _ I h) fun u s1 ⟨x,H1,I1,rx,a,dx,fs,ex,ea,l,q⟩=>?_) ht
 subst ex
 obtain rfl:u=Value.ref a:=rx
 refine getmeth_ok I1 ea c hm l ?_
 refine PySem.W.callWith_K (first:=[.ref a]) (h₀:=X.base) I.ok.mod.kin hm.kp (thn (ha pos pins s1 σ H1 _ I1 q) fun us s2 ⟨vs,H2,I2,r,q2⟩=>⟨I2.kIn,?_⟩) hst hpl
 exact run_fn (us:=.ref a::us) (vs:=.ref a::vs) F hr hb hd hx I2 (.cons rfl r) q2
theorem pe_meth0 {pl:Sem Bool} (he:PE X o ta) (c:Cls X.K C) (hm:Meth X.K C m f) (F:FnOk X.prog X.w X.K X.mg X.base CX k f fd ps sp) (hr:Room k X.A) (hb:Binds X.K fd ps ds) (hd:Vals dvs ds) (hx:Passes CX X E)
  (ht:eval (.Call (.Attribute o m apos) [] [] pos) X.env=(do
   let ov ← eval o X.env
   standAt apos.atName
   let (f,first) ← holding [ov] (getMethod ov m pl)
   callWith pos f first (backTo pos (starEach [] X.env)) (backToKw pos (keywordEach [] X.env))):=by rfl) :
  PE X (.Call (.Attribute o m apos) [] [] pos) (tMeth C m sp dvs E ta tNil):=by
 intro pins s σ H Q I h
 refine PySem.W.methodCall_KW (pl:=pl) (thn (he pins s σ H _ I h) fun u s1 ⟨x,H1,I1,rx,a,dx,fs,ex,ea,l,q⟩=>?_) ht
 subst ex
 obtain rfl:u=Value.ref a:=rx
 refine getmeth_ok I1 ea c hm l ?_
 exact PySem.W.callWith_K0 (first:=[.ref a]) I1.kIn hm.kp (run_fn (us:=[.ref a]) (vs:=[.ref a]) F hr hb hd hx I1 (.cons rfl .nil) q)
structure Mk (K:PySem.W.Frag) (C f:Addr):Prop where
 makes:PySem.W.makesIn K C=true
 init:PySem.W.findIn K (.ref C) "__init__" = some (some (.ref f))
 fn:PySem.W.isFn K (.ref f)=true
 kp:PySem.W.keepIn K (.ref C)=true
theorem run_make {pins:List (Addr×Obj)} {σ:St} {H:Hp} {s:Shared} {Q:VK} {us:List Value} {vs:List V} (M:Mk X.K C f) (F:FnOk X.prog X.w X.K X.mg X.base CX k f fd ps sp) (hr:Room (k+1) X.A) (hb:Binds X.K fd ps ds) (hd:Vals dvs ds)
  (hx:Passes CX X E) (I:Inv X pins σ H s) (r:Vals vs us)
  (h:∀ x dx,H x=none→H dx=none→dx≠x→sp (.ref x::(vs++dvs)) (upd (upd H dx (.own x)) x (.ins C dx [])) (fun v H2=>v=.non∧Q (.ref x) H2) E) :
  wpAny (model X.prog X.w) X.A (call (.ref C) us) (EP X pins σ Q) X.xe s:=by
 have hq:=h (s.heap.objs.size+1) s.heap.objs.size (I.hok.fresh (Nat.le_succ _)) (I.hok.fresh (Nat.le_refl _)) (Nat.ne_of_lt (Nat.lt_succ_self _))
 have I2:=Inv.made (C:=C) I
 have r2:Vals (V.ref (s.heap.objs.size+1)::(vs++dvs)) (Value.ref (s.heap.objs.size+1)::(us++ds)):=.cons rfl (r.append hd)
 have hl:(Value.ref (s.heap.objs.size+1)::us++ds).length=ps.length:=by
  have e:=r2.length
  rw [F.len _ _ _ _ hq] at e
  exact e.symm
 refine wpAny_call (make_map (f:=f) I.kIn M.makes M.init (beq_iff_eq.mp M.fn) (codeAny_mono (F.run _ X.stack _ _ ⟨Value.ref (s.heap.objs.size+1)::us,[]⟩ (Value.ref (s.heap.objs.size+1)::(us++ds)) _ _ E (hr.make C us [])
  (I2.env0.make C us []) (hb _ (Value.ref (s.heap.objs.size+1)::us) I2.kIn hl) r2 hq) fun r s' hq'=>?_))
 cases r with
 | error e=>exact hx pins σ _ _ e s' I2 hq'
 | ok fl =>
  cases fl with
  | ret u =>
   obtain ⟨v,H',I3,rv,ev,q3⟩:=I2.after hq'
   subst ev
   exact ⟨rv,⟨V.ref (s.heap.objs.size+1),H',I3,rfl,q3⟩⟩
  | next=>exact False.elim hq'
  | brk=>exact False.elim hq'
  | cont=>exact False.elim hq'
theorem pe_make (M:Mk X.K C f) (F:FnOk X.prog X.w X.K X.mg X.base CX k f fd ps sp) (hr:Room (k+1) X.A) (hg:Gl X x) (hm:X.mg x=some (.ref C)) (hb:Binds X.K fd ps ds) (hd:Vals dvs ds) (hx:Passes CX X E)
  (ha:PA X (e::es) t) (hdb:(x==("__debug__" : Str))=false:=by decide) (he:starEach (e::es) X.env=(false,eval e X.env)::starEach es X.env:=by rfl) (hpl:(backTo pos (starEach es X.env)).any (·.1)=false:=by rfl) :
  PE X (.Call (.Name x p) (e::es) [] pos) (tMake C sp dvs E t):=by
 intro pins s σ H Q I h
 refine wpAny_Call_Name_kw (ld_glob I hg hm ?_ hdb)
 refine PySem.W.callWith_K (h₀:=X.base) I.ok.mod.kin M.kp (thn (ha pos pins s σ H _ I h) fun us s1 ⟨vs,H1,I1,r,q⟩=>⟨I1.kIn,?_⟩) he hpl
 exact run_make M F hr hb hd hx I1 r q
end
section
variable {X:Cx} {CX:CXT} {k:Nat} {f C:Addr} {fd:FuncData} {ps ks:List Str} {sp:Sp} {E:XK} {x m:Str} {p pos apos kpos:Pos} {e o:Expr} {es:List Expr} {kws:List Keyword} {te ta:TE} {t tk:TA} {nm:Option Str}
structure KBinds (K:PySem.W.Frag) (fd:FuncData) (ps ks:List Str) (g:List Value→List Value→List Value) (gV:List V→List V→List V):Prop where
 to:∀ (s:Shared) (us ws:List Value),K.In s.heap→(g us ws).length=ps.length→BindsTo s fd ⟨us,ks.zip ws⟩ (ps.zip (g us ws))
 rel:∀ {vs:List V} {us:List Value} {zs:List V} {ws:List Value},Vals vs us→Vals zs ws→Vals (gV vs zs) (g us ws)
variable {g:List Value→List Value→List Value} {gV:List V→List V→List V}
end
structure FnScope (N P:List Str) (sc:Scope):Prop where
 kind:sc.kind=.function
 co:sc.isCoroutine=false
 gen:sc.isGenerator=false
 nd:N.Nodup
 pre:N.take P.length=P
 par:∀ x∈P,sc.names.lookup x=some .local∨sc.names.lookup x=some .cell
 nofree:∀ y∈sc.names,y.2≠.free
theorem bindL_out {kindOf:Str→Option NameKind} {x:Str}:∀ {binds:List (Str×Value)} {m:Str→Option Value},(∀ v,(x,v)∉binds)→bindL kindOf binds m x=m x
 | [],_,_=>rfl
 | (n,v)::r,m,h=>by
  unfold bindL
  rw [bindL_out fun w hw=>h w (List.mem_cons_of_mem _ hw)]
  split
  ·have:x≠n:=by rintro rfl;exact h v List.mem_cons_self
   simp [this]
  ·rfl
theorem bindC_out {kindOf:Str→Option NameKind} {x:Str}:∀ {binds:List (Str×Value)} {m:Str→Option Value},(∀ v,(x,v)∉binds)→bindC kindOf binds m x=m x
 | [],_,_=>rfl
 | (n,v)::r,m,h=>by
  unfold bindC
  rw [bindC_out fun w hw=>h w (List.mem_cons_of_mem _ hw)]
  split
  ·rfl
  ·have:x≠n:=by rintro rfl;exact h v List.mem_cons_self
   simp [this]
theorem bindL_get {kindOf:Str→Option NameKind} {x:Str} {v:Value}:∀ {P:List Str} {vs:List Value} {i:Nat} {m:Str→Option Value},P.Nodup→P[i]? = some x→vs[i]? = some v→kindOf x=some .local →
  bindL kindOf (P.zip vs) m x=some v
 | [],_,_,_,_,h,_,_=>by simp at h
 | _::_,[],_,_,_,_,h,_=>by simp at h
 | p::P,w::vs,0,m,nd,h1,h2,hk=>by
  simp at h1 h2;subst h1;subst h2
  show bindL kindOf ((p,w)::P.zip vs) m p=_
  unfold bindL
  rw [bindL_out fun v hv=>(List.nodup_cons.mp nd).1 (List.of_mem_zip hv).1,if_pos hk]
  simp
 | p::P,w::vs,i+1,m,nd,h1,h2,hk=>by
  show bindL kindOf ((p,w)::P.zip vs) m x=_
  unfold bindL
  exact bindL_get (i:=i) (List.nodup_cons.mp nd).2 (by simpa using h1) (by simpa using h2) hk
theorem bindC_get {kindOf:Str→Option NameKind} {x:Str} {v:Value}:∀ {P:List Str} {vs:List Value} {i:Nat} {m:Str→Option Value},P.Nodup→P[i]? = some x→vs[i]? = some v→kindOf x≠some .local →
  bindC kindOf (P.zip vs) m x=some v
 | [],_,_,_,_,h,_,_=>by simp at h
 | _::_,[],_,_,_,_,h,_=>by simp at h
 | p::P,w::vs,0,m,nd,h1,h2,hk=>by
  simp at h1 h2;subst h1;subst h2
  show bindC kindOf ((p,w)::P.zip vs) m p=_
  unfold bindC
  rw [bindC_out fun v hv=>(List.nodup_cons.mp nd).1 (List.of_mem_zip hv).1,if_neg hk]
  simp
 | p::P,w::vs,i+1,m,nd,h1,h2,hk=>by
  show bindC kindOf ((p,w)::P.zip vs) m x=_
  unfold bindC
  exact bindC_get (i:=i) (List.nodup_cons.mp nd).2 (by simpa using h1) (by simpa using h2) hk
def start (N:List Str) (vs:List V):St:=vs.map some++List.replicate (N.length-vs.length) none
def cxOf (CX:CXT) (P:Program) (w:World) (K:PySem.W.Frag) (mg:Str→Option Value) (base:Heap) (N:List Str) (qual:Str) (scope:Scope) (f:Addr) (cd:Value) (A:Around) (outer:List Env) (s:Shared) (H:Hp) (E:XK):Cx where
 prog:=P
 w:=w
 K:=K
 mg:=mg
 base:=base
 A:=A.deeper (envOfC qual scope s.heap.objs.size f cd)
 N:=N
 s₀:=s
 H₀:=H
 env:=envOfC qual scope s.heap.objs.size f cd
 outer:=outer
 stack:=envOfC qual scope s.heap.objs.size f cd::outer
 ex:=[]
 calm:=true
 fn:=fun _=>true
 pn:=[]
 xe:=fun e s'=>wpAny (model P w) (A.deeper (envOfC qual scope s.heap.objs.size f cd)) (leaving (envOfC qual scope s.heap.objs.size f cd) e) (fun _ s''=>CX outer H s E e s'') (fun e' s''=>CX outer H s E e' s'') s'
theorem cell_has {sc:Scope} {n:Nat} {x:Str} (h:sc.names.lookup x=some .cell):∃ c,(cellsFrom n sc.names []).lookup x=some c:=by
 have q:=PySem.W.cellsFrom_some sc.names n [] (.inl h)
 exact Option.isSome_iff_exists.mp q
theorem inv_start {CX:CXT} {P:Program} {w:World} {K:PySem.W.Frag} {mg:Str→Option Value} {base:Heap} {N ps:List Str} {qual:Str} {scope:Scope} {f:Addr} {cd:Value} {A:Around} {outer:List Env} {s s1:Shared} {H:Hp} {E:XK} {us:List Value} {vs:List V}
  (S:FnScope N ps scope) (hd:A.handled=none) (e0:Env0 P w K mg base A outer s H) (hl:vs.length=ps.length) (r:Vals vs us)
  (x:InCallC s s.heap.objs.size (bindL (envOfC qual scope s.heap.objs.size f cd).kindOf (ps.zip us) fun _=>none) (cellsFrom (s.heap.objs.size+1) scope.names []) (bindC (envOfC qual scope s.heap.objs.size f cd).kindOf (ps.zip us) fun _=>none) s1) :
  Inv (cxOf CX P w K mg base N qual scope f cd A outer s H E) [] (start N vs) H s1:=by
 have hpl:ps.length≤N.length:=by have:=congrArg List.length S.pre;rw [List.length_take] at this;omega
 obtain ⟨h1,tk,rfl,hk⟩:=x.done
 have noA:∀ b:Addr,b∉(cxOf CX P w K mg base N qual scope f cd A outer s H E).ex:=fun b z=>absurd (show b∈([]:List Addr) from z) (by simp)
 refine ⟨⟨e0.mod,S.kind,rfl,rfl,Nat.le_refl _,fun y z c h1 h2=>?_,fun y hy=>?_,fun y c _ h=>?_,fun _=>hd,Around.frames_deeper e0.frames,.inr ⟨rfl,rfl⟩,fun b z=>absurd z (noA b),e0.bs,e0.bsz,fun b _ _=>noA b,fun b z=>absurd z (noA b),e0.funs,e0.frf⟩,
  rfl,e0.bare,Un.kept hk,⟨_,x.toInCall.ns,fun i y v h1 h2 h3=>?_⟩,fun y c h=>⟨_,x.cell y c h⟩,e0.hok.fresh (Nat.le_refl _),fun y c h=>?_,fun p hp=>absurd (show p∈([]:List (Addr×Obj)) from hp) (by simp),e0.hok.kept hk,?_⟩
 ·exact name_of_addr x.apart (PySem.mem_of_lookup h1) (PySem.mem_of_lookup h2)
 ·have hy:scope.names.lookup y=some .cell∨scope.names.lookup y=some .free:=hy
  rcases hy with hy | hy
  ·exact cell_has hy
  ·exact absurd rfl (S.nofree _ (PySem.mem_of_lookup hy))
 ·exact Nat.le_of_lt (x.above y c (PySem.mem_of_lookup h))
 ·have hi:i<vs.length:=by
   unfold start at h2
   by_cases hi:i<vs.length
   ·exact hi
   ·rw [List.getElem?_append_right (by simpa using hi)] at h2
    rw [List.getElem?_replicate] at h2
    split at h2 <;> cases h2
  have ha:vs[i]? = some v:=by
   unfold start at h2
   rw [List.getElem?_append_left (by simpa using hi),List.getElem?_map] at h2
   cases e:vs[i]? with
   | none=>rw [e] at h2;cases h2
   | some a=>rw [e] at h2;cases h2;rfl
  obtain ⟨u,hu,rv⟩:=r.get ha
  have hp:ps[i]? = some y:=by
   rw [← S.pre,List.getElem?_take_of_lt (by omega)];exact h1
  have ndP:ps.Nodup:=by rw [← S.pre];exact S.nd.sublist (List.take_sublist _ _)
  refine ⟨u,rv,?_⟩
  rcases S.par y (List.mem_of_getElem? hp) with k | k
  ·exact .inl ⟨k,bindL_get ndP hp hu k⟩
  ·obtain ⟨c,e⟩:=cell_has (n:=s.heap.objs.size+1) k
   refine .inr ⟨.inl k,c,e,?_⟩
   have q:=x.cell y c e
   rw [bindC_get ndP hp hu (by show scope.names.lookup y≠_;rw [k];decide)] at q
   exact q
 ·exact e0.hok.fresh (Nat.le_of_lt (x.above y c (PySem.mem_of_lookup h)))
 ·unfold start
  show _=N.length
  rw [List.length_append,List.length_map,List.length_replicate]
  omega
theorem fn_of {CX:CXT} {P:Program} {w:World} {K:PySem.W.Frag} {mg:Str→Option Value} {base:Heap} {k:Nat} {f:Addr} {name qual:Str} {params:Arguments} {body:List Stmt} {scope:Scope} {dV kV doc pm cdv ct oc:Value} {an od:Option Addr}
  {osl:Array (Option Value)} {N ps:List Str} {sp:Sp} (lk:K.lookup f=some ⟨oc,od,.func (PySem.W.fnOf name qual params body scope dV kV doc pm an cdv ct),osl⟩) (hcd:PySem.W.codeIn K cdv qual=true) (S:FnScope N ps scope)
  (len:∀ vs H Q E,sp vs H Q E→vs.length=ps.length)
  (hbody:∀ (A:Around) (outer:List Env) (s:Shared) (H:Hp) (vs:List V) (Q:VK) (E:XK),Room k (A.deeper (envOfC qual scope s.heap.objs.size f cdv))→sp vs H Q E →
   ∃ t,PSs (cxOf CX P w K mg base N qual scope f cdv A outer s H E) body t∧t { nx:=fun _ H'=>Q .non H',rt:=Q } (start N vs) H) :
  FnOk P w K mg base CX (k+1) f (PySem.W.fnOf name qual params body scope dV kV doc pm an cdv ct) ps sp:=by
 refine ⟨len,fun A outer s H args us vs Q E hr e0 hb r hsp=>?_⟩
 have hl:=len _ _ _ _ hsp
 have KX:K.In s.heap:=e0.mod.kin.keeps fun b o e=>(e0.bs b o e).1
 have lim:s.heap.NoLimit:=e0.mod.nolimit.keeps fun b o e=>(e0.bs b o e).1
 have hkind:∀ y∈ps.zip us,scope.names.lookup y.1=some .local∨(scope.names.lookup y.1=some .cell∧((cellsFrom (s.heap.objs.size+1) scope.names []).lookup y.1).isSome=true):=fun ⟨n,v⟩ hy=>by
  rcases S.par n (List.of_mem_zip hy).1 with q | q
  ·exact .inl q
  ·exact .inr ⟨q,PySem.W.cellsFrom_some _ _ _ (.inl q)⟩
 refine codeAny_call_function hr.depth (KX _ _ lk) rfl S.co S.gen rfl (PySem.W.codeRec_of KX hcd) (hb _ _ _ _ ?_)
 refine wpAny_newFunctionEnv_cells S.kind hkind fun env he s1 x=>?_
 subst he
 refine ⟨lim.keeps x.toInCall.keep,codeAny_func ?_⟩
 obtain ⟨t,ht,hq⟩:=hbody A outer s H vs Q E (hr.deeper _) hsp
 have I:Inv (cxOf CX P w K mg base N qual scope f cdv A outer s H E) [] (start N vs) H s1:=inv_start S hr.hd e0 hl r x
 refine wpAny_mono (ht [] s1 (start N vs) H _ I hq) (fun fl s' hs=>?_) fun e s' hs=>hs
 have fin:∀ {σ':St} {H':Hp} {v:V} {u:Value},Inv (cxOf CX P w K mg base N qual scope f cdv A outer s H E) [] σ' H' s'→RelV v u→Q v H'→CE outer P w H s Q u s' :=
  fun {σ' H' v u} J rv q=>⟨v,H',J.os,J.bare,J.base,J.hok,rv,q⟩
 cases fl with
 | ret u =>
  obtain ⟨v,σ',H',J,rv,q⟩:=hs
  exact fin J rv q
 | next =>
  obtain ⟨σ',H',J,q⟩:=hs
  exact fin (v:=V.non) (u:=Value.none) J rfl q
 | brk =>
  obtain ⟨_,_,_,q⟩:=hs
  exact False.elim q
 | cont =>
  obtain ⟨_,_,_,q⟩:=hs
  exact False.elim q
end L2
namespace L2
open PySem PySem.Spec PyProof.Rows
section
variable {X:Cx} {x:Str} {p pos:Pos} {e:Expr} {es:List Expr} {t:TA} {id T:String} {r:List V→Hp→VK→Prop}
def tCB (r:List V→Hp→VK→Prop) (t:TA):TE:=fun σ H Q=>t σ H fun vs H1=>r vs H1 Q
theorem pe_callB (hc:CallR X (.builtin id) r) (hg:Gl X x) (hm:X.mg x=none) (hv:bootBuiltins x=some (.builtin id)) (ha:PA X (e::es) t) (hn:x≠"__name__":=by decide) (hdb:(x==("__debug__" : Str))=false:=by decide)
  (he:starEach (e::es) X.env=(false,eval e X.env)::starEach es X.env:=by rfl) (hpl:(backTo pos (starEach es X.env)).any (·.1)=false:=by rfl):PE X (.Call (.Name x p) (e::es) [] pos) (tCB r t):=by
 intro pins s σ H Q I h
 refine wpAny_Call_Name_kw (ld_blt I hg hm hv ?_ hn hdb)
 exact PyProof.Rows.callWith_builtin1 (thn (ha pos pins s σ H _ I h) fun us s1 ⟨vs,H1,I1,r1,q1⟩=>hc pins s1 σ H1 vs us Q I1 r1 q1) he hpl
theorem pe_callTy (hc:CallR X (.type T) r) (hg:Gl X x) (hm:X.mg x=none) (hv:bootBuiltins x=some (.type T)) (ha:PA X (e::es) t) (hn:x≠"__name__":=by decide) (hdb:(x==("__debug__" : Str))=false:=by decide)
  (he:starEach (e::es) X.env=(false,eval e X.env)::starEach es X.env:=by rfl) (hpl:(backTo pos (starEach es X.env)).any (·.1)=false:=by rfl):PE X (.Call (.Name x p) (e::es) [] pos) (tCB r t):=by
 intro pins s σ H Q I h
 refine wpAny_Call_Name_kw (ld_blt I hg hm hv ?_ hn hdb)
 exact PyProof.Rows.callWith_type1 (thn (ha pos pins s σ H _ I h) fun us s1 ⟨vs,H1,I1,r1,q1⟩=>hc pins s1 σ H1 vs us Q I1 r1 q1) he hpl
end
end L2
namespace HT
open PySem PyProof.Rows
section
open PySem.SeqAt
open PySem.AutoSeq1 (wpAny_loadPart')
open PySem.MeetsSeq PySem.MeetsSeq2 PySem.MeetsSeq3
end
section
variable {prog:Program} {w:World} {A:Around} {E:Value→Shared→Prop} {s:Shared}
end
end HT
namespace L2
open PySem PySem.Spec PyProof.Rows
section
variable {X:Cx} {e:Expr} {te:TE} {lo hi:Option Expr} {tl th:TO} {pos p2:Pos}
end
end L2
namespace L2
open PySem PySem.Spec PyProof.Rows
def ixN (n:Nat) (i:Int):Option Nat:=if 0≤i then (if i<n then some i.toNat else none) else if -(n:Int)≤i then some (i+n).toNat else none
def atI {α:Type} (xs:List α) (i:Int):Option α:=(ixN xs.length i).bind fun j=>xs[j]?
theorem ixN_seq {n:Nat} {i:Int} {j:Nat} (h:ixN n i=some j):seqIndex? i n=some j∧j<n∧-(n:Int)≤i∧i<n:=by
 unfold ixN at h
 by_cases h0:0≤i
 ·rw [if_pos h0] at h
  by_cases h1:i<n
  ·rw [if_pos h1] at h
   have e:i.toNat=j:=Option.some.inj h
   exact ⟨by rw [seqIndex_of h0 h1,e],by omega,by omega,h1⟩
  ·rw [if_neg h1] at h;cases h
 ·rw [if_neg h0] at h
  by_cases h1 : -(n:Int)≤i
  ·rw [if_pos h1] at h
   have e:(i+n).toNat=j:=Option.some.inj h
   exact ⟨by rw [seqIndex_neg (by omega) h1,e],by omega,h1,by omega⟩
  ·rw [if_neg h1] at h;cases h
theorem atI_get {α:Type} {xs:List α} {i:Int} {v:α} (h:atI xs i=some v):∃ j,seqIndex? i xs.length=some j∧xs[j]? = some v∧j<xs.length∧-(xs.length:Int)≤i∧i<xs.length:=by
 unfold atI at h
 cases e:ixN xs.length i with
 | none=>rw [e] at h;cases h
 | some j =>
  rw [e] at h
  obtain ⟨h1,h2,h3,h4⟩:=ixN_seq e
  exact ⟨j,h1,h,h2,h3,h4⟩
theorem atI_nat {α:Type} {xs:List α} {j:Nat} {v:α} (h:xs[j]? = some v):atI xs (j:Int)=some v:=by
 have hj:j<xs.length:=(List.getElem?_eq_some_iff.mp h).1
 have e:ixN xs.length (j:Int)=some j:=by
  unfold ixN
  rw [if_pos (by omega),if_pos (by omega)];simp
 unfold atI;rw [e];exact h
def PlainIx (b:Expr):Prop:=∀ o i,subscripted b false o i=operate [o,i] (getItem o i)
def IxR (X:Cx) (r:R2):Prop :=
 ∀ (value slice:Expr) (pins:List (Addr×Obj)) (s:Shared) (σ:St) (H:Hp) (x y:V) (v u:Value) (Q:VK),Inv X pins σ H s→RelV x v→RelV y u→r x y H Q →
  subscripted slice false v u=operate [v,u] (getItem v u)→wpAny (model X.prog X.w) X.A (subscriptTail value slice v u) (EP X pins σ Q) X.xe s
def MtR (X:Cx) (id:String) (r:V→List V→Hp→VK→Prop):Prop :=
 ∀ (pins:List (Addr×Obj)) (s:Shared) (σ:St) (H:Hp) (x:V) (xs:List V) (v:Value) (us:List Value) (Q:VK),Inv X pins σ H s→RelV x v→Vals xs us→r x xs H Q →
  wpAny (model X.prog X.w) X.A (call (.builtin id) (v::us)) (EP X pins σ Q) X.xe s
section
variable {X:Cx} {a b:Expr} {ta tb:TE} {pos:Pos}
theorem pe_ix {r:R2} (hr:IxR X r) (ha:PE X a ta) (hb:PE X b tb) (hs:PlainIx b):PE X (.Subscript a b pos) (tOp r ta tb):=by
 intro pins s σ H Q I h
 exact Subscript_ (binT ha hb I h fun v u s2 x y H2 I2 rx ry q=>hr a b pins s2 σ H2 x y v u Q I2 rx ry q (hs _ _))
def rIxL (K:PySem.W.Frag):R2:=fun x y H Q=>∃ p xs i v,x=.ref p∧y=.int i∧SqL K H p xs∧atI xs i=some v∧Q v H
def rIxT (K:PySem.W.Frag):R2:=fun x y H Q=>∃ p xs i v,x=.ref p∧y=.int i∧SqT K H p xs∧atI xs i=some v∧Q v H
theorem ix_list:IxR X (rIxL X.K):=by
 intro value slice pins s σ H x y v u Q I rx ry h hs
 obtain ⟨p,xs,i,z,rfl,rfl,hq,he,q⟩:=h
 cases rx
 obtain ⟨t,rfl⟩:=ry
 obtain ⟨its,r,pl,hz⟩:=I.list hq
 obtain ⟨j,h1,h2,h3,h4,h5⟩:=atI_get he
 obtain ⟨w,ew,rw'⟩:=r.get h2
 have hl:=r.length
 have hn:=line63
 have fin:EP X pins σ Q w s:=⟨z,H,I,rw',q⟩
 by_cases h0:0≤i
 ·have hj:i.toNat=j:=by
   rw [seqIndex_of h0 h5] at h1
   exact Option.some.inj h1
  exact item_listR pl.isList h0 (by omega) (by rw [hj];simpa using ew) fin hs
 ·have hj:(i+(its.toArray.size:Int)).toNat=j:=by
   rw [seqIndex_neg (by omega) h4] at h1
   rw [List.size_toArray,← hl]
   exact Option.some.inj h1
  exact subscriptTail_builtinR (x:=w) pl.isList.typeIs slot_list_getitem.lookup
   (wpAny_getItem_list_neg (Q:=fun r s'=>r=w∧EP X pins σ Q r s') pl.isList (by omega) (by rw [List.size_toArray] <;> omega) (by omega) (by rw [hj];simpa using ew) ⟨rfl,fin⟩) hs
theorem ix_tup:IxR X (rIxT X.K):=by
 intro value slice pins s σ H x y v u Q I rx ry h hs
 obtain ⟨p,xs,i,z,rfl,rfl,hq,he,q⟩:=h
 cases rx
 obtain ⟨t,rfl⟩:=ry
 obtain ⟨its,r,pl,hz⟩:=I.tuple hq
 obtain ⟨j,h1,h2,h3,h4,h5⟩:=atI_get he
 obtain ⟨w,ew,rw'⟩:=r.get h2
 have hl:=r.length
 have hn:=line63
 have fin:EP X pins σ Q w s:=⟨z,H,I,rw',q⟩
 exact subscriptTail_builtinR (x:=w) pl.typeIs slot_tuple_getitem.lookup
  (getItem_tuple (j:=j) (Q:=fun r s'=>r=w∧EP X pins σ Q r s') pl (by omega) (by omega) (by rw [List.size_toArray,← hl];exact h1) (by simpa using ew) ⟨rfl,fin⟩) hs
theorem mapSeq_set (its:List Value) (n j:Nat) (u:Value):Obj.mapSeq (·.setIfInBounds j u) { cls:=.type "list",data:=.seq its.toArray n }={ cls:=.type "list",data:=.seq (its.set j u).toArray n }:=by
 simp [Obj.mapSeq]
theorem Inv.lst {pins:List (Addr×Obj)} {σ:St} {H:Hp} {s:Shared} {p:Addr} {xs:List V} (I:Inv X pins σ H s) (h:H p=some (.lst xs)) :
  ∃ (its:List Value) (n:Nat),Vals xs its∧s.heap.get? p=some { cls:=.type "list",data:=.seq its.toArray n }∧xs.length≤sizeLine:=by
 obtain ⟨z,its,n,r,e⟩:=I.hok p _ h
 exact ⟨its,n,r,e,z⟩
theorem Inv.lstUpd {pins:List (Addr×Obj)} {σ:St} {H:Hp} {s:Shared} {p:Addr} {xs ys:List V} {its its':List Value} {n n':Nat} {f:Obj→Obj} (I:Inv X pins σ H s) (h:H p=some (.lst xs))
  (ho:s.heap.get? p=some { cls:=.type "list",data:=.seq its.toArray n }) (hf:f { cls:=.type "list",data:=.seq its.toArray n }={ cls:=.type "list",data:=.seq its'.toArray n' }) (r:Vals ys its') (hz:ys.length≤sizeLine) (t:Nat) :
  Inv X pins σ (upd H p (.lst ys)) { s with heap:=s.heap.update p f,toks:=t }:=by
 have e:(s.heap.update p f).get? p=some { cls:=.type "list",data:=.seq its'.toArray n' }:=by
  rw [Heap.get?_update_self f ho (by rw [hf] <;> rfl),hf]
 refine I.write (x:=p) (e:=p) (by rw [h];trivial) (.inl rfl) (fun b u hb q=>(Heap.get?_update_other _ _ (Ne.symm hb)).trans q) ⟨_,e⟩ ?_
 exact ⟨hz,its',n',r,e⟩
def rSetL:V→V→V→Hp→(Hp→Prop)→Prop:=fun o i v H Q=>∃ p xs k j,o=.ref p∧i=.int k∧H p=some (.lst xs)∧ixN xs.length k=some j∧Q (upd H p (.lst (xs.set j v)))
theorem set_list:PSet X rSetL:=by
 intro pins s σ H o i v ov iv u Q I ro ri rv h
 obtain ⟨p,xs,k,j,rfl,rfl,hp,hj,q⟩:=h
 cases ro
 obtain ⟨t,rfl⟩:=ri
 obtain ⟨its,n,r,ho,hz⟩:=I.lst hp
 obtain ⟨h1,h2,h3,h4⟩:=ixN_seq hj
 have hl:=r.length
 have hn:=line63
 have I':Inv X pins σ (upd H p (.lst (xs.set j v))) { s with heap:=s.heap.update p (Obj.mapSeq (·.setIfInBounds j u)) } :=
  I.lstUpd hp ho (mapSeq_set its n j u) (r.set rv j) (by rw [List.length_set];exact hz) s.toks
 by_cases h0:0≤k
 ·have hk:k.toNat=j:=by
   rw [seqIndex_of h0 h4] at h1
   exact Option.some.inj h1
  exact PySem.W.ki_setAt ho h0 (by omega) (by rw [List.size_toArray,← hl];exact h4) (by rw [hk];exact ⟨_,I',q⟩)
 ·have hk:(k+(its.toArray.size:Int)).toNat=j:=by
   rw [seqIndex_neg (by omega) h3] at h1
   rw [List.size_toArray,← hl]
   exact Option.some.inj h1
  exact PySem.W.ki_setBack ho (by omega) (by rw [List.size_toArray,← hl];exact h3) (by omega) (by rw [hk];exact ⟨_,I',q⟩)
def flatV:V→Bool
 | .non=>true
 | .bl _=>true
 | .int _=>true
 | .str _=>true
 | _=>false
def eqV:V→V→Bool
 | .non,.non=>true
 | .bl a,.bl b=>a==b
 | .bl a,.int b=>(if a then 1 else 0)==b
 | .int a,.bl b=>a==(if b then 1 else 0)
 | .int a,.int b=>a==b
 | .str a,.str b=>a==b
 | _,_=>false
theorem eqAt_V {A:Around} {s:Shared} {y x:V} {u v:Value} (ry:RelV y u) (rx:RelV x v) (fy:flatV y=true) (fx:flatV x=true):SeqAt.EqAt A s u v (eqV y x):=by
 cases y with
 | non =>
  cases ry
  cases x with
  | non=>cases rx;exact SeqAt.EqAt.same _
  | bl b=>cases rx;exact SeqAt.EqAt.none_bool b
  | int b=>obtain ⟨t,rfl⟩:=rx;exact SeqAt.EqAt.none_int b t
  | str b=>obtain ⟨t,rfl⟩:=rx;exact SeqAt.EqAt.none_str b t
  | _=>exact absurd (show false=true from fx) Bool.false_ne_true
 | bl a =>
  cases ry
  cases x with
  | non=>cases rx;exact SeqAt.EqAt.bool_none a
  | bl b=>cases rx;exact SeqAt.EqAt.bool_bool a b
  | int b=>obtain ⟨t,rfl⟩:=rx;exact SeqAt.EqAt.bool_int a b t
  | str b=>obtain ⟨t,rfl⟩:=rx;exact SeqAt.EqAt.bool_str a b t
  | _=>exact absurd (show false=true from fx) Bool.false_ne_true
 | int a =>
  obtain ⟨t',rfl⟩:=ry
  cases x with
  | non=>cases rx;exact SeqAt.EqAt.int_none a t'
  | bl b=>cases rx;exact SeqAt.EqAt.int_bool a t' b
  | int b=>obtain ⟨t,rfl⟩:=rx;exact SeqAt.EqAt.int_int a t' b t
  | str b=>obtain ⟨t,rfl⟩:=rx;exact SeqAt.EqAt.int_str a t' b t
  | _=>exact absurd (show false=true from fx) Bool.false_ne_true
 | str a =>
  obtain ⟨t',rfl⟩:=ry
  cases x with
  | non=>cases rx;exact SeqAt.EqAt.str_none a t'
  | bl b=>cases rx;exact SeqAt.EqAt.str_bool a t' b
  | int b=>obtain ⟨t,rfl⟩:=rx;exact SeqAt.EqAt.str_int a t' b t
  | str b=>obtain ⟨t,rfl⟩:=rx;exact SeqAt.EqAt.str_str a t' b t
  | _=>exact absurd (show false=true from fx) Bool.false_ne_true
 | _=>exact absurd (show false=true from fy) Bool.false_ne_true
def eqU (x:V) (u:Value):Bool:=match u with
 | .none=>eqV .non x
 | .bool b=>eqV (.bl b) x
 | .int i _=>eqV (.int i) x
 | .str z _=>eqV (.str z) x
 | _=>false
theorem eqU_of {x y:V} {u:Value} (r:RelV y u) (f:flatV y=true):eqU x u=eqV y x:=by
 cases y with
 | non=>cases r;rfl
 | bl b=>cases r;rfl
 | int i=>obtain ⟨t,rfl⟩:=r;rfl
 | str z=>obtain ⟨t,rfl⟩:=r;rfl
 | _=>exact absurd (show false=true from f) Bool.false_ne_true
theorem any_eqU {x:V}:∀ {xs:List V} {us:List Value},Vals xs us→xs.all flatV=true→us.any (eqU x)=xs.any fun y=>eqV y x
 | _,_,.nil,_=>rfl
 | y::xs,u::us,.cons r t,f=>by
  rw [List.all_cons,Bool.and_eq_true] at f
  rw [List.any_cons,List.any_cons,eqU_of r f.1,any_eqU t f.2]
theorem mem_eqAt {A:Around} {s:Shared} {x:V} {v:Value} (rx:RelV x v) (fx:flatV x=true):∀ {xs:List V} {us:List Value},Vals xs us→xs.all flatV=true→∀ u∈us,SeqAt.EqAt A s u v (eqU x u)
 | _,_,.nil,_=>fun u hu=>by cases hu
 | y::xs,u::us,.cons r t,f=>fun u' hu=>by
  rw [List.all_cons,Bool.and_eq_true] at f
  rcases List.mem_cons.mp hu with rfl | hu
  ·rw [eqU_of r f.1];exact eqAt_V r rx f.1 fx
  ·exact mem_eqAt rx fx t f.2 u' hu
def inV (x:V) (xs:List V):Bool:=xs.any fun y=>eqV y x
def rIn (K:PySem.W.Frag) (neg:Bool):R2:=fun x y H Q=>∃ p xs,y=.ref p∧(SqL K H p xs∨SqT K H p xs)∧flatV x=true∧xs.all flatV=true∧Q (.bl (if neg then !inV x xs else inV x xs)) H
theorem op_in_seq:OpR X (compareOp .In) (rIn X.K false):=by
 intro pins s σ H x y v u Q I rx ry h
 obtain ⟨p,xs,rfl,hq,fx,fs,q⟩:=h
 cases ry
 rcases hq with hq | hq
 ·obtain ⟨its,r,pl,hz⟩:=I.list hq
  refine SeqAt.in_listAt (eqU x) pl.isList (fun w hw=>mem_eqAt rx fx r fs w (by simpa using hw)) ⟨.bl _,H,I,rfl,?_⟩
  rw [show its.toArray.any (eqU x)=its.any (eqU x) by simp,any_eqU r fs]
  exact q
 ·obtain ⟨its,r,pl,hz⟩:=I.tuple hq
  refine SeqAt.in_tupleAt (eqU x) pl (fun w hw=>mem_eqAt rx fx r fs w (by simpa using hw)) ⟨.bl _,H,I,rfl,?_⟩
  rw [show its.toArray.any (eqU x)=its.any (eqU x) by simp,any_eqU r fs]
  exact q
theorem op_notIn_seq:OpR X (compareOp .NotIn) (rIn X.K true):=by
 intro pins s σ H x y v u Q I rx ry h
 obtain ⟨p,xs,rfl,hq,fx,fs,q⟩:=h
 cases ry
 rcases hq with hq | hq
 ·obtain ⟨its,r,pl,hz⟩:=I.list hq
  refine SeqAt.notIn_listAt (eqU x) pl.isList (fun w hw=>mem_eqAt rx fx r fs w (by simpa using hw)) ⟨.bl _,H,I,rfl,?_⟩
  rw [show its.toArray.any (eqU x)=its.any (eqU x) by simp,any_eqU r fs]
  exact q
 ·obtain ⟨its,r,pl,hz⟩:=I.tuple hq
  refine SeqAt.notIn_tupleAt (eqU x) pl (fun w hw=>mem_eqAt rx fx r fs w (by simpa using hw)) ⟨.bl _,H,I,rfl,?_⟩
  rw [show its.toArray.any (eqU x)=its.any (eqU x) by simp,any_eqU r fs]
  exact q
theorem call_len_seq:CallR X (.builtin "len") (fun xs H Q=>∃ p ys,xs=[.ref p]∧(SqL X.K H p ys∨SqT X.K H p ys)∧Q (.int ys.length) H):=by
 intro pins s σ H xs us Q I r h
 obtain ⟨p,ys,rfl,hq,q⟩:=h
 obtain ⟨u,rfl,rx⟩:=vals1 r
 cases rx
 have hn:=line63
 rcases hq with hq | hq
 ·obtain ⟨its,r',pl,hz⟩:=I.list hq
  have hlen:=r'.length
  exact Calls.call_len_list pl.isList (by simp only [List.size_toArray] <;> omega) ⟨.int ys.length,H,I.tok _,⟨s.toks+1,by rw [List.size_toArray,hlen]⟩,q⟩
 ·obtain ⟨its,r',pl,hz⟩:=I.tuple hq
  have hlen:=r'.length
  exact len_tuple pl (by simp only [List.size_toArray] <;> omega) ⟨.int ys.length,H,I.tok _,⟨s.toks+1,by rw [List.size_toArray,hlen]⟩,q⟩
theorem call_list_of:CallR X (.type "list") (fun xs H Q=>∃ p ys,xs=[.ref p]∧(SqL X.K H p ys∨SqT X.K H p ys)∧∀ l,H l=none→Q (.ref l) (upd H l (.lst ys))):=by
 intro pins s σ H xs us Q I r h
 obtain ⟨p,ys,rfl,hq,q⟩:=h
 obtain ⟨u,rfl,rx⟩:=vals1 r
 cases rx
 have fin:∀ (its:List Value),Vals ys its→ys.length≤sizeLine→∀ (h':Heap) (c':Nat),(∀ b o',s.heap.get? b=some o'→h'.get? b=some o') →
   h'.get? s.heap.objs.size=some { cls:=.type "list",dict:=none,data:=.seq its.toArray c',slots:=#[] }→EP X pins σ Q (.ref s.heap.objs.size) { s with heap:=h' }:=fun its r' hz h' c' kp e =>
  ⟨.ref s.heap.objs.size,_,I.laid (t':=s.toks) kp (Nat.le_refl _) (show ObjOk X.prog X.w _ h' _ (.lst ys) from ⟨hz,its,c',r',e⟩),rfl,q _ (I.hok.fresh (Nat.le_refl _))⟩
 rcases hq with hq | hq
 ·obtain ⟨its,r',pl,hz⟩:=I.list hq
  have hlen:=r'.length
  obtain ⟨o,ho,hc,n,hd⟩:=pl.isList
  exact call_list_seq p (.inl rfl) ho hc hd (fun h' c' kp e=>fin its r' hz h' c' kp e) (by simp only [List.size_toArray] <;> omega)
 ·obtain ⟨its,r',pl,hz⟩:=I.tuple hq
  have hlen:=r'.length
  obtain ⟨o,ho,hc,n,hd⟩:=pl
  exact call_list_seq p (.inr rfl) ho hc hd (fun h' c' kp e=>fin its r' hz h' c' kp e) (by simp only [List.size_toArray] <;> omega)
theorem call_tuple_of:CallR X (.type "tuple") (fun xs H Q=>∃ p ys,xs=[.ref p]∧((SqL X.K H p ys∧∀ l,H l=none→Q (.ref l) (upd H l (.tup ys)))∨(SqT X.K H p ys∧Q (.ref p) H))):=by
 intro pins s σ H xs us Q I r h
 obtain ⟨p,ys,rfl,h⟩:=h
 obtain ⟨u,rfl,rx⟩:=vals1 r
 cases rx
 rcases h with ⟨hq,q⟩ | ⟨hq,q⟩
 ·obtain ⟨its,r',pl,hz⟩:=I.list hq
  have hlen:=r'.length
  refine call_tuple_list pl.isList (fun h' kp=>?_) (by simp only [List.size_toArray] <;> omega)
  have I1:Inv X pins σ H { s with heap:=h' }:=I.kept (t':=s.toks) kp
  have I2:Inv X pins σ (upd H h'.objs.size (.tup ys)) { s with heap:=h'.push { cls:=.type "tuple",data:=.seq its.toArray } } :=
   I1.laid (t':=s.toks) (fun b o e=>Heap.get?_push_of_some _ e) (Nat.le_refl _) (show ObjOk X.prog X.w _ _ _ (.tup ys) from ⟨hz,its,r',IsTup.new _ _⟩)
  exact ⟨.ref h'.objs.size,_,I2,rfl,q _ (I1.hok.fresh (Nat.le_refl _))⟩
 ·obtain ⟨its,r',pl,hz⟩:=I.tuple hq
  exact call_tuple_same pl ⟨.ref p,H,I,rfl,q⟩
def tyV (K:PySem.W.Frag) (T:String) (x:V) (H:Hp):Prop:=match x with
 | .str _=>T = "str"
 | .int _=>T = "int"
 | .ref p=>(T = "list"∧∃ xs,SqL K H p xs)∨(T = "tuple"∧∃ o,K.lookup p=some o∧o.cls=.type "tuple"∧o.dict=none) ∨
   (T = "dict"∧((∃ kvs,H p=some (.dK kvs))∨∃ kvs,H p=some (.dT kvs)))∨(T = "set"∧∃ S n,H p=some (.set S n))
 | _=>False
theorem tyV_is {pins:List (Addr×Obj)} {σ:St} {H:Hp} {s:Shared} {T:String} {x:V} {v:Value} (I:Inv X pins σ H s) (r:RelV x v) (ty:tyV X.K T x H) :
  s.TypeIs v T∧∀ a,v=.ref a→∃ ob,s.heap.get? a=some ob∧ob.dict=none:=by
 cases x with
 | str z =>
  obtain ⟨t,rfl⟩:=r
  cases (show T = "str" from ty)
  exact ⟨typeIs_str s z t,fun _ e=>nomatch e⟩
 | int i =>
  obtain ⟨t,rfl⟩:=r
  cases (show T = "int" from ty)
  exact ⟨typeIs_int s i t,fun _ e=>nomatch e⟩
 | ref p =>
  cases r
  rcases ty with ⟨rfl,xs,hq⟩ | ⟨rfl,o,hk,hc,hd⟩ | ⟨rfl,hk⟩ | ⟨rfl,S,n,hk⟩
  ·obtain ⟨its,_,pl,_⟩:=I.list hq
   refine ⟨pl.isList.typeIs,fun a e=>?_⟩
   cases e
   obtain ⟨o,n,e,c,hd,_⟩:=pl
   exact ⟨o,e,hd⟩
  ·refine ⟨⟨o,I.kIn p o hk,hc⟩,fun a e=>?_⟩
   cases e
   exact ⟨o,I.kIn _ o hk,hd⟩
  ·have z:∃ o,s.heap.get? p=some o∧o.ExactDict:=by
    rcases hk with ⟨kvs,hk⟩ | ⟨kvs,hk⟩
    ·obtain ⟨_,_,_,_,o,_,_,e,ex,_⟩:=I.hok p _ hk
     exact ⟨o,e,ex⟩
    ·obtain ⟨_,_,_,_,o,_,_,e,ex,_⟩:=I.hok p _ hk
     exact ⟨o,e,ex⟩
   obtain ⟨o,e,ex⟩:=z
   refine ⟨⟨o,e,ex.1⟩,fun a e2=>?_⟩
   cases e2
   exact ⟨o,e,ex.2.1⟩
  ·obtain ⟨o,_,_,_,e,ex,_⟩:=I.hok p _ hk
   refine ⟨⟨o,e,ex.1⟩,fun a e2=>?_⟩
   cases e2
   exact ⟨o,e,ex.2.1⟩
 | _=>exact False.elim ty
def tBM0 (K:PySem.W.Frag) (T:String) (r:V→List V→Hp→VK→Prop) (to:TE):TE:=fun σ H Q=>to σ H fun x H1=>tyV K T x H1∧r x [] H1 Q
def tBM (K:PySem.W.Frag) (T:String) (r:V→List V→Hp→VK→Prop) (to:TE) (t:TA):TE:=fun σ H Q=>to σ H fun x H1=>tyV K T x H1∧t σ H1 fun xs H2=>r x xs H2 Q
variable {o e:Expr} {es:List Expr} {to:TE} {t:TA} {name:Str} {apos cpos:Pos} {T id:String} {r:V→List V→Hp→VK→Prop}
theorem pe_bm0 (pa:PlainAttrs T) (slot:Slot T name id) (hty:typeOf (.builtin id)=pure (.type "method_descriptor")) (hm:MtR X id r) (ho:PE X o to)
  (hbase:attributeBase o name X.env (eval o X.env)=eval o X.env:=by rfl) (hline:(apos.endLine==cpos.line)=true:=by rfl):PE X (.Call (.Attribute o name apos) [] [] cpos) (tBM0 X.K T r to):=by
 intro pins s σ H Q I h
 refine wpAny_Call_method0_late hbase hline (thn (ho pins s σ H _ I h) fun v s1 ⟨x,H1,I1,r1,ty,q1⟩=>?_)
 obtain ⟨h1,h2⟩:=tyV_is I1 r1 ty
 exact ⟨T,id,pa,slot,hty,h1,h2,Calls.callWith_builtin rfl (PySem.evalArgs_none (hm pins s1 σ H1 x [] v [] Q I1 r1 .nil q1))⟩
theorem pe_bm (pa:PlainAttrs T) (slot:Slot T name id) (hty:typeOf (.builtin id)=pure (.type "method_descriptor")) (hm:MtR X id r) (ho:PE X o to) (ha:PA X (e::es) t)
  (hbase:attributeBase o name X.env (eval o X.env)=eval o X.env:=by rfl)
  (hfew:((backTo cpos (starEach (e::es) X.env)).all (fun x=>!x.1)&&(backToKw cpos (keywordEach [] X.env)).all (fun x=>x.1.isSome)
   && decide ((e::es).length+([]:List Keyword).length+(if ([]:List Keyword).isEmpty then 0 else 1)<30))=true:=by rfl)
  (hline:(apos.endLine==cpos.line)=true:=by rfl) (hs:starEach (e::es) X.env=(false,eval e X.env)::starEach es X.env:=by rfl) (hplain:(backTo cpos (starEach es X.env)).any (·.1)=false:=by rfl) :
  PE X (.Call (.Attribute o name apos) (e::es) [] cpos) (tBM X.K T r to t):=by
 intro pins s σ H Q I h
 refine wpAny_Call_method_late hbase hfew hline rfl (thn (ho pins s σ H _ I h) fun v s1 ⟨x,H1,I1,r1,ty,q1⟩=>?_)
 obtain ⟨h1,h2⟩:=tyV_is I1 r1 ty
 refine ⟨T,id,pa,slot,hty,h1,h2,?_⟩
 have hA:=ha cpos pins s1 σ H1 _ I1 q1
 rw [hs] at hA ⊢
 refine Calls.callWith_builtin (by show (false||(backTo cpos (starEach es X.env)).any (·.1))=false;rw [hplain] <;> rfl) (Calls.evalArgs_plain ?_)
 exact thn hA fun us s2 ⟨vs,H2,I2,r2,q2⟩=>hm pins s2 σ H2 x vs v us Q I2 r1 r2 q2
end
end L2
namespace L2
open PySem PySem.Spec PyProof.Rows
def MtM (X:Cx) (id:String) (r:V→List V→Hp→VK→Prop):Prop :=
 ∀ (pins:List (Addr×Obj)) (s:Shared) (σ:St) (H:Hp) (x:V) (xs:List V) (v:Value) (us:List Value) (Q:VK),Inv X pins σ H s→RelV x v→Vals xs us→r x xs H Q →
  wpAny (model X.prog X.w) X.A (call (.builtin id) (v::us)) (EP X pins σ Q) X.xe s
theorem Vals.one:∀ {x:V} {us:List Value},Vals [x] us→∃ u,us=[u]∧RelV x u
 | _,_,.cons r .nil=>⟨_,rfl,r⟩
theorem Vals.zero:∀ {us:List Value},Vals [] us→us=[]
 | _,.nil=>rfl
theorem Vals.dropLast {xs:List V} {us:List Value} (h:Vals xs us):Vals xs.dropLast us.dropLast:=by
 induction h with
 | nil=>exact .nil
 | cons r t ih =>
  cases t with
  | nil=>exact .nil
  | cons q t'=>exact .cons r ih
theorem Vals.rep {xs:List V} {us:List Value} (h:Vals xs us):∀ k:Nat,Vals (List.replicate k xs).flatten (List.replicate k us).flatten
 | 0=>.nil
 | k+1=>by
  rw [List.replicate_succ,List.replicate_succ,List.flatten_cons,List.flatten_cons]
  exact Vals.append h (Vals.rep h k)
theorem erase_last {α:Type} (l:List α):l.eraseIdx (l.length-1)=l.dropLast:=by
 induction l with
 | nil=>rfl
 | cons a r ih =>
  cases r with
  | nil=>rfl
  | cons b r =>
   have e:(a::b::r).length-1=((b::r).length-1)+1:=by
    have h1:(a::b::r).length=r.length+2:=rfl
    have h2:(b::r).length=r.length+1:=rfl
    omega
   rw [e,List.eraseIdx_cons_succ,ih]
   all_goals rfl
theorem foldl_rep (its:List Value):∀ (k:Nat) (acc:List Value),
  List.foldl (fun x1 x2=>x1++x2) acc.toArray (List.replicate k its.toArray)=(acc++(List.replicate k its).flatten).toArray
 | 0,acc=>by simp
 | k+1,acc=>by
  have e:acc.toArray++its.toArray=(acc++its).toArray:=by simp
  have e2:(acc++its)++(List.replicate k its).flatten=acc++(List.replicate (k+1) its).flatten:=by
   rw [List.replicate_succ,List.flatten_cons,List.append_assoc]
  rw [← e2,← foldl_rep its k (acc++its),← e,List.replicate_succ,List.foldl_cons]
section
variable {X:Cx} {pins:List (Addr×Obj)} {σ:St} {H:Hp} {s:Shared} {l b:Addr} {xs ys zs:List V}
theorem Inv.lset {its its':List Value} {n:Nat} {f:Array Value→Array Value} {t':Nat} (I:Inv X pins σ H s) (hH:H l=some (.lst xs))
  (e:s.heap.get? l=some { cls:=.type "list",data:=.seq its.toArray n }) (hf:f its.toArray=its'.toArray) (hv:Vals ys its') (hz:ys.length≤sizeLine) :
  Inv X pins σ (upd H l (.lst ys)) { s with heap:=s.heap.update l (Obj.mapSeq f),toks:=t' }:=by
 have q:=PySem.IsL.update e f
 rw [hf] at q
 refine I.write (x:=l) (e:=l) (by rw [hH];exact trivial) (.inl rfl) (fun b' u hb hu=>(Heap.get?_update_other s.heap (Obj.mapSeq f) (Ne.symm hb)).trans hu) ⟨_,q⟩ ?_
 exact ⟨hz,its',_,hv,q⟩
theorem Inv.lnew {its:List Value} {t':Nat} (I:Inv X pins σ H s) (hv:Vals ys its) (hz:ys.length≤sizeLine) :
  Inv X pins σ (upd H s.heap.objs.size (.lst ys)) { s with heap:=s.heap.push { cls:=.type "list",data:=.seq its.toArray },toks:=t' } :=
 I.laid (fun _ _ q=>Heap.get?_push_of_some _ q) (Nat.le_refl _) ⟨hz,its,0,hv,Heap.get?_push_size _ rfl⟩
theorem Inv.fresh (I:Inv X pins σ H s):H s.heap.objs.size=none:=I.hok.fresh (Nat.le_refl _)
theorem Inv.lstM (I:Inv X pins σ H s) (hH:H l=some (.lst xs)):xs.length≤sizeLine∧∃ (its:List Value) (n:Nat),Vals xs its∧xs.length=its.length∧s.heap.get? l=some { cls:=.type "list",data:=.seq its.toArray n }:=by
 obtain ⟨z,its,n,r,e⟩:=I.hok l _ hH
 exact ⟨z,its,n,r,r.length,e⟩
theorem notLongL {n:Nat} (h:n≤sizeLine):Builtin.List.listTooLong n=false:=by
 unfold Builtin.List.listTooLong
 exact decide_eq_false (by omega)
end
section
variable {X:Cx}
def rAppend:V→List V→Hp→VK→Prop:=fun x vs H Q=>∃ l xs y,x=.ref l∧vs=[y]∧H l=some (.lst xs)∧xs.length<sizeLine∧Q .non (upd H l (.lst (xs++[y])))
theorem mt_append:MtM X "list.append" rAppend:=by
 intro pins s σ H x vs v us Q I rx rv h
 obtain ⟨l,xs,y,rfl,rfl,hH,hz,q⟩:=h
 cases rx
 obtain ⟨u,rfl,ru⟩:=rv.one
 obtain ⟨z,its,n,r,hl,e⟩:=I.lstM hH
 refine call_meets F.slot_list_append ⟨_,e,rfl⟩ F.entry_list_append (F.args_list_append_2 _ _) (PySem.list_append l its.toArray n u (by rw [List.size_toArray];omega)) ⟨e,?_⟩
 refine ⟨.non,_,I.lset (its':=its++[u]) hH e (by simp) (r.append (.cons ru .nil)) ?_,rfl,q⟩
 rw [List.length_append,List.length_singleton]
 omega
def rPop:V→List V→Hp→VK→Prop:=fun x vs H Q=>∃ l xs y,x=.ref l∧vs=[]∧H l=some (.lst xs)∧xs[xs.length-1]? = some y∧Q y (upd H l (.lst xs.dropLast))
theorem mt_pop:MtM X "list.pop" rPop:=by
 intro pins s σ H x vs v us Q I rx rv h
 obtain ⟨l,xs,y,rfl,rfl,hH,hy,q⟩:=h
 cases rx
 have hus:=rv.zero
 subst hus
 obtain ⟨z,its,n,r,hl,e⟩:=I.lstM hH
 obtain ⟨u,hu,ru⟩:=r.get hy
 have hy':its.toArray[its.toArray.size-1]? = some u:=by
  show its.toArray[its.length-1]? = some u
  rw [← Array.getElem?_toList,← hl]
  exact hu
 refine call_meets F.slot_list_pop ⟨_,e,rfl⟩ F.entry_list_pop (F.args_list_pop_1 _) (MeetsSeq.list_pop_last l its.toArray n u hy' (by rw [List.size_toArray];omega)) ⟨e,?_⟩
 refine ⟨y,_,I.lset (its':=its.dropLast) hH e ?_ r.dropLast ?_,ru,q⟩
 ·show its.toArray.eraseIdxIfInBounds (its.toArray.size-1)=its.dropLast.toArray
  rw [List.size_toArray,List.eraseIdxIfInBounds_toArray,erase_last]
 ·rw [List.length_dropLast]
  omega
def rCat:R2:=fun x y H Q=>∃ l b xs zs,x=.ref l∧y=.ref b∧H l=some (.lst xs)∧H b=some (.lst zs)∧xs.length+zs.length≤sizeLine∧∀ p,H p=none→Q (.ref p) (upd H p (.lst (xs++zs)))
theorem op_cat:OpR X (binaryOp .Add) rCat:=by
 intro pins s σ H x y v u Q I rx ry h
 obtain ⟨l,b,xs,zs,rfl,rfl,hH,hB,hz,q⟩:=h
 cases rx
 cases ry
 obtain ⟨z,its,n,r,hl,e⟩:=I.lstM hH
 obtain ⟨z2,its2,n2,r2,hl2,e2⟩:=I.lstM hB
 refine PySem.P.add_list e e2 ?_ (by rw [List.size_toArray,List.size_toArray];omega)
 have ea:its.toArray++its2.toArray=(its++its2).toArray:=by simp
 rw [ea]
 exact ⟨.ref _,_,I.lnew (t':=s.toks) (r.append r2) (by rw [List.length_append];omega),rfl,q _ I.fresh⟩
def rRep:R2:=fun x y H Q=>∃ l k xs,x=.ref l∧y=.int k∧H l=some (.lst xs)∧-(2^63)≤k∧k<2^63∧xs.length*k.toNat≤sizeLine ∧
 ∀ p,H p=none→Q (.ref p) (upd H p (.lst (List.replicate k.toNat xs).flatten))
theorem len_rep {α:Type} (xs:List α) (k:Nat):(List.replicate k xs).flatten.length=k*xs.length:=by
 induction k with
 | zero=>simp
 | succ k ih=>rw [List.replicate_succ,List.flatten_cons,List.length_append,ih,Nat.succ_mul,Nat.add_comm]
theorem op_rep:OpR X (binaryOp .Mult) rRep:=by
 intro pins s σ H x y v u Q I rx ry h
 obtain ⟨l,k,xs,rfl,rfl,hH,h1,h2,hz,q⟩:=h
 cases rx
 obtain ⟨t,rfl⟩:=ry
 obtain ⟨z,its,n,r,hl,e⟩:=I.lstM hH
 have hlen:its.toArray.size*k.toNat≤sizeLine:=by rw [List.size_toArray,← hl];exact hz
 have hcap:¬ its.toArray.size*k.toNat>(2^63-1)/8:=by
  have:(sizeLine:Nat)≤(2^63-1)/8:=by decide
  omega
 have hfit:¬ (!Builtin.List.listFitsIndex k)=true:=by
  rw [fitsIndex_both h1 h2]
  exact Bool.false_ne_true
 have hlong:¬ Builtin.List.listTooLong (its.toArray.size*k.toNat)=true:=by
  rw [notLongL hlen]
  exact Bool.false_ne_true
 have hnew:List.foldl (fun x1 x2=>x1++x2) #[] (List.replicate (if its.toArray.isEmpty=true then 0 else k.toNat) its.toArray)=(List.replicate k.toNat its).flatten.toArray:=by
  have f0:∀ m:Nat,List.foldl (fun x1 x2=>x1++x2) #[] (List.replicate m its.toArray)=(List.replicate m its).flatten.toArray:=fun m=>by
   have:=foldl_rep its m []
   rw [List.nil_append] at this
   exact this
  rw [f0]
  cases its with
  | nil=>simp
  | cons a r'=>rw [if_neg (by simp)]
 refine wpAny_binaryOp_repeat_ref (T:="list") (U:="int") (by decide) ⟨_,e,rfl⟩ (fun s'=>typeIs_int s' k t) noFill_list_mul F.fills_int_mul F.slot_int_rmul repeat_list F.slot_int_index.lookup
  (call_meets F.slot_int_rmul (typeIs_int s k t) F.entry_int_rmul (F.args_int_rmul_2 _ _) (int___rmul___int_list k t l its.toArray n)
   ⟨e,rfl,⟨_,e,rfl⟩,call_meets F.slot_list_mul ⟨_,e,rfl⟩ F.entry_list_mul (F.args_list_mul_2 _ _) (AutoListH.list___mul___list_int_3 l its.toArray n k t hfit hcap hlong) ⟨e,?_⟩⟩)
 rw [hnew]
 exact ⟨.ref _,_,I.lnew (t':=s.toks) (r.rep k.toNat) (by rw [len_rep,Nat.mul_comm];exact hz),rfl,q _ I.fresh⟩
end
section
variable {prog:Program} {w:World} {A:Around} {E:Value→Shared→Prop} {s:Shared}
theorem bounds_run {a c n:Nat} (hac:a≤c) (hc:c≤n):sliceBounds (some (a:Int)) (some (c:Int)) none n=((a:Int),(c:Int),1):=by
 simp only [sliceBounds,Option.getD_none]
 have h1:¬ ((a:Int)<0):=by omega
 have h2:¬ ((c:Int)<0):=by omega
 simp only [h1,h2,if_false,show (1:Int)>0 by decide,if_true]
 congr 1
 ·omega
 ·congr 1;omega
set_option maxRecDepth 100000 in
theorem setItem_slice {l b sl:Addr} {items new:Array Value} {n n2:Nat} {vl vu:Value} {a c:Nat} {Q:Unit→Shared→Prop}
    (e:s.heap.get? l=some { cls:=.type "list",data:=.seq items n }) (e2:s.heap.get? b=some { cls:=.type "list",data:=.seq new n2 }) (hne:l≠b)
    (hs:s.heap.IsSliceOf sl vl vu .none) (pl:IsPart vl (some (a:Int))) (pu:IsPart vu (some (c:Int))) (hac:a≤c) (hc:c≤items.size)
    (hsz:items.size+new.size≤sizeLine) (h:Q () { s with heap:=s.heap.update l (Obj.mapSeq fun xs=>xs.extract 0 a++new++xs.extract c xs.size) }) :
    wpAny (model prog w) A (setItem (.ref l) (.ref sl) (.ref b)) Q E s:=by
  have hl:s.heap.IsList l items:=PySem.IsL.isList e
  have hb:s.heap.IsList b new:=PySem.IsL.isList e2
  obtain ⟨os,hos,hcs,hds⟩:=id hs
  have hTs:s.TypeIs (.ref sl) "slice":=⟨os,hos,hcs⟩
  have hstep:¬ ((rawPart none==rawInt 0)=true):=Bool.false_ne_true
  have hsame:Builtin.List.listSameRef (.ref l) (.ref b)=false:=by
    unfold Builtin.List.listSameRef
    exact beq_eq_false_iff_ne.mpr hne
  have hmax:(max (a:Int) (c:Int)).toNat=c:=by omega
  have hz':((fun xs:Array Value=>xs.extract 0 a++new++xs.extract c xs.size) items).size≤sizeLine+1:=by
    simp only [Array.size_append,Array.size_extract]
    omega
  unfold setItem
  try with_reducible refine wpAny_holding ?_
  first | refine wpAny_bind (wpAny_pure ?_) | skip
  refine wpAny_bind (wpAny_sequenceKey hl.typeIs (by decide) ?_)
  refine wpAny_bind (wpAny_callSpecial?_slot (name:=Str.ofString "__setitem__") hl.typeIs slot_list_setitem
    (wpAny_call_entry slot_list_setitem hl.typeIs entry_list_setitem ?_ (args_list_setitem _ _ _)))
  show wpAny _ _ (Builtin.List.listSubscript? (.ref sl) >>= _) _ _ s
  refine wpAny_bind ?_
  unfold Builtin.List.listSubscript?
  refine wpAny_bind (wpAny_specialOf hTs slice_no_index ?_)
  simp only [Option.isNone_none,if_true]
  refine wpAny_pure ?_
  show wpAny _ _ (typeOf (.ref sl) >>= _) _ _ s
  refine wpAny_bind (wpAny_typeOf hTs ?_)
  first
    | rw [if_neg (by decide)]
    | refine PySem.W.KFB.if_not (by decide) ?_
  rw [listSliceParts_eq]
  refine wpAny_bind (wpAny_bind (wpAny_field hos hds (x:=.none) rfl (wpAny_bind (wpAny_listPart .none ?_))))
  rw [if_neg hstep]
  refine wpAny_bind (wpAny_field hos hds (x:=vl) rfl (wpAny_bind (wpAny_listPart pl ?_)))
  refine wpAny_bind (wpAny_field hos hds (x:=vu) rfl (wpAny_bind (wpAny_listPart pu (wpAny_pure ?_))))
  first
    | simp only [hsame,Bool.false_eq_true,if_false]
    | refine PySem.W.KFB.if_not hsame ?_
    | (dsimp only
       rw [if_neg (by rw [hsame];exact Bool.false_ne_true)])
  refine wpAny_bind (m:=Builtin.List.listAllItems (.ref b) "must assign iterable to extended slice") ?_
  unfold Builtin.List.listAllItems
  refine wpAny_bind (wpAny_typeOf hb.typeIs ?_)
  first
    | refine PySem.W.KFB.if_so (by decide) ?_
    | rw [if_pos (by decide)]
    | simp only [beq_self_eq_true,Bool.true_or,if_true]
  unfold Builtin.List.listItems
  refine wpAny_bind (wpAny_seqItems e2 rfl (wpAny_pure ?_))
  refine wpAny_bind (wpAny_bind (wpAny_seqItems e rfl (wpAny_pure ?_)))
  refine wpAny_bind (wpAny_of_eq ((sliceIndices_raw (some (a:Int)) (some (c:Int)) none items.size (by simp)).trans (congrArg (pure:Int×Int×Int→Sem (Int×Int×Int)) (bounds_run hac hc))) ?_)
  show wpAny _ _ (if ((1:Int)==1)=true then _ else _) _ _ s
  rw [if_pos (by decide)]
  refine wpAny_bind (wpAny_rule ?_)
  first
    | simp only [notLongL hsz,Bool.false_eq_true,if_false]
    | refine PySem.W.KFB.if_not (notLongL hsz) ?_
  first | refine wpAny_bind (wpAny_pure ?_) | skip
  show wpAny _ _ (updateSeq l (fun xs=>xs.extract 0 ((a:Int)).toNat++new++xs.extract (max (a:Int) (c:Int)).toNat xs.size) >>= _) _ _ s
  rw [hmax,Int.toNat_natCast]
  refine wpAny_bind (wpAny_updateSeq (hz:=Nat.le_trans (Nat.le_add_right _ _) hsz) (_hz':=hz') e rfl ?_)
  refine wpAny_bind (wpAny_letGo ?_)
  first
    | exact wpAny_bind (wpAny_pure (wpAny_pure ⟨.none,rfl,wpAny_pure h⟩))
    | exact wpAny_pure ⟨.none,rfl,wpAny_pure h⟩
end
section
variable {X:Cx}
end
end L2
namespace L2
open PySem PySem.Spec PyProof.Rows
section
variable {κ:Type} [DecidableEq κ]
def valV (kvs:List (κ×V)) (k:κ):Option V:=(kvs.find? fun kv=>decide (kv.1=k)).map (·.2)
def putK (kvs:List (κ×V)) (k:κ) (v:V):List (κ×V) :=
 if (kvs.any fun kv=>decide (kv.1=k))=true then kvs.map (fun kv=>if kv.1=k then (kv.1,v) else kv) else kvs++[(k,v)]
theorem valV_pos {p:κ×V} {r:List (κ×V)} {k:κ} (e:p.1=k):valV (p::r) k=some p.2:=by simp [valV,List.find?_cons,e]
theorem valV_neg {p:κ×V} {r:List (κ×V)} {k:κ} (e:¬ p.1=k):valV (p::r) k=valV r k:=by simp [valV,List.find?_cons,e]
theorem valV_any (k:κ):∀ kvs:List (κ×V),(kvs.any fun kv=>decide (kv.1=k))=(valV kvs k).isSome
 | []=>rfl
 | p::r=>by
  rw [List.any_cons]
  by_cases e:p.1=k
  ·simp only [valV_pos e,decide_eq_true e,Bool.true_or,Option.isSome_some]
  ·rw [valV_neg e,decide_eq_false e,Bool.false_or];exact valV_any k r
theorem valV_map (k j:κ) (y:V):∀ kvs:List (κ×V),valV (kvs.map fun kv=>if kv.1=k then (kv.1,y) else kv) j=(valV kvs j).map fun x=>if j=k then y else x
 | []=>rfl
 | p::r=>by
  have ih:=valV_map k j y r
  rw [List.map_cons]
  by_cases h:p.1=k
  ·rw [if_pos h]
   by_cases e:p.1=j
   ·rw [valV_pos (p:=(p.1,y)) e,valV_pos e,Option.map_some,if_pos (e.symm.trans h)]
   ·rw [valV_neg (p:=(p.1,y)) e,valV_neg e,ih]
  ·rw [if_neg h]
   by_cases e:p.1=j
   ·rw [valV_pos (p:=p) e,valV_pos e,Option.map_some,if_neg (fun z=>h (e.trans z))]
   ·rw [valV_neg (p:=p) e,valV_neg e,ih]
theorem valV_snoc (k j:κ) (y:V):∀ kvs:List (κ×V),valV kvs k=none→valV (kvs++[(k,y)]) j=if j=k then some y else valV kvs j
 | [],_=>by
  by_cases e:k=j
  ·rw [if_pos e.symm];exact valV_pos (p:=(k,y)) e
  ·rw [if_neg (fun z=>e z.symm)];exact valV_neg (p:=(k,y)) e
 | p::r,hn=>by
  rw [List.cons_append]
  have hk:¬ p.1=k:=fun z=>by rw [valV_pos z] at hn;cases hn
  rw [valV_neg hk] at hn
  have ih:=valV_snoc k j y r hn
  by_cases e:p.1=j
  ·rw [valV_pos e,valV_pos e,if_neg (fun z=>hk (e.trans z))]
  ·rw [valV_neg e,valV_neg e,ih]
theorem valV_put (kvs:List (κ×V)) (k j:κ) (y:V):valV (putK kvs k y) j=if j=k then some y else valV kvs j:=by
 unfold putK
 by_cases a:(kvs.any fun kv=>decide (kv.1=k))=true
 ·rw [if_pos a,valV_map]
  rw [valV_any] at a
  by_cases e:j=k
  ·obtain ⟨x,hx⟩:=Option.isSome_iff_exists.mp a
   rw [if_pos e,e,hx,Option.map_some,if_pos rfl]
  ·rw [if_neg e]
   cases valV kvs j with
   | none=>rfl
   | some x=>rw [Option.map_some,if_neg e]
 ·rw [if_neg a]
  refine valV_snoc k j y kvs ?_
  rw [valV_any] at a
  cases q:valV kvs k with
  | none=>rfl
  | some x=>rw [q] at a;exact (a rfl).elim
theorem length_putK (kvs:List (κ×V)) (k:κ) (v:V):(putK kvs k v).length≤kvs.length+1:=by
 unfold putK
 split
 ·rw [List.length_map];omega
 ·rw [List.length_append,List.length_cons,List.length_nil];omega
theorem putK_new {kvs:List (κ×V)} {k:κ} (v:V) (h:valV kvs k=none):putK kvs k v=kvs++[(k,v)]:=by
 unfold putK
 rw [valV_any,h]
 exact if_neg (by decide)
theorem RelO.isSome_eq {o:Option V} {u:Option Value} (r:RelO o u):o.isSome=u.isSome:=by
 cases o with
 | none=>cases u with
  | none=>rfl
  | some _=>exact (show False from r).elim
 | some _=>cases u with
  | none=>exact (show False from r).elim
  | some _=>rfl
theorem RelO.getD {o:Option V} {u:Option Value} {d:V} {d':Value} (r:RelO o u) (rd:RelV d d'):RelV (o.getD d) (u.getD d'):=by
 cases o with
 | none=>cases u with
  | none=>exact rd
  | some _=>exact (show False from r).elim
 | some _=>cases u with
  | none=>exact (show False from r).elim
  | some _=>exact r
theorem KV.val {kvs:List (κ×V)} {vs:List (κ×Value)} (r:KV kvs vs) (k:κ):RelO (valV kvs k) (valueAt vs k):=by
 unfold KV at r
 induction r with
 | nil=>exact True.intro
 | @cons p q ps qs h t ih =>
  obtain ⟨h1,h2⟩:=h
  by_cases e:p.1=k
  ·have e':q.1=k:=h1.symm.trans e
   have b:valueAt (q::qs) k=some q.2:=by simp [valueAt,List.find?_cons,e']
   rw [valV_pos e,b];exact h2
  ·have e':¬ q.1=k:=fun z=>e (h1.trans z)
   have b:valueAt (q::qs) k=valueAt qs k:=by simp [valueAt,List.find?_cons,e']
   rw [valV_neg e,b];exact ih
theorem KV.any {kvs:List (κ×V)} {vs:List (κ×Value)} (r:KV kvs vs) (k:κ):(kvs.any fun kv=>decide (kv.1=k))=vs.any fun kv=>decide (kv.1=k):=by
 unfold KV at r
 induction r with
 | nil=>rfl
 | cons h t ih=>rw [List.any_cons,List.any_cons,ih,h.1]
theorem KV.repl {kvs:List (κ×V)} {vs:List (κ×Value)} (r:KV kvs vs) (k:κ) {y:V} {u:Value} (ry:RelV y u) :
  KV (kvs.map fun kv=>if kv.1=k then (kv.1,y) else kv) (vs.map fun kv=>if kv.1=k then (kv.1,u) else kv):=by
 unfold KV at r ⊢
 induction r with
 | nil=>exact .nil
 | @cons p q ps qs h t ih =>
  rw [List.map_cons,List.map_cons]
  refine .cons ?_ ih
  obtain ⟨h1,h2⟩:=h
  by_cases e:p.1=k
  ·rw [if_pos e,if_pos (h1.symm.trans e)];exact ⟨h1,ry⟩
  ·rw [if_neg e,if_neg (fun z=>e (h1.trans z))];exact ⟨h1,h2⟩
theorem KV.put {kvs:List (κ×V)} {vs:List (κ×Value)} (r:KV kvs vs) (k:κ) {y:V} {u:Value} (ry:RelV y u):KV (putK kvs k y) (stored vs k u):=by
 unfold putK stored
 rw [r.any k]
 by_cases e:(vs.any fun kv=>decide (kv.1=k))=true
 ·rw [if_pos e,if_pos e];exact r.repl k ry
 ·rw [if_neg e,if_neg e];exact Paired.snoc r ⟨rfl,ry⟩
theorem KV.length {kvs:List (κ×V)} {vs:List (κ×Value)} (r:KV kvs vs):kvs.length=vs.length:=Paired.length r
end
theorem kV_is {P:Program} {w:World} {k:Key} {u:Value} (r:RelV (kV k) u):(mixKind P w).is k u=true:=by
 cases k with
 | inl i=>obtain ⟨t,e⟩:=(show ∃ t,u=Value.int i t from r);subst e;exact mixKind_int P w i t
 | inr x=>obtain ⟨t,e⟩:=(show ∃ t,u=Value.str x t from r);subst e;exact mixKind_str P w x t
theorem items_are {P:Program} {w:World}:∀ {ks:List Key} {us:List Value},Vals (ks.map kV) us→ItemsAre (mixKind P w) ks us
 | [],_,r=>by rw [List.map_nil] at r;cases r;exact .nil
 | k::ks,_,r=>by
  rw [List.map_cons] at r
  cases r with
  | cons h t=>exact .cons (kV_is h) (items_are t)
abbrev KT (H:Hp):List (List Key×V)→List (List Key×Addr×Value)→Prop:=Paired fun p q=>p.1=q.1∧H q.2.1=some (.tup (p.1.map kV))∧RelV p.2 q.2.2
theorem KT.val {H:Hp} {kvs:List (List Key×V)} {xs:List (List Key×Addr×Value)} (r:KT H kvs xs) (k:List Key):RelO (valV kvs k) ((atKey xs k).map (·.2)):=by
 induction r with
 | nil=>exact True.intro
 | @cons p q ps qs h t ih =>
  obtain ⟨h1,_,h2⟩:=h
  by_cases e:p.1=k
  ·have e':q.1=k:=h1.symm.trans e
   have b:atKey (q::qs) k=some q.2:=by simp [atKey,List.find?_cons,e']
   rw [valV_pos e,b];exact h2
  ·have e':¬ q.1=k:=fun z=>e (h1.trans z)
   have b:atKey (q::qs) k=atKey qs k:=by simp [atKey,List.find?_cons,e']
   rw [valV_neg e,b];exact ih
theorem KT.repl {H:Hp} {kvs:List (List Key×V)} {xs:List (List Key×Addr×Value)} (r:KT H kvs xs) (k:List Key) {y:V} {u:Value} (ry:RelV y u) :
  KT H (kvs.map fun kv=>if kv.1=k then (kv.1,y) else kv) (xs.map (putAt k u)):=by
 induction r with
 | nil=>exact .nil
 | @cons p q ps qs h t ih =>
  rw [List.map_cons,List.map_cons]
  refine .cons ?_ ih
  obtain ⟨h1,h2,h3⟩:=h
  unfold putAt
  by_cases e:p.1=k
  ·rw [if_pos e,if_pos (h1.symm.trans e)];exact ⟨h1,h2,ry⟩
  ·rw [if_neg e,if_neg (fun z=>e (h1.trans z))];exact ⟨h1,h2,h3⟩
theorem KT.put {H:Hp} {kvs:List (List Key×V)} {xs:List (List Key×Addr×Value)} (r:KT H kvs xs) (k:List Key) {b:Addr} {y:V} {u:Value} (hb:H b=some (.tup (k.map kV))) (ry:RelV y u) :
  KT H (putK kvs k y) (storedH xs k b u):=by
 have e:(kvs.any fun kv=>decide (kv.1=k))=(atKey xs k).isSome:=by
  rw [valV_any,(r.val k).isSome_eq,Option.isSome_map]
 unfold putK storedH
 rw [e]
 by_cases q:(atKey xs k).isSome=true
 ·rw [if_pos q,if_pos q];exact r.repl k ry
 ·rw [if_neg q,if_neg q];exact Paired.snoc r ⟨rfl,hb,ry⟩
theorem KT.keeps {H H':Hp} {kvs:List (List Key×V)} {xs:List (List Key×Addr×Value)} (r:KT H kvs xs) (ht:∀ b ys,H b=some (.tup ys)→H' b=some (.tup ys)):KT H' kvs xs :=
 Paired.mapP r fun _ _ z=>⟨z.1,ht _ _ z.2.1,z.2.2⟩
section
variable {P:Program} {w:World} {H:Hp} {h:Heap} {a:Addr}
theorem rd_of {u:HO} (ok:HOk P w H h) (e:Rd H a u):ObjOk P w H h a u:=e.ok ok
theorem dk_rd {kvs:List (Key×V)} (ok:HOk P w H h) (e:Rd H a (.dK kvs)):kvs.length≤sizeLine∧(a==sysModules)=false∧∃ vs,KV kvs vs∧h.DictOf (mixKind P w) a vs :=
 show ObjOk P w H h a (.dK kvs) from rd_of ok e
theorem dk_of {kvs:List (Key×V)} (ok:HOk P w H h) (e:H a=some (.dK kvs)):kvs.length≤sizeLine∧(a==sysModules)=false∧∃ vs,KV kvs vs∧h.DictOf (mixKind P w) a vs:=dk_rd ok (.inl e)
theorem key_of {ks:List Key} (ok:HOk P w H h) (e:H a=some (.tup (ks.map kV))):(tupleKind (mixKind P w)).is h ks a:=by
 obtain ⟨_,its,r,o,h1,h2,n,h3⟩:=(show ObjOk P w H h a (.tup (ks.map kV)) from ok a _ e)
 exact ⟨o,its.toArray,n,h1,h2,h3,by simpa using items_are r⟩
theorem dt_rd {kvs:List (List Key×V)} (ok:HOk P w H h) (e:Rd H a (.dT kvs)):kvs.length≤sizeLine∧(a==sysModules)=false ∧
  ∃ xs,KT H kvs xs∧h.DictOfH (tupleKind (mixKind P w)) a xs:=by
 obtain ⟨z,y,xs,r,o,es,ep,h1,h2,h3,h4,h5⟩:=(show ObjOk P w H h a (.dT kvs) from rd_of ok e)
 refine ⟨z,y,xs,r,o,es,ep,h1,h2,h3,h4,fun x hx=>?_,h5⟩
 have all:∀ {l:List (List Key×V)} {m:List (List Key×Addr×Value)},KT H l m→∀ x∈m,(tupleKind (mixKind P w)).is h x.1 x.2.1:=by
  intro l m q
  induction q with
  | nil=>intro x hx;exact nomatch hx
  | @cons p q ps qs hq t ih =>
   intro x hx
   rcases List.mem_cons.mp hx with e | hx
   ·subst e
    exact key_of ok (by rw [← hq.1];exact hq.2.1)
   ·exact ih x hx
 exact all r x hx
theorem dt_of {kvs:List (List Key×V)} (ok:HOk P w H h) (e:H a=some (.dT kvs)):kvs.length≤sizeLine∧(a==sysModules)=false ∧
  ∃ xs,KT H kvs xs∧h.DictOfH (tupleKind (mixKind P w)) a xs:=dt_rd ok (.inl e)
end
def DGet (H:Hp) (a:Addr) (y:V) (r:Option V):Prop :=
 (∃ kvs k,Rd H a (.dK kvs)∧y=kV k∧r=valV kvs k)∨∃ kvs k b,Rd H a (.dT kvs)∧y=.ref b∧H b=some (.tup (k.map kV))∧r=valV kvs k
def DPut (H:Hp) (a:Addr) (y v:V) (H':Hp):Prop :=
 (∃ kvs k,H a=some (.dK kvs)∧y=kV k∧kvs.length<sizeLine∧H'=upd H a (.dK (putK kvs k v))) ∨
 ∃ kvs k b,H a=some (.dT kvs)∧y=.ref b∧H b=some (.tup (k.map kV))∧kvs.length<sizeLine∧H'=upd H a (.dT (putK kvs k v))
theorem DGet.k {H:Hp} {a:Addr} {kvs:List (Key×V)} {k:Key} (e:H a=some (.dK kvs)):DGet H a (kV k) (valV kvs k):=.inl ⟨kvs,k,.inl e,rfl,rfl⟩
theorem DGet.t {H:Hp} {a b:Addr} {kvs:List (List Key×V)} {k:List Key} (e:H a=some (.dT kvs)) (eb:H b=some (.tup (k.map kV))):DGet H a (.ref b) (valV kvs k):=.inr ⟨kvs,k,b,.inl e,rfl,eb,rfl⟩
theorem DPut.k {H:Hp} {a:Addr} {kvs:List (Key×V)} {k:Key} {v:V} (e:H a=some (.dK kvs)) (hl:kvs.length<sizeLine):DPut H a (kV k) v (upd H a (.dK (putK kvs k v))):=.inl ⟨kvs,k,e,rfl,hl,rfl⟩
theorem DPut.t {H:Hp} {a b:Addr} {kvs:List (List Key×V)} {k:List Key} {v:V} (e:H a=some (.dT kvs)) (eb:H b=some (.tup (k.map kV))) (hl:kvs.length<sizeLine) :
  DPut H a (.ref b) v (upd H a (.dT (putK kvs k v))):=.inr ⟨kvs,k,b,e,rfl,eb,hl,rfl⟩
section
variable {X:Cx} {pins:List (Addr×Obj)} {σ:St} {H:Hp} {s:Shared} {a:Addr} {y v:V} {u r:Value} {o:Option V} {A:Around} {E:Value→Shared→Prop}
theorem Inv.big (I:Inv X pins σ H s):sysModules<s.heap.objs.size:=by
 have h:mainGlobals<s.heap.objs.size:=(I.mod.glob.keeps I.bk).lt
 exact Nat.lt_trans (by decide) h
theorem d_getItem {Q:Value→Shared→Prop} (hu:A.units+1<cLine) (I:Inv X pins σ H s) (g:DGet H a y (some v)) (ry:RelV y u) (h:∀ w' s',Inv X pins σ H s'→RelV v w'→Q w' s') :
  wpAny (model X.prog X.w) A (getItem (.ref a) u) Q E s:=by
 rcases g with ⟨kvs,k,e,ey,l⟩ | ⟨kvs,k,b,e,ey,eb,l⟩
 ·subst ey
  obtain ⟨z,hd,vs,rel,dd⟩:=dk_rd I.hok e
  obtain ⟨w',hw,rw'⟩:=RelO.some_of (v:=v) (o:=valueAt vs k) (by rw [l];exact rel.val k)
  exact wpAny_getItem_of (kV_is ry) dd.mapOf hw (h w' _ (I.tok _) rw')
 ·subst ey
  cases (show u=Value.ref b from ry)
  obtain ⟨z,hd,xs,rel,dd⟩:=dt_rd I.hok e
  obtain ⟨w',hw,rw'⟩:=RelO.some_of (v:=v) (o:=(atKey xs k).map (·.2)) (by rw [l];exact rel.val k)
  obtain ⟨p,hp,hp2⟩:=Option.map_eq_some_iff.mp hw
  refine wpAny_getItem_heap (tupleKind_room_in1 hu) (key_of I.hok eb) dd hp ?_
  rw [hp2]
  exact h w' _ (I.tok _) rw'
theorem d_notIn {Q:Value→Shared→Prop} (hu:A.units+1<cLine) (I:Inv X pins σ H s) (g:DGet H a y o) (ry:RelV y u) (h:∀ s',Inv X pins σ H s'→Q (.bool (!o.isSome)) s') :
  wpAny (model X.prog X.w) A (compareOp .NotIn u (.ref a)) Q E s:=by
 rcases g with ⟨kvs,k,e,ey,l⟩ | ⟨kvs,k,b,e,ey,eb,l⟩
 ·subst ey
  obtain ⟨z,hd,vs,rel,dd⟩:=dk_rd I.hok e
  refine wpAny_notIn_of (kV_is ry) hd dd.mapOf ?_
  rw [← (rel.val k).isSome_eq,← l]
  exact h _ (I.tok _)
 ·subst ey
  cases (show u=Value.ref b from ry)
  obtain ⟨z,hd,xs,rel,dd⟩:=dt_rd I.hok e
  refine wpAny_notIn_heap (tupleKind_room_in1 hu) (key_of I.hok eb) hd dd ?_
  have q:=(rel.val k).isSome_eq
  rw [Option.isSome_map] at q
  rw [← q,← l]
  exact h _ (I.tok _)
theorem d_write {h':Heap} {t':Nat} {ob:HO} (I:Inv X pins σ H s) (mu:Mut (H a)) (hs:Heap.SameBut a s.heap h') (he:∃ q,h'.get? a=some q) (new:ObjOk X.prog X.w (upd H a ob) h' a ob) :
  Inv X pins σ (upd H a ob) { s with heap:=h',toks:=t' } :=
 I.write (x:=a) (e:=a) mu (.inl rfl) (fun b q hb z=>(hs.2 b hb).trans z) he new
theorem dk_new {P:Program} {w:World} {H':Hp} {h':Heap} {kvs:List (Key×V)} {vs:List (Key×Value)} (z:kvs.length≤sizeLine) (hd:(a==sysModules)=false) (rel:KV kvs vs) (dd:h'.DictOf (mixKind P w) a vs) :
  ObjOk P w H' h' a (.dK kvs):=⟨z,hd,vs,rel,dd⟩
theorem d_setItem {H':Hp} {Q:Unit→Shared→Prop} (hu:A.units+1<cLine) (I:Inv X pins σ H s) (g:DPut H a y v H') (ry:RelV y u) (rv:RelV v r) (h:∀ s',Inv X pins σ H' s'→Q () s') :
  wpAny (model X.prog X.w) A (setItem (.ref a) u r) Q E s:=by
 rcases g with ⟨kvs,k,e,ey,l,eH⟩ | ⟨kvs,k,b,e,ey,eb,l,eH⟩
 ·subst ey eH
  obtain ⟨z,hd,vs,rel,dd⟩:=dk_of I.hok e
  have hz:vs.length≤sizeLine:=by rw [← rel.length];exact z
  have hl:(putK kvs k v).length≤sizeLine:=by have:=length_putK kvs k v;omega
  refine wpAny_setItem_pairs (hsz:=hz) (kV_is ry) dd fun h' dd' hs=>h _ ?_
  have he:∃ q,h'.get? a=some q:=let ⟨q,_,_,hq,_⟩:=dd';⟨q,hq⟩
  exact d_write I (by rw [e];exact True.intro) hs he (dk_new hl hd (rel.put k rv) dd')
 ·subst ey eH
  cases (show u=Value.ref b from ry)
  obtain ⟨z,hd,xs,rel,dd⟩:=dt_of I.hok e
  have hz:xs.length≤sizeLine:=by rw [← Paired.length rel];exact z
  have hl:(putK kvs k v).length≤sizeLine:=by have:=length_putK kvs k v;omega
  refine wpAny_setItem_heap (hsz:=hz) (tupleKind_room_in1 hu) (key_of I.hok eb) dd fun h' dd' hs=>h _ ?_
  obtain ⟨q,es,ep,hq,h2,h3,h4,_,h5⟩:=dd'
  refine d_write I (by rw [e];exact True.intro) hs ⟨q,hq⟩ ⟨hl,hd,_,(rel.put k eb rv).keeps fun c ys ec=>?_,q,es,ep,hq,h2,h3,h4,h5⟩
  rw [upd_ne (ne_of ec e (fun z=>nomatch z))]
  exact ec
end
section
variable {X:Cx} {pins:List (Addr×Obj)} {σ:St} {H:Hp} {s:Shared} {a:Addr} {kvs:List (Key×V)} {k:Key} {u:Value} {A:Around} {E:Value→Shared→Prop}
end
def NoSl (i:Expr):Prop:=∀ ov iv,subscripted i false ov iv=operate [ov,iv] (getItem ov iv)
theorem subD_of {prog:Program} {w:World} {A:Around} {E:Value→Shared→Prop} {s:Shared} {env:Env} {value slice:Expr} {pos:Pos} {T id:String} {Q:Value→Shared→Prop}
  (hl:typeLookup (.type T) "__getitem__" = pure (some (.builtin id))) (hs:NoSl slice)
  (h:wpAny (model prog w) A (eval value env) (fun o s₁=>wpAny (model prog w) A (eval slice env) (fun i s₂=>s₂.TypeIs o T∧wpAny (model prog w) A (getItem o i) Q E s₂) E s₁) E s) :
  wpAny (model prog w) A (eval (.Subscript value slice pos) env) Q E s:=by
 refine Subscript_ (wpAny_mono h (fun o s₁ h₁=>wpAny_mono h₁ (fun i s₂ h₂=>?_) fun _ _ x=>x) fun _ _ x=>x)
 obtain ⟨hT,h₂⟩:=h₂
 unfold subscriptTail
 refine wpAny_bind ?_
 rw [getitemInPython_of_ne hT.not_modules]
 refine wpAny_bind (wpAny_specialOf hT hl ?_)
 have fin:wpAny (model prog w) A (subscripted slice false o i) (fun r s₃=>wpAny (model prog w) A (letTemporaryGo value o r >>= fun _=>pure r) Q E s₃) E s₂:=by
  rw [hs o i]
  exact wpAny_operating (wpAny_mono h₂ (fun r s₃ h₃=>wpAny_bind (wpAny_letTemporaryGo (wpAny_pure h₃))) fun _ _ x=>x)
 first
  | exact wpAny_pure (wpAny_bind fin)
  | exact wpAny_bind (wpAny_pure (wpAny_bind fin))
  | exact wpAny_bind fin
theorem dict_typeIs {X:Cx} {pins:List (Addr×Obj)} {σ:St} {H:Hp} {s:Shared} {a:Addr} {y:V} {o:Option V} (I:Inv X pins σ H s) (g:DGet H a y o):s.TypeIs (.ref a) "dict":=by
 rcases g with ⟨kvs,k,e,_,_⟩ | ⟨kvs,k,b,e,_,_,_⟩
 ·obtain ⟨_,_,vs,_,dd⟩:=dk_rd I.hok e
  exact dd.typeIs
 ·obtain ⟨_,_,xs,_,dd⟩:=dt_rd I.hok e
  exact dd.typeIs
def tDGet (td ty:TE):TE:=fun σ H Q=>td σ H fun x H1=>ty σ H1 fun y H2=>∃ a v,x=.ref a∧DGet H2 a y (some v)∧Q v H2
def tDNotIn (ty td:TE):TE:=fun σ H Q=>ty σ H fun y H1=>td σ H1 fun x H2=>∃ a o,x=.ref a∧DGet H2 a y o∧Q (.bl (!o.isSome)) H2
def sDPut (td ty tv:TE):TS:=fun D σ H=>tv σ H fun v H1=>td σ H1 fun x H2=>ty σ H2 fun y H3=>∃ a H4,x=.ref a∧DPut H3 a y v H4∧D.nx σ H4
section
variable {X:Cx} {o i e value:Expr} {pos pos' tpos:Pos} {td ty tv:TE}
theorem pe_dget (hu:X.A.units+1<cLine) (ho:PE X o td) (hi:PE X i ty) (hs:NoSl i):PE X (.Subscript o i pos) (tDGet td ty):=by
 intro pins s σ H Q I h
 refine subD_of PySem.F.slot_dict_getitem.lookup hs (thn (ho pins s σ H _ I h) fun u s1 ⟨x,H1,I1,rx,q1⟩=>thn (hi pins s1 σ H1 _ I1 q1) fun iv s2 ⟨y,H2,I2,ry,a,v,ex,g,q2⟩=>?_)
 subst ex
 obtain rfl:u=Value.ref a:=rx
 exact ⟨dict_typeIs I2 g,d_getItem hu I2 g ry fun w' s3 I3 rw'=>⟨v,H2,I3,rw',q2⟩⟩
theorem pc_dnotin (hu:X.A.units+1<cLine) (hi:PE X i ty) (ho:PE X o td):PC X .NotIn i o (tDNotIn ty td):=by
 intro pins s σ H Q I h
 refine thn (hi pins s σ H _ I h) fun iv s1 ⟨y,H1,I1,ry,q1⟩=>thn (ho pins s1 σ H1 _ I1 q1) fun u s2 ⟨x,H2,I2,rx,a,ov,ex,g,q2⟩=>?_
 subst ex
 obtain rfl:u=Value.ref a:=rx
 exact d_notIn hu I2 g ry fun s3 I3=>⟨.bl (!ov.isSome),H2,I3,rfl,q2⟩
theorem ps_dput (hu:X.A.units+1<cLine) (ho:PE X o td) (hi:PE X i ty) (hv:PE X value tv) (hs:swapsWith value (some (.Subscript o i pos')) pos.line X.env=pure false) :
  PS X (.Assign [.Subscript o i pos'] value pos) (sDPut td ty tv):=by
 intro pins s σ H D I h
 refine wpAny_Assign_Subscript (thn (hv pins s σ H _ I h) fun r s1 ⟨v,H1,I1,rv,q1⟩=>thn (ho pins s1 σ H1 _ I1 q1) fun u s2 ⟨x,H2,I2,rx,q2⟩=>thn (hi pins s2 σ H2 _ I2 q2) fun iv s3 ⟨y,H3,I3,ry,a,H4,ex,g,q3⟩=>?_) hs
 subst ex
 obtain rfl:u=Value.ref a:=rx
 exact d_setItem hu I3 g ry rv fun s4 I4=>⟨σ,H4,I4,q3⟩
end
theorem dk_empty {P:Program} {w:World} {H:Hp} (h:Heap) (hb:sysModules<h.objs.size):ObjOk P w H (h.push { cls:=.type "dict",data:=.dict #[] }) h.objs.size (.dK []) :=
 ⟨Nat.zero_le _,beq_eq_false_iff_ne.mpr (Ne.symm (Nat.ne_of_lt hb)),[],.nil,Heap.DictOf.new h⟩
theorem dt_empty {P:Program} {w:World} {H:Hp} (h:Heap) (hb:sysModules<h.objs.size):ObjOk P w H (h.push { cls:=.type "dict",data:=.dict #[] }) h.objs.size (.dT []) :=
 ⟨Nat.zero_le _,beq_eq_false_iff_ne.mpr (Ne.symm (Nat.ne_of_lt hb)),[],.nil,_,#[],0,Heap.get?_push_size _ rfl,⟨rfl,rfl,rfl⟩,rfl,rfl,List.nodup_nil⟩
def tDNewT:TE:=fun _ H Q=>∀ p,H p=none→Q (.ref p) (upd H p (.dT []))
section
variable {X:Cx} {pos:Pos}
theorem pe_dnewT:PE X (.Dict [] [] pos) tDNewT:=fun pins s σ H Q I h =>
 wpAny_Dict_empty ⟨.ref s.heap.objs.size,_,I.laid (a:=s.heap.objs.size) (o:=.dT []) (t':=s.toks) (fun _ _ q=>Heap.get?_push_of_some _ q) (Nat.le_refl _) (dt_empty s.heap I.big),rfl,h _ (I.hok.fresh (Nat.le_refl _))⟩
end
def tPairs:List (TE×TE)→St→Hp→(List (V×V)→Hp→Prop)→Prop
 | [],_,H,Q=>Q [] H
 | (tk,tv)::r,σ,H,Q=>tk σ H fun x H1=>tv σ H1 fun y H2=>tPairs r σ H2 fun ps H3=>Q ((x,y)::ps) H3
abbrev VV:List (V×V)→List (Value×Value)→Prop:=Paired fun p q=>RelV p.1 q.1∧RelV p.2 q.2
def PPs (X:Cx) (pos:Pos) (keys:List (Option Expr)) (values:List Expr) (trs:List (TE×TE)):Prop :=
 ∀ (pins:List (Addr×Obj)) (s:Shared) (σ:St) (H:Hp) (Q:List (V×V)→Hp→Prop),Inv X pins σ H s→tPairs trs σ H Q →
  wpAny (model X.prog X.w) X.A (evalPairs (pairTrees keys values X.env pos)) (fun vs s'=>∃ ps H',Inv X pins σ H' s'∧VV ps vs∧Q ps H') X.xe s
theorem pps_nil {X:Cx} {pos:Pos}:PPs X pos [] [] []:=fun pins s σ H Q I h=>pairTrees_nil_walk ⟨[],H,I,.nil,h⟩
theorem pps_cons {X:Cx} {pos:Pos} {k v:Expr} {ks:List (Option Expr)} {vs:List Expr} {tk tv:TE} {trs:List (TE×TE)} (hk:PE X k tk) (hv:PE X v tv) (hr:PPs X pos ks vs trs) :
  PPs X pos (some k::ks) (v::vs) ((tk,tv)::trs):=fun pins s σ H Q I h =>
 pairTrees_cons_walk (thn (hk pins s σ H _ I h) fun u s1 ⟨x,H1,I1,rx,q1⟩=>thn (hv pins s1 σ H1 _ I1 q1) fun w2 s2 ⟨y,H2,I2,ry,q2⟩ =>
  thn (hr pins s2 σ H2 _ I2 q2) fun ws s3 ⟨ps,H3,I3,rel,q3⟩=>⟨(x,y)::ps,H3,I3,.cons ⟨rx,ry⟩ rel,q3⟩)
def mergeK (kvs more:List (Key×V)):List (Key×V):=more.foldl (fun acc kv=>putK acc kv.1 kv.2) kvs
theorem KV.merge:∀ {more:List (Key×V)} {rs:List (Key×Value)} {kvs:List (Key×V)} {vs:List (Key×Value)},KV more rs→KV kvs vs→KV (mergeK kvs more) (merged vs rs):=by
 intro more rs kvs vs r
 unfold KV at r
 induction r generalizing kvs vs with
 | nil=>intro q;exact q
 | @cons p q ps qs h t ih =>
  intro r0
  have e:KV (putK kvs p.1 p.2) (stored vs q.1 q.2):=by
   have:=r0.put p.1 h.2
   rw [← h.1];exact this
  exact ih e
theorem length_mergeK:∀ (more kvs:List (Key×V)),(mergeK kvs more).length≤kvs.length+more.length
 | [],kvs=>by show kvs.length≤kvs.length+0;omega
 | p::r,kvs=>by
  have h1:=length_mergeK r (putK kvs p.1 p.2)
  have h2:=length_putK kvs p.1 p.2
  show (mergeK (putK kvs p.1 p.2) r).length≤_
  rw [List.length_cons];omega
theorem carries_of {P:Program} {w:World}:∀ {kvs:List (Key×V)} {ws:List (Value×Value)},VV (kvs.map fun kv=>(kV kv.1,kv.2)) ws→∃ rs,Carries (mixKind P w) ws rs∧KV kvs rs
 | [],_,r=>by rw [List.map_nil] at r;cases r;exact ⟨[],True.intro,.nil⟩
 | p::kvs,_,r=>by
  rw [List.map_cons] at r
  cases r with
  | @cons a b as bs h t =>
   obtain ⟨rs,c,q⟩:=carries_of (P:=P) (w:=w) t
   obtain ⟨b1,b2⟩:=b
   exact ⟨(p.1,b2)::rs,⟨kV_is h.1,rfl,c⟩,.cons ⟨rfl,h.2⟩ q⟩
def tDisp (trs:List (TE×TE)):TE:=fun σ H Q=>∀ p,H p=none→tPairs trs σ (upd H p (.dK [])) fun ps H2=>H2 p=some (.dK [])∧∃ kvs:List (Key×V),ps=kvs.map (fun kv=>(kV kv.1,kv.2))∧kvs.length≤15∧Q (.ref p) (upd H2 p (.dK (mergeK [] kvs)))
theorem pe_disp {X:Cx} {pos:Pos} {keys:List (Option Expr)} {values:List Expr} {trs:List (TE×TE)} (h:PPs X pos keys values trs) (hall:keys.all (·.isSome)=true) (hl:keys.length=values.length) (h0:keys≠[])
  (h15:keys.length≤15):PE X (.Dict keys values pos) (tDisp trs):=by
 intro pins s σ H Q I q
 have hn:=I.hok.fresh (Nat.le_refl s.heap.objs.size)
 have I1:=I.laid (a:=s.heap.objs.size) (o:=.dK []) (h':=s.heap.push { cls:=.type "dict",data:=.dict #[] }) (t':=s.toks) (fun _ _ q=>Heap.get?_push_of_some _ q) (Nat.le_refl _) (dk_empty s.heap I.big)
 refine wpAny_Dict_walk (knd:=mixKind X.prog X.w) hall hl h0 h15 (thn (h pins _ σ _ _ I1 (q _ hn)) fun ws s2 ⟨ps,H2,I2,rel,e,kvs,ep,lk,q2⟩=>?_)
 subst ep
 obtain ⟨rs,c,rk⟩:=carries_of (P:=X.prog) (w:=X.w) rel
 obtain ⟨z,hd,vs0,r0,dd⟩:=dk_of I2.hok e
 cases r0
 refine ⟨rs,c,dd,fun h' dd' hs=>⟨.ref s.heap.objs.size,_,?_,rfl,q2⟩⟩
 have hz:(mergeK [] kvs).length≤sizeLine:=by
  have h1:=length_mergeK kvs []
  rw [List.length_nil] at h1
  rw [sizeLine_eq];omega
 have he:∃ q,h'.get? s.heap.objs.size=some q:=let ⟨q,_,_,hq,_⟩:=dd';⟨q,hq⟩
 exact d_write I2 (by rw [e];exact True.intro) hs he (dk_new hz hd (rk.merge .nil) dd')
structure M1 (X:Cx) (o:Expr) (m:Str) (apos:Pos) (e:Expr) (cpos:Pos):Prop where
 base:attributeBase o m X.env (eval o X.env)=eval o X.env
 few:((backTo cpos (starEach [e] X.env)).all (fun x=>!x.1)&&(backToKw cpos (keywordEach [] X.env)).all (fun x=>x.1.isSome)
  && decide (([e]:List Expr).length+([]:List Keyword).length+(if ([]:List Keyword).isEmpty then 0 else 1)<30))=true
 line:(apos.endLine==cpos.line)=true
 trees:backTo cpos (starEach [e] X.env)=[(false,eval e X.env)]
structure M2 (X:Cx) (o:Expr) (m:Str) (apos:Pos) (e f:Expr) (cpos:Pos):Prop where
 base:attributeBase o m X.env (eval o X.env)=eval o X.env
 few:((backTo cpos (starEach [e,f] X.env)).all (fun x=>!x.1)&&(backToKw cpos (keywordEach [] X.env)).all (fun x=>x.1.isSome)
  && decide (([e,f]:List Expr).length+([]:List Keyword).length+(if ([]:List Keyword).isEmpty then 0 else 1)<30))=true
 line:(apos.endLine==cpos.line)=true
 trees:backTo cpos (starEach [e,f] X.env)=[(false,eval e X.env),(false,eval f X.env)]
def IsD (H:Hp) (a:Addr):Prop:=(∃ kvs,Rd H a (.dK kvs))∨∃ kvs,Rd H a (.dT kvs)
theorem isD_at {X:Cx} {pins:List (Addr×Obj)} {σ:St} {H:Hp} {s:Shared} {a:Addr} (I:Inv X pins σ H s) (d:IsD H a) :
  s.TypeIs (.ref a) "dict"∧(∀ b,Value.ref a=.ref b→∃ ob,s.heap.get? b=some ob∧ob.dict=none)∧(a==sysModules)=false:=by
 rcases d with ⟨kvs,e⟩ | ⟨kvs,e⟩
 ·obtain ⟨_,hd,vs,_,dd⟩:=dk_rd I.hok e
  refine ⟨dd.typeIs,fun b q=>?_,hd⟩
  cases q
  obtain ⟨ob,_,_,h1,h2,_⟩:=dd
  exact ⟨ob,h1,h2.2.1⟩
 ·obtain ⟨_,hd,xs,_,dd⟩:=dt_rd I.hok e
  refine ⟨dd.typeIs,fun b q=>?_,hd⟩
  cases q
  obtain ⟨ob,_,_,h1,h2,_⟩:=dd
  exact ⟨ob,h1,h2.2.1⟩
section
variable {X:Cx} {pins:List (Addr×Obj)} {σ:St} {H:Hp} {s:Shared} {a:Addr} {y d:V} {u r:Value} {o:Option V} {A:Around} {E:Value→Shared→Prop}
theorem d_get2 {Q:Value→Shared→Prop} (hu:A.units+1<cLine) (I:Inv X pins σ H s) (g:DGet H a y o) (ry:RelV y u) (rd:RelV d r) (h:∀ w' s',Inv X pins σ H s'→RelV (o.getD d) w'→Q w' s') :
  wpAny (model X.prog X.w) A (call (.builtin "dict.get") [.ref a,u,r]) Q E s:=by
 rcases g with ⟨kvs,k,e,ey,l⟩ | ⟨kvs,k,b,e,ey,eb,l⟩
 ·subst ey
  obtain ⟨z,hd,vs,rel,dd⟩:=dk_rd I.hok e
  refine call_meetsIn PySem.F.slot_dict_get dd.typeIs PySem.F.entry_dict_get (PySem.F.args_dict_get_3 _ _ _) (meets_dict_get_default (mixKind X.prog X.w) a (kV_is ry) hd r) ⟨_,dd.mapOf,h _ _ (I.tok _) ?_⟩
  rw [l]
  exact (rel.val k).getD rd
 ·subst ey
  cases (show u=Value.ref b from ry)
  obtain ⟨z,hd,xs,rel,dd⟩:=dt_rd I.hok e
  refine call_meetsIn PySem.F.slot_dict_get dd.typeIs PySem.F.entry_dict_get (PySem.F.args_dict_get_3 _ _ _) (meetsH_dict_get_default (tupleKind (mixKind X.prog X.w)) a b hd r) ⟨tupleKind_room_in1 hu,k,xs,key_of I.hok eb,dd,h _ _ (I.tok _) ?_⟩
  rw [l]
  exact (rel.val k).getD rd
end
def tDGet2 (td ty tx:TE):TE:=fun σ H Q=>td σ H fun x H1=>∃ a,x=.ref a∧IsD H1 a∧ty σ H1 fun y H2=>tx σ H2 fun z H3=>∃ o,DGet H3 a y o∧Q (o.getD z) H3
section
variable {X:Cx} {o e f:Expr} {apos cpos:Pos} {td ty tx:TE}
theorem pe_dget2 (hu:X.A.units+1<cLine) (ho:PE X o td) (he:PE X e ty) (hf:PE X f tx) (m:M2 X o "get" apos e f cpos):PE X (.Call (.Attribute o "get" apos) [e,f] [] cpos) (tDGet2 td ty tx):=by
 intro pins s σ H Q I h
 refine wpAny_Call_method m.base m.few m.line PySem.F.plainAttrs_dict PySem.F.slot_dict_get PySem.F.type_dict_get (thn (ho pins s σ H _ I h) fun u s1 ⟨x,H1,I1,rx,a,ex,d,q1⟩=>?_)
 subst ex
 obtain rfl:u=Value.ref a:=rx
 obtain ⟨t1,t2,_⟩:=isD_at I1 d
 refine ⟨t1,t2,?_⟩
 rw [m.trees]
 refine Calls.callWith_builtin rfl (Calls.evalArgs_plain (Calls.spliced_cons (thn (he pins s1 σ H1 _ I1 q1) fun iv s2 ⟨y,H2,I2,ry,q2⟩ =>
  Calls.spliced_cons (thn (hf pins s2 σ H2 _ I2 q2) fun fv s3 ⟨z,H3,I3,rz,ov,g,q3⟩=>Calls.spliced_nil ?_))))
 exact d_get2 hu I3 g ry rz fun w' s4 I4 rw'=>⟨_,H3,I4,rw',q3⟩
end
section
variable {X:Cx} {pins:List (Addr×Obj)} {σ:St} {H:Hp} {s:Shared} {a:Addr} {kvs:List (Key×V)} {A:Around} {E:Value→Shared→Prop}
end
section
variable {X:Cx} {pins:List (Addr×Obj)} {σ:St} {H:Hp} {s:Shared} {a:Addr} {y:V} {u:Value} {A:Around} {E:Value→Shared→Prop}
end
end L2
namespace Att
open PySem PySem.W PySem.Calls PyProof.Rows
theorem ints_of_wellAll {P:Params} {h:Heap}:∀ (ns:List Int) (vs:List Value),WellAll P h vs (ns.map WData.int)→IntsAre vs ns:=by
 intro ns
 induction ns with
 | nil =>
  intro vs w
  rw [List.map_nil] at w
  cases w
  exact .nil
 | cons n ns ih =>
  intro vs w
  rw [List.map_cons] at w
  cases w with
  | cons a b =>
   cases a
   exact .cons _ _ (ih _ b)
theorem script_of {l:OpenLaw} {n:Nat} (hn:l.most=some n) {P:Params} {h:Heap} {args:List WData} {vals:List Value}
  (hpre:l.row.toRowW.claim.pre args=true) (hwl:WellAll P h vals args) :
  ∃ a vs ns,vals=[Value.ref a]∧args=[WData.list (ns.map WData.int)]∧h.get? a=some { cls:=.type "list",data:=.seq vs.toArray }∧IntsAre vs ns∧ns.length≤n:=by
 have hsh:WShape.hasAll [] args [.list .int]=true:=(pre_splitW hpre).1
 have hc:l.pre.holds [] { args:=args }=true:=(pre_splitW hpre).2
 obtain ⟨d,r,rfl,h1,h2⟩:=hasAllW_cons hsh
 obtain rfl:=hasAllW_nil h2
 obtain ⟨xs,rfl,h3⟩:=hasW_list h1
 obtain ⟨ns,rfl⟩:=items_int h3
 have hlen:ns.length≤n:=by
  unfold OpenLaw.pre at hc
  have h4:(WTm.not (.lt (.lit (.int (n:Int))) (.len (.arg 0)))).holds [] { args:=[.list (ns.map .int)] }=true:=by
   have h4:=(holds_andW hc).1
   rw [hn] at h4
   exact h4
  have h5:=condW_of h4 (w_not (w_lt w_lit (w_len_list (w_arg rfl))))
  rw [List.length_map] at h5
  refine Nat.le_of_not_lt fun q=>?_
  have q':(n:Int)<((ns.length:Nat):Int):=by omega
  first
   | (rw [decide_eq_true q'] at h5;exact absurd h5 (by decide))
   | (simp at h5;omega)
 cases hwl with
 | cons w1 w2 =>
  cases w2
  cases w1 with
  | list ho hall=>exact ⟨_,_,ns,rfl,rfl,ho,ints_of_wellAll ns _ hall,hlen⟩
theorem post_true (l:OpenLaw) (args:List WData):l.row.toRowW.claim.post args (.bool true) args=true :=
 postW_of (r:=l.row.toRowW) (X:=(true==true))
  (show WShape.has [] (.bool true) .bool=true by first | rfl | decide | simp [WShape.has,WShape.arms,WShape.armsAll])
  (show (WTm.eq .res (.lit (.bool true))).value [] { args:=args,res:=some (.bool true),after:=args }=some (.bool (true==true)) from w_eq_bool (w_res rfl) w_lit) rfl
theorem attach_call {l:OpenLaw} {n:Nat} {q:Program} {loose:List Str} {XP:(Str→Option Value)→Heap→Prop} {YP:World→Heap→Prop} {d:DefRec}
  (hn:l.most=some n) (hdf:d.params.defaults=[])
  (call:∀ (w:World) (s₀ s₁:Shared) (mg mb:Str→Option Value) (fa:Addr) (o:Obj) (pm cd doc:Value) (a:Addr) (vs:List Value) (ns:List Int),
   Ground q loose [] XP w s₀ mg mb s₁.heap→YP w s₁.heap →
   s₁.heap.get? fa=some o→o.data=.func (docDef d.name d.params d.body d.scope pm cd doc)→s₁.heap.CodeRec cd d.name→mg d.name=some (.ref fa) →
   s₁.heap.get? a=some { cls:=.type "list",data:=.seq vs.toArray }→IntsAre vs ns→ns.length≤n→s₁.gens=#[] →
   codeAny (model l.prog w) callerA (.call (.ref fa) ⟨[.ref a],[]⟩) (fun r s'=>r=.ok (.ret (.bool true))∧OldK s₁.heap s'.heap∧s'.os=s₁.os∧AllBare s'.gens) s₁) :
  WalkO q loose XP YP l.row.toRowW d [] (fun f vs=>PySem.call f vs):=by
 intro w s₀ s₁ mg mb G Y fa o pm cd doc dV kV ho hd hcd hD hmg hg args vals as hpre hlay hrd hwl hlo
 obtain rfl:dV=.none:=Dflts.none hD hdf
 obtain rfl:kV=.none:=Dflts.noKw hD
 obtain ⟨a,vs,ns,rfl,rfl,hobj,hints,hlen⟩:=script_of hn hpre hwl
 refine enter_call (codeAny_mono (call w s₀ s₁ mg mb fa o pm cd doc a vs ns G Y ho (fd_plain hd) hcd hmg hobj hints hlen hg) fun r s' hq=>?_)
 obtain ⟨rfl,h2,h3,h4⟩:=hq
 exact ⟨.inl ⟨.bool true,.bool true,[],rfl,fun _=>rfl,.bool true,post_true l _,fun _=>⟨List.Pairwise.nil,fun _ hm=>(nomatch hm)⟩⟩,h2,h3,h4⟩
section
variable {prog:Program} {w:World} {A:Around} {E:Value→Shared→Prop} {s:Shared} {K:Frag}
end
end Att
namespace L2
open PySem PySem.Spec PyProof.Rows
theorem vals_ints:∀ {vs:List Value} {ns:List Int},IntsAre vs ns→Vals (ns.map V.int) vs
 | _,_,.nil=>.nil
 | _,_,.cons n t h=>.cons ⟨t,rfl⟩ (vals_ints h)
def Only (H:Hp):Prop:=∀ b,H b=none∨∃ o xs,H b=some (.frz o (.lst xs))
theorem law_call {P:Program} {w:World} {K:PySem.W.Frag} {mg mb:Str→Option Value} {CX:CXT} {k:Nat} {fa a:Addr} {fd:FuncData} {x:Str} {sp:Sp} {s₁:Shared} {vs:List Value} {ns:List Int}
  (KX:K.In s₁.heap) (hns:s₁.heap.Ns mainGlobals mg) (hb:s₁.heap.Ns builtinsNs mb) (hbb:∀ x:Str,x≠"__name__"→mb x=bootBuiltins x) (hlim:s₁.heap.NoLimit) (hg:s₁.gens=#[])
  (ha:s₁.heap.get? a=some { cls:=.type "list",data:=.seq vs.toArray }) (hi:IntsAre vs ns) (hl:ns.length≤sizeLine) (hr:Room k callerA)
  (F:∀ base:Heap,K.In base→base.Ns mainGlobals mg→FnOk P w K mg base CX k fa fd [x] sp) (hbind:∀ (s:Shared) (u:Value),BindsTo s fd ⟨[u],[]⟩ [(x,u)])
  (hsp:∀ H:Hp,Only H→SqL K H a (ns.map V.int)→sp [.ref a] H (fun v _=>v=.bl true) fun _ _ _=>False)
  (hCX:∀ H e s',CX [] H s₁ (fun _ _ _=>False) e s'→False) :
  codeAny (model P w) callerA (.call (.ref fa) ⟨[.ref a],[]⟩) (fun r s'=>r=.ok (.ret (.bool true))∧OldK s₁.heap s'.heap∧s'.os=s₁.os∧AllBare s'.gens) s₁:=by
 have rv:=vals_ints hi
 have lenV:=hi.length
 have core:∀ H:Hp,Only H→SqL K H a (ns.map V.int)→HOk P w H s₁.heap→(∀ b,H b≠none→b=a)→(H a≠none→K.lookup a=none) →
   codeAny (model P w) callerA (.call (.ref fa) ⟨[.ref a],[]⟩) (fun r s'=>r=.ok (.ret (.bool true))∧OldK s₁.heap s'.heap∧s'.os=s₁.os∧AllBare s'.gens) s₁:=by
  intro H hO hS hok hA hK
  have base_of:∀ {b:Addr} {o:Obj},s₁.heap.get? b=some o→H b=none→(hidT s₁.heap H).get? b=some o:=fun e n=>hidT_get e n
  have noA:∀ {b:Addr} {o:Obj} {es:Array DictEntry} {ep:Nat},s₁.heap.get? b=some o→o.data=.dict es ep→H b=none:=fun {b o es ep} e d=>by
   cases q:H b with
   | none=>rfl
   | some u =>
    have e':b=a:=hA b (by rw [q];simp)
    subst e'
    rw [ha] at e;cases e
    have d':Data.seq vs.toArray _=Data.dict es ep:=d
    cases d'
  have nsK:∀ {b:Addr} {m:Str→Option Value},s₁.heap.Ns b m→(hidT s₁.heap H).Ns b m:=fun {b m} ⟨o,es,ep,e,d,r⟩=>⟨o,es,ep,base_of e (noA e d),d,r⟩
  have hKb:K.In (hidT s₁.heap H):=fun b o e=>base_of (KX b o e) (by
   cases q:H b with
   | none=>rfl
   | some u =>
    have e':b=a:=hA b (by rw [q];simp)
    subst e'
    rw [hK (by rw [q];simp)] at e;cases e)
  have hM:Mod K mg (hidT s₁.heap H):=⟨hKb,nsK hns,⟨mb,nsK hb,hbb⟩,let ⟨mc,h1,h2⟩:=hlim;⟨mc,nsK h1,h2⟩⟩
  have e0:Env0 P w K mg (hidT s₁.heap H) callerA [] s₁ H:=⟨rfl,hM,fun b o e=>of_hidT e,Nat.le_of_eq (hidT_size _ _),trivial,fun b hb=>absurd (show b∈([]:List Addr) from hb) (by simp),hok,.of_eq hg⟩
  refine codeAny_mono ((F _ hKb (nsK hns)).run callerA [] s₁ H ⟨[.ref a],[]⟩ [.ref a] [.ref a] _ _ hr e0 (hbind s₁ (.ref a)) (.cons rfl .nil) (hsp H hO hS)) fun r s' h=>?_
  cases r with
  | error e=>exact (hCX H e s' h).elim
  | ok fl =>
   cases fl with
   | next=>exact False.elim h
   | brk=>exact False.elim h
   | cont=>exact False.elim h
   | ret u =>
    obtain ⟨v,H',os,bare,un,hok',r',q⟩:=h
    have q':v=.bl true:=q
    subst q'
    obtain rfl:u=Value.bool true:=r'
    refine ⟨rfl,OldK.of_keep fun b o e=>?_,os,bare⟩
    cases q:H b with
    | none=>exact un.keep b o e q (by intro z;exact absurd (show b∈([]:List Addr) from z) (by simp)) (by simp)
    | some u =>
     rcases hO b with z | ⟨ob,xs,z⟩
     ·rw [q] at z;cases z
     ·have z2:=un.frzs b ob _ z
      obtain ⟨e1,_⟩:=hok b _ z
      obtain ⟨e2,_⟩:=hok' b _ z2
      rw [e] at e1;cases e1
      exact e2
 cases hk:K.lookup a with
 | some o =>
  have e:=KX a o hk
  rw [ha] at e
  cases e
  refine core (fun _=>none) (fun _=>.inl rfl) (.inr ⟨_,vs.toArray,_,hk,rfl,rfl,rfl,by rw [List.size_toArray,lenV];exact hl,by simpa using rv⟩) (fun b u z=>by have z':(none:Option HO)=some u:=z;cases z') (fun b z=>absurd rfl z) fun z=>absurd rfl z
 | none =>
  refine core (fun b=>if b=a then some (.frz { cls:=.type "list",data:=.seq vs.toArray } (.lst (ns.map V.int))) else none) (fun b=>?_) (.inl (.inr ⟨{ cls:=.type "list",data:=.seq vs.toArray },if_pos rfl⟩)) (fun b u z=>?_) (fun b z=>?_) fun _=>hk
  ·by_cases hb:b=a
   ·exact .inr ⟨_,_,if_pos hb⟩
   ·exact .inl (if_neg hb)
  ·by_cases hb:b=a
   ·have z':=(if_pos hb).symm.trans z
    cases z'
    subst hb
    exact ⟨ha,by rw [List.length_map];exact hl,vs,_,rv,ha⟩
   ·have z':=(if_neg hb).symm.trans z
    cases z'
  ·by_cases hb:b=a
   ·exact hb
   ·exact absurd (if_neg hb) z
end L2
namespace L2
open PySem PySem.Spec PyProof.Rows
theorem walk_of {l:PySem.W.OpenLaw} {n k:Nat} {q:Program} {loose:List Str} {XP:(Str→Option Value)→Heap→Prop} {YP:World→Heap→Prop} {d:DefRec} {K:Params→PySem.W.Frag} {CX:World→CXT} {sp:World→Sp} {x:Str}
  (hn:l.most=some n) (hn2:n≤sizeLine) (hdf:d.params.defaults=[]) (hr:Room k callerA)
  (hY:∀ (w:World) (h:Heap),YP w h→(K w.params).In h)
  (F:∀ (w:World) (mg:Str→Option Value) (fa:Addr) (h:Heap),(K w.params).In h→h.Ns mainGlobals mg→mg d.name=some (.ref fa) →
   ∃ fd:FuncData,(∀ (s:Shared) (u:Value),BindsTo s fd ⟨[u],[]⟩ [(x,u)]) ∧
    ∀ base:Heap,(K w.params).In base→base.Ns mainGlobals mg→FnOk l.prog w (K w.params) mg base (CX w) k fa fd [x] (sp w))
  (hsp:∀ (w:World) (H:Hp) (a:Addr) (ns:List Int),ns.length≤n→Only H→SqL (K w.params) H a (ns.map V.int)→sp w [.ref a] H (fun v _=>v=.bl true) fun _ _ _=>False)
  (hCX:∀ (w:World) (H:Hp) (s:Shared) (e:Value) (s':Shared),CX w [] H s (fun _ _ _=>False) e s'→False) :
  PySem.W.WalkO q loose XP YP l.row.toRowW d [] (fun f vs=>PySem.call f vs):=by
 refine Att.attach_call hn hdf fun w s₀ s₁ mg mb fa o pm cd doc a vs ns G Y ho hd hcd hmg hobj hints hlen hg=>?_
 have KX:=hY w _ Y
 obtain ⟨fd,hb,hF⟩:=F w mg fa _ KX G.T.g hmg
 exact law_call KX G.T.g G.T.b G.T.builtins G.T.nolimit hg hobj hints (Nat.le_trans hlen hn2) hr hF hb (fun H hO hS=>hsp w H a ns hlen hO hS) fun H e s'=>hCX w H s₁ e s'
end L2
namespace L2
open PySem PySem.Spec PyProof.Rows
def inClass (s:Stmt) (j:Nat):Stmt:=match s with
 | .ClassDef _ _ _ body _ _ _ _ _ _ _=>body.getD j (.Pass ⟨0,0,0,0⟩)
 | _=>.Pass ⟨0,0,0,0⟩
def defArgs (s:Stmt):Arguments:=match s with
 | .FunctionDef _ a _ _ _ _ _ _ _ _=>a
 | _=>{ posonlyargs:=[],args:=[],vararg:=none,kwonlyargs:=[],kw_defaults:=[],kwarg:=none,defaults:=[] }
def defBody (s:Stmt):List Stmt:=match s with
 | .FunctionDef _ _ b _ _ _ _ _ _ _=>b
 | _=>[]
def defScope (s:Stmt):Scope:=match s with
 | .FunctionDef _ _ _ _ _ _ sc _ _ _=>sc
 | _=>{ kind:=.function,names:=[],isGenerator:=false,isCoroutine:=false }
abbrev CX0:CXT:=fun _ _ _ _ _ _=>False
abbrev E0:XK:=fun _ _ _=>False
theorem pass0 {X:Cx}:Passes CX0 X E0:=fun _ _ _ _ _ _ _ h=>h.elim
structure Fun (K:PySem.W.Frag) (x qual:Str) (st:Stmt) (f:Addr) (fd:FuncData):Prop where
 ex:∃ (oc:Value) (od:Option Addr) (kV doc pm:Value) (an:Option Addr) (cdv ct:Value) (osl:Array (Option Value)),
  fd=PySem.W.fnOf x qual (defArgs st) (defBody st) (defScope st) .none kV doc pm an cdv ct∧K.lookup f=some ⟨oc,od,.func fd,osl⟩∧PySem.W.codeIn K cdv qual=true
 kp:PySem.W.keepIn K (.ref f)=true
section
variable {P:Program} {w:World} {K:PySem.W.Frag} {mg:Str→Option Value} {base:Heap}
theorem Fun.ok {x qual:Str} {st:Stmt} {f:Addr} {fd:FuncData} {N ps:List Str} {k:Nat} {sp:Sp} (F:Fun K x qual st f fd) (S:FnScope N ps (defScope st)) (len:∀ vs H Q E,sp vs H Q E→vs.length=ps.length)
  (hbody:∀ (cdv:Value) (A:Around) (outer:List Env) (s:Shared) (H:Hp) (vs:List V) (Q:VK) (E:XK),Room k (A.deeper (envOfC qual (defScope st) s.heap.objs.size f cdv))→sp vs H Q E →
   ∃ t,PSs (cxOf CX0 P w K mg base N qual (defScope st) f cdv A outer s H E).nox (defBody st) t∧t { nx:=fun _ H'=>Q .non H',rt:=Q } (start N vs) H):FnOk P w K mg base CX0 (k+1) f fd ps sp:=by
 obtain ⟨oc,od,kV,doc,pm,an,cdv,ct,osl,rfl,lk,hcd⟩:=F.ex
 refine fn_of lk hcd S len fun A outer s H vs Q E hr hsp=>?_
 obtain ⟨t,h,q⟩:=hbody cdv A outer s H vs Q E hr hsp
 exact ⟨t,h.nox,q⟩
theorem Fun.binds {x qual:Str} {st:Stmt} {f:Addr} {fd:FuncData} {ps:List Str} (F:Fun K x qual st f fd)
  (h:∀ (kV doc pm:Value) (an:Option Addr) (cdv ct:Value) (us:List Value),us.length=ps.length→bindArgs (PySem.W.fnOf x qual (defArgs st) (defBody st) (defScope st) .none kV doc pm an cdv ct) ⟨us,[]⟩=pure (ps.zip us)):Binds K fd ps []:=by
 obtain ⟨oc,od,kV,doc,pm,an,cdv,ct,osl,rfl,lk,hcd⟩:=F.ex
 exact .all (h kV doc pm an cdv ct)
theorem fun_mk {x qual:Str} {st:Stmt} {f:Addr} {oc:Value} {od an:Option Addr} {osl:Array (Option Value)} {kV doc pm cdv ct:Value} (l:K.lookup f=some ⟨oc,od,.func (PySem.W.fnOf x qual (defArgs st) (defBody st) (defScope st) .none kV doc pm an cdv ct),osl⟩)
  (c:PySem.W.codeIn K cdv qual=true) (k:PySem.W.keepIn K (.ref f)=true):Fun K x qual st f (PySem.W.fnOf x qual (defArgs st) (defBody st) (defScope st) .none kV doc pm an cdv ct):=⟨⟨oc,od,kV,doc,pm,an,cdv,ct,osl,rfl,l,c⟩,k⟩
end
theorem hu_of {A:Around} {k:Nat} (hr:Room k A):A.units+1<cLine:=Nat.lt_of_le_of_lt (Nat.add_le_add_left (by decide:1≤64) _) hr.units
theorem small1000 {n:Nat} (h:n≤1000):n<sizeLine:=Nat.lt_of_le_of_lt h (by decide)
section
variable {X:Cx}
theorem pv (i:Nat) {x:Str} {pos:Pos} (hN:X.N[i]? = some x:=by rfl) (hv:Vis X.env.scope x:=by first | exact Or.inl rfl | exact Or.inr (Or.inl rfl) | exact Or.inr (Or.inr rfl)) (hd:(x==("__debug__" : Str))=false:=by decide)
  (hcd:(x==("__classdict__" : Str))=false:=by decide):PE X (.Name x pos) (tVar i):=pe_var hN hv hd hcd
end
theorem iteF {A B:Prop} (h:B):if false=true then A else B:=by
 rw [if_neg Bool.false_ne_true]
 exact h
theorem iteT {A B:Prop} (h:A):if true=true then A else B:=by
 rw [if_pos rfl]
 exact h
theorem ite2 {c A B:Prop} [Decidable c] (h1:c→A) (h2:¬ c→B):if c then A else B:=by
 by_cases h:c
 ·rw [if_pos h]
  exact h1 h
 ·rw [if_neg h]
  exact h2 h
def Same (H H':Hp):Prop:=∀ b o,H b=some o→H' b=some o
theorem Same.refl (H:Hp):Same H H:=fun _ _ h=>h
theorem Same.trans {H H1 H2:Hp} (a:Same H H1) (b:Same H1 H2):Same H H2:=fun c o h=>b c o (a c o h)
theorem Same.free {H H':Hp} (e:Same H H') {l:Addr} (h:H' l=Option.none):H l=Option.none:=by
 cases q:H l with
 | none=>rfl
 | some o =>
  rw [e l o q] at h
  cases h
theorem Same.seq {K:PySem.W.Frag} {H H':Hp} {a:Addr} {xs:List V} (e:Same H H') (h:SqL K H a xs):SqL K H' a xs:=by
 rcases h with (h | ⟨o,h⟩) | h
 ·exact .inl (.inl (e _ _ h))
 ·exact .inl (.inr ⟨o,e _ _ h⟩)
 ·exact .inr h
end L2
namespace L2
open PySem PySem.Spec PyProof.Rows
section
variable {X:Cx}
end
section
variable {κ:Type} [DecidableEq κ]
theorem valV_not {kvs:List (κ×V)} {k:κ} (h:valV kvs k=none):¬ k∈kvs.map (·.1):=by
 intro m
 obtain ⟨p,hp,e⟩:=List.mem_map.mp m
 have q:(kvs.any fun kv=>decide (kv.1=k))=true:=List.any_eq_true.mpr ⟨p,hp,decide_eq_true e⟩
 rw [valV_any,h] at q
 exact absurd q (by simp)
theorem valV_in {kvs:List (κ×V)} {k:κ} {v:V} (h:valV kvs k=some v):k∈kvs.map (·.1):=by
 have q:(kvs.any fun kv=>decide (kv.1=k))=true:=by
  rw [valV_any,h]
  all_goals rfl
 obtain ⟨p,hp,e⟩:=List.any_eq_true.mp q
 exact List.mem_map.mpr ⟨p,hp,of_decide_eq_true e⟩
end
end L2
namespace L2
open PySem PySem.Spec PyProof.Rows
abbrev excO (cls:Value) (t:Addr) (tb:Value):Obj:={ cls:=cls,data:=.fields #[.ref t,tb,.none,.none,.bool false,.none] }
structure Lies (h B:Heap) (e:Addr) (cls fl:Value):Prop where
 lie:∃ t T oT ts,h.get? e=some (excO cls t (.ref T))∧T≠e∧B.get? T=none∧h.get? T=some oT∧oT.data=.fields ts∧ts[3]? = some fl
 new:B.get? e=none
structure Gone (B:Heap) (l:List Env) (h h':Heap):Prop where
 stays:B.StaysIn h'
 fr:h'.FunFrames B l
 up:∀ b o,b∈frs l→h.get? b=some o→∃ sl,h'.get? b=some { o with slots:=sl }
 there:∀ b o,h.get? b=some o→∃ o',h'.get? b=some o'
theorem Gone.trans {B:Heap} {l:List Env} {h h1 h2:Heap} (a:Gone B l h h1) (b:Gone B l h1 h2):Gone B l h h2 :=
 ⟨b.stays,b.fr,fun c o hc e=>by
  obtain ⟨s1,e1⟩:=a.up c o hc e
  obtain ⟨s2,e2⟩:=b.up c _ hc e1
  exact ⟨s2,e2⟩,fun c o e=>by
  obtain ⟨o1,e1⟩:=a.there c o e
  exact b.there c o1 e1⟩
section
variable {M:Model} {A:Around} {E:Value→Shared→Prop} {s:Shared} {B:Heap} {env:Env} {outer:List Env} {L e:Addr} {cls:Value} {Q:Unit→Shared→Prop}
theorem fields_noFrame {l:List Env} {h:Heap} {o:Obj} {vs:Array Value} (hl:h.FunFrames B l) (he:h.get? e=some o) (hd:o.data=.fields vs):e∉frs l:=fun hm=>by
 obtain ⟨_,ob,hob,nf⟩:=hl.mem hm
 rw [he] at hob
 cases hob
 exact nf vs hd
theorem entry_new {t:Addr} {tb head:Value} {had:Bool} (hfr:A.frames=some (env::outer)) (hl:s.heap.FunFrames B (env::outer)) (hf:env.frame=some L) (st:B.StaysIn s.heap) (he:s.heap.get? e=some (excO cls t tb)) (hn:B.get? e=none)
  (k:∀ h',Gone B (env::outer) s.heap h'→Lies h' B e cls (rawInt L)→Q () { s with heap:=h' }) :
  wpAny M A (do let fo ← frameOf env;let pl ← entryPlaceOf L had;let ne ← EntryCells.newEntry head fo .none (rawInt L) .none pl;setField (.ref e) 1 ne) Q E s:=by
 have hne:=fields_noFrame hl he rfl
 refine wpAny_bind (wpAny_frameOf_fun hfr hl hf fun h1 so=>?_)
 refine wpAny_bind (wpAny_entryPlaceOf fun pl ip=>?_)
 unfold EntryCells.newEntry newFields
 refine wpAny_bind (wpAny_newObj_type ?_ (ip.sizeOk5 _ _ _ _ _))
 generalize hTO:({ cls:=.type "traceback",dict:=none,data:=.fields ([head,.ref L,.none,rawInt L,.none]++(if pl.isEmpty then List.replicate 6 Value.none else pl)).toArray }:Obj)=TO
 have e1:h1.get? e=some (excO cls t tb):=(so.2.1 e hne).trans he
 have e2:=Heap.get?_push_of_some (h:=h1) TO e1
 have nT:h1.objs.size≠e:=Nat.ne_of_gt (Heap.lt_size e1)
 refine wpAny_setField e2 rfl (show 1<6 by decide) (k _ ?_ ?_)
 ·have other:∀ b o,b≠e→h1.get? b=some o→((h1.push TO).update e (Obj.mapFields (·.setIfInBounds 1 (Value.ref h1.objs.size)))).get? b=some o:=fun b o hb q=>by
   rw [Heap.get?_update_other _ _ (Ne.symm hb)]
   exact Heap.get?_push_of_some _ q
  have nB:∀ b o,B.get? b=some o→b≠e:=fun b o q z=>by rw [z,hn] at q;cases q
  refine ⟨fun b o q=>other b o (nB b o q) ((so.2.1 b fun hm=>?_).trans (st b o q)),hl.of_keeps fun b o q nf=>?_,fun b o hb q=>?_,fun b o q=>?_⟩
  ·rw [(hl.mem hm).1] at q
   cases q
  ·obtain ⟨sl,z⟩:=so.2.2 b o q
   exact ⟨_,other b _ (fun z'=>by rw [z',he] at q;cases q;exact nf _ rfl) z,rfl⟩
  ·obtain ⟨sl,z⟩:=so.2.2 b o q
   exact ⟨sl,other b _ (fun z'=>hne (z'▸hb)) z⟩
  ·by_cases hb:b=e
   ·subst hb
    exact ⟨_,Heap.get?_update_self _ e2 rfl⟩
   ·obtain ⟨sl,z⟩:=so.2.2 b o q
    exact ⟨_,other b _ hb z⟩
 ·refine ⟨⟨t,h1.objs.size,TO,_,?_,nT,?_,?_,by rw [← hTO],?_⟩,hn⟩
  ·rw [Heap.get?_update_self _ e2 rfl]
   rfl
  ·cases q:B.get? h1.objs.size with
   | none=>rfl
   | some o =>
    have z:=so.2.2 _ o (st _ o q)
    obtain ⟨sl,z⟩:=z
    exact absurd (Heap.lt_size z) (Nat.lt_irrefl _)
  ·rw [Heap.get?_update_other _ _ (Ne.symm nT)]
   exact Heap.get?_push_size h1 (by rw [← hTO];rfl)
  ·simp
theorem note_first {t:Addr} (hfr:A.frames=some (env::outer)) (hl:s.heap.FunFrames B (env::outer)) (hf:env.frame=some L) (st:B.StaysIn s.heap) (he:s.heap.get? e=some (excO cls t .none)) (hn:B.get? e=none)
  (k:∀ h',Gone B (env::outer) s.heap h'→Lies h' B e cls (rawInt L)→Q () { s with heap:=h' }):wpAny M A (noteFrame (.ref e) env) Q E s:=by
 unfold noteFrame
 simp only [hf]
 refine wpAny_bind (wpAny_field he rfl (x:=.none) rfl ?_)
 rw [if_neg (show ¬ ((Value.none != Value.none)=true) by decide)]
 exact entry_new hfr hl hf st he hn k
theorem set3 {T:Addr} {oT:Obj} {ts:Array Value} {fl:Value} (hT:s.heap.get? T=some oT) (hd:oT.data=.fields ts) (h3:ts[3]? = some fl) (x:Value) (k:∀ h',Heap.SameBut T s.heap h'→(∃ oT' ts',h'.get? T=some oT'∧oT'.data=.fields ts'∧ts'[3]? = some x)→Q () { s with heap:=h' }) :
  wpAny M A (setField (.ref T) 3 x) Q E s:=by
 have l3:3<ts.size:=(Array.getElem?_eq_some_iff.mp h3).1
 have hd':=Obj.data_mapFields hd (·.setIfInBounds 3 x)
 refine wpAny_setField hT hd l3 (k _ (Heap.SameBut.update ..) ⟨_,_,Heap.get?_update_self _ hT (Obj.isFreed_of_fields hd'),hd',?_⟩)
 simp [l3]
theorem note_next (hfr:A.frames=some (env::outer)) (hl:s.heap.FunFrames B (env::outer)) (hf:env.frame=some L) (st:B.StaysIn s.heap) (ly:Lies s.heap B e cls .none)
  (k:∀ h',Gone B (env::outer) s.heap h'→Lies h' B e cls (rawInt L)→Q () { s with heap:=h' }):wpAny M A (noteFrame (.ref e) env) Q E s:=by
 obtain ⟨⟨t,T,oT,ts,he,nT,nB,hT,hd,h3⟩,hn⟩:=ly
 have nF:=fields_noFrame hl hT hd
 unfold noteFrame
 simp only [hf]
 refine wpAny_bind (wpAny_field he rfl (x:=.ref T) rfl ?_)
 rw [if_pos (show (Value.ref T != Value.none)=true by simp)]
 refine wpAny_bind (wpAny_field hT hd h3 ?_)
 rw [if_neg (show ¬ ((Value.none==rawInt L)=true) by simp [rawInt])]
 refine wpAny_bind (set3 hT hd h3 .none fun h1 sb _=>?_)
 have st1:B.StaysIn h1:=fun b o q=>(sb.2 b fun z=>by rw [z,nB] at q;cases q).trans (st b o q)
 have fr1:h1.FunFrames B (env::outer):=hl.of_keeps fun b o q nf=>⟨o,(sb.2 b fun z=>by rw [z,hT] at q;cases q;exact nf _ hd).trans q,rfl⟩
 refine entry_new (s:={ s with heap:=h1 }) hfr fr1 hf st1 ((sb.2 e (Ne.symm nT)).trans he) hn fun h2 g2 l2=>k h2 ⟨g2.stays,g2.fr,fun b o hb q=>?_,fun b o q=>?_⟩ l2
 ·exact g2.up b o hb ((sb.2 b fun z=>nF (z▸hb)).trans q)
 ·by_cases hb:b=T
  ·subst hb
   obtain ⟨oT',q'⟩:∃ o',h1.get? b=some o':=by
    have z:=sb.1
    cases w:h1.get? b with
    | some o'=>exact ⟨o',rfl⟩
    | none =>
     obtain ⟨_,_,hw,_⟩:=‹∃ oT' ts',h1.get? b=some oT'∧oT'.data=.fields ts'∧ts'[3]? = some Value.none›
     rw [w] at hw
     cases hw
   exact g2.there b _ q'
  ·exact g2.there b o ((sb.2 b hb).trans q)
theorem flight_off {l:List Env} {fl:Value} (hl:s.heap.FunFrames B l) (st:B.StaysIn s.heap) (ly:Lies s.heap B e cls fl)
  (k:∀ h',Gone B l s.heap h'→Lies h' B e cls .none→Q () { s with heap:=h' }):wpAny M A (setFlight (.ref e) none) Q E s:=by
 obtain ⟨⟨t,T,oT,ts,he,nT,nB,hT,hd,h3⟩,hn⟩:=ly
 have nF:=fields_noFrame hl hT hd
 unfold setFlight
 refine wpAny_bind (wpAny_field he rfl (x:=.ref T) rfl ?_)
 rw [if_pos (show (Value.ref T != Value.none)=true by simp)]
 refine set3 hT hd h3 .none fun h1 sb ht1=>?_
 obtain ⟨oT',ts',hT',hd',h3'⟩:=ht1
 refine k h1 ⟨fun b o q=>(sb.2 b fun z=>by rw [z,nB] at q;cases q).trans (st b o q),hl.of_keeps fun b o q nf=>⟨o,(sb.2 b fun z=>by rw [z,hT] at q;cases q;exact nf _ hd).trans q,rfl⟩,fun b o hb q=>⟨o.slots,(sb.2 b fun z=>nF (z▸hb)).trans q⟩,fun b o q=>?_⟩ ⟨⟨t,T,oT',ts',(sb.2 e (Ne.symm nT)).trans he,nT,nB,hT',hd',h3'⟩,hn⟩
 by_cases hb:b=T
 ·subst hb
  exact ⟨_,hT'⟩
 ·exact ⟨o,(sb.2 b hb).trans q⟩
theorem leave_first {h0:Heap} {vs:List Value} (hfr:A.frames=some (env::outer)) (hl:h0.FunFrames B (env::outer)) (hf:env.frame=some L) (st:B.StaysIn h0) (hx:Heap.MadeExcOf h0 s.heap e cls vs)
  (k:∀ h',Gone B (env::outer) h0 h'→Lies h' B e cls .none→Q () { s with heap:=h' }):wpAny M A (leaving env (.ref e)) Q E s:=by
 obtain ⟨t,he,_,_⟩:=hx.there
 have hn:B.get? e=none:=by
  cases q:B.get? e with
  | none=>rfl
  | some o =>
   have:=st e o q
   rw [hx.new] at this
   cases this
 have fr1:s.heap.FunFrames B (env::outer):=hl.of_keeps fun b o q _=>⟨o,hx.keeps b o q,rfl⟩
 unfold leaving
 refine wpAny_bind (note_first hfr fr1 hf (fun b o q=>hx.keeps b o (st b o q)) he hn fun h1 g1 l1=>?_)
 refine flight_off (s:={ s with heap:=h1 }) g1.fr g1.stays l1 fun h2 g2 l2=>?_
 have g:=g1.trans g2
 exact k h2 ⟨g.stays,g.fr,fun b o hb q=>g.up b o hb (hx.keeps b o q),fun b o q=>g.there b o (hx.keeps b o q)⟩ l2
end
structure Fly (P:Program) (w:World) (outer:List Env) (H:Hp) (s:Shared) (e:Addr) (cls:Value) (H':Hp) (B h':Heap):Prop where
 stays:B.StaysIn h'
 fr:h'.FunFrames B outer
 lies:Lies h' B e cls .none
 hok:HOk P w H' B
 out:H' e=none
 new:s.heap.get? e=none
 keep:∀ b o,s.heap.get? b=some o→H b=none→b∉frs outer→B.get? b=some o
 slot:∀ b o,s.heap.get? b=some o→b∈frs outer→∃ sl,h'.get? b=some { o with slots:=sl }
 free:∀ b o,s.heap.get? b=some o→H b=none→H' b=none
 there:∀ b o,s.heap.get? b=some o→∃ o',h'.get? b=some o'
 tups:∀ b xs,H b=some (.tup xs)→H' b=some (.tup xs)
 frzs:∀ b o u,H b=some (.frz o u)→H' b=some (.frz o u)
 tbls:∀ b ps,H b=some (.tbl ps)→∃ more,H' b=some (.tbl (ps++more))
def CXX (P:Program) (w:World):CXT:=fun outer H s E e s'=>∃ (a:Addr) (cls:Value) (H':Hp) (B:Heap),e=.ref a∧s'.os=s.os∧AllBare s'.gens∧Fly P w outer H s a cls H' B s'.heap∧E cls none H'
theorem passF {P:Program} {w:World} {X:Cx}:Passes (CXX P w) X E0:=fun _ _ _ _ _ _ _ ⟨_,_,_,_,_,_,_,_,f⟩=>f.elim
def Raises (X:Cx) (E:XK):Prop:=∀ (pins:List (Addr×Obj)) (σ:St) (H:Hp) (s:Shared) (h':Heap) (e:Addr) (cls:Value) (vs:List Value),Inv X pins σ H s→Heap.MadeExcOf s.heap h' e cls vs→E cls none H→X.xe (.ref e) { s with heap:=h' }
theorem ObjOk.there {P:Program} {w:World} {H:Hp} {h:Heap} {a:Addr} {o:HO} (x:ObjOk P w H h a o):∃ u,h.get? a=some u:=by
 cases o with
 | lst xs=>obtain ⟨_,_,_,_,e⟩:=x;exact ⟨_,e⟩
 | tup xs=>obtain ⟨_,_,_,o,e,_⟩:=x;exact ⟨_,e⟩
 | dK kvs=>obtain ⟨_,_,_,_,o,_,_,e,_⟩:=x;exact ⟨_,e⟩
 | dT kvs=>obtain ⟨_,_,_,_,o,_,_,e,_⟩:=x;exact ⟨_,e⟩
 | set S n=>obtain ⟨o,_,_,_,e,_⟩:=x;exact ⟨_,e⟩
 | ins C dx fs=>obtain ⟨_,_,_,e,_⟩:=x;exact ⟨_,e⟩
 | own y=>exact x
 | xd fs=>obtain ⟨_,⟨_,_,_,e,_⟩,_⟩:=x;exact ⟨_,e⟩
 | rng lo hi=>obtain ⟨_,_,_,e⟩:=x;exact ⟨_,e⟩
 | frz ob u=>obtain ⟨e,_⟩:=x;exact ⟨_,e⟩
 | tbl ps=>exact ⟨_,show h.get? a=some _ from x⟩
 | met f y=>exact ⟨_,show h.get? a=some _ from x⟩
 | ext φ=>obtain ⟨_,e,_⟩:=x;exact e
theorem HOk.none_of {P:Program} {w:World} {H:Hp} {h:Heap} {a:Addr} (ok:HOk P w H h) (e:h.get? a=none):H a=none:=by
 cases q:H a with
 | none=>rfl
 | some o =>
  obtain ⟨u,z⟩:=(ok a o q).there
  rw [e] at z
  cases z
section
variable {P:Program} {w:World} {K:PySem.W.Frag} {mg:Str→Option Value} {base:Heap} {N:List Str} {qual:Str} {scope:Scope} {f:Addr} {cd:Value} {A:Around} {outer:List Env} {s₀:Shared} {H₀:Hp} {E:XK}
theorem frs_cons {qual:Str} {scope:Scope} {n f:Addr} {cd:Value} {outer:List Env}:frs (envOfC qual scope n f cd::outer)=n::frs outer:=rfl
theorem raises_cx:Raises (cxOf (CXX P w) P w K mg base N qual scope f cd A outer s₀ H₀ E) E:=by
 intro pins σ H s h' e cls vs I hx hE
 generalize hX:cxOf (CXX P w) P w K mg base N qual scope f cd A outer s₀ H₀ E=X at I
 have eS:X.s₀=s₀:=by rw [← hX];rfl
 have eH:X.H₀=H₀:=by rw [← hX];rfl
 have eF:X.fs=frs outer:=by rw [← hX];rfl
 have eEx:X.ex=[]:=by rw [← hX];rfl
 have eSt:X.stack=envOfC qual scope s₀.heap.objs.size f cd::outer:=by rw [← hX];rfl
 have frames:(A.deeper (envOfC qual scope s₀.heap.objs.size f cd)).frames=some (envOfC qual scope s₀.heap.objs.size f cd::outer):=by have q:=I.ok.frames;rw [eSt] at q;rw [← hX] at q;exact q
 have stack:=I.stack
 have stkF:=I.stkFree
 rw [eSt] at stack stkF
 have hfr:=PySem.W.funFrames_hide (as:=frs (envOfC qual scope s₀.heap.objs.size f cd::outer)) stack fun env he b hb=>List.mem_filterMap.mpr ⟨env,he,hb⟩
 have st0:(PySem.W.hideAll s.heap (frs (envOfC qual scope s₀.heap.objs.size f cd::outer))).StaysIn s.heap:=fun b o q=>PySem.W.of_hideAll _ q
 have hU:=I.base
 rw [eS,eH,eF,eEx] at hU
 have ok1:=I.hok
 have eP:X.prog=P:=by rw [← hX];rfl
 have eW:X.w=w:=by rw [← hX];rfl
 rw [eP,eW] at ok1
 have osI:=I.os
 rw [eS] at osI
 have bareI:=I.bare
 rw [← hX]
 show wpAny (model P w) (A.deeper (envOfC qual scope s₀.heap.objs.size f cd)) (leaving (envOfC qual scope s₀.heap.objs.size f cd) (.ref e)) _ _ { s with heap:=h' }
 refine leave_first (s:={ s with heap:=h' }) frames hfr rfl st0 hx fun h2 g l=>?_
 have ltS:∀ b o,s₀.heap.get? b=some o→b≠s₀.heap.objs.size:=fun b o q=>Nat.ne_of_lt (Heap.lt_size q)
 obtain ⟨_,_,frTail⟩:=g.fr
 have newS:s₀.heap.get? e=none:=by
  cases q:s₀.heap.get? e with
  | none=>rfl
  | some o =>
   obtain ⟨o1,z⟩:=hU.there e o q (by simp)
   rw [hx.new] at z
   cases z
 refine ⟨e,cls,H,_,rfl,osI,bareI,⟨g.stays,frTail,l,fun a o q=>?_,ok1.none_of hx.new,newS,fun b o q n hb=>?_,fun b o q hb=>?_,fun b o q n=>hU.free b o q n (by simp),fun b o q=>?_,hU.tups,hU.frzs,hU.tbls⟩,hE⟩
 ·refine (ok1 a o q).stay (fun b u hb z=>PySem.W.hideAll_get _ z fun hm=>?_) (fun _ z=>z) fun _ _ z=>z
  have hn:=stkF b hm
  rcases hb with hb | hb
  ·subst hb
   rw [q] at hn
   cases hn
  ·rw [hb] at hn
   cases hn
 ·refine PySem.W.hideAll_get _ (hU.keep b o q n hb (by simp)) fun hm=>?_
  rw [frs_cons] at hm
  rcases List.mem_cons.mp hm with z | z
  ·exact ltS b o q z
  ·exact hb z
 ·have hn:H₀ b=none:=by have z:=I.ok.frf b (by rw [eF];exact hb);rw [eH] at z;exact z
  obtain ⟨sl,z⟩:=hU.slot b o q hn hb (by simp)
  obtain ⟨sl',z'⟩:=g.up b _ (by rw [frs_cons];exact List.mem_cons_of_mem _ hb) z
  exact ⟨sl',z'⟩
 ·obtain ⟨o1,z⟩:=hU.there b o q (by simp)
  exact g.there b o1 z
end
end L2
namespace L2
open PySem PySem.Spec PyProof.Rows
abbrev veMro:List Value:=[.type "ValueError",.type "Exception",.type "BaseException",.type "object"]
abbrev IsErr (K:PySem.W.Frag) (C:Addr):Prop:=PySem.W.excIn K C veMro "ValueError.__new__" = true
theorem IsErr.obj {K:PySem.W.Frag} {C:Addr} {h:Heap} (X:K.In h) (q:IsErr K C):∃ tl N nm qn bs hdct sn sub ab col dd k0 k1 k2 k3 k5 mN,h.get? C=some (excClassObj nm qn C N bs tl hdct sn sub ab col dd k0 k1 k2 k3 k5 "ValueError.__new__")∧h.Ns N mN∧mN "__init__" = none∧OwnTail h veMro tl:=by
 have q':PySem.W.excIn K C veMro "ValueError.__new__" = true:=q
 unfold PySem.W.excIn at q'
 split at q'
 next dd cd sl hK =>
  split at q'
  next C1 tl k0 k1 k2 k3 nid k5 hmro hsl =>
   simp only [Bool.and_eq_true,beq_iff_eq,Bool.not_eq_true'] at q'
   obtain ⟨⟨⟨⟨⟨q1,q2⟩,q3⟩,q4⟩,q5⟩,q6⟩:=q'
   subst q1 q2
   cases cd with
   | mk nm bs mro ns qn hd sn sub ab col del =>
    dsimp only at hmro q3 q5 q6
    subst hmro q3
    have hs:sl=#[k0,k1,k2,k3,some (.builtin "ValueError.__new__"),k5]:=by
     cases sl with
     | mk l=>exact congrArg Array.mk hsl
    subst hs
    exact ⟨tl,ns,nm,qn,bs,hd,sn,sub,ab,col,dd,k0,k1,k2,k3,k5,_,X _ _ hK,.of_isNs (PySem.W.isNs_of_in X q5),PySem.W.nsMap_none_of_in X q5 q6,PySem.W.tail_of_in X q4⟩
  next=>cases q'
 next=>cases q'
section
variable {X:Cx} {x:Str} {np cpos pos:Pos} {e₀:Expr} {rest:List Expr} {ta:TA} {C:Addr} {E:XK}
def tRaise (C:Addr) (E:XK) (ta:TA):TS:=fun _ σ H=>ta σ H fun vs H1=>vs.length≤sizeLine∧E (.ref C) none H1
theorem ps_raise (q:IsErr X.K C) (hm:X.mg x=some (.ref C)) (hg:Gl X x) (hr:Raises X E) (hc:X.calm=true) (ha:PA X (e₀::rest) ta)
  (he:starEach (e₀::rest) X.env=(false,eval e₀ X.env)::starEach rest X.env:=by rfl) (hpl:(backTo cpos (starEach rest X.env)).any (·.1)=false:=by rfl) (hd:(x==("__debug__" : Str))=false:=by decide) :
  PS X (.Raise (some (.Call (.Name x np) (e₀::rest) [] cpos)) none pos) (tRaise C E ta):=by
 intro pins s σ H D I h
 obtain ⟨tl,N,nm,qn,bs,hdct,sn,sub,ab,col,dd,k0,k1,k2,k3,k5,mN,hC,hN,hni,T⟩:=q.obj I.kIn
 obtain ⟨tl',N',nm',qn',bs',hdct',sn',sub',ab',col',dd',k0',k1',k2',k3',k5',mN',hC',hN',hni',T'⟩:=q.obj I.ok.mod.kin
 refine wpAny_Raise_call_subT (C:=C) (nm:=nm') (q:=qn') (N:=N') (bs:=bs') (bm:=tl') (hdct:=hdct') (sn:=sn') (sub:=sub') (ab:=ab') (col:=col') (dd:=dd') (k0:=k0') (k1:=k1') (k2:=k2') (k3:=k3') (k5:=k5')
  PySem.F.excBase_ValueError (mN:=mN') (T'.hasType PySem.F.excBase_ValueError.hasBase) (I.ok.hd hc) ?_ hni' (ld_glob I hg hm ⟨rfl,?_⟩ hd)
 ·rw [he]
  show (false||(backTo cpos (starEach rest X.env)).any (·.1))=false
  rw [hpl]
  rfl
 ·have ha':=ha cpos pins s σ H _ I h
  rw [he] at ha' ⊢
  refine Calls.evalArgs_plain (thn ha' fun us s1 ⟨vs,H1,I1,r,z,q1⟩=>⟨rfl,by rw [← r.length];exact z,I1.bk _ _ hC',hN'.keeps I1.bk,T'.keeps I1.bk,fun h' e hx=>?_⟩)
  exact hr pins σ H1 s1 h' e _ _ I1 hx q1
end
theorem Fun.okX {P:Program} {w:World} {K:PySem.W.Frag} {mg:Str→Option Value} {base:Heap} {x qual:Str} {st:Stmt} {f:Addr} {fd:FuncData} {N ps:List Str} {k:Nat} {sp:Sp} (F:Fun K x qual st f fd) (S:FnScope N ps (defScope st)) (len:∀ vs H Q E,sp vs H Q E→vs.length=ps.length)
  (body:∀ (cdv:Value) (A:Around) (outer:List Env) (s:Shared) (H:Hp) (vs:List V) (Q:VK) (E:XK),Room k (A.deeper (envOfC qual (defScope st) s.heap.objs.size f cdv))→sp vs H Q E →
   ∃ t,PSs (cxOf (CXX P w) P w K mg base N qual (defScope st) f cdv A outer s H E) (defBody st) t∧t { nx:=fun _ H'=>Q .non H',rt:=Q } (start N vs) H):FnOk P w K mg base (CXX P w) (k+1) f fd ps sp:=by
 obtain ⟨oc,od,kV,doc,pm,an,cdv,ct,osl,rfl,lk,hcd⟩:=F.ex
 exact fn_of lk hcd S len fun A outer s H vs Q E hr hsp=>body cdv A outer s H vs Q E hr hsp
abbrev ExcAt (a:Addr) (cls:Value):HO:=.ext fun h=>∃ t tb,h.get? a=some (excO cls t tb)
theorem excAt_ok {P:Program} {w:World} {H:Hp} {h:Heap} {a t:Addr} {cls tb:Value} (e:h.get? a=some (excO cls t tb)):ObjOk P w H h a (ExcAt a cls) :=
 ⟨⟨t,tb,e⟩,⟨_,e⟩,fun h1 h2 ⟨t1,tb1,e1⟩ k=>⟨t1,tb1,k _ e1⟩⟩
abbrev Cx.held (X:Cx) (a:Addr):Cx:={ X with A:=X.A.mark (some (.ref a)),calm:=false,xe:=fun _ _=>False }
abbrev Cx.tried (X:Cx) (pn:List (Addr×Obj)) (E:Value→Shared→Prop):Cx:={ X with pn:=pn,xe:=E }
section
variable {X:Cx} {pins:List (Addr×Obj)} {σ:St} {H:Hp} {s:Shared}
theorem Inv.tried (I:Inv X pins σ H s) (E:Value→Shared→Prop):Inv (X.tried (X.pn++pins) E) [] σ H s :=
 ⟨⟨I.ok.mod,I.ok.kind,I.ok.glob,I.ok.blt,I.ok.above,I.ok.inj,I.ok.has,I.ok.cab,I.ok.hd,I.ok.frames,I.ok.stk,I.ok.exf,I.ok.bs,I.ok.bsz,I.ok.noex,I.ok.exfs,I.ok.funs,I.ok.frf⟩,I.os,I.bare,I.base,I.loc,I.cell,I.free,I.freeC,fun p hp=>I.pin p (by simpa using hp),I.hok,I.len⟩
theorem Inv.untried {pl:List (Addr×Obj)} {E:Value→Shared→Prop} (I:Inv (X.tried (X.pn++pins) E) pl σ H s):Inv X pins σ H s :=
 ⟨⟨I.ok.mod,I.ok.kind,I.ok.glob,I.ok.blt,I.ok.above,I.ok.inj,I.ok.has,I.ok.cab,I.ok.hd,I.ok.frames,I.ok.stk,I.ok.exf,I.ok.bs,I.ok.bsz,I.ok.noex,I.ok.exfs,I.ok.funs,I.ok.frf⟩,I.os,I.bare,I.base,I.loc,I.cell,I.free,I.freeC,fun p hp=>I.pin p (List.mem_append_left _ hp),I.hok,I.len⟩
theorem Inv.toHeld (I:Inv X pins σ H s) (a:Addr):Inv (X.held a) pins σ H s :=
 ⟨⟨I.ok.mod,I.ok.kind,I.ok.glob,I.ok.blt,I.ok.above,I.ok.inj,I.ok.has,I.ok.cab,(fun z=>by cases z),I.ok.frames,I.ok.stk,I.ok.exf,I.ok.bs,I.ok.bsz,I.ok.noex,I.ok.exfs,I.ok.funs,I.ok.frf⟩,I.os,I.bare,I.base,I.loc,I.cell,I.free,I.freeC,I.pin,I.hok,I.len⟩
theorem Inv.unheld {a:Addr} (I:Inv (X.held a) pins σ H s) (hd:X.calm=true→X.A.handled=none):Inv X pins σ H s :=
 ⟨⟨I.ok.mod,I.ok.kind,I.ok.glob,I.ok.blt,I.ok.above,I.ok.inj,I.ok.has,I.ok.cab,hd,I.ok.frames,I.ok.stk,I.ok.exf,I.ok.bs,I.ok.bsz,I.ok.noex,I.ok.exfs,I.ok.funs,I.ok.frf⟩,I.os,I.bare,I.base,I.loc,I.cell,I.free,I.freeC,I.pin,I.hok,I.len⟩
def blank (n:Nat):St:=List.replicate n none
theorem Inv.blank (I:Inv X pins σ H s):Inv X pins (blank X.N.length) H s:=I.weak (by rw [I.len];simp [L2.blank]) fun i v e=>by
 unfold L2.blank at e
 rw [List.getElem?_replicate] at e
 split at e <;> cases e
theorem Inv.renamed {h':Heap} {m':Str→Option Value} {tk:Nat} (I:Inv X pins σ H s) (hn:h'.Ns X.env.locals m') (sb:Heap.SameBut X.env.locals s.heap h'):Inv X pins (L2.blank X.N.length) H { s with heap:=h',toks:=tk }:=by
 have ne:∀ b o,X.s₀.heap.get? b=some o→b≠X.env.locals:=fun b o e=>Nat.ne_of_lt (Nat.lt_of_lt_of_le (Heap.lt_size e) I.ok.above)
 obtain ⟨oL,_,_,hoL,_⟩:=id hn
 refine ⟨I.ok,I.os,I.bare,⟨fun b o e n hb hx=>(sb.2 b (ne b o e)).trans (I.base.keep b o e n hb hx),fun b o e n hb hx=>?_,I.base.free,fun b o e hx=>?_,I.base.tups,I.base.frzs,I.base.tbls⟩,⟨m',hn,fun i x v _ e2 _=>?_⟩,fun x c e=>?_,I.free,I.freeC,fun p hp=>?_,fun b o e=>?_,by simp [L2.blank]⟩
 ·obtain ⟨sl,z⟩:=I.base.slot b o e n hb hx
  exact ⟨sl,(sb.2 b (ne b o e)).trans z⟩
 ·obtain ⟨o',z⟩:=I.base.there b o e hx
  exact ⟨o',(sb.2 b (ne b o e)).trans z⟩
 ·unfold L2.blank at e2
  rw [List.getElem?_replicate] at e2
  split at e2 <;> cases e2
 ·obtain ⟨v,z⟩:=I.cell x c e
  exact ⟨v,z.sameBut sb (I.cne x c e)⟩
 ·obtain ⟨q1,q2,q3,q4,q5⟩:=I.pin p hp
  exact ⟨(sb.2 p.1 q3).trans q1,q2,q3,q4,q5⟩
 ·refine (I.hok b o e).stay (fun c u hc q=>(sb.2 c ?_).trans q) (fun _ q=>q) fun _ _ q=>q
  rintro rfl
  have:=I.free
  rcases hc with rfl | hc
  ·rw [this] at e;cases e
  ·rw [this] at hc;cases hc
end
theorem Inv.track' {X:Cx} {pins:List (Addr×Obj)} {σ:St} {H:Hp} {s:Shared} {D:Addr} {o:HO} (I:Inv X pins σ H s) (hn:H D=none) (hL:D≠X.env.locals) (h0:X.s₀.heap.get? D=none) (hcell:∀ x c,X.env.cells.lookup x=some c→c≠D) (hpin:∀ p∈X.pn++pins,p.1≠D)
  (new:ObjOk X.prog X.w (upd H D o) s.heap D o):Inv X pins σ (upd H D o) s:=by
 have old:∀ b u,H b=some u→upd H D o b=some u:=fun b u e=>by rw [upd_ne (ne_of_none e hn)];exact e
 refine ⟨I.ok,I.os,I.bare,⟨I.base.keep,I.base.slot,fun b ob e n hx=>?_,I.base.there,fun b xs e=>old _ _ (I.base.tups b xs e),fun b ob u e=>old _ _ (I.base.frzs b ob u e),fun b ps e=>?_⟩,I.loc,I.cell,?_,fun x c e=>?_,fun p hp=>?_,fun b u e=>?_,I.len⟩
 ·rw [upd_ne (fun z=>by rw [z,h0] at e;cases e)]
  exact I.base.free b ob e n hx
 ·obtain ⟨more,q⟩:=I.base.tbls b ps e
  exact ⟨more,old _ _ q⟩
 ·rw [upd_ne (Ne.symm hL)]
  exact I.free
 ·rw [upd_ne (hcell x c e)]
  exact I.freeC x c e
 ·obtain ⟨q1,q2,q3,q4,q5⟩:=I.pin p hp
  exact ⟨q1,by rw [upd_ne (hpin p hp)];exact q2,q3,q4,q5⟩
 ·by_cases hb:b=D
  ·subst hb
   rw [upd_same] at e
   cases e
   exact new
  ·rw [upd_ne hb] at e
   exact (I.hok b u e).stay (fun _ _ _ q=>q) (fun c r=>by rw [upd_ne (ne_of_none r hn)];exact r) fun c xs r=>by rw [upd_ne (ne_of_none r hn)];exact r
theorem noX {α:Type} {M:Model} {A:Around} {t:Sem α} {Q:α→Shared→Prop} {E:Value→Shared→Prop} {s:Shared} (h:wpAny M A t Q (fun _ _=>False) s):wpAny M A t Q E s:=wpAny_mono h (fun _ _ q=>q) fun _ _ f=>f.elim
def tTry (C:Value) (K:PySem.W.Frag) (i:Nat) (len:Nat) (tb:XK→TS) (ts:Addr→TS):TS:=fun D σ H=>∃ E:XK,tb E D σ H ∧
 ∀ (a:Addr) (cls:Value) (H':Hp),E cls none H'→H' a=none→PySem.W.exmOne K cls C=some true ∧
  ts a { nx:=fun _ H1=>D.nx (blank len) H1,rt:=D.rt,bk:=fun _ H1=>D.bk (blank len) H1,ct:=fun _ H1=>D.ct (blank len) H1 } ((blank len).set i (some (.ref a))) (upd H' a (ExcAt a cls))
theorem ps_try {X:Cx} {P:Program} {w:World} {body suite:List Stmt} {b₀:Stmt} {x n:Str} {np hpos pos:Pos} {C:Addr} {i:Nat} {tb:XK→TS} {ts:Addr→TS} (hP:X.prog=P) (hw:X.w=w)
  (hst:X.stack=X.env::X.outer) (hex:X.ex=[]) (hfm:X.env.frame=some X.env.locals) (hc:X.calm=true) (hN:X.N.Nodup) (hi:X.N[i]? = some n) (hn:X.env.scope.names.lookup n=some .local) (hg:Gl X x) (hm:X.mg x=some (.ref C))
  (hb:∀ (E:XK) (pn:List (Addr×Obj)) (xe:Value→Shared→Prop),Passes (CXX P w) (X.tried pn xe) E→PSs (X.tried pn xe) body (tb E))
  (hs:∀ a,PSs (X.held a) (b₀::suite) (ts a)) (hd:(x==("__debug__" : Str))=false:=by decide) :
  PS X (.Try body [.ExceptHandler (some (.Name x np)) (some n) (b₀::suite) hpos] [] [] pos) (tTry (.ref C) X.K i X.N.length tb ts):=by
 subst hP hw
 intro pins s σ H D I h
 obtain ⟨E,hB,hH⟩:=h
 have hcls:(X.env.scope.kind==.class||(X.env.scope.kind==.module&&X.env.locals != X.env.globals))=false:=by rw [I.ok.kind];rfl
 let xe:Value→Shared→Prop:=fun e s'=>∃ (pl:List (Addr×Obj)) (σ1:St) (H1:Hp) (s1:Shared),Inv X pins σ1 H1 s1∧CXX X.prog X.w X.stack H1 s1 E e s'
 have pass:Passes (CXX X.prog X.w) (X.tried (X.pn++pins) xe) E:=fun pl σ1 H1 s1 e s' I1 q=>⟨pl,σ1,H1,s1,I1.untried,q⟩
 have body':=hb E (X.pn++pins) xe pass [] s σ H D (I.tried xe) hB
 have noF:PassesOwn (model X.prog X.w) X.A X.env (fun _ _=>False):=PassesOwn.never
 refine wpAny_Try_except (wpAny_mono body' (fun f s1 q=>?_) fun e s1 q=>?_)
 ·cases f with
  | next =>
   obtain ⟨σ1,H1,I1,q⟩:=q
   exact wpAny_execs_nil ⟨σ1,H1,I1.untried,q⟩
  | brk =>
   obtain ⟨σ1,H1,I1,q⟩:=q
   exact ⟨σ1,H1,I1.untried,q⟩
  | cont =>
   obtain ⟨σ1,H1,I1,q⟩:=q
   exact ⟨σ1,H1,I1.untried,q⟩
  | ret u =>
   obtain ⟨v,σ1,H1,I1,r,q⟩:=q
   exact ⟨v,σ1,H1,I1.untried,r,q⟩
 ·obtain ⟨pl,σ1,H1,s0,I0,a,cls,H',B,rfl,os',bare',fl,hE⟩:=q
  rw [hst] at fl
  have frames:X.A.frames=some (X.env::X.outer):=by have q:=I.ok.frames;rw [hst] at q;exact q
  obtain ⟨hx1,hx2⟩:=hH a cls H' hE fl.out
  have inv:∀ h2,Gone B (X.env::X.outer) s1.heap h2→Inv X pins (blank X.N.length) H' { s1 with heap:=h2 }:=fun h2 g=>by
   have u:Un (frs X.stack) [] H1 H' s0.heap h2:=by
    rw [hst]
    refine ⟨fun b o q n hb _=>g.stays b o (fl.keep b o q n hb),fun b o q n hb _=>?_,fun b o q n _=>fl.free b o q n,fun b o q _=>?_,fl.tups,fl.frzs,fl.tbls⟩
    ·obtain ⟨sl,z⟩:=fl.slot b o q hb
     obtain ⟨sl',z'⟩:=g.up b _ hb z
     exact ⟨sl',z'⟩
    ·obtain ⟨o1,z⟩:=fl.there b o q
     exact g.there b o1 z
   exact (I0.call' (s':={ s1 with heap:=h2 }) (ch:=[]) os' u (fl.hok.kept g.stays) bare' (fun b z=>nomatch z)).blank
  refine note_next frames fl.fr hfm fl.stays fl.lies fun h2 g2 l2=>?_
  refine flight_off (s:={ s1 with heap:=h2 }) g2.fr g2.stays l2 fun h3 g3 l3=>?_
  have g:=g2.trans g3
  have I3:=inv h3 g
  refine wpAny_handleBy_cons (codeAny_handlers_test ?_) (by intro q;cases q)
  obtain ⟨⟨t,T,oT,ts',he,nT,nB,hT,hdT,h3T⟩,hnB⟩:=id l3
  have LT:PySem.W.Looks (model X.prog X.w) h3 (typeOf (.ref a)) cls:=(PySem.W.Looks.ld (part:=some headPart) he).andThen .now
  refine ld_glob (X:=X.held a) (I3.toHeld a) hg hm ?_ hd
  refine (PySem.W.exm_one (M:=model X.prog X.w) (show X.K.In h3 from I3.kIn) LT hx1).here ?_
  show codeAny (model X.prog X.w) (X.A.mark (some (.ref a))) (.handlers (.ref a) [.ExceptHandler none (some n) (b₀::suite) hpos] X.env) _ _
  refine codeAny_handlers_suite_as ?_
  refine flight_off (s:={ s1 with heap:=h3 }) g.fr g.stays l3 fun h4 g4 l4=>?_
  have gg:=g.trans g4
  have I4:=inv h4 gg
  obtain ⟨⟨t4,T4,_,_,he4,_⟩,_⟩:=id l4
  have ne0:∀ b o,s0.heap.get? b=some o→b≠a:=fun b o q z=>by rw [z,fl.new] at q;cases q
  have I5:Inv X pins (blank X.N.length) (upd H' a (ExcAt a cls)) { s1 with heap:=h4 }:=by
   obtain ⟨m,⟨oL,_,_,hoL,_⟩,_⟩:=I0.loc
   refine I4.track' fl.out (Ne.symm (ne0 _ _ hoL)) ?_ (fun y c e=>?_) (fun p hp=>ne0 _ _ (I0.pin p hp).1) (excAt_ok he4)
   ·cases q:X.s₀.heap.get? a with
    | none=>rfl
    | some o =>
     obtain ⟨o1,z⟩:=I0.base.there a o q (by rw [hex];simp)
     rw [fl.new] at z
     cases z
   ·obtain ⟨v,o,ho,_⟩:=I0.cell y c e
    exact ne0 _ _ ho
  refine store_ok I5 hN hi (.inl hn) (show RelV (.ref a) (.ref a) from rfl) (fun s6 I6=>?_) (.inr hn)
  have suite':=hs a pins s6 _ _ _ (I6.toHeld a) hx2
  refine noX (thn suite' fun f s7 q7=>?_)
  show wpAny (model X.prog X.w) X.A (do bindName X.env n .none;unbindBehindTheSuite X.env n hpos) (fun _ s₃=>SP X pins D f s₃) X.xe s7
  have back:∀ {σ7:St} {H7:Hp},Inv (X.held a) pins σ7 H7 s7→(∀ h' tk,Inv X pins (blank X.N.length) H7 { s7 with heap:=h',toks:=tk }→SP X pins D f { s7 with heap:=h',toks:=tk }) →
    wpAny (model X.prog X.w) X.A (do bindName X.env n .none;unbindBehindTheSuite X.env n hpos) (fun _ s₃=>SP X pins D f s₃) X.xe s7:=fun {σ7 H7} I7 k=>by
   obtain ⟨m7,hm7,_⟩:=I7.loc
   exact wpAny_nameGoes hn hm7 hcls fun h' m' hn' sb=>k h' _ ((I7.unheld I.ok.hd).renamed hn' sb)
  cases f with
  | next =>
   obtain ⟨σ7,H7,I7,q⟩:=q7
   exact back I7 fun h' tk J=>⟨_,H7,J,q⟩
  | brk =>
   obtain ⟨σ7,H7,I7,q⟩:=q7
   exact back I7 fun h' tk J=>⟨_,H7,J,q⟩
  | cont =>
   obtain ⟨σ7,H7,I7,q⟩:=q7
   exact back I7 fun h' tk J=>⟨_,H7,J,q⟩
  | ret u =>
   obtain ⟨v,σ7,H7,I7,r,q⟩:=q7
   exact back I7 fun h' tk J=>⟨v,_,H7,J,r,q⟩
end L2
namespace L2
open PySem PySem.Spec PyProof.Rows
theorem neL {a b:Nat} (h:a<b):a≠b:=Nat.ne_of_lt h
theorem neG {a b:Nat} (h:b<a):a≠b:=Nat.ne_of_gt h
theorem get_lt {h:Heap} {b:Nat} {o:Obj} (e:h.get? b=some o):b<Array.size h.objs:=Heap.lt_size e
def closOf (cells:List (Str×Addr)):List (Str×NameKind)→List (Str×Addr)→List (Str×Addr)
 | [],acc=>acc
 | (n,k)::r,acc=>closOf cells r (if k==.free then (match cells.lookup n with | some a=>(n,a)::acc | none=>acc) else acc)
theorem closureFor_go {env:Env}:∀ (names:List (Str×NameKind)) (acc:List (Str×Addr)),(∀ y∈names,y.2=.free→∃ a,env.cells.lookup y.1=some a) →
  (forIn names acc (fun (x:Str×NameKind) (cs:List (Str×Addr))=>if (x.2==NameKind.free)=true then (do let a ← cellOf env x.1;pure (ForInStep.yield ((x.1,a)::cs))) else (pure (ForInStep.yield cs):Sem _)))=(pure (closOf env.cells names acc):Sem _)
 | [],acc,_=>rfl
 | (n,k)::r,acc,h=>by
  have ih:=fun acc'=>closureFor_go r acc' fun y hy=>h y (List.mem_cons_of_mem _ hy)
  rw [List.forIn_cons]
  by_cases hk:k=.free
  ·subst hk
   obtain ⟨a,ha⟩:=h (n,.free) List.mem_cons_self rfl
   have e1:cellOf env n=pure a:=by unfold cellOf;rw [ha]
   have e2:closOf env.cells ((n,NameKind.free)::r) acc=closOf env.cells r ((n,a)::acc):=by
    show closOf env.cells r (if (NameKind.free==NameKind.free)=true then (match env.cells.lookup n with | some a=>(n,a)::acc | none=>acc) else acc)=_
    rw [if_pos (show (NameKind.free==NameKind.free)=true by decide),show env.cells.lookup n=some a from ha]
   rw [e2,← ih]
   show ((do let a ← cellOf env n;pure (ForInStep.yield ((n,a)::acc)):Sem _) >>= _)=_
   rw [e1]
   rfl
  ·have hb:(k==NameKind.free)=false:=by simpa using hk
   have e2:closOf env.cells ((n,k)::r) acc=closOf env.cells r acc:=by
    show closOf env.cells r (if (k==NameKind.free)=true then _ else acc)=_
    rw [hb];rfl
   rw [e2,← ih]
   show ((if (k==NameKind.free)=true then (do let a ← cellOf env n;pure (ForInStep.yield ((n,a)::acc))) else (pure (ForInStep.yield acc):Sem _)) >>= _)=_
   rw [hb]
   rfl
theorem closureFor_of {scope:Scope} {env:Env} (h:∀ y∈scope.names,y.2=.free→∃ a,env.cells.lookup y.1=some a):closureFor scope env=pure (closOf env.cells scope.names []):=by
 have e:=closureFor_go scope.names [] h
 unfold closureFor
 show (forIn scope.names [] _ >>= fun cs=>pure cs)=_
 have e':(forIn scope.names ([]:List (Str×Addr)) (fun (x:Str×NameKind) (cs:List (Str×Addr))=>match x with | (name,kind)=>if (kind==NameKind.free)=true then (do let a ← cellOf env name;pure (ForInStep.yield ((name,a)::cs))) else (pure (ForInStep.yield cs):Sem _)))=(pure (closOf env.cells scope.names []):Sem _):=e
 first
  | (rw [e'];rfl)
  | (simp only [e'];rfl)
  | (erw [e'];rfl)
theorem closOf_sub {cells:List (Str×Addr)}:∀ (names:List (Str×NameKind)) (acc:List (Str×Addr)),(∀ x c,acc.lookup x=some c→cells.lookup x=some c)→∀ x c,(closOf cells names acc).lookup x=some c→cells.lookup x=some c
 | [],acc,h,x,c,e=>h x c e
 | (n,k)::r,acc,h,x,c,e=>by
  refine closOf_sub r _ ?_ x c e
  intro y d q
  by_cases hk:(k==NameKind.free)=true
  ·rw [if_pos hk] at q
   cases ha:cells.lookup n with
   | none=>rw [ha] at q;exact h y d q
   | some a =>
    rw [ha] at q
    by_cases hy:y=n
    ·subst hy
     have q':List.lookup y ((y,a)::acc)=some d:=q
     rw [List.lookup_cons,beq_self_eq_true] at q'
     cases q'
     exact ha
    ·have q':List.lookup y ((n,a)::acc)=some d:=q
     rw [List.lookup_cons,show (y==n)=false from by simpa using hy] at q'
     exact h y d q'
  ·rw [if_neg hk] at q
   exact h y d q
theorem closOf_acc {cells:List (Str×Addr)}:∀ (names:List (Str×NameKind)) (acc:List (Str×Addr)) (x:Str),(∃ c,acc.lookup x=some c)→∃ c,(closOf cells names acc).lookup x=some c
 | [],_,_,h=>h
 | (n,k)::r,acc,x,⟨c,h⟩=>by
  refine closOf_acc r _ x ?_
  by_cases hk:(k==NameKind.free)=true
  ·rw [if_pos hk]
   cases ha:cells.lookup n with
   | none=>exact ⟨c,h⟩
   | some a =>
    show ∃ c,List.lookup x ((n,a)::acc)=some c
    rw [List.lookup_cons]
    cases x==n with
    | true=>exact ⟨a,rfl⟩
    | false=>exact ⟨c,h⟩
  ·rw [if_neg hk]
   exact ⟨c,h⟩
theorem closOf_has {cells:List (Str×Addr)}:∀ (names:List (Str×NameKind)) (acc:List (Str×Addr)) (x:Str) (c:Addr),(x,NameKind.free)∈names→cells.lookup x=some c→(closOf cells names acc).lookup x=some c∨∃ d,(closOf cells names acc).lookup x=some d
 | [],_,_,_,h,_=>nomatch h
 | (n,k)::r,acc,x,c,h,e=>by
  rcases List.mem_cons.mp h with z | z
  ·cases z
   refine .inr (closOf_acc r _ _ ?_)
   rw [if_pos (show (NameKind.free==NameKind.free)=true by decide),e]
   exact ⟨c,by show List.lookup n ((n,c)::acc)=_;rw [List.lookup_cons,beq_self_eq_true]⟩
  ·exact closOf_has r _ x c z e
theorem closOf_at {cells:List (Str×Addr)} {names:List (Str×NameKind)} {x:Str} {c:Addr} (h:(x,NameKind.free)∈names) (e:cells.lookup x=some c):(closOf cells names []).lookup x=some c:=by
 rcases closOf_has names [] x c h e with z | ⟨d,z⟩
 ·exact z
 ·have q:=closOf_sub names [] (fun y d q=>by cases q) x d z
  rw [e] at q
  cases q
  exact z
def compOk (fs scope:Scope) (N own:List Str) (cap:List Nat):Bool :=
 (scope.kind==.function)&&scope.names.all (fun y=>y.2 != .cell)&&scope.names.all (fun y=>y.2 != .local||scope.names.lookup y.1==some .local) &&
  scope.names.all (fun y=>y.2 != .free||(fs.names.lookup y.1==some .cell||fs.names.lookup y.1==some .free)) &&
  decide ((own++cap.map fun i=>N.getD i "").Nodup)&&cap.all (fun i=>decide (i<N.length)&&(scope.names.lookup (N.getD i "")==some .free)&&(fs.names.lookup (N.getD i "")==some .cell||fs.names.lookup (N.getD i "")==some .free))
abbrev compN (N own:List Str) (cap:List Nat):List Str:=own++cap.map fun i=>N.getD i ""
def capσ (own:List Str) (cap:List Nat) (σ:St):St:=(own.map fun _=>none)++cap.map fun i=>(σ[i]?).join
def cxComp (X:Cx) (scope:Scope) (N':List Str) (C:Addr) (s₀:Shared) (H₀:Hp) (ex:List Addr):Cx where
 prog:=X.prog
 w:=X.w
 K:=X.K
 mg:=X.mg
 base:=X.base
 A:=X.A
 N:=N'
 s₀:=s₀
 H₀:=H₀
 env:=compEnvC scope (closOf X.env.cells scope.names []) C X.env
 outer:=X.stack
 stack:=X.stack
 ex:=ex
 fn:=fun _=>false
 calm:=X.calm
 pn:=[]
 xe:=fun _ _=>False
theorem relabel_has {scope:Scope} {env:Env} {x:Str} (hc:∀ y∈scope.names,y.2≠.cell) (h:(relabel scope env).names.lookup x=some .cell∨(relabel scope env).names.lookup x=some .free):(x,NameKind.free)∈scope.names:=by
 have mem:∀ k,(relabel scope env).names.lookup x=some k→(k=.cell∨k=.free)→(x,NameKind.free)∈scope.names:=fun k e hk=>by
  obtain ⟨⟨n,k0⟩,hm,q⟩:=List.mem_map.mp (PySem.mem_of_lookup e)
  by_cases c:(k0==NameKind.free&&env.scope.kind==.function&&env.kindOf n==some .cell)=true
  ·have q':(if (k0==NameKind.free&&env.scope.kind==.function&&env.kindOf n==some .cell)=true then (n,NameKind.cell) else (n,k0))=(x,k):=q
   rw [if_pos c] at q'
   cases q'
   have:k0=.free:=by
    have c1:=(Bool.and_eq_true _ _▸c).1
    have c2:=(Bool.and_eq_true _ _▸c1).1
    simpa using c2
   subst this
   exact hm
  ·have q':(if (k0==NameKind.free&&env.scope.kind==.function&&env.kindOf n==some .cell)=true then (n,NameKind.cell) else (n,k0))=(x,k):=q
   rw [if_neg c] at q'
   cases q'
   rcases hk with z | z
   ·exact absurd z (hc _ hm)
   ·subst z;exact hm
 rcases h with h | h
 ·exact mem _ h (.inl rfl)
 ·exact mem _ h (.inr rfl)
theorem relabel_free {scope:Scope} {env:Env} {x:Str} (hnd:scope.names.lookup x=some .free):(relabel scope env).names.lookup x=some .cell∨(relabel scope env).names.lookup x=some .free:=by
 have:∀ names:List (Str×NameKind),names.lookup x=some .free →
   (names.map fun (n,k)=>if (k==NameKind.free&&env.scope.kind==.function&&env.kindOf n==some .cell)=true then (n,NameKind.cell) else (n,k)).lookup x=some .cell ∨
   (names.map fun (n,k)=>if (k==NameKind.free&&env.scope.kind==.function&&env.kindOf n==some .cell)=true then (n,NameKind.cell) else (n,k)).lookup x=some .free:=by
  intro names
  induction names with
  | nil=>intro h;cases h
  | cons y r ih =>
   obtain ⟨n,k⟩:=y
   intro h
   show List.lookup x ((if (k==NameKind.free&&env.scope.kind==.function&&env.kindOf n==some .cell)=true then (n,NameKind.cell) else (n,k))::_)=_∨List.lookup x ((if (k==NameKind.free&&env.scope.kind==.function&&env.kindOf n==some .cell)=true then (n,NameKind.cell) else (n,k))::_)=_
   cases hx:x==n with
   | true =>
    simp only [List.lookup_cons,hx] at h
    cases h
    by_cases hc:(NameKind.free==NameKind.free&&env.scope.kind==.function&&env.kindOf n==some .cell)=true
    ·rw [if_pos hc,List.lookup_cons,hx];exact .inl rfl
    ·rw [if_neg hc,List.lookup_cons,hx];exact .inr rfl
   | false =>
    simp only [List.lookup_cons,hx] at h
    by_cases hc:(k==NameKind.free&&env.scope.kind==.function&&env.kindOf n==some .cell)=true
    ·rw [if_pos hc];simp only [List.lookup_cons,hx];exact ih h
    ·rw [if_neg hc];simp only [List.lookup_cons,hx];exact ih h
 exact this scope.names hnd
def GK (n:Nat) (g:TG):Prop:=∀ v σ H (Q Q':St→Hp→Prop),g v σ H Q→(∀ σ' H',Q σ' H'→σ'.length=σ.length→(∀ j,n≤j→σ'[j]? = σ[j]?)→Q' σ' H')→g v σ H Q'
def GKs (n:Nat) (g:TGs):Prop:=∀ vs σ H (Q Q':St→Hp→Prop),g vs σ H Q→(∀ σ' H',Q σ' H'→σ'.length=σ.length→(∀ j,n≤j→σ'[j]? = σ[j]?)→Q' σ' H')→g vs σ H Q'
theorem gk_name {n i:Nat} (h:i<n:=by decide):GK n (gName i):=fun v σ H Q Q' q k=>k _ _ q List.length_set fun j hj=>List.getElem?_set_ne (by omega)
theorem gks_nil {n:Nat}:GKs n gNil:=fun vs σ H Q Q' ⟨e,q⟩ k=>⟨e,k _ _ q rfl fun _ _=>rfl⟩
theorem gks_cons {n:Nat} {t:TG} {u:TGs} (h1:GK n t) (h2:GKs n u):GKs n (gCons t u):=fun vs σ H Q Q' ⟨v,r,e,q⟩ k =>
 ⟨v,r,e,h1 v σ H _ _ q fun σ1 H1 q1 l1 k1=>h2 r σ1 H1 _ _ q1 fun σ2 H2 q2 l2 k2=>k σ2 H2 q2 (l2.trans l1) fun j hj=>(k2 j hj).trans (k1 j hj)⟩
theorem gk_tup {n m:Nat} {K:PySem.W.Frag} {t:TGs} (h:GKs n t):GK n (gTup K m t):=fun v σ H Q Q' ⟨a,xs,e,sq,l,q⟩ k=>⟨a,xs,e,sq,l,h xs σ H Q Q' q k⟩
def PF (Y:Cx) (ifs:List Expr) (tf:TT):Prop :=
 ∀ (pins:List (Addr×Obj)) (s:Shared) (σ:St) (H:Hp) (Q:Bool→Hp→Prop),Inv Y pins σ H s→tf σ H Q →
  wpAny (model Y.prog Y.w) Y.A (forIn ifs true fun c r=>if r=true then do let ok ← isTrue c Y.env (eval c Y.env);pure (ForInStep.yield ok) else pure (ForInStep.yield r)) (TP Y pins σ Q) Y.xe s
def tNoTest:TT:=fun _ H Q=>Q true H
theorem pf_nil {Y:Cx}:PF Y [] tNoTest:=fun _ _ _ H _ I q=>wpAny_tests_nil ⟨H,I,q⟩
theorem pf_one {Y:Cx} {c:Expr} {t:TT} (h:PT Y c t):PF Y [c] t:=fun pins s σ H Q I q=>wpAny_tests_one (h pins s σ H Q I q)
abbrev Blk (α:Type):Type:=Addr→Shared→Hp→List Addr→α
abbrev CompR (own:List Str) (cap:List Nat) (g:Blk TG) (tf:Blk TT) (te:Blk TE) (σ:St) (Q:VK) (J:It) (H1:Hp):Prop :=
 ∃ W:Nat→Nat→List V→Hp→Prop,(∃ m,W 0 m [] H1)∧∀ i m ys H,W i m ys H →
  (J.stop i H∧ys.length≤sizeLine∧∀ p,H p=none→Q (.ref p) (upd H p (.lst ys))) ∨
  (J.go i H∧ys.length<sizeLine∧∀ x H',J.yld i H x H'→∀ C s₀ H₀ ex,g C s₀ H₀ ex x (capσ own cap σ) H' fun σ2 H2=>tf C s₀ H₀ ex σ2 H2 fun b H3 =>
   if b=true then te C s₀ H₀ ex σ2 H3 fun v H4=>∃ m',m' < m∧W (i+1) m' (ys++[v]) H4 else ∃ m',m' < m∧W (i+1) m' ys H3)
def tComp (own:List Str) (cap:List Nat) (wi:TI) (g:Blk TG) (tf:Blk TT) (te:Blk TE):TE:=fun σ H Q=>wi σ H fun J H1=>CompR own cap g tf te σ Q J H1
section
variable {prog:Program} {w:World} {A:Around} {R:Result→Shared→Prop} {s:Shared}
theorem codeAny_compLoop_any {elt target iter:Expr} {ifs:List Expr} {scope:Scope} {pos:Pos} {it acc:Value} {env:Env} (I:Nat→Shared→Prop)
  (turn:∀ n s,I n s→wpAny (model prog w) A (pyNext it) (fun r s₁=>match r with
   | none=>R (.ok .next) s₁
   | some v=>wpAny (model prog w) A (letOwnedTupleGo target it v) (fun _ s₁'=>wpAny (model prog w) A (assign target env v) (fun _ s₂ =>
     wpAny (model prog w) A (forIn ifs true fun c r=>if r=true then do let ok ← isTrue c env (eval c env);pure (ForInStep.yield ok) else pure (ForInStep.yield r)) (fun ok s₃ =>
      if ok=true then wpAny (model prog w) A (eval elt env) (fun x s₄ =>
       wpAny (model prog w) A (call (.builtin "list.append") [acc,x]) (fun _ s₅=>∃ m,m<n∧I m s₅) (fun _ _=>False) s₄) (fun _ _=>False) s₃
      else ∃ m,m<n∧I m s₃) (fun _ _=>False) s₂) (fun _ _=>False) s₁') (fun _ _=>False) s₁) (fun _ _=>False) s)
  (n:Nat) (h:I n s) :
  codeAny (model prog w) A (.compLoop (.ListComp elt [⟨target,iter,ifs,0⟩] scope pos) 0 it acc env) R s:=by
 refine codeAny_loop rfl I (fun n s hI=>?_) n h
 show wpAny _ A ((compTurn (.ListComp elt [⟨target,iter,ifs,0⟩] scope pos) 0 it acc env).onRaise (fun x=>do noteFrame x env;theTreesLotGoes x)) _ _ s
 refine wpAny_noted ?_
 rw [compTurn_list]
 refine wpAny_bind (wpAny_standAt (wpAny_bind (wpAny_mono (turn n s hI) (fun r s₁ h₁=>?_) fun _ _ f=>f.elim)))
 cases r with
 | none=>exact wpAny_pure h₁
 | some v =>
  refine wpAny_bind (wpAny_mono h₁ (fun _ s₁' h₁'=>?_) fun _ _ f=>f.elim)
  refine wpAny_bind (wpAny_mono h₁' (fun _ s₂ h₂=>wpAny_bind (wpAny_mono h₂ (fun ok s₃ h₃=>?_) fun _ _ f=>f.elim)) fun _ _ f=>f.elim)
  cases ok with
  | false=>exact wpAny_pure ⟨rfl,h₃⟩
  | true =>
   exact wpAny_bind (wpAny_bind (wpAny_mono h₃ (fun x s₄ h₄=>wpAny_bind (wpAny_mono h₄ (fun _ s₅ h₅=>wpAny_pure (wpAny_pure ⟨rfl,h₅⟩)) fun _ _ f=>f.elim)) fun _ _ f=>f.elim))
end
section
variable {X:Cx} {elt tg iter:Expr} {ifs:List Expr} {scope:Scope} {cpos:Pos} {own:List Str} {cap:List Nat} {wi:TI} {g:Blk TG} {tf:Blk TT} {te:Blk TE}
theorem join_some {α:Type} {o:Option (Option α)} {v:α} (h:o.join=some v):o=some (some v):=by
 cases o with
 | none=>cases h
 | some o =>
  cases o with
  | none=>cases h
  | some w=>cases h;rfl
theorem Inv.comp {pins:List (Addr×Obj)} {σ:St} {H:Hp} {s:Shared} {fs:Scope} {fp:List Addr} {C:Addr} {h3:Heap} (I:Inv X pins σ H s) (hfs:X.env.scope=fs) (hck:compOk fs scope X.N own cap=true) (hfp:∀ b∈fp,FpOk X pins H b)
  (hlt:∀ b∈fp,b<s.heap.objs.size) (hC:s.heap.objs.size≤C) (hns:h3.Ns C fun _=>none) (kp:∀ b o,s.heap.get? b=some o→h3.get? b=some o) (tk:Nat) :
  Inv (cxComp X scope (compN X.N own cap) C s H fp) [] (capσ own cap σ) H { s with heap:=h3,toks:=tk }:=by
 subst hfs
 unfold compOk at hck
 simp only [Bool.and_eq_true] at hck
 obtain ⟨⟨⟨⟨⟨c1,c2⟩,c3⟩,c4⟩,c5⟩,c6⟩:=hck
 have hkind:scope.kind=.function:=by simpa using c1
 have hcell:∀ y∈scope.names,y.2≠.cell:=fun y hy=>by simpa using List.all_eq_true.mp c2 y hy
 have hfree:∀ y∈scope.names,y.2=.free→X.env.kindOf y.1=some .cell∨X.env.kindOf y.1=some .free:=fun y hy hk=>by
  have z:=List.all_eq_true.mp c4 y hy
  rw [hk] at z
  simpa [Env.kindOf] using z
 have clsub:∀ x c,(closOf X.env.cells scope.names []).lookup x=some c→X.env.cells.lookup x=some c:=closOf_sub scope.names [] fun _ _ q=>by cases q
 have exf:∀ b∈fp,b∉frs X.stack:=fun b hb z=>by
  obtain ⟨f0,f1,f2,_⟩:=hfp b hb
  rcases List.mem_cons.mp (I.stkSub b z) with e | e
  ·exact f1 e
  ·exact f2 e
 have HC:H C=none:=I.hok.fresh hC
 refine ⟨⟨I.ok.mod,?_,I.ok.glob,I.ok.blt,hC,?_,?_,?_,I.ok.hd,I.ok.frames,.inl rfl,?_,fun b o e=>I.bs b o e,Nat.le_trans I.ok.bsz I.sz,?_,exf,I.stack,I.stkFree⟩,rfl,I.bare,Un.kept kp,⟨_,hns,?_⟩,?_,HC,?_,?_,I.hok.kept kp,?_⟩
 ·exact hkind
 ·intro x y c h1 h2
  exact I.ok.inj x y c (clsub x c h1) (clsub y c h2)
 ·intro x hx
  have hm:=relabel_has hcell hx
  obtain ⟨c,hc⟩:=I.ok.has x (hfree _ hm rfl)
  exact ⟨c,closOf_at hm hc⟩
 ·intro x c h
  have:false=true:=h
  cases this
 ·intro b hb
  obtain ⟨f0,f1,f2,f3,f4,f5⟩:=hfp b hb
  exact ⟨Nat.ne_of_lt (Nat.lt_of_lt_of_le (hlt b hb) hC),fun x c e=>f4 x c (clsub x c e)⟩
 ·intro b o e hb
  obtain ⟨f0,f1,f2,f3,f4,f5⟩:=hfp b hb
  rcases f3 with z | z
  ·exact I.ok.noex b o e z
  ·exact absurd (Nat.lt_of_lt_of_le (Heap.lt_size e) (Nat.le_trans I.ok.bsz z)) (Nat.lt_irrefl _)
 ·intro i x v h1 h2 h3'
  have h1:(own++cap.map fun i=>X.N.getD i "")[i]? = some x:=h1
  unfold capσ at h2
  by_cases hi:i<own.length
  ·rw [List.getElem?_append_left (by simpa using hi),List.getElem?_map] at h2
   cases q:own[i]? with
   | none=>rw [q] at h2;cases h2
   | some y=>rw [q] at h2;cases h2
  ·rw [List.getElem?_append_right (by simpa using hi),List.getElem?_map,List.length_map] at h2
   rw [List.getElem?_append_right (by simpa using hi),List.getElem?_map] at h1
   cases q:cap[i-own.length]? with
   | none=>rw [q] at h2;cases h2
   | some i0 =>
    rw [q] at h1 h2
    have h1':X.N.getD i0 "" = x:=Option.some.inj h1
    have h2':(σ[i0]?).join=some v:=Option.some.inj h2
    have z:=List.all_eq_true.mp c6 i0 (List.mem_of_getElem? q)
    rw [h1'] at z
    simp only [Bool.and_eq_true,decide_eq_true_eq] at z
    obtain ⟨⟨z1,z2⟩,z3⟩:=z
    have hx2:scope.names.lookup x=some .free:=by simpa using z2
    have hx3:X.env.kindOf x=some .cell∨X.env.kindOf x=some .free:=by simpa [Env.kindOf] using z3
    have hN:X.N[i0]? = some x:=by
     rw [← h1',List.getD_eq_getElem?_getD]
     cases r:X.N[i0]? with
     | none=>exact absurd z1 (by have:=List.getElem?_eq_none_iff.mp r;omega)
     | some y=>rfl
    obtain ⟨m,hn,hl⟩:=I.loc
    obtain ⟨u,ru,lu⟩:=hl i0 x v hN (join_some h2') (by
     rcases hx3 with y | y
     ·exact .inr (.inl y)
     ·exact .inr (.inr y))
    refine ⟨u,ru,.inr ⟨relabel_free hx2,?_⟩⟩
    rcases lu with ⟨k,_⟩ | ⟨k,c,e,o,ho,hd⟩
    ·rcases hx3 with y | y <;> (rw [k] at y;cases y)
    ·exact ⟨c,closOf_at (PySem.mem_of_lookup hx2) e,o,kp _ _ ho,hd⟩
 ·intro x c e
  obtain ⟨v,o,ho,hd⟩:=I.cell x c (clsub x c e)
  exact ⟨v,o,kp _ _ ho,hd⟩
 ·intro x c e
  exact I.freeC x c (clsub x c e)
 ·intro p hp
  exact absurd (show p∈([]:List (Addr×Obj)) from hp) (by simp)
 ·simp [capσ,cxComp]
abbrev lstObj (its:List Value) (k:Nat):Obj:={ cls:=.type "list",data:=.seq its.toArray k }
theorem comp_run {pins:List (Addr×Obj)} {σ:St} {H2:Hp} {s2:Shared} {fs:Scope} {fp:List Addr} {it:Addr} {tn:Nat→Heap→Prop} {J:It} {Q:VK} {E:Value→Shared→Prop} {RR:Value→Addr→Result→Shared→Prop}
  (hc:X.calm=true) (hfs:X.env.scope=fs) (hck:compOk fs scope X.N own cap=true)
  (hg:∀ C s₀ H₀ ex,PG (cxComp X scope (compN X.N own cap) C s₀ H₀ ex) tg (g C s₀ H₀ ex)) (gk:∀ C s₀ H₀ ex,GK own.length (g C s₀ H₀ ex)) (hf:∀ C s₀ H₀ ex,PF (cxComp X scope (compN X.N own cap) C s₀ H₀ ex) ifs (tf C s₀ H₀ ex)) (he:∀ C s₀ H₀ ex,PE (cxComp X scope (compN X.N own cap) C s₀ H₀ ex) elt (te C s₀ H₀ ex))
  (I2:Inv X pins σ H2 s2) (T:Turn X.prog X.w X.K tg J fp it tn) (st2:tn 0 s2.heap) (f2:∀ b∈fp,FpOk X pins H2 b)
  (W:Nat→Nat→List V→Hp→Prop) (w0:∃ m,W 0 m [] H2)
  (turn:∀ i m ys H,W i m ys H→(J.stop i H∧ys.length≤sizeLine∧∀ p,H p=none→Q (.ref p) (upd H p (.lst ys))) ∨
   (J.go i H∧ys.length<sizeLine∧∀ x H',J.yld i H x H'→∀ C s₀ H₀ ex,g C s₀ H₀ ex x (capσ own cap σ) H' fun σ2 H2=>tf C s₀ H₀ ex σ2 H2 fun b H3 =>
    if b=true then te C s₀ H₀ ex σ2 H3 fun v H4=>∃ m',m' < m∧W (i+1) m' (ys++[v]) H4 else ∃ m',m' < m∧W (i+1) m' ys H3))
  (hR:∀ (D C:Addr) (s4:Shared) (H3:Hp) (ys:List V) (oC:Obj) (m:Str→Option Value),Inv X (pins++[(C,oC)]) σ (upd H3 D (.lst ys)) s4→H3 D=none→s4.heap.Ns C m→X.s₀.heap.objs.size≤C→(∀ p∈X.pn++pins,p.1≠C)→Q (.ref D) (upd H3 D (.lst ys))→RR (.ref D) C (.ok .next) s4) :
  wpAny (model X.prog X.w) X.A (newList []) (fun acc s₃=>wpAny (model X.prog X.w) X.A (newFunctionEnv scope X.env.globals (closOf X.env.cells scope.names []) [] X.env.qual none .none (some X.env)) (fun cenv s₄ =>
   codeAny (model X.prog X.w) X.A (.compStart (.ListComp elt [⟨tg,iter,ifs,0⟩] scope cpos) 0 (.ref it) acc { cenv with scope:=relabel scope X.env }) (RR acc cenv.locals) s₄) E s₃) E s2:=by
 have hck':=hck
 unfold compOk at hck'
 simp only [Bool.and_eq_true] at hck'
 obtain ⟨⟨⟨⟨⟨c1,c2⟩,c3⟩,c4⟩,c5⟩,c6⟩:=hck'
 have hkind:scope.kind=.function:=by simpa using c1
 have hcell:∀ y∈scope.names,y.2≠.cell:=fun y hy=>by simpa using List.all_eq_true.mp c2 y hy
 have hlt:∀ b∈fp,b<s2.heap.objs.size:=fun b hb=>by
  obtain ⟨o,e,_⟩:=T.obj _ _ st2 b hb
  exact Heap.lt_size e
 refine wpAny_newObj_type (wpAny_newFunctionEnv hcell (by intro y hy;simp at hy) (fun h₁ hns₁ hsb₁=>?_) hkind)
 dsimp only at hns₁ hsb₁ ⊢
 generalize hH2:s2.heap.push { cls:=.type "list",dict:=none,data:=.seq ([]:List Value).toArray }=HH at hns₁ hsb₁ ⊢
 have hC:HH.objs.size=s2.heap.objs.size+1:=by rw [← hH2,Heap.size_push]
 generalize hCn:HH.objs.size=C at hns₁ hsb₁ hC ⊢
 generalize hDn:s2.heap.objs.size=D at hC hlt ⊢
 have hDC:D≠C:=by omega
 have old:∀ b o,s2.heap.get? b=some o→h₁.get? b=some o:=fun b o e=>hsb₁.extBut b o (neL (by have:=get_lt e;omega)) (Heap.get?_push_of_some _ (hH2▸Heap.get?_push_of_some _ e))
 have hD₁:h₁.get? D=some (lstObj [] 0):=hsb₁.extBut _ _ hDC (Heap.get?_push_of_some _ (hH2▸hDn▸Heap.get?_push_size _ rfl))
 have nsE:h₁.Ns C fun _=>none:=hns₁
 have I3:=I2.comp (own:=own) (cap:=cap) (scope:=scope) (C:=C) (h3:=h₁) hfs hck f2 (by rw [hDn];exact hlt) (by rw [hDn];omega) nsE old (s2.toks+([]:List (Str×Value)).length)
 generalize hY:cxComp X scope (compN X.N own cap) C s2 H2 fp=Y at I3
 have eP:Y.prog=X.prog:=by rw [← hY];rfl
 have eW:Y.w=X.w:=by rw [← hY];rfl
 have eK:Y.K=X.K:=by rw [← hY];rfl
 have eA:Y.A=X.A:=by rw [← hY];rfl
 have eC:Y.calm=true:=by rw [← hY];exact hc
 have eL:Y.env.locals=C:=by rw [← hY];rfl
 have eX:Y.xe=fun _ _=>False:=by rw [← hY];rfl
 have eE:Y.env=compEnvC scope (closOf X.env.cells scope.names []) C X.env:=by rw [← hY];rfl
 have eF:Y.fs=frs X.stack:=by rw [← hY];rfl
 have eS:Y.s₀=s2:=by rw [← hY];rfl
 have eN:Y.pn=[]:=by rw [← hY];rfl
 have eEx:Y.ex=fp:=by rw [← hY];rfl
 have hg':PG Y tg (g C s2 H2 fp):=hY▸hg C s2 H2 fp
 have hf':PF Y ifs (tf C s2 H2 fp):=hY▸hf C s2 H2 fp
 have he':PE Y elt (te C s2 H2 fp):=hY▸he C s2 H2 fp
 have hDs:D=s2.heap.objs.size:=hDn.symm
 have fpN:∀ b∈fp,b≠D:=fun b hb=>neL (hlt b hb)
 have cellD:∀ x c,Y.env.cells.lookup x=some c→c≠D:=fun x c e z=>by
  rw [eE] at e
  have q:=closOf_sub scope.names [] (fun _ _ q=>by cases q) x c e
  obtain ⟨v,o,ho,_⟩:=I2.cell x c q
  exact neL (by have:=get_lt ho;omega) z
 have DnF:D∉Y.fs:=fun z=>by
  rw [eF] at z
  obtain ⟨_,o,ho,_⟩:=I2.stack.mem z
  have:=get_lt ho
  omega
 have HD2:H2 D=none:=I2.hok.fresh (by omega)
 have pinD:∀ {σ':St} {H':Hp} {s':Shared} {pl:List (Addr×Obj)} {its:List Value} {k:Nat},Inv Y pl σ' H' s'→H' D=none→s'.heap.get? D=some (lstObj its k)→Inv Y [(D,lstObj its k)] σ' H' s':=fun {σ' H' s' pl its k} J hn e =>
  J.pins_of fun p hp=>by
   have ep:p=(D,lstObj its k):=by simpa using hp
   subst ep
   exact ⟨e,hn,by rw [eL];exact hDC,DnF,fun v z=>by cases z⟩
 have fpOk:∀ {pl:List (Addr×Obj)} {H':Hp},(∀ b∈fp,H' b=none)→(∀ p∈pl,∀ b∈fp,p.1≠b)→∀ b∈fp,FpOk Y pl H' b:=fun {pl H'} hn hp b hb=>by
  obtain ⟨f0,f1,f2',f3,f4,f5⟩:=f2 b hb
  refine ⟨hn b hb,by rw [eL];exact neL (Nat.lt_of_lt_of_le (hlt b hb) (by rw [hC];exact Nat.le_succ _)),fun z=>?_,.inl (by rw [eEx];exact hb),fun x c e=>?_,fun p hp'=>?_⟩
  ·rw [eF] at z
   rcases List.mem_cons.mp (I2.stkSub b z) with e | e
   ·exact f1 e
   ·exact f2' e
  ·rw [eE] at e
   exact f4 x c (closOf_sub scope.names [] (fun _ _ q=>by cases q) x c e)
  ·rw [eN] at hp'
   exact hp p (by simpa using hp') b hb
 have loop:∀ s₃:Shared,s₃={ s2 with heap:=h₁,toks:=s2.toks+([]:List (Str×Value)).length } →
   codeAny (model X.prog X.w) X.A (.compLoop (.ListComp elt [⟨tg,iter,ifs,0⟩] scope cpos) 0 (.ref it) (.ref D) (compEnvC scope (closOf X.env.cells scope.names []) C X.env)) (RR (.ref D) C) s₃:=by
  rintro s₃ rfl
  obtain ⟨m0,w0⟩:=w0
  refine codeAny_compLoop_any (fun n s'=>∃ (i:Nat) (ys:List V) (its:List Value) (k:Nat) (H':Hp),Inv Y [(D,lstObj its k)] (capσ own cap σ) H' s'∧tn i s'.heap∧(∀ b∈fp,H' b=none)∧Vals ys its∧W i n ys H') ?_ m0
   ⟨0,[],[],0,H2,pinD I3 HD2 hD₁,T.keep _ _ _ st2 fun b _ o e=>old b o e,fun b hb=>(f2 b hb).1,.nil,w0⟩
  rintro n s3 ⟨i,ys,its,k,H3,J3,st3,fr3,vy,w3⟩
  have pD:∀ p∈[(D,lstObj its k)],∀ b∈fp,p.1≠b:=fun p hp b hb=>by
   have ep:p=(D,lstObj its k):=by simpa using hp
   subst ep
   exact Ne.symm (fpN b hb)
  have HD3:H3 D=none:=(J3.pin (D,lstObj its k) (by rw [eN];simp)).2.1
  have item:=T.item Y eP eW eK eC i [(D,lstObj its k)] s3 (capσ own cap σ) H3 (fun _ _=>False) J3 (fpOk fr3 pD) st3
  have done:=T.done Y eP eW eK eC i [(D,lstObj its k)] s3 (capσ own cap σ) H3 (fun _ _=>False) J3 (fpOk fr3 pD) st3
  rw [eA] at item done
  rcases turn i n ys H3 w3 with ⟨stop,hyl,qn⟩ | ⟨go,hyl,step⟩
  ·refine thn (done stop) fun r s4 ⟨hr,J4⟩=>?_
   subst hr
   show RR (.ref D) C (.ok .next) s4
   have hu:Un (frs X.stack) fp H2 H3 s2.heap s4.heap:=by have q:=J4.base;rw [← hY] at q;exact q
   have hok4:HOk X.prog X.w H3 s4.heap:=by have q:=J4.hok;rw [eP,eW] at q;exact q
   have I4:Inv X pins σ H3 s4:=I2.call' (ch:=fp) (by have q:=J4.os;rw [eS] at q;exact q) hu hok4 J4.bare fun b hb=>by
    obtain ⟨f0,f1,f2',f3,f4,f5⟩:=f2 b hb
    exact ⟨f3,f1,f4,f5⟩
   obtain ⟨m,hm,_⟩:=J4.loc
   rw [eL] at hm
   obtain ⟨oC,es,ep,hoC,hdC,hrC⟩:=id hm
   have HC3:H3 C=none:=by have q:=J4.free;rw [eL] at q;exact q
   have CnF:∀ b,s2.heap.objs.size≤b→b∉X.fs:=fun b hb=>I2.nofs hb
   have eD4:=(J4.pin (D,lstObj its k) (by rw [eN];simp)).1
   have pinNe:∀ b,s2.heap.objs.size≤b→∀ p∈X.pn++pins,p.1≠b:=fun b hb p hp z=>by
    exact neL (by have:=get_lt (I2.pin p hp).1;exact Nat.lt_of_lt_of_le this hb) z
   have cellNe:∀ b,s2.heap.objs.size≤b→∀ x c,X.env.cells.lookup x=some c→c≠b:=fun b hb x c e z=>by
    obtain ⟨v,o,ho,_⟩:=I2.cell x c e
    exact neL (Nat.lt_of_lt_of_le (get_lt ho) hb) z
   have locNe:∀ b,s2.heap.objs.size≤b→b≠X.env.locals:=fun b hb=>neG (Nat.lt_of_lt_of_le I2.lt hb)
   have I5:Inv X (pins++[(C,oC)]) σ H3 s4:=I4.pins_of fun p hp=>by
    rcases List.mem_append.mp hp with z | z
    ·exact I4.pin p (List.mem_append_right _ z)
    ·have ep':p=(C,oC):=by simpa using z
     subst ep'
     exact ⟨hoC,HC3,locNe C (by omega),CnF C (by omega),fun v z=>by rw [hdC] at z;cases z⟩
   have hyl':ys.length≤sizeLine:=hyl
   have I6:Inv X (pins++[(C,oC)]) σ (upd H3 D (.lst ys)) s4:=I5.track' HD3 (locNe D (by omega)) (by have q:Array.size X.s₀.heap.objs≤Array.size s2.heap.objs:=I2.sz;cases e:X.s₀.heap.get? D with | none=>rfl | some o=>exact absurd (get_lt e) (by omega)) (cellNe D (by omega)) (fun p hp=>by
    rcases List.mem_append.mp hp with z | z
    ·exact pinNe D (by omega) p (List.mem_append_left _ z)
    ·rcases List.mem_append.mp z with z | z
     ·exact pinNe D (by omega) p (List.mem_append_right _ z)
     ·have ep':p=(C,oC):=by simpa using z
      subst ep'
      exact Ne.symm hDC) ⟨hyl',its,k,vy,eD4⟩
   exact hR D C s4 H3 ys oC m I6 HD3 hm (Nat.le_trans I2.sz (by omega)) (pinNe C (by omega)) (qn D HD3)
  ·refine thn (item go) fun r s4 ⟨u,hr,h4⟩=>?_
   subst hr
   refine thn h4 fun _ s5 ⟨x,H5,J5,r5,y5,st5,fr5⟩=>?_
   have J5':=J5.pinned (fpOk fr5 pD) (T.obj _ _ st5)
   have hg2:=hg' _ s5 (capσ own cap σ) H5 x u _ J5' r5 (gk C s2 H2 fp x (capσ own cap σ) H5 _ (fun σ6 H6=>(tf C s2 H2 fp σ6 H6 fun b H3=>if b=true then te C s2 H2 fp σ6 H3 fun v H4=>∃ m',m' < n∧W (i+1) m' (ys++[v]) H4 else ∃ m',m' < n∧W (i+1) m' ys H3)∧σ6.length=(capσ own cap σ).length∧∀ j,own.length≤j→σ6[j]? = (capσ own cap σ)[j]?) (step x H5 y5 C s2 H2 fp) fun σ6 H6 a b c=>⟨a,b,c⟩)
   rw [eP,eW,eA,eX,eE] at hg2
   refine thn hg2 fun _ s6 ⟨σ6,H6,J6,q6,l6,k6⟩=>?_
   have hf2:=hf' _ s6 σ6 H6 _ J6 q6
   rw [eP,eW,eA,eX,eE] at hf2
   refine thn hf2 fun ok s7 ⟨H7,J7,q7⟩=>?_
   have weakσ:∀ {pl:List (Addr×Obj)} {H':Hp} {s':Shared},Inv Y pl σ6 H' s'→Inv Y pl (capσ own cap σ) H' s':=fun {pl H' s'} J=>J.weak l6.symm fun j v e=>by
    by_cases hj:j<own.length
    ·unfold capσ at e
     rw [List.getElem?_append_left (by simpa using hj),List.getElem?_map] at e
     cases q:own[j]? with
     | none=>rw [q] at e;cases e
     | some y=>rw [q] at e;cases e
    ·rw [k6 j (by omega)];exact e
   have again:∀ {H':Hp} {s':Shared} {pl:List (Addr×Obj)} {its':List Value} {k':Nat},Inv Y (pl++pinsAt fp s5.heap) σ6 H' s'→H' D=none→s'.heap.get? D=some (lstObj its' k') →
     Inv Y [(D,lstObj its' k')] (capσ own cap σ) H' s'∧tn (i+1) s'.heap∧∀ b∈fp,H' b=none:=fun {H' s' pl its' k'} J hn e=>by
    refine ⟨pinD (weakσ J) hn e,T.keep _ _ _ st5 fun b hb o e=>(J.pin (b,o) (List.mem_append_right _ (List.mem_append_right _ (mem_pinsAt hb e)))).1,fun b hb=>?_⟩
    obtain ⟨o,e,d⟩:=T.obj _ _ st5 b hb
    exact (J.pin (b,o) (List.mem_append_right _ (List.mem_append_right _ (mem_pinsAt hb e)))).2.1
   have getD:∀ {H':Hp} {s':Shared},Inv Y ([(D,lstObj its k)]++pinsAt fp s5.heap) σ6 H' s'→s'.heap.get? D=some (lstObj its k)∧H' D=none:=fun {H' s'} J=>by
    have q:=J.pin (D,lstObj its k) (by rw [eN];simp)
    exact ⟨q.1,q.2.1⟩
   cases ok with
   | false =>
    rw [if_neg Bool.false_ne_true] at q7 ⊢
    obtain ⟨m',hm',w7⟩:=q7
    obtain ⟨g1,g2⟩:=getD J7
    obtain ⟨a1,a2,a3⟩:=again J7 g2 g1
    exact ⟨m',hm',i+1,ys,its,k,H7,a1,a2,a3,vy,w7⟩
   | true =>
    rw [if_pos rfl] at q7 ⊢
    have he2:=he' _ s7 σ6 H7 _ J7 q7
    rw [eP,eW,eA,eX,eE] at he2
    refine thn he2 fun y8 s8 ⟨v8,H8,J8,r8,m',hm',w8⟩=>?_
    obtain ⟨g1,g2⟩:=getD J8
    have hsz:its.toArray.size≤sizeLine:=by
     have:=vy.length
     rw [List.size_toArray]
     omega
    refine wpAny_list_append_plain (items:=its.toArray) ⟨k,g1⟩ (fun h9 hl9 hs9=>?_) hsz
    obtain ⟨k9,hk9⟩:=hl9
    have hk9':h9.get? D=some (lstObj (its++[y8]) k9):=by rw [hk9];simp [lstObj]
    have J9:Inv Y ([]++pinsAt fp s5.heap) σ6 H8 { s8 with heap:=h9 }:=by
     have J8':Inv Y ([]++pinsAt fp s5.heap) σ6 H8 s8:=J8.pins_of fun p hp=>J8.pin p (List.mem_append_right _ (List.mem_append_right _ (by simpa using hp)))
     refine J8'.turned (it:=D) (t':=s8.toks) (fun b o hb e=>hs9.extBut b o hb e) g2 (by rw [eL];exact hDC) (.inr (by rw [eS];omega)) cellD fun p hp=>?_
     rw [eN] at hp
     have hp':p∈pinsAt fp s5.heap:=by simpa using hp
     obtain ⟨hb,_⟩:=of_pinsAt hp'
     exact fpN p.1 hb
    obtain ⟨a1,a2,a3⟩:=again J9 g2 hk9'
    exact ⟨m',hm',i+1,ys++[v8],its++[y8],k9,H8,a1,a2,a3,vy.append (.cons r8 .nil),w8⟩
 refine codeAny_compStart_list (loop _ rfl) ?_
 exact T.self _ 0 _ _ _ (T.keep _ _ _ st2 fun b _ o e=>old b o e) (loop _ rfl)
theorem pe_comp {fs:Scope} (own:List Str) (cap:List Nat) (hc:X.calm=true) (hfs:X.env.scope=fs) (hck:compOk fs scope X.N own cap=true) (hi:PI X tg iter wi)
  (hg:∀ C s₀ H₀ ex,PG (cxComp X scope (compN X.N own cap) C s₀ H₀ ex) tg (g C s₀ H₀ ex)) (gk:∀ C s₀ H₀ ex,GK own.length (g C s₀ H₀ ex)) (hf:∀ C s₀ H₀ ex,PF (cxComp X scope (compN X.N own cap) C s₀ H₀ ex) ifs (tf C s₀ H₀ ex)) (he:∀ C s₀ H₀ ex,PE (cxComp X scope (compN X.N own cap) C s₀ H₀ ex) elt (te C s₀ H₀ ex))
  (hs:∀ x,foldedSetIterable iter X.env x=pure x:=by intro _;rfl):PE X (.ListComp elt [⟨tg,iter,ifs,0⟩] scope cpos) (tComp own cap wi g tf te):=by
 intro pins s σ H Q I h
 have hck':=hck
 subst hfs
 unfold compOk at hck'
 simp only [Bool.and_eq_true] at hck'
 obtain ⟨⟨⟨⟨⟨c1,c2⟩,c3⟩,c4⟩,c5⟩,c6⟩:=hck'
 have hkind:scope.kind=.function:=by simpa using c1
 have hnames:∀ y∈scope.names,y.2=.local→scope.names.lookup y.1=some .local:=fun y hy hk=>by
  have z:=List.all_eq_true.mp c3 y hy
  rw [hk] at z
  simpa using z
 have hfree:∀ y∈scope.names,y.2=.free→∃ a,X.env.cells.lookup y.1=some a:=fun y hy hk=>by
  have z:=List.all_eq_true.mp c4 y hy
  rw [hk] at z
  exact I.ok.has y.1 (by simpa [Env.kindOf] using z)
 rw [eval_ListComp]
 refine wpAny_comprehension_free (use:=none) rfl hs (closureFor_of hfree) hkind hnames (thn (hi pins s σ H _ I h) fun xv s1 h1=>thn h1 fun itv s2 h2=>?_)
 obtain ⟨it,fp,tn,J,H2,e,I2,T,st2,f2,W,w0,turn⟩:=h2
 subst e
 refine comp_run (Q:=Q) (RR:=fun acc C=>compPost (model X.prog X.w) X.A X.xe none (EP X pins σ Q) acc C) hc rfl hck hg gk hf he I2 T st2 f2 W w0 turn ?_
 intro D C s4 H3 ys oC m J4 hn hm hC0 hCp hq
 refine ⟨m,hm,fun h' hs'=>?_⟩
 obtain ⟨p1,p2,p3,p4,p5⟩:=J4.pin (C,oC) (List.mem_append_right _ (List.mem_append_right _ (by simp)))
 have J5:Inv X pins σ (upd H3 D (.lst ys)) s4:=J4.unpinned
 have J6:Inv X pins σ (upd H3 D (.lst ys)) { s4 with heap:=h' }:=J5.turned (it:=C) (t':=s4.toks) (fun b o hb e=>hs'.extBut b o hb e) p2 p3 (.inr hC0) (fun x c e z=>by
  obtain ⟨v,o,ho,hd⟩:=J5.cell x c e
  rw [z,p1] at ho
  cases ho
  exact p5 v hd) hCp
 exact ⟨.ref D,_,J6,rfl,hq⟩
theorem ps_setC {fs:Scope} {i:Nat} {x:Str} {pos' pos:Pos} (own:List Str) (cap:List Nat) (hc:X.calm=true) (hfs:X.env.scope=fs) (hck:compOk fs scope X.N own cap=true) (hN:X.N.Nodup) (hix:X.N[i]? = some x) (hx:X.env.scope.names.lookup x=some .local) (hi:PI X tg iter wi)
  (hg:∀ C s₀ H₀ ex,PG (cxComp X scope (compN X.N own cap) C s₀ H₀ ex) tg (g C s₀ H₀ ex)) (gk:∀ C s₀ H₀ ex,GK own.length (g C s₀ H₀ ex)) (hf:∀ C s₀ H₀ ex,PF (cxComp X scope (compN X.N own cap) C s₀ H₀ ex) ifs (tf C s₀ H₀ ex)) (he:∀ C s₀ H₀ ex,PE (cxComp X scope (compN X.N own cap) C s₀ H₀ ex) elt (te C s₀ H₀ ex))
  (hsw:swapsWith (.ListComp elt [⟨tg,iter,ifs,0⟩] scope cpos) (some (.Name x pos')) pos.line X.env=pure true:=by rfl)
  (hs:∀ x,foldedSetIterable iter X.env x=pure x:=by intro _;rfl):PS X (.Assign [.Name x pos'] (.ListComp elt [⟨tg,iter,ifs,0⟩] scope cpos) pos) (tAsg (tComp own cap wi g tf te) (gName i)):=by
 intro pins s σ H D I h
 have hck':=hck
 subst hfs
 unfold compOk at hck'
 simp only [Bool.and_eq_true] at hck'
 obtain ⟨⟨⟨⟨⟨c1,c2⟩,c3⟩,c4⟩,c5⟩,c6⟩:=hck'
 have hkind:scope.kind=.function:=by simpa using c1
 have hnames:∀ y∈scope.names,y.2=.local→scope.names.lookup y.1=some .local:=fun y hy hk=>by
  have z:=List.all_eq_true.mp c3 y hy
  rw [hk] at z
  simpa using z
 have hfree:∀ y∈scope.names,y.2=.free→∃ a,X.env.cells.lookup y.1=some a:=fun y hy hk=>by
  have z:=List.all_eq_true.mp c4 y hy
  rw [hk] at z
  exact I.ok.has y.1 (by simpa [Env.kindOf] using z)
 rw [exec_Assign_Name_used _ _ _ _ hsw]
 refine wpAny_bind (wpAny_standAt (wpAny_bind ?_))
 show wpAny _ X.A (do let _ ← comprehension (.ListComp elt [⟨tg,iter,ifs,0⟩] scope cpos) scope X.env _ (newList []) false (eval iter X.env) (some (assign (.Name x pos') X.env))) _ _ s
 refine wpAny_bind (wpAny_mono (wpAny_comprehension_free (use:=some (assign (.Name x pos') X.env)) (Q:=fun _ s'=>SP X pins D .next s') rfl hs (closureFor_of hfree) hkind hnames (thn (hi pins s σ H _ I h) fun xv s1 h1=>thn h1 fun itv s2 h2=>?_)) (fun _ s' hq=>wpAny_pure (wpAny_pure hq)) fun _ _ e=>e)
 obtain ⟨it,fp,tn,J,H2,e,I2,T,st2,f2,W,w0,turn⟩:=h2
 subst e
 refine comp_run (Q:=fun v H'=>gName i v σ H' D.nx) (RR:=fun acc C=>compPost (model X.prog X.w) X.A X.xe (some (assign (.Name x pos') X.env)) (fun _ s'=>SP X pins D .next s') acc C) hc rfl hck hg gk hf he I2 T st2 f2 W w0 turn ?_
 intro D' C s4 H3 ys oC m J4 hn hm hC0 hCp hq
 show wpAny _ X.A (assign (.Name x pos') X.env (.ref D')) _ _ s4
 refine wpAny_assign_Name (store_ok J4 hN hix (.inl hx) (show RelV (.ref D') (.ref D') from rfl) (fun s5 J5=>?_) (.inr hx))
 obtain ⟨p1,p2,p3,p4,p5⟩:=J5.pin (C,oC) (List.mem_append_right _ (List.mem_append_right _ (by simp)))
 obtain ⟨q1,_⟩:=J4.pin (C,oC) (List.mem_append_right _ (List.mem_append_right _ (by simp)))
 refine ⟨m,?_,fun h' hs'=>?_⟩
 ·obtain ⟨o,es,ep,ho,r⟩:=hm
  rw [q1] at ho
  cases ho
  exact ⟨_,es,ep,p1,r⟩
 ·have J6:Inv X pins (σ.set i (some (.ref D'))) (upd H3 D' (.lst ys)) { s5 with heap:=h' }:=J5.unpinned.turned (it:=C) (t':=s5.toks) (fun b o hb e=>hs'.extBut b o hb e) p2 p3 (.inr hC0) (fun y c e z=>by
   obtain ⟨v,o,ho,hd⟩:=J5.cell y c e
   rw [z,p1] at ho
   cases ho
   exact p5 v hd) hCp
  exact ⟨_,_,J6,hq⟩
end
end L2
namespace L2
open PySem PySem.Spec PyProof.Rows
def Bt (k:Nat) (n:Int):Prop:=n.natAbs<2^k
theorem Bt.mono {k l:Nat} {n:Int} (h:Bt k n) (hk:k≤l):Bt l n:=Nat.lt_of_lt_of_le h (Nat.pow_le_pow_right (by decide) hk)
theorem Bt.bits {k:Nat} {n:Int} (h:Bt k n):Builtin.Int.intBits n≤k:=by
 unfold Builtin.Int.intBits
 by_cases hz:n=0
 ·subst hz
  exact Nat.zero_le _
 ·rw [if_neg (by simpa using hz)]
  have h0:n.natAbs≠0:=by omega
  exact (Nat.log2_lt h0).mpr h
theorem Bt.log {k:Nat} {n:Int} (h:Bt k n) (hk:k≤9000):n.natAbs.log2<9000:=by
 by_cases hz:n.natAbs=0
 ·rw [hz];decide
 ·exact Nat.lt_of_lt_of_le ((Nat.log2_lt hz).mpr h) hk
theorem Bt.add {k:Nat} {a b:Int} (ha:Bt k a) (hb:Bt k b):Bt (k+1) (a+b):=by
 unfold Bt at *
 rw [Nat.pow_succ]
 have:=Int.natAbs_add_le a b
 omega
theorem Bt.mul {k l:Nat} {a b:Int} (ha:Bt k a) (hb:Bt l b):Bt (k+l) (a*b):=by
 unfold Bt at *
 rw [Int.natAbs_mul,Nat.pow_add]
 exact Nat.mul_lt_mul'' ha hb
theorem Bt.le {k:Nat} {a b:Int} (h:a.natAbs≤b.natAbs) (hb:Bt k b):Bt k a:=Nat.lt_of_le_of_lt h hb
section
variable {X:Cx}
def CMulB (i j:Int):Prop:=∃ k l,k≤1048576∧l≤1048576∧Bt k i∧Bt l j
theorem op_mulB:OpR X (binaryOp .Mult) (rI CMulB fun i j=>.int (i*j)):=opI fun _ _ _ _ _ _ _ ⟨k,l,hk,hl,hi,hj⟩ q=>mul_int q (IntMulOk.of_bits (Nat.le_trans hi.bits hk) (Nat.le_trans hj.bits hl))
def CDivB (i j:Int):Prop:=j≠0∧∃ k,k≤9000∧Bt k j
theorem op_fdivB:OpR X (binaryOp .FloorDiv) (rI CDivB fun i j=>.int (i.fdiv j)):=opI fun _ _ _ _ _ _ _ ⟨h0,k,hk,hj⟩ q=>floordiv_int h0 q (.inl (PyProof.noPylong_of_log2 (hj.log hk)))
end
mutual
inductive Rep (K:PySem.W.Frag) (H:Hp):V→PyData→Prop
 | non:Rep K H .non .none
 | bl (b:Bool):Rep K H (.bl b) (.bool b)
 | int (i:Int):Rep K H (.int i) (.int i)
 | str (x:Str):Rep K H (.str x) (.str x)
 | tup {a:Addr} {xs:List V} {ds:List PyData}:SqT K H a xs→Reps K H xs ds→Rep K H (.ref a) (.tuple ds)
 | lst {a:Addr} {xs:List V} {ds:List PyData}:SqL K H a xs→Reps K H xs ds→Rep K H (.ref a) (.list ds)
inductive Reps (K:PySem.W.Frag) (H:Hp):List V→List PyData→Prop
 | nil:Reps K H [] []
 | cons {x:V} {d:PyData} {xs:List V} {ds:List PyData}:Rep K H x d→Reps K H xs ds→Reps K H (x::xs) (d::ds)
end
section
variable {X:Cx} {pins:List (Addr×Obj)} {σ:St} {H:Hp} {s:Shared}
theorem Rep.reads (I:Inv X pins σ H s) {v:V} {d:PyData} (r:Rep X.K H v d):∀ u,RelV v u→∃ as,Reads s.heap u d as:=by
 refine Rep.rec (motive_1:=fun v d _=>∀ u,RelV v u→∃ as,Reads s.heap u d as) (motive_2:=fun vs ds _=>∀ us,Vals vs us→∃ as,ReadsAll s.heap us ds as) ?_ ?_ ?_ ?_ ?_ ?_ ?_ ?_ r
 ·intro u e
  cases (show u=Value.none from e)
  exact ⟨_,.none⟩
 ·intro b u e
  cases (show u=Value.bool b from e)
  exact ⟨_,.bool b⟩
 ·intro i u e
  obtain ⟨t,rfl⟩:=(show ∃ t,u=Value.int i t from e)
  exact ⟨_,.int i t⟩
 ·intro x u e
  obtain ⟨t,rfl⟩:=(show ∃ t,u=Value.str x t from e)
  exact ⟨_,.str x t⟩
 ·intro a xs ds sq _ ih u e
  cases (show u=Value.ref a from e)
  obtain ⟨its,rv,⟨o,ho,hc,n,hd⟩,_⟩:=I.tuple sq
  obtain ⟨as,q⟩:=ih its rv
  exact ⟨as,.tuple ho hc hd (by simpa using q)⟩
 ·intro a xs ds sq _ ih u e
  cases (show u=Value.ref a from e)
  obtain ⟨its,rv,p,_⟩:=I.list sq
  obtain ⟨o,ho,hc,n,hd⟩:=p.isList
  obtain ⟨as,q⟩:=ih its rv
  exact ⟨a::as,.list ho hc hd (by simpa using q)⟩
 ·intro us e
  cases e
  exact ⟨_,.nil⟩
 ·intro x d xs ds _ _ ih1 ih2 us e
  cases e with
  | cons r1 r2 =>
   obtain ⟨as,q1⟩:=ih1 _ r1
   obtain ⟨bs,q2⟩:=ih2 _ r2
   exact ⟨as++bs,.cons q1 q2⟩
def rEqD (K:PySem.W.Frag) (neg:Bool):R2:=fun x y H Q=>∃ d e,Rep K H x d∧Rep K H y e∧d.canLay0=true∧e.canLay0=true∧d.depth≤40∧Q (.bl (if neg then !PyData.eqv d e else PyData.eqv d e)) H
theorem op_eqD (hu:X.A.units+64<cLine):OpR X (compareOp .Eq) (rEqD X.K false):=by
 intro pins s σ H x y v u Q I r1 r2 h
 obtain ⟨d,e,p1,p2,c1,c2,hd,q⟩:=h
 obtain ⟨as,z1⟩:=p1.reads I v r1
 obtain ⟨bs,z2⟩:=p2.reads I u r2
 exact SeqAt.compareEq_reads z1 z2 c1 c2 (by omega) ⟨.bl _,H,I,rfl,q⟩
theorem op_neD (hu:X.A.units+64<cLine):OpR X (compareOp .NotEq) (rEqD X.K true):=by
 intro pins s σ H x y v u Q I r1 r2 h
 obtain ⟨d,e,p1,p2,c1,c2,hd,q⟩:=h
 obtain ⟨as,z1⟩:=p1.reads I v r1
 obtain ⟨bs,z2⟩:=p2.reads I u r2
 exact SeqAt.compareNe_reads z1 z2 c1 c2 (by omega) ⟨.bl _,H,I,rfl,q⟩
end
section
variable {X:Cx}
theorem vals_bl:∀ {bs:List Bool} {us:List Value},Vals (bs.map V.bl) us→∀ (i:Nat) (v:Value),us[i]? = some v→∃ b,bs[i]? = some b∧v=.bool b
 | [],_,.nil,i,v,e=>by simp at e
 | b::bs,_,.cons r t,i,v,e=>by
  cases i with
  | zero =>
   simp at e
   subst e
   exact ⟨b,rfl,r⟩
  | succ i=>simpa using vals_bl t i v (by simpa using e)
theorem call_all (hc:X.calm=true):CallR X (.builtin "all") (fun xs H Q=>∃ (p:Addr) (bs:List Bool),xs=[.ref p]∧SqL X.K H p (bs.map V.bl)∧Q (.bl (bs.all id)) H):=by
 intro pins s σ H vs us Q I r h
 obtain ⟨p,bs,rfl,sq,q⟩:=h
 cases r with
 | cons r0 rr =>
  cases rr
  cases (show _=Value.ref p from r0)
  obtain ⟨its,rv,pl,_⟩:=I.list sq
  have hl:=pl.isList
  have hlt:p<s.heap.objs.size:=by obtain ⟨_,e,_⟩:=hl;exact Heap.lt_size e
  have len:its.length=bs.length:=by have:=rv.length;simpa using this.symm
  refine call_all_walk (wpAny_pyIter_list hl ⟨s.heap.objs.size,_,_,_,_,_,fun i=>(bs[i]?).getD true,rfl,Walks.list (A:=X.A.in1) (I.ok.hd hc) _ p (Nat.ne_of_lt hlt) its.toArray,⟨⟨_,Heap.get?_push_size _ rfl,rfl,rfl⟩,hl.push _⟩,fun i v s' Q' E' hP hQ=>?_,fun h' tk hk=>?_⟩)
  ·obtain ⟨b,e,rfl⟩:=vals_bl rv i v (by simpa using hP)
   simp only [e,Option.getD_some] at hQ
   exact wpAny_truthy_bool hQ
  ·have e:((List.range its.toArray.size).all fun i=>(bs[i]?).getD true)=bs.all id:=by
    rw [List.size_toArray,len]
    exact LSm.range_all bs
   rw [e]
   exact ⟨.bl _,H,I.kept fun b o z=>hk b o (fun hm=>by rw [List.mem_singleton.mp hm] at z;exact Nat.lt_irrefl _ (Heap.lt_size z)) (Heap.get?_push_of_some _ z),rfl,q⟩
end
end L2
namespace L2
open PySem PySem.Spec PyProof.Rows
theorem entry_unchain:entryFor table "proto.unchain" = some Builtin.«proto.unchain»:=entryFor_of_fast (by kernel_rfl)
section
variable {prog:Program} {w:World} {A:Around} {E:Value→Shared→Prop} {s:Shared}
theorem raise_held {α:Type} {x a t:Addr} {cls tb:Value} {o:Obj} {vs:Array Value} {Q:α→Shared→Prop} (hh:A.handled=some (.ref a)) (ha:s.heap.get? a=some (excO cls t tb)) (hx:s.heap.get? x=some o) (hd:o.data=.fields vs) (h2:2<vs.size) (hne:a≠x)
  (k:∀ h',Heap.SameBut x s.heap h'→h'.get? x=some (o.mapFields (·.setIfInBounds 2 (.ref a)))→E (.ref x) { s with heap:=h' }):wpAny (model prog w) A (raiseNew (.ref x):Sem α) Q E s:=by
 have nx:(Value.ref a != Value.ref x)=true:=by simpa using hne
 have hd':=Obj.data_mapFields hd (·.setIfInBounds 2 (Value.ref a))
 unfold raiseNew
 refine wpAny_bind (wpAny_handled ?_)
 rw [hh]
 dsimp only
 rw [if_pos nx]
 refine wpAny_bind (wpAny_holding (wpAny_runValue (codeAny_builtin entry_unchain ?_)))
 unfold Builtin.«proto.unchain»
 refine wpAny_bind (wpAny_field ha rfl (x:=.none) rfl ?_)
 rw [if_pos (show (Value.none==Value.none)=true from rfl)]
 refine wpAny_pure ?_
 show wpAny (model prog w) A (updateField x 2 (.ref a) >>= fun _=>throw (.ref x)) _ _ s
 refine wpAny_bind ?_
 unfold updateField
 refine wpAny_bind (wpAny_load hx ?_)
 rw [hd]
 dsimp only
 rw [if_pos h2]
 exact wpAny_update hx (wpAny_throw (k _ (Heap.SameBut.update ..) (Heap.get?_update_self _ hx (Obj.isFreed_of_fields hd'))))
theorem next_end_held {it l a t:Addr} {i:Nat} {items:Array Value} {cls tb:Value} {Q:Option Value→Shared→Prop} (hh:A.handled=some (.ref a)) (ha:s.heap.get? a=some (excO cls t tb)) (na:it≠a) (hit:s.heap.IsListIter it l i) (hl:s.heap.IsList l items) (hx:items[i]? = none)
  (k:∀ h',Heap.ExtBut it s.heap h'→Q none { s with heap:=h' }):wpAny (model prog w) A (pyNext (.ref it)) Q E s:=by
 obtain ⟨o,ho,hc,hd⟩:=id hit
 obtain ⟨ol,hol,_,nl,hdl⟩:=hl
 unfold pyNext
 refine wpAny_bind (wpAny_attempt (wpAny_callSpecial?_slot (name:=Str.ofString "__next__") hit.typeIs slot_listiter_next (wpAny_call_entry slot_listiter_next hit.typeIs entry_listiter_next ?_ (args_listiter_next _))))
 show wpAny (model prog w) A.in1 (field (.ref it) 0 >>= _) _ _ s
 refine wpAny_bind (wpAny_field ho hd (x:=.ref l) rfl ?_)
 rw [if_neg (show ¬ ((Value.ref l==Value.none)=true) by simp)]
 refine wpAny_bind (wpAny_field ho hd (x:=.int i 0) rfl ?_)
 refine wpAny_bind (wpAny_seqItems hol hdl ?_)
 simp only [Int.toNat_natCast,hx]
 refine wpAny_bind (wpAny_rule (wpAny_bind (wpAny_setField ho hd (by simp) ?_)))
 generalize hH:s.heap.update it (Obj.mapFields (·.setIfInBounds 0 Value.none))=H1
 have x1:Heap.ExtBut it s.heap H1:=hH▸(Heap.SameBut.update ..).extBut
 refine wpAny_bind ?_
 simp only [newExc,newTuple]
 refine wpAny_bind (wpAny_newObj_type ?_ (by size_fits))
 refine wpAny_bind (m:=firstArgMember _ _) (wpAny_of_eq (a:=Value.none) (by first | rfl | (simp only [firstArgMember];rfl)) ?_)
 refine wpAny_newObj_type ?_ (by size_fits)
 have ha1:=x1 a _ (Ne.symm na) ha
 refine raise_held (show A.in1.handled=some (.ref a) from hh) (Heap.get?_push_of_some _ (Heap.get?_push_of_some _ ha1)) (Heap.get?_push_size _ rfl) rfl (by rw [Array.size_append];exact Nat.lt_of_lt_of_le (show 2<6 by decide) (Nat.le_add_right _ _)) (neL ?_) fun h' sb e'=>?_
 ·show a<_
  rw [Heap.size_push]
  exact Nat.lt_succ_of_lt (Heap.lt_size ha1)
 ·refine wpAny_bind (wpAny_isInstance (T:="StopIteration") (b:=true) ⟨_,e',rfl⟩ isSubtype_stop (wpAny_pure (k _ fun b ob hb e=>?_)))
  have e1:=Heap.get?_push_of_some { cls:=.type "tuple",data:=.seq ([]:List Value).toArray } (x1 b ob hb e)
  exact (sb.2 b (neL (Heap.lt_size e1))).trans (Heap.get?_push_of_some _ e1)
theorem any_loop_held {it p a t:Addr} {its:List Value} {bs:List Bool} {cls tb:Value} {R:Result→Shared→Prop} (hh:A.handled=some (.ref a)) (na:it≠a) (np:p≠it) (rv:Vals (bs.map V.bl) its) :
  ∀ (n i:Nat) (s:Shared),its.length-i=n→i≤its.length→s.heap.IsListIter it p i→s.heap.IsList p its.toArray→s.heap.get? a=some (excO cls t tb) →
   (∀ h' tk,Heap.ExtBut it s.heap h'→R (.ok (.ret (.bool ((bs.drop i).any id)))) { s with heap:=h',toks:=tk })→codeAny (model prog w) A (.builtin "any.loop" ⟨[.ref it],[]⟩) R s:=by
 have len:its.length=bs.length:=by have:=rv.length;simpa using this.symm
 intro n
 induction n with
 | zero =>
  intro i s hn hi st hl ha k
  have hi':i=its.length:=by omega
  refine codeAny_builtin F.entry_any_loop ?_
  rw [Around.under_plainId F.plain_any_loop _]
  unfold Builtin.«any.loop»
  refine wpAny_bind (next_end_held (show A.in1.handled=some (.ref a) from hh) ha na st hl (by simp [hi']) fun h' hk=>?_)
  have q:=k h' s.toks hk
  rw [List.drop_of_length_le (by omega)] at q
  exact wpAny_bind (wpAny_rule (wpAny_pure q))
 | succ n ih =>
  intro i s hn hi st hl ha k
  have hlt:i<its.length:=by omega
  obtain ⟨v,hv⟩:∃ v,its[i]? = some v:=⟨its[i],by simp [hlt]⟩
  obtain ⟨b,hb,rfl⟩:=vals_bl rv i v hv
  have hdrop:bs.drop i=b::bs.drop (i+1):=by
   obtain ⟨hi2,e2⟩:=List.getElem?_eq_some_iff.mp hb
   rw [List.drop_eq_getElem_cons hi2,e2]
  refine codeAny_builtin F.entry_any_loop ?_
  rw [Around.under_plainId F.plain_any_loop _]
  unfold Builtin.«any.loop»
  refine wpAny_bind (wpAny_pyNext_list_item st hl (x:=.bool b) (by simpa using hv) fun h1 st1 sb=>?_)
  refine wpAny_bind (wpAny_holding (wpAny_truthy_bool (wpAny_bind (wpAny_letGo ?_))))
  cases b with
  | true =>
   have q:=k h1 s.toks sb.extBut
   rw [hdrop] at q
   exact wpAny_bind (wpAny_rule (wpAny_pure q))
  | false =>
   refine wpAny_pure ⟨plainId_quiet F.plain_any_loop _,ih (i+1) { s with heap:=h1 } (by omega) hlt st1 (hl.extBut sb.extBut np) (sb.extBut a _ (Ne.symm na) ha) fun h2 tk hk=>?_⟩
   have q:=k h2 tk fun c o hc e=>hk c o hc (sb.extBut c o hc e)
   rw [hdrop] at q
   exact q
end
theorem call_anyH {X:Cx} {a:Addr}:CallR (X.held a) (.builtin "any") (fun xs H Q=>∃ (p:Addr) (bs:List Bool) (cls:Value),xs=[.ref p]∧SqL X.K H p (bs.map V.bl)∧H a=some (ExcAt a cls)∧Q (.bl (bs.any id)) H):=by
 intro pins s σ H vs us Q I r h
 obtain ⟨p,bs,cls,rfl,sq,ha,q⟩:=h
 cases r with
 | cons r0 rr =>
  cases rr
  cases (show _=Value.ref p from r0)
  obtain ⟨its,rv,pl,_⟩:=I.list sq
  have hl:=pl.isList
  obtain ⟨⟨t,tb,he⟩,_⟩:=(show ObjOk X.prog X.w H s.heap a (ExcAt a cls) from I.hok a _ ha)
  have hlt:p<s.heap.objs.size:=by obtain ⟨_,e,_⟩:=hl;exact Heap.lt_size e
  refine call_function_tree F.kind_any F.plain_any F.entry_any (F.args_any1 _) ?_
  unfold Builtin.«any»
  refine wpAny_bind (m:=oneArg "any" _) (wpAny_pure (wpAny_bind (wpAny_pyIter_list hl ?_)))
  refine wpAny_pure ⟨plainId_quiet F.plain_any_loop _,any_loop_held (its:=its) (show (X.A.mark (some (.ref a))).handled=some (.ref a) from rfl) (neG (Heap.lt_size he)) (neL hlt) rv its.length 0 _ rfl (Nat.zero_le _) ⟨_,Heap.get?_push_size _ rfl,rfl,rfl⟩ (hl.push _) (Heap.get?_push_of_some _ he) fun h' tk hk=>?_⟩
  exact ⟨.bl _,H,I.kept fun b o z=>hk b o (neL (Heap.lt_size z)) (Heap.get?_push_of_some _ z),rfl,q⟩
end L2
namespace L2
open PySem PySem.Spec PyProof.Rows PySem.W
structure ErrCls (K:PySem.W.Frag) (C:Addr):Prop where
 cls:(clsIn K C).isSome=true
 ga:findIn K (.ref C) "__getattribute__" = some (some (.builtin "BaseException.__getattribute__"))
 gt:findIn K (.ref C) "__getattr__" = some none
 cl:findIn K (.ref C) "__class__" = some (some (.builtin "object.__class__"))
 get:specialIn K (.builtin "object.__class__") "__get__" = some (some (.builtin "getset_descriptor.__get__"))
 tk:takesIn K (.builtin "object.__class__")=some true
 ob:mroIn K C (.type "object")=some true
 be:mroIn K C (.type "BaseException")=some true
section
variable {prog:Program} {w:World} {A:Around} {E:Value→Shared→Prop} {s:Shared} {K:Frag} {C a t:Addr} {tb:Value}
theorem exc_inst {h:Heap} (he:h.get? a=some (excO (.ref C) t tb)):InstAt h a (excO (.ref C) t tb) C none:=⟨he,rfl,rfl,trivial⟩
theorem exc_find (c:ErrCls K C):findObj K C none "__class__" = some (.bind (.builtin "getset_descriptor.__get__") (.builtin "object.__class__")):=by
 obtain ⟨cd,hc⟩:=Option.isSome_iff_exists.mp c.cls
 unfold findObj
 rw [hc,Option.bind_some,c.cl,Option.bind_some]
 simp [c.get,c.tk]
theorem exc_ga {tk:Tok} {R:Result→Shared→Prop} (c:ErrCls K C) (X:K.In s.heap) (he:s.heap.get? a=some (excO (.ref C) t tb)) (k:R (.ok (.ret (.ref C))) s) :
  codeAny (model prog w) A (.call (.builtin "BaseException.__getattribute__") ⟨[.ref a,.str "__class__" tk],[]⟩) R s:=by
 obtain ⟨hh,g,d,tt,os⟩:=s
 have I:=exc_inst he
 have L0:=I.type (M:=model prog w)
 have L1:=looks_mroIn (M:=model prog w) X c.be
 have L2:=looks_find (M:=model prog w) X I (exc_find c)
 refine codeAny_call_builtin F.excAttr_ValueError.ga.plain F.entry_bexc_ga ?_
 have hk:builtinKind "BaseException.__getattribute__" = some .slot:=by decide +kernel
 have hsp:splitId "BaseException.__getattribute__" = some ("BaseException","__getattribute__"):=by decide +kernel
 have ha:=F.args_bexc_ga (.ref a) (.str "__class__" tk)
 simp only [checkBuiltinCall,hk,hsp]
 have LI:Looks (model prog w) hh (isInstance (.ref a) (.type "BaseException")) true:=L0.andThen L1
 refine wpAny_bind (LI.at ?_)
 rw [if_neg (show ¬ ((!true)=true) by decide)]
 have rest:wpAny (model prog w) A.in1 (Builtin.«object.__getattribute__» ⟨[.ref a,.str "__class__" tk],[]⟩) (fun fin s'=>match fin with | .done f=>R (.ok f) s' | .again c'=>c'.quiet=true∧codeAny (model prog w) A c' R s') (fun e s'=>R (.error e) s') ⟨hh,g,d,tt,os⟩:=by
  unfold Builtin.«object.__getattribute__»
  refine wpAny_bind (wpAny_of_eq (a:=(.ref a,[.str "__class__" tk])) rfl ?_)
  refine wpAny_bind (wpAny_of_eq (a:=("__class__" : Str)) rfl ?_)
  refine wpAny_bind (L0.at (wpAny_bind (L2.at ?_)))
  show wpAny (model prog w) A.in1 (holding [.builtin "object.__class__"] (call (.builtin "getset_descriptor.__get__") [.builtin "object.__class__",.ref a,.ref C]) >>= fun v=>ret v) _ _ _
  refine wpAny_bind (wpAny_holding (wpAny_call ?_))
  exact class_get (s:=⟨hh,g,d,tt,os⟩) (ox:=excO (.ref C) t tb) (od:=none) X I c.ob (wpAny_pure k)
 cases hsg:Manifest.signature? "BaseException.__getattribute__" with
 | none=>exact wpAny_pure rest
 | some sig =>
  simp only [argsOk,hsg] at ha
  have ha':Bind.checkArgs "BaseException.__getattribute__" sig ⟨[.ref a,.str "__class__" tk],[]⟩=pure ():=ha
  show wpAny _ _ (Bind.checkArgs "BaseException.__getattribute__" sig ⟨[.ref a,.str "__class__" tk],[]⟩) _ _ _
  rw [ha']
  exact wpAny_pure rest
theorem exc_class {Q:Option Value→Shared→Prop} (c:ErrCls K C) (X:K.In s.heap) (he:s.heap.get? a=some (excO (.ref C) t tb)) (k:Q (some (.ref C)) { s with toks:=s.toks+1 }):wpAny (model prog w) A (getAttr? (.ref a) "__class__") Q E s:=by
 obtain ⟨hh,g,d,tt,os⟩:=s
 have I:=exc_inst he
 have L0:=I.type (M:=model prog w)
 have L1:=looks_findIn (M:=model prog w) X c.ga
 have L2:=looks_findIn (M:=model prog w) X c.gt
 unfold getAttr? getAttrBy? getAttrBy
 refine wpAny_bind (wpAny_mkText (wpAny_bind (wpAny_attempt (wpAny_holding (wpAny_bind (L0.at (wpAny_bind (L1.at ?_))))))))
 show wpAny (model prog w) A (if (onTheHeap (.ref C)&&Value.builtin "BaseException.__getattribute__"==Value.builtin "object.__getattribute__")=true then _ else _) _ _ _
 rw [if_neg (by rw [show (Value.builtin "BaseException.__getattribute__"==Value.builtin "object.__getattribute__")=false by decide +kernel,Bool.and_false];exact Bool.false_ne_true)]
 unfold getAttrByItsOwn
 refine wpAny_bind ?_
 show wpAny (model prog w) A (typeLookup (.ref C) "__getattr__") _ _ _
 refine L2.at (wpAny_bind (wpAny_attempt (wpAny_holding ?_)))
 show wpAny (model prog w) A (boundAndCalled (.builtin "BaseException.__getattribute__") (.ref a) (.str "__class__" tt)) _ _ _
 unfold boundAndCalled
 refine wpAny_bind (wpAny_of_eq (F.excAttr_ValueError.ga.bind (.ref a)) (wpAny_call ?_))
 refine exc_ga (s:=⟨hh,g,d,tt+1,os⟩) c X he ?_
 show wpAny (model prog w) A (handedOut (.ref C)) _ _ _
 exact wpAny_pure (wpAny_pure k)
end
end L2
namespace L2
open PySem PySem.Spec PyProof.Rows PySem.W
section
variable {K:Frag} {C a:Addr}
theorem kitx_exc (c:ErrCls K C):KitX K (.ref a) (.ref C) (fun h=>∃ t tb,h.get? a=some (excO (.ref C) t tb)) where
 ty:=fun _ _ _ ⟨_,_,he⟩=>(exc_inst he).type
 it:=fun M h X _=>by
  obtain ⟨cd,hc⟩:=Option.isSome_iff_exists.mp c.cls
  unfold clsIn at hc
  split at hc
  next hK =>
   intro A Q E s k q
   unfold isType loadHead
   exact wpAny_bind (wpAny_loadPart (k _ _ (X _ _ hK)) (wpAny_pure q))
  next=>cases hc
 ne:=fun h tp dd its n sl X htp=>by
  obtain ⟨cd,hc⟩:=Option.isSome_iff_exists.mp c.cls
  refine Bool.eq_false_iff.mpr fun q=>?_
  cases beq_iff_eq.mp q
  unfold clsIn at hc
  split at hc
  next hK =>
   have z:=(X _ _ hK).symm.trans htp
   cases z
  next=>cases hc
 ca:=fun X ⟨_,_,he⟩ k=>exc_class c X he k
end
inductive TyX (K:PySem.W.Frag) (H:Hp):V→Value→Prop where
 | of {x:V} {t:Value}:TyOf K H x t→TyX K H x t
 | exc {a C:Addr}:H a=some (ExcAt a (.ref C))→ErrCls K C→TyX K H (.ref a) (.ref C)
 | tupS {a:Addr} {xs:List V}:SqT K H a xs→TyX K H (.ref a) (.type "tuple")
 | lstS {a:Addr} {xs:List V}:SqL K H a xs→TyX K H (.ref a) (.type "list")
def clsV:V→Option Value
 | .ty n=>some (.type n)
 | .ref a=>some (.ref a)
 | _=>none
def rIsi (K:PySem.W.Frag):List V→Hp→VK→Prop:=fun xs H Q=>∃ x c cv t b,xs=[x,c]∧clsV c=some cv∧TyX K H x t∧kitOne K t cv=some b∧Q (.bl b) H
theorem call_isi {X:Cx}:CallR X (.builtin "isinstance") (rIsi X.K):=by
 intro pins s σ H vs us Q I r h
 obtain ⟨x,c,cv,t,b,rfl,hc,ty,hk,q⟩:=h
 cases r with
 | cons r0 rr =>
  cases rr with
  | cons r1 rr =>
   cases rr
   rename_i u0 u1
   have hu:u1=cv:=by
    cases c with
    | ty n=>cases hc;exact r1
    | ref n=>cases hc;exact r1
    | _=>cases hc
   subst hu
   cases ty with
   | of ty=>exact isinst_ok I r0 ty hk fun tk=>⟨.bl b,H,I.tok tk,rfl,q⟩
   | @exc a C ha ce =>
    cases (show u0=Value.ref a from r0)
    obtain ⟨⟨t,tb,he⟩,_⟩:=(show ObjOk X.prog X.w H s.heap a (ExcAt a (.ref C)) from I.hok a _ ha)
    exact kia_one (kitx_exc ce) I.kIn ⟨t,tb,he⟩ hk (fun z=>nomatch z) fun tk=>⟨.bl b,H,I.tok tk,rfl,q⟩
   | @tupS a xs hs =>
    cases (show u0=Value.ref a from r0)
    obtain ⟨its,_,⟨o,h1,h2,_⟩,_⟩:=I.tuple hs
    exact kia_one kitx_tuple I.kIn ⟨o,h1,h2⟩ hk (fun z=>nomatch z) fun tk=>⟨.bl b,H,I.tok tk,rfl,q⟩
   | @lstS a xs hs =>
    cases (show u0=Value.ref a from r0)
    obtain ⟨its,_,p,_⟩:=I.list hs
    obtain ⟨o,h1,h2,_⟩:=p.isList
    exact kia_one kitx_list I.kIn ⟨o,h1,h2⟩ hk (fun z=>nomatch z) fun tk=>⟨.bl b,H,I.tok tk,rfl,q⟩
theorem boot_isinstance:bootBuiltins "isinstance" = some (.builtin "isinstance"):=by decide +kernel
theorem pe_isiB {X:Cx} {e:Expr} {te:TE} {T:Str} {n:String} {p pos pT:Pos} (hg:Gl X "isinstance") (hm:X.mg "isinstance" = none) (he:PE X e te) (hgT:Gl X T) (hmT:X.mg T=none) (hT:bootBuiltins T=some (.type n)) (hnT:T≠"__name__":=by decide) (hdT:(T==("__debug__" : Str))=false:=by decide)
  (h1:starEach [e,.Name T pT] X.env=(false,eval e X.env)::starEach [.Name T pT] X.env:=by rfl):PE X (.Call (.Name "isinstance" p) [e,.Name T pT] [] pos) (tCB (rIsi X.K) (tCons te (tCons (tC (.ty n)) tNil))) :=
 pe_callB call_isi hg hm boot_isinstance (pa_cons he (pa_cons (pe_bltn (v:=.ty n) hgT hmT hT rfl hnT hdT) pa_nil) h1) (he:=h1)
theorem pe_isiO {X:Cx} {e:Expr} {te:TE} {T:Str} {C:Addr} {p pos pT:Pos} (hg:Gl X "isinstance") (hm:X.mg "isinstance" = none) (he:PE X e te) (hgT:Gl X T) (hmT:X.mg T=some (.ref C)) (hdT:(T==("__debug__" : Str))=false:=by decide)
  (h1:starEach [e,.Name T pT] X.env=(false,eval e X.env)::starEach [.Name T pT] X.env:=by rfl):PE X (.Call (.Name "isinstance" p) [e,.Name T pT] [] pos) (tCB (rIsi X.K) (tCons te (tCons (tC (.ref C)) tNil))) :=
 pe_callB call_isi hg hm boot_isinstance (pa_cons he (pa_cons (pe_glob (v:=.ref C) hgT hmT rfl hdT) pa_nil) h1) (he:=h1)
end L2
namespace L2
open PySem PySem.Spec PySem.W PyProof.Rows PySem.Calls
def SortedOf (ms ns:List Int):Prop:=ms.Perm ns∧ms.Pairwise (·≤·)
def rSortD:List V→Hp→VK→Prop:=fun xs H Q=>∃ (p:Addr) (ns:List Int) (kvs:List (Key×V)),xs=[.ref p]∧H p=some (.dK kvs)∧kvs.map (·.1)=ns.map Sum.inl∧ns.length<64∧∀ l ms,H l=none→SortedOf ms ns→Q (.ref l) (upd H l (.lst (ms.map V.int)))
theorem ints_build:∀ {its:List Value} {ns:List Int},its.length=ns.length→(∀ (j:Nat) (v:Value),its[j]? = some v→∃ n t,ns[j]? = some n∧v=Value.int n t)→IntsAre its ns
 | [],[],_,_=>.nil
 | [],_::_,h,_=>by cases h
 | _::_,[],h,_=>by cases h
 | u::its,m::ns,h,k=>by
  obtain ⟨n,t,e,rfl⟩:=k 0 u rfl
  cases e
  exact .cons _ t (ints_build (Nat.succ.inj h) fun j v e=>k (j+1) v e)
theorem kv_back {κ:Type}:∀ {kvs:List (κ×V)} {vs:List (κ×Value)} {j:Nat} {k:κ} {x:Value},KV kvs vs→vs[j]? = some (k,x)→∃ y,kvs[j]? = some (k,y)
 | _,_,_,_,_,.nil,e=>by simp at e
 | (a,b)::_,_,0,k,x,.cons r _,e=>by
  simp at e
  subst e
  obtain ⟨rfl,_⟩:=r
  exact ⟨b,rfl⟩
 | _,_,j+1,_,_,.cons _ r,e=>kv_back (j:=j) r (by simpa using e)
theorem call_sortedD {X:Cx} (hc:X.calm=true):CallR X (.builtin "sorted") rSortD:=by
 intro pins s σ H xs us Q I r h
 obtain ⟨p,ns,kvs,rfl,hp,hk,h64,q⟩:=h
 obtain ⟨u,rfl,rx⟩:=vals1 r
 cases rx
 obtain ⟨z,lo,vs,rel,dd⟩:=dk_of I.hok hp
 obtain ⟨ep,hat⟩:=dd.dictAt
 have hlen:kvs.length=vs.length:=Paired.length rel
 have hlen2:kvs.length=ns.length:=by have:=congrArg List.length hk;simpa using this
 refine call_function_entry kind_sorted plain_sorted entry_sorted (args_sorted1 _) ?_
 unfold Builtin.«sorted»
 refine wpAny_bind (m:=checkCount "sorted" 1 1 _) (wpAny_pure ?_)
 refine wpAny_bind (kdu_collect (A:=X.A.in1) (kdl_dict (knd:=mixKind X.prog X.w) (kvs:=vs) (ep:=ep) lo) (I.ok.hd hc) hat (by omega) fun h' tk acc hk' hacc=>?_)
 have hl:acc.toList.length=vs.length:=by rw [Array.length_toList];exact hacc.1
 refine wpAny_bind (wpAny_newList ?_ (by rw [hl];omega))
 have hI:IntsAre acc.toList ns:=by
  refine ints_build (by omega) fun j v e=>?_
  obtain ⟨k,x,hx,hkx⟩:=hacc.2 j v (by rw [← Array.getElem?_toList];exact e)
  obtain ⟨y,hy⟩:=kv_back rel hx
  have h2:(kvs.map (·.1))[j]? = some k:=by rw [List.getElem?_map,hy];rfl
  rw [hk,List.getElem?_map] at h2
  cases hn:ns[j]? with
  | none=>rw [hn] at h2;cases h2
  | some n =>
   rw [hn] at h2
   cases h2
   obtain ⟨t,rfl⟩:=Value.isInt_shape (k:=n) (v:=v) hkx
   exact ⟨n,t,rfl,rfl⟩
 have hoL:(h'.push (seqObj "list" acc.toList.toArray 0)).get? h'.objs.size=some (seqObj "list" acc.toList.toArray 0):=Heap.get?_push_size _ rfl
 refine wpAny_bind (wpAny_holding (wpAny_call_entry slot_list_sort ⟨_,hoL,rfl⟩ entry_list_sort (list_sort_tree hoL hI (by omega) fun out ns' a1 a2 a3=>⟨_,rfl,?_⟩) (args_list_sort _)))
 obtain ⟨e,he⟩:=sortedHeap_at (out:=out) hoL
 have hpn:=a2.length_eq
 have I1:Inv X pins σ H { s with heap:=h',toks:=tk }:=I.kept (t':=tk) hk'
 refine wpAny_pure ⟨_,rfl,?_⟩
 refine ⟨.ref h'.objs.size,_,I1.laid (t':=tk) (fun b o hb=>?_) (Nat.le_refl _)
  (show ObjOk X.prog X.w _ _ _ (.lst (ns'.map V.int)) from ⟨by rw [List.length_map];exact Nat.le_of_lt (small1000 (by omega)),out.toList,e,vals_ints a1,by rw [Array.toArray_toList];exact he⟩),rfl,q _ ns' (I1.hok.fresh (Nat.le_refl _)) ⟨a2,a3⟩⟩
 have h1:h'.get? b=some o:=hb
 have hlt:=Heap.lt_size h1
 rw [sortedHeap_old (Nat.ne_of_lt hlt) (by rw [size_push'];exact Nat.lt_succ_of_lt hlt)]
 exact Heap.get?_push_of_some _ h1
end L2
namespace L2
open PySem PySem.Spec PySem.W PyProof.Rows PySem.Calls
section
variable {X:Cx} {pins:List (Addr×Obj)} {σ:St} {H:Hp} {s:Shared} {h':Heap}
theorem Inv.turns {t':Nat} {fp:List Addr} (I:Inv X pins σ H s) (k:∀ b o,b∉fp→s.heap.get? b=some o→h'.get? b=some o) (hf:∀ b∈fp,FpOk X pins H b):Inv X pins σ H { s with heap:=h',toks:=t' }:=by
 have nit:∀ b u,H b=some u→b∉fp:=fun b u e z=>by rw [(hf b z).1] at e;cases e
 refine I.step (g':=s.gens) (d':=s.drawn) (ch:=fp) (fun b hb=>?_) (fun b o _ _ hc e _=>k b o hc e) (fun b o _ _ hc e _=>⟨o.slots,k b o hc e⟩) (fun _ _ _ _ n=>n)
  (fun b o hc e=>⟨o,k b o hc e⟩) (fun _ _ e=>e) (fun _ _ _ e=>e) (fun b ps e=>⟨#[],by rw [e];simp⟩) (fun m hm=>?_) (fun b u e=>?_) I.bare
 ·obtain ⟨_,f1,_,f3,f4,f5⟩:=hf b hb
  exact ⟨f3,f1,f4,f5⟩
 ·obtain ⟨o,es,ep,ho,r⟩:=hm
  exact ⟨o,es,ep,k _ o (fun z=>(hf _ z).2.1 rfl) ho,r⟩
 ·refine (I.hok b u e).stay (fun c v hc q=>k c v ?_ q) (fun _ q=>q) fun _ _ q=>q
  rcases hc with z | z
  ·rw [z];exact nit b u e
  ·exact nit c _ z
end
def Ite (K:PySem.W.Frag) (a:Addr):It :=
 ⟨fun i H=>∃ xs x,SqL K H a xs∧xs[i]? = some x,fun i H x H'=>∃ p y,x=.ref p∧H p=none∧H'=upd H p (.tup [.int i,y])∧∀ xs,SqL K H a xs→xs[i]? = some y,fun i H=>∃ xs,SqL K H a xs∧xs.length≤i⟩
theorem turn_enum {P:Program} {w:World} {K:PySem.W.Frag} {elts:List Expr} {x1} {pos:Pos} (a e it:Addr) (hei:e≠it):Turn P w K (.Tuple elts x1 pos) (Ite K a) [e,it] e (fun i h=>(∃ old,IsEnum h e it i old)∧h.IsListIter it a i) where
 mem:=by simp
 obj:=fun i h st b hb=>by
  obtain ⟨⟨old,he⟩,hi⟩:=st
  rcases List.mem_cons.mp hb with rfl | hb
  ·exact ⟨_,he,fun v z=>by
    have z':Data.fields _=Data.cell v:=z
    cases z'⟩
  ·have e:b=it:=by simpa using hb
   subst e
   obtain ⟨o,e,c,d⟩:=hi
   exact ⟨o,e,fun v z=>by rw [d] at z;cases z⟩
 keep:=fun i h h' st k=>⟨⟨st.1.choose,k e (by simp) _ st.1.choose_spec⟩,st.2.at fun o q=>k it (by simp) o q⟩
 item:=by
  intro X hP hw hK hc i pins s σ H E I hf st hg
  subst hP hw hK
  obtain ⟨xs,x,hq,hx⟩:=hg
  obtain ⟨its,rv,p,hz⟩:=I.list hq
  obtain ⟨u,hu,ru⟩:=rv.get hx
  obtain ⟨⟨old,he⟩,hit⟩:=st
  refine wpAny_pyNext_enum_item he hit p.isList (x:=u) (by simpa using hu) hei fun h' ho hit' hT hsz hk=>?_
  refine ⟨_,rfl,?_⟩
  refine wpAny_letOwnedTupleGo_enum ho fun h2 he' hs'=>?_
  have helt:e<s.heap.objs.size:=Heap.lt_size he
  have hilt:it<s.heap.objs.size:=by obtain ⟨_,z,_⟩:=hit;exact Heap.lt_size z
  have k2:∀ b o,b∉[e,it]→s.heap.get? b=some o→h2.get? b=some o:=fun b o hb q=>(hs'.2 b (fun z=>hb (by simp [z]))).trans (hk b o (fun z=>hb (by simp [z])) (fun z=>hb (by simp [z])) q)
  have hpair:h2.get? s.heap.objs.size=some { cls:=.type "tuple",data:=.seq #[.int i s.toks,u] }:=(hs'.2 _ (Nat.ne_of_gt helt)).trans hT
  have I1:Inv X pins σ H { s with heap:=h2,toks:=s.toks+1 }:=I.turns (fp:=[e,it]) k2 hf
  have I2:Inv X pins σ (upd H s.heap.objs.size (.tup [.int i,x])) { s with heap:=h2,toks:=s.toks+1 }:=by
   obtain ⟨g0,g1,_,_,g4,g5⟩:=I.fpOk (Nat.le_refl _) (I.hok.fresh (Nat.le_refl _))
   refine I1.track' g0 g1 ?_ g4 g5 (show ObjOk X.prog X.w _ h2 _ (.tup [.int i,x]) from ⟨by show 2≤sizeLine;decide,[.int i s.toks,u],.cons ⟨_,rfl⟩ (.cons ru .nil),⟨_,hpair,rfl,_,rfl⟩⟩)
   cases hq0:X.s₀.heap.get? s.heap.objs.size with
   | none=>rfl
   | some o=>exact absurd (Nat.lt_of_lt_of_le (Heap.lt_size hq0) I.sz) (Nat.lt_irrefl _)
  refine ⟨.ref s.heap.objs.size,_,I2,rfl,⟨_,x,rfl,I.hok.fresh (Nat.le_refl _),rfl,fun ys hy=>by rw [I.list_inj hy hq];exact hx⟩,⟨⟨_,by simpa using he'⟩,hit'.at fun o y=>(hs'.2 it hei.symm).trans y⟩,fun b hb=>?_⟩
  rcases List.mem_cons.mp hb with rfl | hb
  ·rw [upd_ne (Nat.ne_of_lt helt)];exact (hf _ (by simp)).1
  ·have e:b=it:=by simpa using hb
   subst e
   rw [upd_ne (Nat.ne_of_lt hilt)];exact (hf _ (by simp)).1
 done:=by
  intro X hP hw hK hc i pins s σ H E I hf st hg
  subst hP hw hK
  obtain ⟨xs,hq,hx⟩:=hg
  obtain ⟨its,rv,p,hz⟩:=I.list hq
  obtain ⟨⟨old,he⟩,hit⟩:=st
  have hl:=rv.length
  exact wpAny_pyNext_enum_end (I.ok.hd hc) he hit p.isList (by simp;omega) fun h' eb=>⟨rfl,I.turns (fp:=[e,it]) (t':=s.toks) (fun b o hb q=>eb b o (fun z=>hb (by simp [z])) q) hf⟩
 self:=fun _ _ _ _ _ st h=>by
  obtain ⟨⟨old,he⟩,_⟩:=st
  exact wpAny_pyIter_enum he h
end L2
namespace L2
open PySem PySem.Spec PySem.W PyProof.Rows PySem.Calls
theorem boot_enumerate:bootBuiltins "enumerate" = some (.type "enumerate"):=by decide +kernel
section
variable {X:Cx}
def iEnum (K:PySem.W.Frag) (ta:TA):TI:=fun σ H R=>ta σ H fun vs H1=>∃ a,vs=[.ref a]∧(∃ xs,SqL K H1 a xs)∧R (Ite K a) H1
theorem pi_enum {elts:List Expr} {x1} {pt:Pos} {a:Expr} {ta:TA} {p pos:Pos} (hg:Gl X "enumerate") (hm:X.mg "enumerate" = none) (ha:PA X [a] ta) (hs:starEach [a] X.env=[(false,eval a X.env)]:=by rfl):PI X (.Tuple elts x1 pt) (.Call (.Name "enumerate" p) [a] [] pos) (iEnum X.K ta):=by
 intro pins s σ H R I h
 refine Call_ (ld_blt I hg hm boot_enumerate (PyProof.Rows.callWith_type1 (thn (ha pos pins s σ H _ I h) fun us s1 ⟨vs,H1,I1,r1,q1⟩=>?_) hs rfl))
 obtain ⟨l,rfl,⟨xs,hq⟩,q⟩:=q1
 cases r1 with
 | cons r rr =>
  cases rr
  cases r
  obtain ⟨its,rv,p,hz⟩:=I1.list hq
  refine call_enumerate_list p.isList fun h' he hit hsz hk=>?_
  refine wpAny_pyIter_enum he ?_
  have I2:Inv X pins σ H1 { s1 with heap:=h' }:=I1.kept (t':=s1.toks) hk
  refine ⟨s1.heap.objs.size+1,[s1.heap.objs.size+1,s1.heap.objs.size],_,_,H1,rfl,I2,turn_enum l _ _ (Nat.succ_ne_self _),⟨⟨_,he⟩,hit⟩,fun b hb=>?_,q⟩
  rcases List.mem_cons.mp hb with rfl | hb
  ·exact I1.fpOk (Nat.le_succ _) (I1.hok.fresh (Nat.le_succ _))
  ·have e:b=s1.heap.objs.size:=by simpa using hb
   subst e
   exact I1.fpOk (Nat.le_refl _) (I1.hok.fresh (Nat.le_refl _))
end
section
variable {prog:Program} {w:World} {A:Around} {E:Value→Shared→Prop} {s:Shared}
end
section
variable {X:Cx}
end
end L2
namespace L2
open PySem PySem.Spec PySem.W PyProof.Rows PySem.Calls
section
variable {X:Cx}
def two (a b:Int):Nat→Int:=fun i=>if i=0 then a else b
theorem two_at {a b:Int} {t u:Tok} (i:Nat) (v:Value) (h:(#[Value.int a t,Value.int b u]:Array Value)[i]? = some v):∃ t,v=.int (two a b i) t:=by
 match i,h with
 | 0,h=>cases h;exact ⟨t,rfl⟩
 | 1,h=>cases h;exact ⟨u,rfl⟩
 | i+2,h=>simp at h
def rMinT (K:PySem.W.Frag):List V→Hp→VK→Prop:=fun xs H Q=>∃ p a b,xs=[.ref p]∧SqT K H p [.int a,.int b]∧Q (.int (if b<a then b else a)) H
def rMaxT (K:PySem.W.Frag):List V→Hp→VK→Prop:=fun xs H Q=>∃ p a b,xs=[.ref p]∧SqT K H p [.int a,.int b]∧Q (.int (if b>a then b else a)) H
theorem pair_walk {p:Addr} {a b:Int} {t u:Tok} {pins:List (Addr×Obj)} {σ:St} {H:Hp} {s:Shared} {Q:Value→Shared→Prop} {E:Value→Shared→Prop} (op:CmpOp) (f:Int→Int→Bool) (I:Inv X pins σ H s) (hc:X.calm=true) (ht:IsTup s.heap p #[.int a t,.int b u])
  (cm:∀ P:Nat→Value→Prop,(∀ i v,P i v→∃ t,v=.int (two a b i) t)→CmpOf X.prog X.w X.A.in1 op P (fun i j=>f (two a b i) (two a b j)))
  (q:∀ t s',Inv X pins σ H s'→Q (.int (if f b a then b else a) t) s') :
  wpAny (model X.prog X.w) X.A.in1 (pyIter (.ref p)) (fun it s₂=>∃ I fp wr n P St bt,it=.ref I∧Walks X.prog X.w X.A.in1 I fp wr n P St∧St 0 s₂.heap∧(∀ b∈fp,b<s₂.heap.objs.size)∧0<n∧CmpOf X.prog X.w X.A.in1 op P bt ∧
   ∀ v h' tk,P (argBest bt (n-1)) v→(∀ b o,b∉wr→s₂.heap.get? b=some o→h'.get? b=some o)→Q v { s₂ with heap:=h',toks:=tk }) E s:=by
 have hlt:p<s.heap.objs.size:=by obtain ⟨_,e,_⟩:=ht;exact Heap.lt_size e
 refine wpAny_pyIter_tuple (show s.heap.IsTuple p _ from ht) ?_
 refine ⟨_,_,_,_,_,_,_,rfl,Walks.tuple (A:=X.A.in1) (I.ok.hd hc) _ p (Nat.ne_of_lt hlt) #[.int a t,.int b u],⟨⟨_,Heap.get?_push_size _ rfl,rfl,rfl⟩,?_⟩,fun c hc=>?_,by show 0<2;decide,cm _ two_at,fun v h' tk hP hk=>?_⟩
 ·obtain ⟨o,e,r⟩:=ht
  exact ⟨o,Heap.get?_push_of_some _ e,r⟩
 ·show c<(s.heap.push _).objs.size
  rw [Heap.size_push]
  rcases List.mem_cons.mp hc with rfl | hc
  ·exact Nat.lt_succ_self _
  ·rw [List.mem_singleton.mp hc];exact Nat.lt_succ_of_lt hlt
 ·obtain ⟨t',rfl⟩:=two_at _ _ hP
  have e:two a b (argBest (fun i j=>f (two a b i) (two a b j)) 1)=if f b a then b else a:=by
   show two a b (if f (two a b 1) (two a b 0) then 1 else 0)=_
   show two a b (if f b a then 1 else 0)=_
   cases f b a <;> rfl
  show Q (Value.int (two a b (argBest (fun i j=>f (two a b i) (two a b j)) 1)) t') _
  rw [e]
  exact q _ _ (I.kept fun c o hc=>hk c o (fun z=>absurd (Heap.lt_size hc) (by rw [List.mem_singleton.mp z];exact Nat.lt_irrefl _)) (Heap.get?_push_of_some _ hc))
theorem call_minT (hc:X.calm=true):CallR X (.builtin "min") (rMinT X.K):=by
 intro pins s σ H xs us Q I r h
 obtain ⟨p,a,b,rfl,hs,q⟩:=h
 obtain ⟨u,rfl,rx⟩:=vals1 r
 cases rx
 obtain ⟨its,rv,ht,_⟩:=I.tuple hs
 cases rv with
 | cons r0 rr =>
  cases rr with
  | cons r1 rr =>
   cases rr
   obtain ⟨t0,rfl⟩:=r0
   obtain ⟨t1,rfl⟩:=r1
   refine call_min_walk (pair_walk .Lt (fun x y=>decide (x<y)) I hc ht (fun P h=>CmpOf.ints_lt (two a b) h) fun t s' I'=>⟨.int _,H,I',⟨t,rfl⟩,?_⟩)
   simpa using q
theorem call_maxT (hc:X.calm=true):CallR X (.builtin "max") (rMaxT X.K):=by
 intro pins s σ H xs us Q I r h
 obtain ⟨p,a,b,rfl,hs,q⟩:=h
 obtain ⟨u,rfl,rx⟩:=vals1 r
 cases rx
 obtain ⟨its,rv,ht,_⟩:=I.tuple hs
 cases rv with
 | cons r0 rr =>
  cases rr with
  | cons r1 rr =>
   cases rr
   obtain ⟨t0,rfl⟩:=r0
   obtain ⟨t1,rfl⟩:=r1
   refine call_max_walk (pair_walk .Gt (fun x y=>decide (x>y)) I hc ht (fun P h=>CmpOf.ints_gt (two a b) h) fun t s' I'=>⟨.int _,H,I',⟨t,rfl⟩,?_⟩)
   simpa using q
end
end L2
namespace L2
open PySem PySem.Spec PySem.W PyProof.Rows
theorem Same.tup {K:PySem.W.Frag} {H H':Hp} {a:Addr} {xs:List V} (e:Same H H') (h:SqT K H a xs):SqT K H' a xs:=by
 rcases h with (z | ⟨o,z⟩) | z
 ·exact .inl (.inl (e _ _ z))
 ·exact .inl (.inr ⟨o,e _ _ z⟩)
 ·exact .inr z
theorem same_upd {H:Hp} {p:Addr} {o:HO} (hp:H p=none):Same H (upd H p o):=fun b u e=>by rw [upd_ne (ne_of_none e hp)];exact e
theorem comp_any {own:List Str} {cap:List Nat} {g:Blk TG} {tf:Blk TT} {te:Blk TE} {σ:St} {Q:VK} {J:It} {H1:Hp} (n:Nat) (Pv:Nat→List V→Hp→Prop) (h0:Pv 0 [] H1) (hn:n<sizeLine)
  (hl:∀ i ys H,i≤n→Pv i ys H→ys.length≤i∧(i<n→J.go i H)∧(i=n→J.stop i H))
  (turn:∀ i ys H (N:List V→Hp→Prop),i<n→Pv i ys H→(∀ ys H,Pv (i+1) ys H→N ys H)→∀ x H',J.yld i H x H'→∀ C s₀ H₀ ex,g C s₀ H₀ ex x (capσ own cap σ) H' fun σ2 H2=>tf C s₀ H₀ ex σ2 H2 fun b H3 =>
   if b=true then te C s₀ H₀ ex σ2 H3 fun v H4=>N (ys++[v]) H4 else N ys H3)
  (fin:∀ ys H,Pv n ys H→∀ p,H p=none→Q (.ref p) (upd H p (.lst ys))):CompR own cap g tf te σ Q J H1:=by
 refine ⟨fun i m ys H=>m=n-i∧i≤n∧Pv i ys H,⟨n,rfl,Nat.zero_le _,h0⟩,?_⟩
 rintro i m ys H ⟨rfl,hi,hp⟩
 obtain ⟨h1,h2,h3⟩:=hl i ys H hi hp
 by_cases e:i=n
 ·subst e
  exact .inl ⟨h3 rfl,by omega,fin ys H hp⟩
 ·have hi':i<n:=by omega
  refine .inr ⟨h2 hi',by omega,fun x H' y C s₀ H₀ ex=>?_⟩
  exact turn i ys H (fun ys H=>∃ m',m' < n-i∧(m'=n-(i+1)∧i+1≤n∧Pv (i+1) ys H)) hi' hp (fun ys' H'' q=>⟨n-(i+1),by omega,rfl,by omega,q⟩) x H' y C s₀ H₀ ex
theorem comp_list {K:PySem.W.Frag} {a:Addr} {xs:List V} {own:List Str} {cap:List Nat} {g:Blk TG} {tf:Blk TT} {te:Blk TE} {σ:St} {Q:VK} {H1:Hp} (Pv:Nat→List V→Hp→Prop) (h0:Pv 0 [] H1) (hn:xs.length<sizeLine)
  (hl:∀ i ys H,i≤xs.length→Pv i ys H→ys.length≤i∧SqL K H a xs)
  (turn:∀ i x ys H (N:List V→Hp→Prop),xs[i]? = some x→Pv i ys H→(∀ ys H,Pv (i+1) ys H→N ys H)→∀ C s₀ H₀ ex,g C s₀ H₀ ex x (capσ own cap σ) H fun σ2 H2=>tf C s₀ H₀ ex σ2 H2 fun b H3 =>
   if b=true then te C s₀ H₀ ex σ2 H3 fun v H4=>N (ys++[v]) H4 else N ys H3)
  (fin:∀ ys H,Pv xs.length ys H→∀ p,H p=none→Q (.ref p) (upd H p (.lst ys))):CompR own cap g tf te σ Q (Itl K a) H1 :=
 comp_any xs.length Pv h0 hn (fun i ys H hi hp=>⟨(hl i ys H hi hp).1,fun h=>⟨xs,_,(hl i ys H hi hp).2,List.getElem?_eq_getElem h⟩,fun e=>⟨xs,(hl i ys H hi hp).2,by omega⟩⟩)
  (fun i ys H N hi hp hN x H' y C s₀ H₀ ex=>by
   obtain ⟨rfl,y⟩:=y
   exact turn i x ys _ N (y _ (hl i ys _ (by omega) hp).2) hp hN C s₀ H₀ ex) fin
end L2
namespace L2
open PySem PySem.Spec PySem.W PyProof.Rows
theorem comp_range {own:List Str} {cap:List Nat} {g:Blk TG} {tf:Blk TT} {te:Blk TE} {σ:St} {Q:VK} {H1:Hp} {lo:Int} {n:Nat} (Pv:Nat→List V→Hp→Prop) (h0:Pv 0 [] H1) (hn:n<sizeLine)
  (hl:∀ i ys H,i≤n→Pv i ys H→ys.length≤i)
  (turn:∀ i ys H (N:List V→Hp→Prop),i<n→Pv i ys H→(∀ ys H,Pv (i+1) ys H→N ys H)→∀ C s₀ H₀ ex,g C s₀ H₀ ex (.int (lo+i)) (capσ own cap σ) H fun σ2 H2=>tf C s₀ H₀ ex σ2 H2 fun b H3 =>
   if b=true then te C s₀ H₀ ex σ2 H3 fun v H4=>N (ys++[v]) H4 else N ys H3)
  (fin:∀ ys H,Pv n ys H→∀ p,H p=none→Q (.ref p) (upd H p (.lst ys))):CompR own cap g tf te σ Q (Itr lo n) H1 :=
 comp_any n Pv h0 hn (fun i ys H hi hp=>⟨hl i ys H hi hp,fun h=>h,fun e=>Nat.le_of_eq e.symm⟩)
  (fun i ys H N hi hp hN x H' y C s₀ H₀ ex=>by
   obtain ⟨rfl,rfl⟩:=y
   exact turn i ys _ N hi hp hN C s₀ H₀ ex) fin
theorem comp_enum {K:PySem.W.Frag} {a:Addr} {xs:List V} {own:List Str} {cap:List Nat} {g:Blk TG} {tf:Blk TT} {te:Blk TE} {σ:St} {Q:VK} {H1:Hp} (Pv:Nat→List V→Hp→Prop) (h0:Pv 0 [] H1) (hn:xs.length<sizeLine)
  (hl:∀ i ys H,i≤xs.length→Pv i ys H→ys.length≤i∧SqL K H a xs)
  (turn:∀ i x ys H (N:List V→Hp→Prop) p,xs[i]? = some x→Pv i ys H→H p=none→(∀ ys H,Pv (i+1) ys H→N ys H)→∀ C s₀ H₀ ex,g C s₀ H₀ ex (.ref p) (capσ own cap σ) (upd H p (.tup [.int i,x])) fun σ2 H2=>tf C s₀ H₀ ex σ2 H2 fun b H3 =>
   if b=true then te C s₀ H₀ ex σ2 H3 fun v H4=>N (ys++[v]) H4 else N ys H3)
  (fin:∀ ys H,Pv xs.length ys H→∀ p,H p=none→Q (.ref p) (upd H p (.lst ys))):CompR own cap g tf te σ Q (Ite K a) H1 :=
 comp_any xs.length Pv h0 hn (fun i ys H hi hp=>⟨(hl i ys H hi hp).1,fun h=>⟨xs,_,(hl i ys H hi hp).2,List.getElem?_eq_getElem h⟩,fun e=>⟨xs,(hl i ys H hi hp).2,by omega⟩⟩)
  (fun i ys H N hi hp hN x H' y C s₀ H₀ ex=>by
   obtain ⟨p,z,rfl,hp0,rfl,y⟩:=y
   exact turn i z ys _ N p (y _ (hl i ys _ (by omega) hp).2) hp hp0 hN C s₀ H₀ ex) fin
end L2
namespace L2
open PySem PySem.Spec PySem.W PyProof.Rows PySem.Calls
theorem boot_zip:bootBuiltins "zip" = some (.type "zip"):=by decide +kernel
def Itz (K:PySem.W.Frag) (a b:Addr):It :=
 ⟨fun i H=>∃ xs ys x y,SqL K H a xs∧SqL K H b ys∧xs[i]? = some x∧ys[i]? = some y,fun i H x H'=>∃ p y z,x=.ref p∧H p=none∧H'=upd H p (.tup [y,z])∧(∀ xs,SqL K H a xs→xs[i]? = some y)∧∀ ys,SqL K H b ys→ys[i]? = some z,
  fun i H=>∃ xs ys,SqL K H a xs∧SqL K H b ys∧(xs.length≤i∨ys.length≤i)⟩
theorem turn_zip {P:Program} {w:World} {K:PySem.W.Frag} {elts:List Expr} {x1} {pos:Pos} {a b z TI TO i1 i2:Addr} (D:ZipApart z TI TO i1 i2 a b):Turn P w K (.Tuple elts x1 pos) (Itz K a b) [z,TI,TO,i1,i2] z
  (fun i h=>IsZip h z TI TO .none∧IsPair h TI (.ref i1) (.ref i2)∧(∃ u v,IsPair h TO u v)∧h.IsListIter i1 a i∧h.IsListIter i2 b i) where
 mem:=by simp
 obj:=fun i h st c hc=>by
  obtain ⟨hz,hTI,⟨u,v,hTO⟩,h1,h2⟩:=st
  simp only [List.mem_cons,List.not_mem_nil,or_false] at hc
  rcases hc with rfl | rfl | rfl | rfl | rfl
  ·exact ⟨_,hz,fun v z=>by
    have z':Data.fields _=Data.cell v:=z
    cases z'⟩
  ·exact ⟨_,hTI,fun v z=>by
    have z':Data.seq _=Data.cell v:=z
    cases z'⟩
  ·exact ⟨_,hTO,fun v z=>by
    have z':Data.seq _=Data.cell v:=z
    cases z'⟩
  ·obtain ⟨o,e,c,d⟩:=h1
   exact ⟨o,e,fun v z=>by rw [d] at z;cases z⟩
  ·obtain ⟨o,e,c,d⟩:=h2
   exact ⟨o,e,fun v z=>by rw [d] at z;cases z⟩
 keep:=fun i h h' st k=>by
  obtain ⟨hz,hTI,⟨u,v,hTO⟩,h1,h2⟩:=st
  exact ⟨k z (by simp) _ hz,k TI (by simp) _ hTI,⟨u,v,k TO (by simp) _ hTO⟩,h1.at fun o q=>k i1 (by simp) o q,h2.at fun o q=>k i2 (by simp) o q⟩
 item:=by
  intro X hP hw hK hc i pins s σ H E I hf st hg
  subst hP hw hK
  obtain ⟨xs,ys,x,y,hqa,hqb,hx,hy⟩:=hg
  obtain ⟨its,rv,p,hz1⟩:=I.list hqa
  obtain ⟨jts,rw',p',hz2⟩:=I.list hqb
  obtain ⟨u,hu,ru⟩:=rv.get hx
  obtain ⟨u',hu',ru'⟩:=rw'.get hy
  obtain ⟨hz,hTI,⟨uo,vo,hTO⟩,h1,h2⟩:=st
  refine wpAny_pyNext_zip_item D hz hTI hTO h1 h2 p.isList p'.isList (x:=u) (y:=u') (by simpa using hu) (by simpa using hu') fun h' hz' hTO' h1' h2' hT hsz hk=>?_
  refine ⟨_,rfl,?_⟩
  refine wpAny_letOwnedTupleGo_zip hz' fun h3 hz3 hs'=>?_
  have lt:∀ {c o},s.heap.get? c=some o→c<s.heap.objs.size:=fun e=>Heap.lt_size e
  have zl:=lt hz
  have l2:=lt hTI
  have l3:=lt hTO
  have l4:i1<s.heap.objs.size:=by obtain ⟨_,e,_⟩:=h1;exact lt e
  have l5:i2<s.heap.objs.size:=by obtain ⟨_,e,_⟩:=h2;exact lt e
  have k2:∀ c o,c∉[z,TI,TO,i1,i2]→s.heap.get? c=some o→h3.get? c=some o:=fun c o hc q=>(hs'.2 c (fun z=>hc (by simp [z]))).trans (hk c o (fun z=>hc (by simp [z])) (fun z=>hc (by simp [z])) (fun z=>hc (by simp [z])) (fun z=>hc (by simp [z])) q)
  have hpair:h3.get? s.heap.objs.size=some { cls:=.type "tuple",data:=.seq #[u,u'] }:=(hs'.2 _ (Nat.ne_of_gt zl)).trans hT
  have hTI3:IsPair h3 TI (.ref i1) (.ref i2):=(hs'.2 _ D.TIz).trans (hk _ _ D.TIz D.TITO D.TIi1 D.TIi2 hTI)
  have I1:Inv X pins σ H { s with heap:=h3,toks:=s.toks }:=I.turns (fp:=[z,TI,TO,i1,i2]) k2 hf
  have I2:Inv X pins σ (upd H s.heap.objs.size (.tup [x,y])) { s with heap:=h3,toks:=s.toks }:=by
   obtain ⟨g0,g1,_,_,g4,g5⟩:=I.fpOk (Nat.le_refl _) (I.hok.fresh (Nat.le_refl _))
   refine I1.track' g0 g1 ?_ g4 g5 (show ObjOk X.prog X.w _ h3 _ (.tup [x,y]) from ⟨by show 2≤sizeLine;decide,[u,u'],.cons ru (.cons ru' .nil),⟨_,hpair,rfl,_,rfl⟩⟩)
   cases hq0:X.s₀.heap.get? s.heap.objs.size with
   | none=>rfl
   | some o=>exact absurd (Nat.lt_of_lt_of_le (Heap.lt_size hq0) I.sz) (Nat.lt_irrefl _)
  refine ⟨.ref s.heap.objs.size,_,I2,rfl,⟨_,x,y,rfl,I.hok.fresh (Nat.le_refl _),rfl,fun ys hy=>by rw [I.list_inj hy hqa];exact hx,fun ys' hy'=>by rw [I.list_inj hy' hqb];exact hy⟩,
   ⟨hz3,hTI3,⟨_,_,(hs'.2 _ D.TOz).trans hTO'⟩,h1'.at fun o q=>(hs'.2 _ D.i1z).trans q,h2'.at fun o q=>(hs'.2 _ D.i2z).trans q⟩,fun c hc=>?_⟩
  have hn:=(hf c hc).1
  simp only [List.mem_cons,List.not_mem_nil,or_false] at hc
  rcases hc with rfl | rfl | rfl | rfl | rfl
  ·rw [upd_ne (Nat.ne_of_lt zl)];exact hn
  ·rw [upd_ne (Nat.ne_of_lt l2)];exact hn
  ·rw [upd_ne (Nat.ne_of_lt l3)];exact hn
  ·rw [upd_ne (Nat.ne_of_lt l4)];exact hn
  ·rw [upd_ne (Nat.ne_of_lt l5)];exact hn
 done:=by
  intro X hP hw hK hc i pins s σ H E I hf st hg
  subst hP hw hK
  obtain ⟨xs,ys,hqa,hqb,hx⟩:=hg
  obtain ⟨its,rv,p,hz1⟩:=I.list hqa
  obtain ⟨jts,rw',p',hz2⟩:=I.list hqb
  obtain ⟨hz,hTI,⟨uo,vo,hTO⟩,h1,h2⟩:=st
  have hl:=rv.length
  have hl':=rw'.length
  exact wpAny_pyNext_zip_end (I.ok.hd hc) D hz hTI hTO h1 h2 p.isList p'.isList (by
   rcases hx with h | h
   ·exact .inl (by simp;omega)
   ·exact .inr (by simp;omega)) fun h' eb=>⟨rfl,I.turns (fp:=[z,TI,TO,i1,i2]) (t':=s.toks) (fun c o hb q=>eb c o (fun z=>hb (by simp [z])) (fun z=>hb (by simp [z])) (fun z=>hb (by simp [z])) (fun z=>hb (by simp [z])) q) hf⟩
 self:=fun _ _ _ _ _ st h=>wpAny_pyIter_zip st.1 h
section
variable {X:Cx}
def iZip (K:PySem.W.Frag) (ta:TA):TI:=fun σ H R=>ta σ H fun vs H1=>∃ a b,vs=[.ref a,.ref b]∧(∃ xs,SqL K H1 a xs)∧(∃ ys,SqL K H1 b ys)∧R (Itz K a b) H1
theorem pi_zip {elts:List Expr} {x1} {pt:Pos} {a b:Expr} {ta:TA} {p pos:Pos} (hg:Gl X "zip") (hm:X.mg "zip" = none) (ha:PA X [a,b] ta) (hs:starEach [a,b] X.env=[(false,eval a X.env),(false,eval b X.env)]:=by rfl) (hs2:starEach [b] X.env=[(false,eval b X.env)]:=by rfl):PI X (.Tuple elts x1 pt) (.Call (.Name "zip" p) [a,b] [] pos) (iZip X.K ta):=by
 intro pins s σ H R I h
 refine Call_ (ld_blt I hg hm boot_zip (PyProof.Rows.callWith_type1 (thn (ha pos pins s σ H _ I h) fun us s1 ⟨vs,H1,I1,r1,q1⟩=>?_) (by rw [hs,hs2]) (by rw [hs2];rfl)))
 obtain ⟨l,m,rfl,⟨xs,hq⟩,⟨ys,hq'⟩,q⟩:=q1
 cases r1 with
 | cons r rr =>
  cases rr with
  | cons r2 rr =>
   cases rr
   cases r
   cases r2
   obtain ⟨its,rv,p,hz⟩:=I1.list hq
   obtain ⟨jts,rw',p',hz'⟩:=I1.list hq'
   have a1:l<s1.heap.objs.size:=by obtain ⟨_,e,_⟩:=p.isList;exact Heap.lt_size e
   have a2:m<s1.heap.objs.size:=by obtain ⟨_,e,_⟩:=p'.isList;exact Heap.lt_size e
   refine call_zip_2 p.isList p'.isList fun h' hz hTI hTO h1 h2 hsz hk=>?_
   refine wpAny_pyIter_zip hz ?_
   have I2:Inv X pins σ H1 { s1 with heap:=h' }:=I1.kept (t':=s1.toks) hk
   refine ⟨s1.heap.objs.size+4,[s1.heap.objs.size+4,s1.heap.objs.size+2,s1.heap.objs.size+3,s1.heap.objs.size,s1.heap.objs.size+1],_,_,H1,rfl,I2,turn_zip (zipApart_new a1 a2),⟨hz,hTI,⟨_,_,hTO⟩,h1,h2⟩,fun c hc=>?_,q⟩
   have:s1.heap.objs.size≤c:=by
    simp only [List.mem_cons,List.not_mem_nil,or_false] at hc
    rcases hc with rfl | rfl | rfl | rfl | rfl <;> first | exact Nat.le_refl _ | exact Nat.le_add_right _ _
   exact I1.fpOk this (I1.hok.fresh this)
end
theorem comp_zip {K:PySem.W.Frag} {a b:Addr} {xs zs:List V} {own:List Str} {cap:List Nat} {g:Blk TG} {tf:Blk TT} {te:Blk TE} {σ:St} {Q:VK} {H1:Hp} (Pv:Nat→List V→Hp→Prop) (h0:Pv 0 [] H1) (hn:xs.length<sizeLine) (he:zs.length=xs.length)
  (hl:∀ i ys H,i≤xs.length→Pv i ys H→ys.length≤i∧SqL K H a xs∧SqL K H b zs)
  (turn:∀ i x z ys H (N:List V→Hp→Prop) p,xs[i]? = some x→zs[i]? = some z→Pv i ys H→H p=none→(∀ ys H,Pv (i+1) ys H→N ys H)→∀ C s₀ H₀ ex,g C s₀ H₀ ex (.ref p) (capσ own cap σ) (upd H p (.tup [x,z])) fun σ2 H2=>tf C s₀ H₀ ex σ2 H2 fun b H3 =>
   if b=true then te C s₀ H₀ ex σ2 H3 fun v H4=>N (ys++[v]) H4 else N ys H3)
  (fin:∀ ys H,Pv xs.length ys H→∀ p,H p=none→Q (.ref p) (upd H p (.lst ys))):CompR own cap g tf te σ Q (Itz K a b) H1 :=
 comp_any xs.length Pv h0 hn (fun i ys H hi hp=>⟨(hl i ys H hi hp).1,fun h=>⟨xs,zs,_,_,(hl i ys H hi hp).2.1,(hl i ys H hi hp).2.2,List.getElem?_eq_getElem h,List.getElem?_eq_getElem (by omega)⟩,fun e=>⟨xs,zs,(hl i ys H hi hp).2.1,(hl i ys H hi hp).2.2,.inl (by omega)⟩⟩)
  (fun i ys H N hi hp hN x H' y C s₀ H₀ ex=>by
   obtain ⟨p,u,v,rfl,hp0,rfl,y,y'⟩:=y
   exact turn i u v ys _ N p (y _ (hl i ys _ (by omega) hp).2.1) (y' _ (hl i ys _ (by omega) hp).2.2) hp hp0 hN C s₀ H₀ ex) fin
theorem for_zip {K:PySem.W.Frag} {a b:Addr} {xs zs:List V} {g:TG} {tb:TS} {D:Ends} {σ:St} {H:Hp} (Pv:Nat→St→Hp→Prop) (h0:Pv 0 σ H) (he:zs.length=xs.length) (hl:∀ i σ H,i≤xs.length→Pv i σ H→SqL K H a xs∧SqL K H b zs)
  (hs:∀ i x z σ H p,xs[i]? = some x→zs[i]? = some z→Pv i σ H→H p=none→g (.ref p) σ (upd H p (.tup [x,z])) fun σ2 H2=>tb { D with nx:=Pv (i+1),ct:=Pv (i+1),bk:=D.nx } σ2 H2) (hd:∀ σ H,Pv xs.length σ H→D.nx σ H) :
  ∃ W:Nat→Nat→St→Hp→Prop,(∃ m,W 0 m σ H)∧∀ i m σ H,W i m σ H →
   ((Itz K a b).stop i H∧D.nx σ H)∨((Itz K a b).go i H∧∃ N:St→Hp→Prop,(∀ σ' H',N σ' H'→∃ m',m' < m∧W (i+1) m' σ' H')∧∀ x H',(Itz K a b).yld i H x H'→g x σ H' fun σ2 H2=>tb { D with nx:=N,ct:=N,bk:=D.nx } σ2 H2):=by
 refine ⟨fun i m σ H=>m=xs.length-i∧i≤xs.length∧Pv i σ H,⟨xs.length,by simp,Nat.zero_le _,h0⟩,?_⟩
 rintro i m σ H ⟨rfl,hi,p⟩
 obtain ⟨q,q'⟩:=hl i σ H hi p
 by_cases hlt:i<xs.length
 ·refine .inr ⟨⟨xs,zs,xs[i],zs[i],q,q',by simp [hlt],by simp [he,hlt]⟩,Pv (i+1),fun σ' H' p'=>⟨xs.length-(i+1),by omega,rfl,hlt,p'⟩,fun x H' y=>?_⟩
  obtain ⟨r,u,v,rfl,hr,rfl,y1,y2⟩:=y
  exact hs i u v σ _ r (y1 xs q) (y2 zs q') p hr
 ·have e:i=xs.length:=by omega
  subst e
  exact .inl ⟨⟨xs,zs,q,q',.inl (Nat.le_refl _)⟩,hd σ H p⟩
section
variable {X:Cx}
theorem vals_int:∀ {zs:List Int} {us:List Value},Vals (zs.map V.int) us→∀ (i:Nat) (v:Value),us[i]? = some v→∃ z t,zs[i]? = some z∧v=.int z t
 | [],_,.nil,i,v,e=>by simp at e
 | b::bs,_,.cons r t,i,v,e=>by
  cases i with
  | zero =>
   simp at e
   subst e
   obtain ⟨t,rfl⟩:=r
   exact ⟨b,t,rfl,rfl⟩
  | succ i=>simpa using vals_int t i v (by simpa using e)
end
end L2
namespace L2
open PySem PySem.Spec PySem.W PyProof.Rows PySem.Calls
section
variable {X:Cx}
theorem call_sumL (hc:X.calm=true):CallR X (.builtin "sum") (fun xs H Q=>∃ (p:Addr) (zs:List Int),xs=[.ref p]∧SqL X.K H p (zs.map V.int)∧Q (.int zs.sum) H):=by
 intro pins s σ H vs us Q I r h
 obtain ⟨p,zs,rfl,sq,q⟩:=h
 cases r with
 | cons r0 rr =>
  cases rr
  cases (show _=Value.ref p from r0)
  obtain ⟨its,rv,pl,_⟩:=I.list sq
  have hl:=pl.isList
  obtain ⟨ol,hol,_⟩:=id hl
  have hlt:p<s.heap.objs.size:=Heap.lt_size hol
  have len:its.length=zs.length:=by have:=rv.length;simpa using this.symm
  have W:=(Walks.list (prog:=X.prog) (w:=X.w) (A:=X.A.in1) (I.ok.hd hc) s.heap.objs.size p (Nat.ne_of_lt hlt) its.toArray).toS
  refine call_sum_walkAnyS (wpAny_pyIter_list hl ⟨s.heap.objs.size,_,_,_,_,_,_,fun i=>zs.getD i 0,rfl,W,⟨⟨_,Heap.get?_push_size _ rfl,rfl,rfl⟩,hl.push _⟩,fun b hb=>?_,fun i v hP=>?_,fun s' t' hm=>?_⟩)
  ·rcases List.mem_cons.mp hb with rfl | hb
   ·exact Heap.lt_size (Heap.get?_push_size _ rfl)
   ·obtain rfl:=List.mem_singleton.mp hb
    exact Heap.lt_size (Heap.get?_push_of_some _ hol)
  ·obtain ⟨z,t,e,rfl⟩:=vals_int rv i v (by simpa using hP)
   exact ⟨t,by show Value.int z t=Value.int (zs.getD i 0) t;rw [List.getD_eq_getElem?_getD,e];rfl⟩
  ·obtain ⟨h',g',d',tk',os'⟩:=s'
   have e1:g'=s.gens:=hm.gens
   have e2:d'=s.drawn:=hm.drawn
   have e3:os'=s.os:=hm.os
   subst e1 e2 e3
   refine ⟨.int zs.sum,H,I.kept (t':=tk') (h':=h') fun b o e=>hm.heap b o (fun hb=>absurd (Heap.lt_size e) ((List.mem_singleton.mp hb)▸Nat.lt_irrefl _)) (Heap.get?_push_of_some _ e),⟨t',?_⟩,q⟩
   rw [List.size_toArray,len,PyProof.Rows.preSum_getD,List.take_length]
theorem op_inT2 (hu:X.A.units+64<cLine):OpR X (compareOp .In) (fun x y H Q=>∃ (r p r1 r2:Addr) (a b c1 d1 c2 d2:Int),x=.ref r∧y=.ref p∧SqT X.K H r [.int a,.int b]∧SqT X.K H p [.ref r1,.ref r2]∧r1≠r2∧SqT X.K H r1 [.int c1,.int d1]∧SqT X.K H r2 [.int c2,.int d2] ∧
  Q (.bl ((decide (a=c1)&&decide (b=d1))||(decide (a=c2)&&decide (b=d2)))) H):=by
 intro pins s σ H x y v u Q I rx ry h
 obtain ⟨r,p,r1,r2,a,b,c1,d1,c2,d2,rfl,rfl,h0,hp,hne,h1,h2,q⟩:=h
 cases rx
 cases ry
 have rd:∀ {r:Addr} {a b:Int},SqT X.K H r [.int a,.int b]→∃ as,Reads s.heap (.ref r) (.tuple [.int a,.int b]) as:=fun h=>Rep.reads I (Rep.tup h (.cons (.int _) (.cons (.int _) .nil))) _ rfl
 have hin:∀ k,k≤63→X.A.in1.units+k<cLine:=fun k hk=>by
  have:X.A.in1.units=X.A.units+1:=rfl
  omega
 obtain ⟨as0,z0⟩:=rd h0
 obtain ⟨as1,z1⟩:=rd h1
 obtain ⟨as2,z2⟩:=rd h2
 obtain ⟨its,rv,pt,_⟩:=I.tuple hp
 cases rv with
 | cons ra rr =>
  cases rr with
  | cons rb rr =>
   cases rr
   cases ra
   cases rb
   let e:Value→Bool:=fun u=>if u=.ref r1 then PyData.eqv (.tuple [.int c1,.int d1]) (.tuple [.int a,.int b]) else PyData.eqv (.tuple [.int c2,.int d2]) (.tuple [.int a,.int b])
   have e1:e (.ref r1)=PyData.eqv (.tuple [.int c1,.int d1]) (.tuple [.int a,.int b]):=if_pos rfl
   have e2:e (.ref r2)=PyData.eqv (.tuple [.int c2,.int d2]) (.tuple [.int a,.int b]):=if_neg fun z=>hne (by injection z with z;exact z.symm)
   refine SeqAt.in_tupleAt e pt (fun w hw=>?_) ⟨.bl _,H,I,rfl,?_⟩
   ·have hw':w=.ref r1∨w=.ref r2:=by simpa using hw
    rcases hw' with rfl | rfl
    ·rw [e1]
     exact SeqAt.eqAt_reads _ _ _ _ _ _ _ _ z1 z0 rfl rfl (hin _ (by show 1+0≤63 ;decide))
    ·rw [e2]
     exact SeqAt.eqAt_reads _ _ _ _ _ _ _ _ z2 z0 rfl rfl (hin _ (by show 1+0≤63 ;decide))
   ·have ev:∀ c d:Int,PyData.eqv (.tuple [.int c,.int d]) (.tuple [.int a,.int b])=(decide (a=c)&&decide (b=d)):=fun c d=>by
     show ((c==a)&&((d==b)&&true))=_
     by_cases x1:a=c
     ·subst x1
      by_cases x2:b=d
      ·subst x2;simp
      ·have x3:¬ d=b:=fun z=>x2 z.symm
       simp [x2,x3]
     ·have x3:¬ c=a:=fun z=>x1 z.symm
      simp [x1,x3]
    have:(#[Value.ref r1,Value.ref r2]:Array Value).any e=((decide (a=c1)&&decide (b=d1))||(decide (a=c2)&&decide (b=d2))):=by
     have:(#[Value.ref r1,Value.ref r2]:Array Value).any e=(e (.ref r1)||e (.ref r2)):=by simp
     rw [this,e1,e2,ev,ev]
    rw [show ([Value.ref r1,Value.ref r2].toArray:Array Value)=#[Value.ref r1,Value.ref r2] from rfl,this]
    exact q
end
end L2
namespace L2
end L2
namespace L2
open PySem PySem.Spec PyProof.Rows
section
variable {X:Cx} {o e:Expr} {es:List Expr} {ta:TE} {t:TA} {m:Str} {C C' f f':Addr} {fd fd':FuncData} {ps ps':List Str} {sp sp':Sp} {k k':Nat} {CX:CXT} {E:XK} {apos pos:Pos}
end
end L2
namespace L2
open PySem PySem.Spec PyProof.Rows
section
variable {X:Cx}
end
end L2
namespace L2
open PySem PySem.Spec PyProof.Rows
section
variable {X:Cx}
end
end L2
namespace L2
open PySem PySem.Spec PyProof.Rows
section
variable {X:Cx}
end
end L2
namespace L2
open PySem PySem.Spec PySem.W PyProof.Rows PySem.Calls PySem.SeqAt
open AutoSeq1 (wpAny_loadPart')
open MeetsSeq MeetsSeq2 MeetsSeq3 SeqRoads2
theorem tuple_leAt (l b:Addr) (x0 x1 y0 y1:Int) (t0 t1 u0 u1:Tok) (n n2:Nat) (dd dd2:Option Addr) (sl sl2:Array (Option Value)) :
  Meets (Builtin.«tuple.__le__» ⟨[.ref l,.ref b],[]⟩)
   (fun A R s=>s.heap.get? l=some { cls:=.type "tuple",dict:=dd,data:=.seq #[.int x0 t0,.int x1 t1] n,slots:=sl }∧s.heap.get? b=some { cls:=.type "tuple",dict:=dd2,data:=.seq #[.int y0 u0,.int y1 u1] n2,slots:=sl2 } ∧
    R (.ok (.ret (.bool (if x0=y0 then decide (x1≤y1) else decide (x0≤y0))))) s) :=
 .of_wp fun prog w A R s h=>by
  obtain ⟨hp,g,d,tk,os⟩:=s;obtain ⟨hl,hb,h⟩:=h
  have f2:=AutoSeq1.sub_tuple_tuple
  have cm:∀ (a c:Int) (t u:Tok) (Q:Value→Shared→Prop) (E:Value→Shared→Prop) (s':Shared),Q (.bool (decide (a≤c))) s'→wpAny (model prog w) A.in1 (richCompare .LtE (.int a t) (.int c u)) Q E s':=fun a c t u Q E s' hq=>PyProof.Rows.le_int hq
  wp_walk using wpAny_loadPart' hl,wpAny_loadPart' hb,wpAny_eqBool_int
  by_cases e:x0=y0
  ·have e1:(!x0==y0)=false:=by simp [e]
   rw [if_pos e] at h
   rw [e1]
   wp_walk using wpAny_eqBool_int
   by_cases e':x1=y1
   ·have e2:(!x1==y1)=false:=by simp [e']
    rw [decide_eq_true (by omega)] at h
    rw [e2]
    wp_walk
    exact ⟨_,rfl,h⟩
   ·have e2:(!x1==y1)=true:=by simp [e']
    rw [e2]
    wp_walk using cm
    exact ⟨_,rfl,h⟩
  ·have e1:(!x0==y0)=true:=by simp [e]
   rw [if_neg e] at h
   rw [e1]
   wp_walk using cm
   exact ⟨_,rfl,h⟩
theorem le_pair {prog:Program} {w:World} {A:Around} {E:Value→Shared→Prop} {s:Shared} {l b:Addr} {x0 x1 y0 y1:Int} {t0 t1 u0 u1:Tok} {Q:Value→Shared→Prop} (hl:s.heap.IsTuple l #[.int x0 t0,.int x1 t1]) (hb:s.heap.IsTuple b #[.int y0 u0,.int y1 u1]) (hu:A.units<cLine)
  (h:Q (.bool (if x0=y0 then decide (x1≤y1) else decide (x0≤y0))) s):wpAny (model prog w) A (compareOp .LtE (.ref l) (.ref b)) Q E s:=by
 obtain ⟨⟨cls,dd,data,sl⟩,ho,hc,n,hd⟩:=id hl
 obtain ⟨⟨cls2,dd2,data2,sl2⟩,ho2,hc2,n2,hd2⟩:=id hb
 simp only at hc hd hc2 hd2
 subst hc hd hc2 hd2
 exact richCompare_meets_room (op:=.LtE) ⟨_,ho,rfl⟩ ⟨_,ho2,rfl⟩ F.slot_tuple_le F.entry_tuple_le (F.args_tuple_le_2 _ _) (tuple_leAt l b x0 x1 y0 y1 t0 t1 u0 u1 n n2 dd dd2 sl sl2) ⟨ho,ho2,⟨(fun z=>nomatch z),h⟩⟩ (by first | exact hu | skip)
section
variable {X:Cx}
def rLeT (K:PySem.W.Frag):R2:=fun x y H Q=>∃ p q a b c d,x=.ref p∧y=.ref q∧SqT K H p [.int a,.int b]∧SqT K H q [.int c,.int d]∧Q (.bl (if a=c then decide (b≤d) else decide (a≤c))) H
theorem two_ints {its:List Value} {a b:Int} (r:Vals [.int a,.int b] its):∃ t u,its=[.int a t,.int b u]:=by
 cases r with
 | cons r0 rr =>
  cases rr with
  | cons r1 rr =>
   cases rr
   obtain ⟨t0,rfl⟩:=r0
   obtain ⟨t1,rfl⟩:=r1
   exact ⟨t0,t1,rfl⟩
theorem op_leT (hu:X.A.units+64<cLine):OpR X (compareOp .LtE) (rLeT X.K):=by
 intro pins s σ H x y v u Q I r1 r2 h
 obtain ⟨p,q,a,b,c,d,rfl,rfl,hp,hq,k⟩:=h
 cases r1
 cases r2
 obtain ⟨its,rv,ht,_⟩:=I.tuple hp
 obtain ⟨its2,rv2,ht2,_⟩:=I.tuple hq
 obtain ⟨t,u,rfl⟩:=two_ints rv
 obtain ⟨t',u',rfl⟩:=two_ints rv2
 exact le_pair ht ht2 (by omega) ⟨.bl _,H,I,rfl,k⟩
end
end L2
namespace L2
open PySem PySem.W PyProof.Rows
def KOk {α:Type} (n:Nat) (lt:Nat→Nat→Bool):KasT α→(α→Prop)→Prop
 | .ret a,R=>R a
 | .ask i j k,R=>i<n∧j<n∧KOk n lt (k (lt i j)) R
theorem KOk.bind {α β:Type} {n:Nat} {lt:Nat→Nat→Bool} {f:α→KasT β} {R:β→Prop}:∀ (t:KasT α),KOk n lt t (fun a=>KOk n lt (f a) R)→KOk n lt (t.bind f) R
 | .ret _,h=>h
 | .ask _ _ k,h=>⟨h.1,h.2.1,KOk.bind (k _) h.2.2⟩
theorem KOk.mono {α:Type} {n:Nat} {lt:Nat→Nat→Bool} {R R':α→Prop} (hr:∀ a,R a→R' a):∀ (t:KasT α),KOk n lt t R→KOk n lt t R'
 | .ret _,h=>hr _ h
 | .ask _ _ k,h=>⟨h.1,h.2.1,KOk.mono hr (k _) h.2.2⟩
theorem KOk.wp {α:Type} {n:Nat} {lt:Nat→Nat→Bool} {R:α→Prop} {cmp:Nat→Nat→(Bool→Shared→Prop)→Shared→Prop} {Q:α→Shared→Prop} {s:Shared} (hc:∀ i j C,i<n→j<n→C (lt i j) s→cmp i j C s) (hq:∀ a,R a→Q a s):∀ (t:KasT α),KOk n lt t R→t.kasWp cmp Q s
 | .ret _,h=>hq _ h
 | .ask _ _ k,h=>hc _ _ _ h.1 h.2.1 (KOk.wp hc hq (k _) h.2.2)
def Pm (n:Nat) (p:Array Nat):Prop:=p.toList.Perm (List.range n)
theorem Pm.size {n:Nat} {p:Array Nat} (h:Pm n p):p.size=n:=by
 have:=h.length_eq
 rwa [Array.length_toList,List.length_range] at this
theorem Pm.of {n:Nat} {p q:Array Nat} (h:Pm n p) (e:q.Perm p):Pm n q:=(Array.perm_iff_toList_perm.mp e).trans h
theorem Pm.get {n:Nat} {p:Array Nat} (h:Pm n p) {k:Nat} (hk:k<n):∃ x,p[k]? = some x∧x<n∧p.getD k 0=x:=by
 have hs:k<p.size:=by rw [h.size];exact hk
 have e:p[k]? = some p[k]:=getElem?_pos p k hs
 refine ⟨p[k],e,?_,by simp [Array.getD,hs]⟩
 exact List.mem_range.mp (h.mem_iff.mp (by simp))
theorem Pm.lt {n:Nat} {p:Array Nat} (h:Pm n p) (k:Nat) (hn:0<n):p.getD k 0<n:=by
 by_cases hk:k<n
 ·obtain ⟨x,_,hx,e⟩:=h.get hk
  rw [e];exact hx
 ·have:p.getD k 0=0:=by simp [Array.getD,h.size,hk]
  omega
section
variable {n:Nat} {c:Nat→Int}
def kx (c:Nat→Int) (p:Array Nat) (k:Nat):Int:=c (p.getD k 0)
def clt (c:Nat→Int) (i j:Nat):Bool:=decide (c i<c j)
theorem kx_eq {p q:Array Nat} {i j:Nat} (h:p[i]? = q[j]?):kx c p i=kx c q j:=by
 unfold kx
 have e:∀ (a:Array Nat) (k:Nat),a.getD k 0=(a[k]?).getD 0:=fun a k=>by
  by_cases hk:k<a.size <;> simp [Array.getD,hk]
 rw [e,e,h]
theorem kx_ne (hc:∀ i j,i<n→j<n→c i=c j→i=j) {p:Array Nat} (h:Pm n p) {i j:Nat} (hi:i<n) (hj:j<n) (hne:i≠j):kx c p i≠kx c p j:=fun e=>by
 obtain ⟨x,e1,hx,e2⟩:=h.get hi
 obtain ⟨y,e3,hy,e4⟩:=h.get hj
 unfold kx at e
 rw [e2,e4] at e
 have exy:=hc _ _ hx hy e
 subst exy
 have nd:p.toList.Nodup:=h.nodup_iff.mpr List.nodup_range
 rw [← Array.getElem?_toList] at e1 e3
 exact hne (by
  have h1:=(List.getElem?_eq_some_iff.mp e1)
  have h2:=(List.getElem?_eq_some_iff.mp e3)
  exact (List.getElem_inj nd).mp (h1.2.trans h2.2.symm))
def Up (c:Nat→Int) (p:Array Nat) (k:Nat):Prop:=∀ i j,i≤j→j<k→kx c p i≤kx c p j
theorem up_step {p:Array Nat} {k:Nat} (h:Up c p k) (h1:k=0∨kx c p (k-1)≤kx c p k):Up c p (k+1):=fun i j hij hj=>by
 by_cases e:j=k
 ·subst e
  by_cases e2:i=j
  ·subst e2;exact Int.le_refl _
  ·have:kx c p i≤kx c p (j-1):=h i (j-1) (by omega) (by omega)
   rcases h1 with z | z
   ·omega
   ·omega
 ·exact h i j hij (by omega)
theorem asc_ok {p:Array Nat} (h:Pm n p) (hn:0<n):∀ (f a:Nat),KOk n (clt c) (kas_asc p f a) (fun m=>a≤m∧m≤a+f∧(∀ k,a≤k→k<m→kx c p (k-1)≤kx c p k)∧(m<a+f→kx c p m<kx c p (m-1)))
 | 0,a=>⟨Nat.le_refl _,Nat.le_refl _,fun k h1 h2=>by omega,fun z=>by omega⟩
 | f+1,a=>by
  refine ⟨h.lt a hn,h.lt (a-1) hn,?_⟩
  by_cases e:kx c p a<kx c p (a-1)
  ·rw [show clt c (p.getD a 0) (p.getD (a-1) 0)=true from decide_eq_true e];dsimp only;rw [if_pos rfl]
   exact ⟨Nat.le_refl _,by omega,fun k h1 h2=>by omega,fun _=>e⟩
  ·rw [show clt c (p.getD a 0) (p.getD (a-1) 0)=false from decide_eq_false e];dsimp only;rw [if_neg Bool.false_ne_true]
   refine KOk.mono ?_ _ (asc_ok h hn f (a+1))
   rintro m ⟨h1,h2,h3,h4⟩
   refine ⟨by omega,by omega,fun k k1 k2=>?_,fun z=>h4 (by omega)⟩
   by_cases ek:k=a
   ·subst ek;omega
   ·exact h3 k (by omega) k2
theorem desc_ok (hc:∀ i j,i<n→j<n→c i=c j→i=j) {p:Array Nat} (h:Pm n p) (hn:0<n):∀ (f a:Nat),1≤a→a+f≤n→KOk n (clt c) (kas_desc f p a 0) (fun r=>r.1=p∧r.2.2=0∧a≤r.2.1∧r.2.1≤a+f∧∀ k,a≤k→k<r.2.1→kx c p k<kx c p (k-1))
 | 0,a,_,_=>⟨rfl,rfl,Nat.le_refl _,Nat.le_refl _,fun k h1 h2=>by simp only at h2;omega⟩
 | f+1,a,h1,h2=>by
  refine ⟨h.lt a hn,h.lt (a-1) hn,?_⟩
  by_cases e:kx c p a<kx c p (a-1)
  ·rw [show clt c (p.getD a 0) (p.getD (a-1) 0)=true from decide_eq_true e];dsimp only;rw [if_pos rfl,if_neg (by omega)]
   refine KOk.mono ?_ _ (desc_ok hc h hn f (a+1) (by omega) (by omega))
   rintro r ⟨r1,r2,r3,r4,r5⟩
   refine ⟨r1,r2,by omega,by omega,fun k k1 k2=>?_⟩
   by_cases ek:k=a
   ·subst ek;exact e
   ·exact r5 k (by omega) k2
  ·rw [show clt c (p.getD a 0) (p.getD (a-1) 0)=false from decide_eq_false e];dsimp only;rw [if_neg Bool.false_ne_true]
   refine ⟨h.lt (a-1) hn,h.lt a hn,?_⟩
   have e2:kx c p (a-1)<kx c p a:=by
    have:=kx_ne hc h (i:=a) (j:=a-1) (by omega) (by omega) (by omega)
    omega
   rw [show clt c (p.getD (a-1) 0) (p.getD a 0)=true from decide_eq_true e2];dsimp only;rw [if_pos rfl]
   exact ⟨rfl,rfl,Nat.le_refl _,by simp only;omega,fun k k1 k2=>by simp only at k2;omega⟩
theorem rev_kx {p:Array Nat} (h:Pm n p) {m k:Nat} (hm:m≤n):kx c (kas_rev p 0 m) k=if k<m then kx c p (m-1-k) else kx c p k:=by
 have e:=getElem?_mirror_all (xs:=p) (i:=0) (j:=m) (by rw [h.size];exact hm) k
 by_cases hk:k<m
 ·rw [if_pos ⟨Nat.zero_le _,hk⟩,Nat.zero_add] at e
  rw [if_pos hk]
  exact kx_eq e
 ·rw [if_neg (fun z=>hk z.2)] at e
  rw [if_neg hk]
  exact kx_eq e
theorem tail3_ok {p:Array Nat} (h:Pm n p) (hn:0<n) {m:Nat} (h1:1≤m) (hm:m≤n) (hd:∀ k,1≤k→k<m→kx c p k<kx c p (k-1)):KOk n (clt c) (kas_tail3 m n p) (fun r=>1≤r.1∧r.1≤n∧Pm n r.2∧Up c r.2 r.1):=by
 have hr:Pm n (kas_rev p 0 m):=h.of (mirror_perm _ _ _ _)
 have up:∀ k,k≤m→Up c (kas_rev p 0 m) k:=by
  intro k
  induction k with
  | zero=>intro _ i j _ hj;omega
  | succ k ih =>
   intro hk
   refine up_step (ih (by omega)) ?_
   by_cases z:k=0
   ·exact .inl z
   ·refine .inr ?_
    rw [rev_kx h hm,rev_kx h hm,if_pos (by omega),if_pos (by omega)]
    have:=hd (m-1-(k-1)) (by omega) (by omega)
    rw [show m-1-(k-1)-1=m-1-k by omega] at this
    omega
 refine KOk.bind _ (KOk.mono ?_ _ (asc_ok hr hn (n-m) m))
 rintro j ⟨j1,j2,j3,_⟩
 refine ⟨by simp only;omega,by simp only;omega,hr,?_⟩
 have:∀ k,m≤k→k≤j→Up c (kas_rev p 0 m) k:=by
  intro k
  induction k with
  | zero=>intro z _;omega
  | succ k ih =>
   intro k1 k2
   by_cases e:m=k+1
   ·rw [← e];exact up m (Nat.le_refl _)
   ·exact up_step (ih (by omega) (by omega)) (.inr (j3 k (by omega) (by omega)))
 exact this j j1 (Nat.le_refl _)
theorem count_ok (hc:∀ i j,i<n→j<n→c i=c j→i=j) {p:Array Nat} (h:Pm n p) (hn:2≤n):KOk n (clt c) (kas_count n p) (fun r=>1≤r.1∧r.1≤n∧Pm n r.2∧Up c r.2 r.1):=by
 refine KOk.bind _ (KOk.mono ?_ _ (asc_ok h (by omega) (n-1) 1))
 rintro m ⟨m1,m2,m3,m4⟩
 have up:∀ k,1≤k→k≤m→Up c p k:=by
  intro k
  induction k with
  | zero=>intro z _;omega
  | succ k ih =>
   intro k1 k2
   by_cases e:k=0
   ·subst e
    intro i j hij hj
    have:i=j:=by omega
    subst this;exact Int.le_refl _
   ·exact up_step (ih (by omega) (by omega)) (.inr (m3 k (by omega) (by omega)))
 by_cases e:m=n
 ·rw [if_pos (by rw [e];exact beq_self_eq_true n)]
  exact ⟨m1,by simp only;omega,h,up m m1 (Nat.le_refl _)⟩
 ·rw [if_neg (by intro z;exact e (by simpa using z))]
  by_cases e1:m>1
  ·rw [if_pos e1]
   refine ⟨h.lt 0 (by omega),h.lt (m-1) (by omega),?_⟩
   have e2:kx c p 0<kx c p (m-1):=by
    have a:=up m m1 (Nat.le_refl _) 0 (m-1) (by omega) (by omega)
    have b:=kx_ne hc h (i:=0) (j:=m-1) (by omega) (by omega) (by omega)
    omega
   rw [show clt c (p.getD 0 0) (p.getD (m-1) 0)=true from decide_eq_true e2];dsimp only;rw [if_pos rfl]
   exact ⟨m1,by simp only;omega,h,up m m1 (Nat.le_refl _)⟩
  ·rw [if_neg e1]
   obtain rfl:m=1:=by omega
   refine KOk.bind _ (KOk.mono ?_ _ (desc_ok hc h (by omega) (n-(1+1)) (1+1) (by omega) (by omega)))
   rintro ⟨p',m',q'⟩ ⟨r1,r2,r3,r4,r5⟩
   simp only at r1 r2 r3 r4 r5
   subst r1 r2
   rw [if_neg (by simp)]
   refine tail3_ok h (by omega) (by simp only;omega) (by simp only;omega) fun k k1 k2=>?_
   by_cases ek:k=1
   ·subst ek;exact m4 (by omega)
   ·exact r5 k (by omega) k2
theorem place_ok {p:Array Nat} (h:Pm n p) (hn:0<n) {k:Nat} (up:Up c p k):∀ (f l r:Nat),l≤r→r≤k→r-l≤f→(∀ i,i<l→kx c p i≤kx c p k)→(∀ i,r≤i→i<k→kx c p k<kx c p i) →
  KOk n (clt c) (kas_place p k f l r) (fun m=>m≤k∧(∀ i,i<m→kx c p i≤kx c p k)∧∀ i,m≤i→i<k→kx c p k<kx c p i)
 | 0,l,r,h1,h2,h3,h4,h5=>⟨by omega,h4,fun i i1 i2=>h5 i (by omega) i2⟩
 | f+1,l,r,h1,h2,h3,h4,h5=>by
  unfold kas_place
  by_cases e:l≥r
  ·rw [if_pos e]
   exact ⟨by omega,h4,fun i i1 i2=>h5 i (by omega) i2⟩
  ·rw [if_neg e]
   refine ⟨h.lt k hn,h.lt _ hn,?_⟩
   by_cases g:kx c p k<kx c p ((l+r)/2)
   ·rw [show clt c (p.getD k 0) (p.getD ((l+r)/2) 0)=true from decide_eq_true g];dsimp only;rw [if_pos rfl]
    exact place_ok h hn up f l _ (by omega) (by omega) (by omega) h4 fun i i1 i2=>Int.lt_of_lt_of_le g (up _ _ i1 i2)
   ·rw [show clt c (p.getD k 0) (p.getD ((l+r)/2) 0)=false from decide_eq_false g];dsimp only;rw [if_neg Bool.false_ne_true]
    exact place_ok h hn up f _ r (by omega) h2 (by omega) (fun i hi=>Int.le_trans (up i ((l+r)/2) (by omega) (by omega)) (Int.not_lt.mp g)) h5
theorem bin_ok (hn:0<n):∀ (f:Nat) (p:Array Nat) (k:Nat),Pm n p→Up c p k→k+f=n→KOk n (clt c) (kas_bin f p k) (fun p'=>Pm n p'∧Up c p' n)
 | 0,p,k,h,up,e=>⟨h,by rw [← e];exact up⟩
 | f+1,p,k,h,up,e=>by
  refine KOk.bind _ (KOk.mono ?_ _ (place_ok h hn up k 0 k (Nat.zero_le _) (Nat.le_refl _) (by omega) (fun i hi=>by omega) fun i i1 i2=>by omega))
  rintro l ⟨l1,l2,l3⟩
  have hp':Pm n (bubble p k (k-l)):=h.of (bubble_perm _ _ _)
  refine bin_ok hn f _ (k+1) hp' ?_ (by omega)
  have eb:∀ i,kx c (bubble p k (k-l)) i=if i=l then kx c p k else if l<i∧i≤k then kx c p (i-1) else kx c p i:=fun i=>by
   have g:=getElem?_bubble (xs:=p) (src:=k) (by rw [h.size];omega) (k-l) (by omega) i
   rw [show k-(k-l)=l by omega] at g
   by_cases z1:i=l
   ·rw [if_pos z1] at g ⊢;exact kx_eq g
   ·rw [if_neg z1] at g ⊢
    by_cases z2:l<i∧i≤k
    ·rw [if_pos z2] at g ⊢;exact kx_eq g
    ·rw [if_neg z2] at g ⊢;exact kx_eq g
  intro i j hij hj
  rw [eb i,eb j]
  by_cases i1:i=l
  ·rw [if_pos i1]
   by_cases j1:j=l
   ·rw [if_pos j1];exact Int.le_refl _
   ·rw [if_neg j1,if_pos ⟨by omega,by omega⟩]
    exact Int.le_of_lt (l3 _ (by omega) (by omega))
  ·rw [if_neg i1]
   by_cases i2:l<i∧i≤k
   ·rw [if_pos i2,if_neg (show ¬ j=l by omega),if_pos ⟨by omega,by omega⟩]
    exact up _ _ (by omega) (by omega)
   ·rw [if_neg i2]
    by_cases j1:j=l
    ·rw [if_pos j1];exact l2 _ (by omega)
    ·rw [if_neg j1]
     by_cases j2:l<j∧j≤k
     ·rw [if_pos j2];exact up _ _ (by omega) (by omega)
     ·rw [if_neg j2];exact up _ _ (by omega) (by omega)
theorem sort_ok (hc:∀ i j,i<n→j<n→c i=c j→i=j) (hn:2≤n):KOk n (clt c) (kas_sort n) (fun p=>Pm n p∧Up c p n):=by
 have h0:Pm n (List.toArray (List.range n)):=by unfold Pm;simp
 refine KOk.bind _ (KOk.mono ?_ _ (count_ok hc h0 hn))
 rintro r ⟨r1,r2,r3,r4⟩
 by_cases e:r.1<n
 ·rw [if_pos e]
  have em:max r.1 1=r.1:=by omega
  rw [em]
  exact bin_ok (by omega) _ _ _ r3 r4 (by omega)
 ·rw [if_neg e]
  have:r.1=n:=by omega
  exact ⟨r3,by rw [← this];exact r4⟩
end
end L2
namespace L2
open PySem PySem.Spec PySem.W PyProof.Rows PySem.Calls
def DRaw (h:Heap) (d:Addr) (es:Array DictEntry) (ep:Nat):Prop:=∃ o,h.get? d=some o∧o.ExactDict∧o.data=.dict es ep
theorem DRaw.on {h h':Heap} {d:Addr} {es:Array DictEntry} {ep:Nat} (x:DRaw h d es ep) (k:∀ o,h.get? d=some o→h'.get? d=some o):DRaw h' d es ep:=let ⟨o,a,b⟩:=x;⟨o,k o a,b⟩
theorem DRaw.ty {s:Shared} {d:Addr} {es:Array DictEntry} {ep:Nat} (x:DRaw s.heap d es ep):s.TypeIs (.ref d) "dict":=let ⟨o,a,b,_⟩:=x;⟨o,a,b.1⟩
theorem DRaw.lt {h:Heap} {d:Addr} {es:Array DictEntry} {ep:Nat} (x:DRaw h d es ep):d<h.objs.size:=let ⟨_,a,_⟩:=x;Heap.lt_size a
section
variable {prog:Program} {w:World} {A:Around} {E:Value→Shared→Prop} {s:Shared} {d it:Addr} {es:Array DictEntry} {ep i:Nat}
theorem draw_iter {Q:Value→Shared→Prop} (nd:(d==sysModules)=false) (x:DRaw s.heap d es ep)
  (q:Q (.ref s.heap.objs.size) { s with heap:=s.heap.push { cls:=.type "dict_keyiterator",data:=.fields #[.ref d,.int 0 0,.int es.size 0,.int ep 0] } }):wpAny (model prog w) A (pyIter (.ref d)) Q E s:=by
 obtain ⟨o,a,b,c⟩:=id x
 refine wpAny_pyIter_slot x.ty F.slot_dict_iter (wpAny_call_entry F.slot_dict_iter x.ty F.entry_dict_iter ?_ (F.args_dict_iter_1 _))
 show wpAny _ _ (Builtin.Dict.dictSlotNone _ _ >>= _) _ _ s
 unfold Builtin.Dict.dictSlotNone
 refine wpAny_bind (wpAny_bind (wpAny_notOrdered_dict x.ty (wpAny_pure ?_)))
 show wpAny _ _ ((do let r ← Builtin.Dict.showsAll d;_):Sem _) _ _ s
 unfold Builtin.Dict.showsAll
 rw [if_neg (show ¬ (d==sysModules)=true by rw [nd];decide)]
 refine wpAny_bind (wpAny_pure (wpAny_bind (wpAny_dictEntries a c (wpAny_bind (wpAny_dictEpoch a c ?_)))))
 exact wpAny_bind (wpAny_newObj_type (wpAny_pure ⟨_,rfl,"dict_keyiterator",_,⟨_,Heap.get?_push_size _ rfl,rfl⟩,F.slot_dict_keyiterator_next.lookup,q⟩))
theorem draw_item {Q:Option Value→Shared→Prop} (k:s.heap.IsKeyIter it d i es.size ep) (x:DRaw s.heap d es ep) (hi:i<es.size)
  (q:∀ h',h'.IsKeyIter it d (i+1) es.size ep→Heap.SameBut it s.heap h'→Q (some es[i].key) { s with heap:=h' }):wpAny (model prog w) A (pyNext (.ref it)) Q E s:=by
 obtain ⟨ok,k1,k2,k3⟩:=id k
 obtain ⟨o,a,_,c⟩:=id x
 have no:Builtin.Dict_items.ownsTuple "dict_keyiterator" = false:=by decide
 unfold pyNext
 refine wpAny_bind (wpAny_attempt (wpAny_callSpecial?_slot (name:=Str.ofString "__next__") k.typeIs F.slot_dict_keyiterator_next (wpAny_call_entry F.slot_dict_keyiterator_next k.typeIs F.entry_dict_keyiterator_next ?_ (F.args_dict_keyiterator_next_1 _))))
 refine wpAny_bind (wpAny_pure (wpAny_bind (wpAny_bind ?_)))
 first | refine wpAny_bind (wpAny_typeNameOfWhole_keyiter k.typeIs (wpAny_pure (wpAny_bind (wpAny_fieldsOf k1 k3 ?_)))) | refine wpAny_bind (wpAny_typeNameOf_keyiter k.typeIs (wpAny_pure (wpAny_bind (wpAny_fieldsOf k1 k3 ?_))))
 simp only [no,Bool.false_eq_true,if_false]
 show wpAny _ _ (if (Value.ref d==Value.none)=true then _ else _) _ _ s
 have nr:¬ ((Value.ref d==Value.none)=true):=fun z=>Bool.noConfusion (show false=true from z)
 rw [if_neg nr]
 refine wpAny_bind (wpAny_pure (wpAny_bind (wpAny_dictEntries a c ?_)))
 rw [if_neg (show ¬ _ by simp)]
 refine wpAny_bind (wpAny_pure (wpAny_bind (wpAny_dictEpoch a c ?_)))
 rw [if_neg (show ¬ _ by simp)]
 refine wpAny_pure ?_
 have nn:¬ ((i:Int)<0):=by omega
 simp only [nn,if_false,Int.toNat_natCast,Array.getElem?_eq_getElem hi]
 refine wpAny_bind ?_
 first | refine wpAny_bind (wpAny_typeNameOfWhole_keyiter k.typeIs (wpAny_pure (wpAny_bind (wpAny_isOneOf_keyiter k.typeIs ?_)))) | refine wpAny_bind (wpAny_typeNameOf_keyiter k.typeIs (wpAny_pure (wpAny_bind (wpAny_isOneOf_keyiter k.typeIs ?_))))
 show wpAny _ _ (setField (.ref it) 1 (rawInt ((i:Int)+1)) >>= _) _ _ s
 refine wpAny_bind (wpAny_setField k1 k3 (by simp) ?_)
 have k':(s.heap.update it (Obj.mapFields (·.setIfInBounds 1 (rawInt ((i:Int)+1))))).IsKeyIter it d (i+1) es.size ep:=⟨_,Heap.get?_update_self _ k1 (Obj.isFreed_of_fields (Obj.data_mapFields k3 _)),(Obj.cls_mapFields ..).trans k2,by rw [Obj.data_mapFields k3];simp [rawInt]⟩
 refine wpAny_bind (wpAny_holding (wpAny_bind (wpAny_isOneOf_keyiter (s:={ s with heap:=s.heap.update it (Obj.mapFields (·.setIfInBounds 1 (rawInt ((i:Int)+1)))) }) k'.typeIs ?_)))
 exact wpAny_pure (wpAny_pure ⟨_,rfl,wpAny_pure (q _ k' (Heap.SameBut.update ..))⟩)
theorem draw_end {Q:Option Value→Shared→Prop} (hh:A.handled=none) (k:s.heap.IsKeyIter it d es.size es.size ep) (x:DRaw s.heap d es ep) (q:∀ h',Heap.ExtBut it s.heap h'→Q none { s with heap:=h' }):wpAny (model prog w) A (pyNext (.ref it)) Q E s:=by
 obtain ⟨ok,k1,k2,k3⟩:=id k
 obtain ⟨o,a,_,c⟩:=id x
 have no:Builtin.Dict_items.ownsTuple "dict_keyiterator" = false:=by decide
 unfold pyNext
 refine wpAny_bind (wpAny_attempt (wpAny_callSpecial?_slot (name:=Str.ofString "__next__") k.typeIs F.slot_dict_keyiterator_next (wpAny_call_entry F.slot_dict_keyiterator_next k.typeIs F.entry_dict_keyiterator_next ?_ (F.args_dict_keyiterator_next_1 _))))
 refine wpAny_bind (wpAny_pure (wpAny_bind (wpAny_bind ?_)))
 first | refine wpAny_bind (wpAny_typeNameOfWhole_keyiter k.typeIs (wpAny_pure (wpAny_bind (wpAny_fieldsOf k1 k3 ?_)))) | refine wpAny_bind (wpAny_typeNameOf_keyiter k.typeIs (wpAny_pure (wpAny_bind (wpAny_fieldsOf k1 k3 ?_))))
 simp only [no,Bool.false_eq_true,if_false]
 show wpAny _ _ (if (Value.ref d==Value.none)=true then _ else _) _ _ s
 have nr:¬ ((Value.ref d==Value.none)=true):=fun z=>Bool.noConfusion (show false=true from z)
 rw [if_neg nr]
 refine wpAny_bind (wpAny_pure (wpAny_bind (wpAny_dictEntries a c ?_)))
 rw [if_neg (show ¬ _ by simp)]
 refine wpAny_bind (wpAny_pure (wpAny_bind (wpAny_dictEpoch a c ?_)))
 rw [if_neg (show ¬ _ by simp)]
 refine wpAny_pure ?_
 have nn:¬ ((es.size:Int)<0):=by omega
 simp only [nn,if_false,Int.toNat_natCast,Array.getElem?_eq_none (Nat.le_refl es.size)]
 refine wpAny_bind ?_
 first | refine wpAny_bind (wpAny_typeNameOfWhole_keyiter k.typeIs (wpAny_pure ?_)) | refine wpAny_bind (wpAny_typeNameOf_keyiter k.typeIs (wpAny_pure ?_))
 show wpAny _ _ (setField (.ref it) 0 .none >>= _) _ _ s
 refine wpAny_bind (wpAny_setField k1 k3 (by simp) ?_)
 show wpAny _ _ (newExc (.type "StopIteration") [] >>= _) _ _ _
 refine wpAny_bind ?_
 simp only [newExc,newTuple]
 refine wpAny_bind (wpAny_newObj_type ?_ (by size_fits))
 refine wpAny_bind (m:=firstArgMember _ _) (wpAny_of_eq (a:=Value.none) (by first | rfl | (simp only [firstArgMember];rfl)) (wpAny_newObj_type ?_ (by size_fits)))
 simp only [raiseNew]
 refine wpAny_bind (wpAny_handled ?_)
 rw [show A.in1.handled=none from hh]
 refine wpAny_bind (wpAny_pure (wpAny_throw ?_))
 refine wpAny_bind (wpAny_isInstance (b:=true) (T:="StopIteration") ⟨_,Heap.get?_push_size _ rfl,rfl⟩ isSubtype_stop ?_)
 exact wpAny_pure (q _ (((Heap.SameBut.update ..).extBut.push _).push _))
theorem draw_walks (hh:A.handled=none) (I d:Addr) (hne:d≠I) (es:Array DictEntry) (ep:Nat) :
  Walks prog w A I [I,d] [I] es.size (fun i v=>∃ e,es[i]? = some e∧v=e.key) (fun i h=>h.IsKeyIter I d i es.size ep∧DRaw h d es ep) where
 sub:=fun b hb=>by simp at hb;simp [hb]
 frame:=fun _ _ _ st k=>⟨st.1.at fun o e=>k I (by simp) o e,st.2.on fun o e=>k d (by simp) o e⟩
 item:=fun i s Q E hi st q=>draw_item st.1 st.2 hi fun h' k' sb=>q es[i].key h' s.toks ⟨_,Array.getElem?_eq_getElem hi,rfl⟩ ⟨k',st.2.on fun o e=>sb.extBut d o hne e⟩ fun b o hb e=>sb.extBut b o (fun z=>hb (by simp [z])) e
 done:=fun s Q E st q=>draw_end hh st.1 st.2 fun h' eb=>q h' s.toks fun b o hb e=>eb b o (fun z=>hb (by simp [z])) e
 self:=fun _ _ _ _ st q=>wpAny_pyIter_keyiter st.1 q
theorem draw_src (nd:(d==sysModules)=false):KdlSrc prog w "dict" d d es.size (fun i v=>∃ e,es[i]? = some e∧v=e.key) (fun h=>DRaw h d es ep) where
 type:=fun _ x=>x.ty
 there:=fun _ x=>⟨x.lt,x.lt⟩
 keep:=fun _ _ x k=>x.on fun o e=>k d (.inl rfl) o e
 notList:=by decide
 notTuple:=by decide
 hint:=fun _ _ _ _ x q=>kdl_hint_dict x.ty q
 iter:=fun _ _ hh x=>⟨_,_,(fun _ _ q=>draw_iter nd x q),draw_walks hh _ d (Nat.ne_of_lt x.lt) es ep,⟨⟨_,Heap.get?_push_size _ rfl,rfl,rfl⟩,x.on fun _ e=>Heap.get?_push_of_some _ e⟩⟩
end
end L2
namespace L2
open PySem PySem.Spec PySem.W PyProof.Rows PySem.Calls
def PairIn (h:Heap) (v:Value) (q:Int×Int):Prop:=∃ b o n t u,v=.ref b∧h.get? b=some o∧o.cls=.type "tuple"∧o.data=.seq #[.int q.1 t,.int q.2 u] n
def pcd (q:Int×Int):Int:=q.1*16+q.2
theorem pcd_lt {q r:Int×Int} (hq:0≤q.2∧q.2<16) (hr:0≤r.2∧r.2<16):(if q.1=r.1 then decide (q.2<r.2) else decide (q.1<r.1))=decide (pcd q<pcd r):=by
 unfold pcd
 by_cases e:q.1=r.1
 ·rw [if_pos e];exact decide_eq_decide.mpr (by omega)
 ·rw [if_neg e];exact decide_eq_decide.mpr (by omega)
theorem pcd_inj {q r:Int×Int} (hq:0≤q.2∧q.2<16) (hr:0≤r.2∧r.2<16) (e:pcd q=pcd r):q=r:=by
 unfold pcd at e
 exact Prod.ext (by omega) (by omega)
section
variable {prog:Program} {w:World} {A:Around} {E:Value→Shared→Prop} {s:Shared}
theorem pair_lt {x y:Value} {q r:Int×Int} {C:Bool→Shared→Prop} (hx:PairIn s.heap x q) (hy:PairIn s.heap y r) (c:C (if q.1=r.1 then decide (q.2<r.2) else decide (q.1<r.1)) s):wpAny (model prog w) A (keyLt' (tuples' true) x y) C E s:=by
 obtain ⟨b,o,n,t,u,rfl,e1,_,e2⟩:=hx
 obtain ⟨b',o',n',t',u',rfl,e1',_,e2'⟩:=hy
 refine kat_lt e1 e2 e1' e2' ?_
 refine kat_cons (wpAny_eqBool_int ?_)
 by_cases e:q.1=r.1
 ·rw [if_pos e] at c
  rw [show (q.1==r.1)=true by simp [e]]
  refine kat_yes (kat_cons (wpAny_eqBool_int ?_))
  by_cases e':q.2=r.2
  ·rw [decide_eq_false (by omega)] at c
   rw [show (q.2==r.2)=true by simp [e']]
   exact kat_yes (kat_nil c)
  ·rw [show (q.2==r.2)=false by simp [e']]
   exact kat_no (kat_one _ _ (lt_int c))
 ·rw [if_neg e] at c
  rw [show (q.1==r.1)=false by simp [e]]
  exact kat_no (oneLt_int c)
def PairsIn (h:Heap) (vs:List Value) (ps:List (Int×Int)):Prop:=Paired (PairIn h) vs ps
theorem PairsIn.tups {h:Heap}:∀ {vs:List Value} {ps:List (Int×Int)},PairsIn h vs ps→∃ fs,KatTups h vs fs∧fs.length=vs.length∧∀ v∈fs,∃ i t,v=Value.int i t
 | _,_,.nil=>⟨[],.nil,rfl,fun v hv=>by cases hv⟩
 | _,_,.cons ⟨b,o,n,t,u,e0,e1,e2,e3⟩ r=>by
  obtain ⟨fs,h1,h2,h3⟩:=PairsIn.tups r
  subst e0
  exact ⟨_::fs,.cons e1 e2 e3 rfl h1,by rw [List.length_cons,List.length_cons,h2],fun v hv=>by
   rcases List.mem_cons.mp hv with e | e
   ·exact ⟨_,_,e⟩
   ·exact h3 v e⟩
theorem Paired.getD {α β:Type} {R:α→β→Prop}:∀ {us:List α} {ps:List β} {i:Nat} {d:α} {d':β},Paired R us ps→i<us.length→R (us.getD i d) (ps.getD i d')
 | _,_,_,_,_,.nil,h=>absurd h (Nat.not_lt_zero _)
 | _,_,0,_,_,.cons a _,_=>a
 | _,_,i+1,_,_,.cons _ b,h=>Paired.getD (i:=i) b (by simpa using h)
theorem sort_pairs {a:Addr} {vs:List Value} {n:Nat} {ps:List (Int×Int)} {P:PySem.Fin→Shared→Prop} (ho:s.heap.get? a=some (seqObj "list" vs.toArray n)) (hv:PairsIn s.heap vs ps) (hb:∀ q∈ps,0≤q.2∧q.2<16) (nd:ps.Nodup) (h64:vs.length<64)
  (k:∀ p:Array Nat,Pm vs.length p→Up (fun i=>pcd (ps.getD i (0,0))) p vs.length→P (.done (.ret .none)) { s with heap:=sortedHeap s.heap a vs (List.toArray (p.toList.map fun i=>vs.getD i Value.none)) }) :
  wpAny (model prog w) A (Builtin.«list.sort» ⟨[.ref a],[]⟩) P E s:=by
 have la:a<s.heap.objs.size:=Heap.lt_size ho
 have hlen:vs.length=ps.length:=Paired.length hv
 rw [list_sort_plain]
 refine wpAny_bind (listItems_at ho rfl (wpAny_bind (listUpdate_at ho rfl ?_)))
 obtain ⟨e1,ho1⟩:∃ e1,(s.heap.update a (Obj.mapSeq fun _=>#[])).get? a=some (seqObj "list" #[] e1):=⟨_,get?_update_seq ho (fun _=>#[])⟩
 refine wpAny_bind (seqEpoch_at ho1 rfl (wpAny_bind (wpAny_newTuple (wpAny_bind (wpAny_newList (wpAny_holding ?_))))))
 have ho6:(((s.heap.update a (Obj.mapSeq fun _=>#[])).push (seqObj "tuple" vs.toArray 0)).push (seqObj "list" #[] 0)).get? a=some (seqObj "list" #[] e1):=Heap.get?_push_of_some _ (Heap.get?_push_of_some _ ho1)
 have stay:∀ b o,b≠a→s.heap.get? b=some o→(((s.heap.update a (Obj.mapSeq fun _=>#[])).push (seqObj "tuple" vs.toArray 0)).push (seqObj "list" #[] 0)).get? b=some o:=fun b o hb e=>Heap.get?_push_of_some _ (Heap.get?_push_of_some _ (by rw [Heap.get?_update_ne _ _ _ _ hb];exact e))
 have hv1:PairsIn (((s.heap.update a (Obj.mapSeq fun _=>#[])).push (seqObj "tuple" vs.toArray 0)).push (seqObj "list" #[] 0)) vs ps:=Paired.mapP hv fun v q x=>by
  obtain ⟨b,o,m,t,u,rfl,y1,y2,y3⟩:=x
  exact ⟨b,o,m,t,u,rfl,stay _ _ (fun z=>by rw [z,ho] at y1;injection y1 with y1;subst y1;exact absurd (show Value.type "list" = Value.type "tuple" from y2) (by decide)) y1,y2,y3⟩
 show wpAny (model prog w) A _ P E { s with heap:=((s.heap.update a (Obj.mapSeq fun _=>#[])).push (seqObj "tuple" vs.toArray 0)).push (seqObj "list" #[] 0) }
 dsimp only
 have hs:vs.toArray.size=vs.length:=by simp
 by_cases h2:vs.toArray.size<2
 ·rw [if_pos h2,if_pos h2]
  refine wpAny_bind (wpAny_pure ?_)
  rw [StateT.run_pure]
  refine wpAny_bind (wpAny_pure ?_)
  dsimp only
  refine wpAny_bind (seqEpoch_at ho6 rfl (wpAny_bind (listUpdate_at ho6 rfl ?_ (hsz2:=by rw [Array.size_map];show (pairsOf vs).size≤_;rw [pairsOf_size,sizeLine_eq];omega))))
  simp only [bne_self_eq_false,Bool.false_eq_true,if_false]
  have pm:Pm vs.length (List.toArray (List.range vs.length)):=by unfold Pm;simp
  have:=k _ pm fun i j hij hj=>by
   have:i=j:=by omega
   subst this;exact Int.le_refl _
  have eo:(List.toArray ((List.toArray (List.range vs.length)).toList.map fun i=>vs.getD i Value.none))=(vs.toArray.zip vs.toArray).map (·.2):=by
   apply Array.toList_inj.mp
   match vs,hs,h2 with
   | [],_,_=>simp
   | [_],_,_=>simp [List.range_succ]
   | _::_::_,hs,h2=>rw [hs] at h2;simp at h2;omega
  rw [eo] at this
  exact wpAny_pure this
 ·rw [if_neg h2,if_neg h2]
  obtain ⟨fs,tk1,tk2,tk3⟩:=hv1.tups
  refine wpAny_bind (kat_kind (T:=.type "int") tk1 (by omega) (fun v hv=>by obtain ⟨i,t,rfl⟩:=tk3 v hv;exact Looks.of_pure rfl) (by decide) ?_)
  rw [show (Value.type "int" != Value.type "tuple")=true by decide]
  have inj:∀ i j,i<vs.length→j<vs.length→pcd (ps.getD i (0,0))=pcd (ps.getD j (0,0))→i=j:=fun i j hi hj e=>by
   have gi:ps.getD i (0,0)=ps[i]'(by omega):=by simp [show i<ps.length by omega]
   have gj:ps.getD j (0,0)=ps[j]'(by omega):=by simp [show j<ps.length by omega]
   rw [gi,gj] at e
   exact (List.getElem_inj nd).mp (pcd_inj (hb _ (List.getElem_mem _)) (hb _ (List.getElem_mem _)) e)
  have run:=sort_ok (c:=fun i=>pcd (ps.getD i (0,0))) inj (by omega)
  refine wpAny_bind (wpAny_mono (kat_run (Q:=fun st' s'=>∃ p:Array Nat,Pm vs.length p∧Up (fun i=>pcd (ps.getD i (0,0))) p vs.length∧(arrOf st').map (·.2)=List.toArray (p.toList.map fun i=>vs.getD i Value.none)∧failedOf st'=none∧s'={ s with heap:=((s.heap.update a (Obj.mapSeq fun _=>#[])).push (seqObj "tuple" vs.toArray 0)).push (seqObj "list" #[] 0) })
   (G:=fun p s'=>Pm vs.length p∧Up (fun i=>pcd (ps.getD i (0,0))) p vs.length∧s'={ s with heap:=((s.heap.update a (Obj.mapSeq fun _=>#[])).push (seqObj "tuple" vs.toArray 0)).push (seqObj "list" #[] 0) }) rfl (by omega) h64
   (fun p st' s' _ har hf ⟨g1,g2,g3⟩=>⟨p,g1,g2,kat_snds rfl har,hf,g3⟩)
   (KOk.wp (lt:=clt fun i=>pcd (ps.getD i (0,0))) (fun i j C hi hj hC=>?_) (fun p ⟨g1,g2⟩=>⟨g1,g2,rfl⟩) _ run)) ?_ fun _ _ e=>e)
  ·have xi:PairIn _ (vs.getD i Value.none) (ps.getD i (0,0)):=Paired.getD hv1 hi
   have xj:PairIn _ (vs.getD j Value.none) (ps.getD j (0,0)):=Paired.getD hv1 hj
   have bi:0≤(ps.getD i (0,0)).2∧(ps.getD i (0,0)).2<16:=hb _ (by rw [show ps.getD i (0,0)=ps[i]'(by omega) by simp [show i<ps.length by omega]];exact List.getElem_mem _)
   have bj:0≤(ps.getD j (0,0)).2∧(ps.getD j (0,0)).2<16:=hb _ (by rw [show ps.getD j (0,0)=ps[j]'(by omega) by simp [show j<ps.length by omega]];exact List.getElem_mem _)
   exact pair_lt xi xj (by rw [pcd_lt bi bj];exact hC)
  ·rintro ⟨⟨⟩,st'⟩ s' ⟨p,g1,g2,g3,g4,rfl⟩
   dsimp only at g3 g4 ⊢
   have hps:p.size=vs.length:=g1.size
   refine wpAny_bind (seqEpoch_at ho6 rfl (wpAny_bind (listUpdate_at ho6 rfl ?_ (hsz2:=by rw [g3,List.size_toArray,List.length_map,Array.length_toList,hps,sizeLine_eq];omega))))
   rw [g4,g3]
   simp only [bne_self_eq_false,Bool.false_eq_true,if_false]
   exact wpAny_pure (k p g1 g2)
end
end L2
namespace L2
open PySem PySem.Spec PySem.W PyProof.Rows PySem.Calls
def PrT (H:Hp) (v:V) (q:Int×Int):Prop:=∃ a,v=.ref a∧H a=some (.tup [.int q.1,.int q.2])
def rSortT:List V→Hp→VK→Prop:=fun xs H Q=>∃ (p:Addr) (ps:List (Int×Int)) (kvs:List (List Key×V)),xs=[.ref p]∧H p=some (.dT kvs)∧kvs.map (·.1)=ps.map (fun q=>[Sum.inl q.1,Sum.inl q.2])∧ps.length<64∧(∀ q∈ps,0≤q.2∧q.2<16) ∧
 ∀ (l:Addr) (as:List V) (ms:List (Int×Int)),H l=none→ms.Perm ps→ms.Pairwise (fun a b=>pcd a<pcd b)→Paired (PrT H) as ms→Q (.ref l) (upd H l (.lst as))
theorem kt_pairs {H:Hp}:∀ {kvs:List (List Key×V)} {xs:List (List Key×Addr×Value)} {ps:List (Int×Int)},KT H kvs xs→kvs.map (·.1)=ps.map (fun q=>[Sum.inl q.1,Sum.inl q.2])→Paired (fun (x:List Key×Addr×Value) (q:Int×Int)=>H x.2.1=some (.tup [.int q.1,.int q.2])∧x.1=[Sum.inl q.1,Sum.inl q.2]) xs ps
 | _,_,[],.nil,_=>.nil
 | _,_,_::_,.nil,e=>by simp at e
 | _,_,[],.cons _ _,e=>by simp at e
 | _,_,q::ps,.cons h t,e=>by
  simp only [List.map_cons,List.cons.injEq] at e
  refine .cons ⟨?_,h.1.symm.trans e.1⟩ (kt_pairs t e.2)
  have:=h.2.1
  rw [e.1] at this
  exact this
theorem keys_of {H:Hp}:∀ {xs:List (List Key×Addr×Value)} {ps:List (Int×Int)},Paired (fun (x:List Key×Addr×Value) (q:Int×Int)=>H x.2.1=some (.tup [.int q.1,.int q.2])∧x.1=[Sum.inl q.1,Sum.inl q.2]) xs ps→xs.map (·.1)=ps.map fun q=>[Sum.inl q.1,Sum.inl q.2]
 | _,_,.nil=>rfl
 | _,_,.cons a b=>by simp only [List.map_cons];rw [a.2,keys_of b]
theorem pairs_in {X:Cx} {pins:List (Addr×Obj)} {σ:St} {H:Hp} {s:Shared} (I:Inv X pins σ H s) (ob:Obj):∀ {xs:List (List Key×Addr×Value)} {ps:List (Int×Int)},Paired (fun (x:List Key×Addr×Value) (q:Int×Int)=>H x.2.1=some (.tup [.int q.1,.int q.2])∧x.1=[Sum.inl q.1,Sum.inl q.2]) xs ps→PairsIn (s.heap.push ob) (xs.map fun x=>Value.ref x.2.1) ps
 | _,_,.nil=>.nil
 | _,_,.cons a b=>by
  refine .cons ?_ (pairs_in I ob b)
  obtain ⟨its,rv,ht,_⟩:=I.tuple (SqT.of (K:=X.K) a.1)
  obtain ⟨t,u,rfl⟩:=two_ints rv
  obtain ⟨o,o1,o2,n,o3⟩:=(show s.heap.IsTuple _ _ from ht)
  exact ⟨_,o,n,t,u,rfl,Heap.get?_push_of_some _ o1,o2,o3⟩
theorem perm_getD {α:Type} {ps:List α} {d:α} {l:List Nat} (h:l.Perm (List.range ps.length)):(l.map fun i=>ps.getD i d).Perm ps:=by
 refine (h.map _).trans (List.Perm.of_eq ?_)
 refine List.ext_getElem? fun i=>?_
 rw [List.getElem?_map]
 by_cases hi:i<ps.length
 ·rw [List.getElem?_range hi];simp [hi]
 ·rw [List.getElem?_eq_none (by rw [List.length_range];omega),List.getElem?_eq_none (by omega)];rfl
theorem call_sortedT {X:Cx} (hc:X.calm=true):CallR X (.builtin "sorted") rSortT:=by
 intro pins s σ H zs us Q I r h
 obtain ⟨p,ps,kvs,rfl,hp,hk,h64,hb,q⟩:=h
 obtain ⟨u,rfl,rx⟩:=vals1 r
 cases rx
 obtain ⟨z,lo,xs,rel,o,es,ep,d1,d2,d3,d4,d5,d6⟩:=dt_of I.hok hp
 have kp:=kt_pairs rel hk
 have hxl:xs.length=ps.length:=Paired.length kp
 have hel:es.size=ps.length:=by rw [← Array.length_toList,d4,List.length_map,hxl]
 have nd:ps.Nodup:=by
  rw [keys_of kp] at d6
  exact List.Pairwise.of_map _ (fun a b hab e=>hab (by rw [e])) d6
 refine call_function_entry kind_sorted plain_sorted entry_sorted (args_sorted1 _) ?_
 unfold Builtin.«sorted»
 refine wpAny_bind (m:=checkCount "sorted" 1 1 _) (wpAny_pure (wpAny_bind (kdu_collect (A:=X.A.in1) (draw_src (es:=es) (ep:=ep) lo) (I.ok.hd hc) ⟨o,d1,d2,d3⟩ (by rw [hel,sizeLine_eq];omega) fun h' tk acc hk' hacc=>?_)))
 have hal:acc.toList.length=ps.length:=by rw [Array.length_toList,hacc.1,hel]
 refine wpAny_bind (wpAny_newList ?_ (by rw [hal,sizeLine_eq];omega))
 have I1:Inv X pins σ H { s with heap:=h',toks:=tk }:=I.kept (t':=tk) hk'
 have eacc:acc.toList=xs.map fun x=>Value.ref x.2.1:=by
  refine List.ext_getElem? fun j=>?_
  by_cases hj:j<ps.length
  ·have e0:acc.toList[j]? = some (acc.toList[j]'(by omega)):=List.getElem?_eq_getElem (by omega)
   obtain ⟨e,he,hv⟩:=hacc.2 j _ (by rw [← Array.getElem?_toList];exact e0)
   rw [e0,List.getElem?_map]
   rw [← Array.getElem?_toList,d4,List.getElem?_map] at he
   cases hx:xs[j]? with
   | none=>rw [hx] at he;cases he
   | some x =>
    rw [hx] at he
    cases he
    rw [hv]
    rfl
  ·rw [List.getElem?_eq_none (by omega),List.getElem?_eq_none (by rw [List.length_map];omega)]
 have pin:PairsIn (h'.push (seqObj "list" acc.toList.toArray 0)) acc.toList ps:=by
  rw [eacc]
  exact pairs_in I1 _ kp
 have hoL:(h'.push (seqObj "list" acc.toList.toArray 0)).get? h'.objs.size=some (seqObj "list" acc.toList.toArray 0):=Heap.get?_push_size _ rfl
 have gx:∀ i,i<ps.length→H (xs.getD i ([],0,.none)).2.1=some (.tup [.int (ps.getD i (0,0)).1,.int (ps.getD i (0,0)).2]):=fun i hi=>(Paired.getD (d:=([],0,.none)) (d':=((0:Int),(0:Int))) kp (by omega)).1
 have gv:∀ i,i<ps.length→acc.toList.getD i Value.none=Value.ref (xs.getD i ([],0,.none)).2.1:=fun i hi=>by
  rw [eacc]
  simp [List.getD_eq_getElem?_getD,List.getElem?_map,List.getElem?_eq_getElem (show i<xs.length by omega)]
 refine wpAny_bind (wpAny_holding (wpAny_call_entry slot_list_sort ⟨_,hoL,rfl⟩ entry_list_sort (sort_pairs (s:={ s with heap:=h'.push (seqObj "list" acc.toList.toArray 0),toks:=tk }) hoL pin hb nd (by omega) fun pp pm up=>⟨_,rfl,?_⟩) (args_list_sort _)))
 rw [hal] at pm up
 have hpp:∀ i∈pp.toList,i<ps.length:=fun i hi=>List.mem_range.mp (pm.mem_iff.mp hi)
 have hpl:pp.toList.length=ps.length:=by rw [Array.length_toList,pm.size]
 obtain ⟨e,he⟩:=sortedHeap_at (out:=List.toArray (pp.toList.map fun i=>acc.toList.getD i Value.none)) hoL
 refine wpAny_pure ⟨_,rfl,?_⟩
 have vals:Vals (pp.toList.map fun i=>V.ref (xs.getD i ([],0,.none)).2.1) (pp.toList.map fun i=>acc.toList.getD i Value.none):=by
  have key:∀ l:List Nat,(∀ i∈l,i<ps.length)→Vals (l.map fun i=>V.ref (xs.getD i ([],0,.none)).2.1) (l.map fun i=>acc.toList.getD i Value.none):=by
   intro l
   induction l with
   | nil=>intro _;exact .nil
   | cons a l ih=>intro h;exact .cons (gv a (h a (by simp))) (ih fun i hi=>h i (by simp [hi]))
  exact key _ hpp
 have prt:Paired (PrT H) (pp.toList.map fun i=>V.ref (xs.getD i ([],0,.none)).2.1) (pp.toList.map fun i=>ps.getD i (0,0)):=by
  have key:∀ l:List Nat,(∀ i∈l,i<ps.length)→Paired (PrT H) (l.map fun i=>V.ref (xs.getD i ([],0,.none)).2.1) (l.map fun i=>ps.getD i (0,0)):=by
   intro l
   induction l with
   | nil=>intro _;exact .nil
   | cons a l ih=>intro h;exact .cons ⟨_,rfl,gx a (h a (by simp))⟩ (ih fun i hi=>h i (by simp [hi]))
  exact key _ hpp
 have inj:∀ i j,i<ps.length→j<ps.length→pcd (ps.getD i (0,0))=pcd (ps.getD j (0,0))→i=j:=fun i j hi hj e=>by
  have gi:ps.getD i (0,0)=ps[i]:=by simp [hi]
  have gj:ps.getD j (0,0)=ps[j]:=by simp [hj]
  rw [gi,gj] at e
  exact (List.getElem_inj nd).mp (pcd_inj (hb _ (List.getElem_mem _)) (hb _ (List.getElem_mem _)) e)
 have pw:(pp.toList.map fun i=>ps.getD i (0,0)).Pairwise (fun a b=>pcd a<pcd b):=by
  rw [List.pairwise_iff_getElem]
  intro i j hi hj hij
  rw [List.length_map] at hi hj
  rw [List.getElem_map,List.getElem_map]
  have g:∀ k (hk:k<pp.toList.length),pp.toList[k]=pp.getD k 0:=fun k hk=>by
   have:k<pp.size:=by rwa [Array.length_toList] at hk
   simp [Array.getD,this]
  have a1:=up i j (by omega) (by omega)
  have a2:=kx_ne (c:=fun i=>pcd (ps.getD i (0,0))) inj pm (i:=i) (j:=j) (by omega) (by omega) (by omega)
  unfold kx at a1 a2
  rw [g i hi,g j hj]
  show pcd (ps.getD (pp.getD i 0) (0,0))<pcd (ps.getD (pp.getD j 0) (0,0))
  simp only at a1 a2
  omega
 refine ⟨.ref h'.objs.size,_,I1.laid (t':=tk) (fun b o hb=>?_) (Nat.le_refl _)
  (show ObjOk X.prog X.w _ _ _ (.lst _) from ⟨by rw [List.length_map,hpl];exact Nat.le_of_lt (small1000 (by omega)),_,e,vals,he⟩),rfl,q _ _ _ (I1.hok.fresh (Nat.le_refl _)) (perm_getD pm) pw prt⟩
 have h1:h'.get? b=some o:=hb
 have hlt:=Heap.lt_size h1
 rw [sortedHeap_old (Nat.ne_of_lt hlt) (by rw [size_push'];exact Nat.lt_succ_of_lt hlt)]
 exact Heap.get?_push_of_some _ h1
end L2
namespace My
theorem gcd_turn (x y:Int) (hx:0≤x) (hy:0<y):Nat.gcd y.natAbs (x % y).natAbs=Nat.gcd x.natAbs y.natAbs:=by
 obtain ⟨m,rfl⟩:=Int.eq_ofNat_of_zero_le hx
 obtain ⟨n,rfl⟩:=Int.eq_ofNat_of_zero_le (Int.le_of_lt hy)
 have e:((m:Int) % (n:Int))=((m % n:Nat):Int):=(Int.natCast_emod m n).symm
 rw [e]
 simp only [Int.natAbs_natCast]
 rw [Nat.gcd_comm n,← Nat.gcd_rec,Nat.gcd_comm]
theorem gcd_pos (a b:Int) (hb:b≠0):0<Int.gcd a b:=Int.gcd_pos_of_ne_zero_right a hb
def dv (a b:Int):Int:=if b<0 then -(Int.gcd a b:Int) else (Int.gcd a b:Int)
theorem dv_ne (a b:Int) (hb:b≠0):dv a b≠0:=by
 have:=gcd_pos a b hb
 unfold dv
 split <;> omega
theorem dv_abs (a b:Int):(dv a b).natAbs=Int.gcd a b:=by
 unfold dv
 split <;> simp
theorem fdiv_exact {a d:Int} (h:d∣a):a.fdiv d=a/d:=by
 rw [Int.fdiv_eq_ediv_of_dvd h]
theorem made_num (a b:Int) (hb:b≠0):a.fdiv (dv a b)=(Rat.divInt a b).num:=by
 have hg:(Int.gcd a b:Int)∣a:=Int.gcd_dvd_left a b
 have g0:=gcd_pos a b hb
 rw [Rat.num_divInt,Int.gcd_comm b a]
 unfold dv
 by_cases h:b<0
 ·rw [if_pos h,Int.sign_eq_neg_one_of_neg h,fdiv_exact (Int.neg_dvd.mpr hg),Int.ediv_neg,Int.neg_one_mul,Int.neg_ediv_of_dvd hg]
 ·rw [if_neg h,Int.sign_eq_one_of_pos (by omega),fdiv_exact hg,Int.one_mul]
theorem made_den (a b:Int) (hb:b≠0):b.fdiv (dv a b)=((Rat.divInt a b).den:Int):=by
 have hg:(Int.gcd a b:Int)∣b:=Int.gcd_dvd_right a b
 have g0:=gcd_pos a b hb
 rw [Rat.den_divInt,if_neg hb,Int.gcd_comm b a]
 unfold dv
 rw [Int.natCast_ediv]
 by_cases h:b<0
 ·rw [if_pos h,fdiv_exact (Int.neg_dvd.mpr hg),Int.ediv_neg]
  rw [← Int.neg_ediv_of_dvd hg]
  congr 1
  omega
 ·rw [if_neg h,fdiv_exact hg]
  congr 1
  omega
theorem num_le (a b:Int) (hb:b≠0):(Rat.divInt a b).num.natAbs≤a.natAbs:=by
 rw [← made_num a b hb]
 have hg:dv a b∣a:=by
  have h:=Int.gcd_dvd_left a b
  unfold dv
  split
  ·exact Int.neg_dvd.mpr h
  ·exact h
 rw [fdiv_exact hg,Int.natAbs_ediv_of_dvd hg]
 exact Nat.div_le_self _ _
theorem den_le (a b:Int) (hb:b≠0):(Rat.divInt a b).den≤b.natAbs:=by
 have e:=made_den a b hb
 have hg:dv a b∣b:=by
  have h:=Int.gcd_dvd_right a b
  unfold dv
  split
  ·exact Int.neg_dvd.mpr h
  ·exact h
 have:((Rat.divInt a b).den:Int).natAbs≤b.natAbs:=by
  rw [← e,fdiv_exact hg,Int.natAbs_ediv_of_dvd hg]
  exact Nat.div_le_self _ _
 simpa using this
theorem add_div (a b c d:Int) (hb:b≠0) (hd:d≠0):Rat.divInt a b+Rat.divInt c d=Rat.divInt (a*d+c*b) (b*d):=Rat.divInt_add_divInt _ _ hb hd
theorem mul_div (a b c d:Int):Rat.divInt a b*Rat.divInt c d=Rat.divInt (a*c) (b*d):=Rat.divInt_mul_divInt _ _ ..
theorem div_div (a b c d:Int):Rat.divInt a b/Rat.divInt c d=Rat.divInt (a*d) (b*c):=by
 rw [Rat.div_def,Rat.inv_divInt,mul_div]
theorem same (q:Rat):Rat.divInt q.num q.den=q:=Rat.num_divInt_den q
end My
namespace Mp
structure Pipe where
 u:Int
 w:Int
 a:Int
 b:Int
def Adj (ps:List Pipe) (x y:Int):Prop:=∃ p∈ps,(p.u=x∧p.w=y)∨(p.w=x∧p.u=y)
inductive Reach (ps:List Pipe) (s:Int):Int→Prop
 | refl:Reach ps s s
 | step {x y:Int}:Reach ps s x→Adj ps x y→Reach ps s y
def PartOf (ps:List Pipe) (s:Int) (ms:List Int):Prop:=ms.Pairwise (· < ·)∧∀ x,x∈ms↔Reach ps s x
theorem rising_eq:∀ {a b:List Int},a.Pairwise (· < ·)→b.Pairwise (· < ·)→(∀ x,x∈a↔x∈b)→a=b
 | [],[],_,_,_=>rfl
 | [],y::_,_,_,h=>by have:=(h y).mpr (by simp);simp at this
 | x::_,[],_,_,h=>by have:=(h x).mp (by simp);simp at this
 | x::a,y::b,pa,pb,h=>by
  obtain ⟨xa,pa'⟩:=List.pairwise_cons.mp pa
  obtain ⟨yb,pb'⟩:=List.pairwise_cons.mp pb
  have e:x=y:=by
   have h1:=(h x).mp (by simp)
   have h2:=(h y).mpr (by simp)
   rcases List.mem_cons.mp h1 with z | z
   ·exact z
   ·rcases List.mem_cons.mp h2 with z' | z'
    ·exact z'.symm
    ·have:=yb x z;have:=xa y z';omega
  subst e
  have e2:a=b:=rising_eq pa' pb' fun z=>by
   constructor
   ·intro hz
    have:=(h z).mp (by simp [hz])
    rcases List.mem_cons.mp this with q | q
    ·have:=xa z hz;omega
    ·exact q
   ·intro hz
    have:=(h z).mpr (by simp [hz])
    rcases List.mem_cons.mp this with q | q
    ·have:=yb z hz;omega
    ·exact q
  rw [e2]
theorem rising_of {l:List Int} (h:l.Pairwise (·≤·)) (nd:l.Nodup):l.Pairwise (· < ·):=by
 induction l with
 | nil=>exact .nil
 | cons x l ih =>
  obtain ⟨h1,h2⟩:=List.pairwise_cons.mp h
  obtain ⟨n1,n2⟩:=List.nodup_cons.mp nd
  refine List.pairwise_cons.mpr ⟨fun y hy=>?_,ih h2 n2⟩
  have:=h1 y hy
  have:x≠y:=fun e=>n1 (e▸hy)
  omega
theorem closed_reach {ps:List Pipe} {s:Int} {S:List Int} (hs:s∈S) (hr:∀ x∈S,Reach ps s x) (hc:∀ x∈S,∀ y,Adj ps x y→y∈S):∀ x,x∈S↔Reach ps s x:=fun x=>⟨hr x,fun h=>by
 induction h with
 | refl=>exact hs
 | step _ a ih=>exact hc _ ih _ a⟩
theorem partOf_sorted {ps:List Pipe} {s:Int} {S ms:List Int} (nd:S.Nodup) (h:∀ x,x∈S↔Reach ps s x) (p:ms.Perm S) (o:ms.Pairwise (·≤·)):PartOf ps s ms :=
 ⟨rising_of o (p.nodup_iff.mpr nd),fun x=>(p.mem_iff).trans (h x)⟩
theorem few:∀ (n:Nat) (l:List Int),l.Nodup→(∀ x∈l,0≤x∧x<n)→l.length≤n
 | 0,l,_,h=>by
  cases l with
  | nil=>exact Nat.le_refl _
  | cons x l=>have:=h x (by simp);omega
 | n+1,l,nd,h=>by
  by_cases hm:(n:Int)∈l
  ·have h1:=few n (l.erase (n:Int)) (nd.erase _) fun x hx=>by
    have h2:=(nd.mem_erase_iff).mp hx
    have h3:=h x h2.2
    have:=h2.1
    omega
   rw [List.length_erase_of_mem hm] at h1
   omega
  ·have h1:=few n l nd fun x hx=>by
    have h3:=h x hx
    have:x≠n:=fun e=>hm (e▸hx)
    omega
   omega
def Fits (n:Int) (ps:List Pipe):Prop:=∀ p∈ps,(0≤p.u∧p.u<n)∧(0≤p.w∧p.w<n)
theorem Adj.fits {n:Int} {ps:List Pipe} (f:Fits n ps) {x y:Int} (h:Adj ps x y):0≤y∧y<n:=by
 obtain ⟨p,hp,q⟩:=h
 have:=f p hp
 rcases q with ⟨_,rfl⟩ | ⟨_,rfl⟩
 ·exact this.2
 ·exact this.1
theorem Adj.symm {ps:List Pipe} {x y:Int} (h:Adj ps x y):Adj ps y x:=by
 obtain ⟨p,hp,q⟩:=h
 rcases q with ⟨a,b⟩ | ⟨a,b⟩
 ·exact ⟨p,hp,.inr ⟨b,a⟩⟩
 ·exact ⟨p,hp,.inl ⟨b,a⟩⟩
theorem Reach.trans {ps:List Pipe} {x y z:Int} (h:Reach ps x y) (k:Reach ps y z):Reach ps x z:=by
 induction k with
 | refl=>exact h
 | step _ a ih=>exact .step ih a
theorem Reach.symm {ps:List Pipe} {x y:Int} (h:Reach ps x y):Reach ps y x:=by
 induction h with
 | refl=>exact .refl
 | step _ a ih=>exact Reach.trans (.step .refl a.symm) ih
theorem Reach.fits {n:Int} {ps:List Pipe} (f:Fits n ps) {s x:Int} (hs:0≤s∧s<n) (h:Reach ps s x):0≤x∧x<n:=by
 cases h with
 | refl=>exact hs
 | step _ a=>exact a.fits f
structure Good (n:Int) (ps:List Pipe) (s:Int) (S:List Int):Prop where
 has:s∈S
 nd:S.Nodup
 rch:∀ x∈S,Reach ps s x
 fit:∀ x∈S,0≤x∧x<n
end Mp
namespace Mp
def nb (ps:List Pipe) (x:Int):List Int:=(ps.filter fun p=>decide (p.u=x)).map (·.w)++(ps.filter fun p=>decide (p.w=x)).map (·.u)
theorem mem_nb {ps:List Pipe} {x y:Int}:y∈nb ps x↔Adj ps x y:=by
 unfold nb Adj
 simp only [List.mem_append,List.mem_map,List.mem_filter,decide_eq_true_eq]
 constructor
 ·rintro (⟨p,⟨h1,h2⟩,h3⟩ | ⟨p,⟨h1,h2⟩,h3⟩)
  ·exact ⟨p,h1,.inl ⟨h2,h3⟩⟩
  ·exact ⟨p,h1,.inr ⟨h2,h3⟩⟩
 ·rintro ⟨p,h1,⟨h2,h3⟩ | ⟨h2,h3⟩⟩
  ·exact .inl ⟨p,⟨h1,h2⟩,h3⟩
  ·exact .inr ⟨p,⟨h1,h2⟩,h3⟩
theorem nb_len (ps:List Pipe) (x:Int):(nb ps x).length≤2*ps.length:=by
 unfold nb
 rw [List.length_append,List.length_map,List.length_map]
 have h1:=List.length_filter_le (fun p:Pipe=>decide (p.u=x)) ps
 have h2:=List.length_filter_le (fun p:Pipe=>decide (p.w=x)) ps
 omega
structure Walk (n:Int) (ps:List Pipe) (s:Int) (R W:List Int):Prop where
 good:Good n ps s R
 sub:∀ x∈W,x∈R
 don:∀ x∈R,x∉W→∀ y,Adj ps x y→y∈R
theorem Walk.start {n:Int} {ps:List Pipe} {s:Int} (h:0≤s∧s<n):Walk n ps s [s] [s] :=
 ⟨⟨by simp,by simp,fun x hx=>by rw [List.mem_singleton.mp hx];exact .refl,fun x hx=>by rw [List.mem_singleton.mp hx];exact h⟩,fun _ h=>h,fun _ h k=>absurd h k⟩
theorem Walk.stop {n:Int} {ps:List Pipe} {s:Int} {R:List Int} (h:Walk n ps s R []):∀ x,x∈R↔Reach ps s x:=closed_reach h.good.has h.good.rch fun x hx=>h.don x hx (by simp)
structure Turn (n:Int) (ps:List Pipe) (s:Int) (z:Int) (i:Nat) (R W:List Int):Prop where
 good:Good n ps s R
 sub:∀ x∈W,x∈R
 inn:z∈R
 don:∀ x∈R,x∉W→x=z∨∀ y,Adj ps x y→y∈R
 saw:∀ j,j<i→∀ y,(nb ps z)[j]? = some y→y∈R
theorem Walk.pop {n:Int} {ps:List Pipe} {s z:Int} {R W:List Int} (h:Walk n ps s R (W++[z])):Turn n ps s z 0 R W :=
 ⟨h.good,fun x hx=>h.sub x (by simp [hx]),h.sub z (by simp),fun x hx hw=>by
  by_cases e:x=z
  ·exact .inl e
  ·exact .inr (h.don x hx (by simp [hw,e])),fun _ h=>absurd h (Nat.not_lt_zero _)⟩
theorem Turn.old {n:Int} {ps:List Pipe} {s z:Int} {i:Nat} {R W:List Int} {y:Int} (h:Turn n ps s z i R W) (hy:(nb ps z)[i]? = some y) (hin:y∈R):Turn n ps s z (i+1) R W :=
 ⟨h.good,h.sub,h.inn,h.don,fun j hj y' hy'=>by
  by_cases e:j=i
  ·subst e;rw [hy] at hy';cases hy';exact hin
  ·exact h.saw j (by omega) y' hy'⟩
theorem Turn.new {n:Int} {ps:List Pipe} {s z:Int} {i:Nat} {R W:List Int} {y:Int} (f:Fits n ps) (h:Turn n ps s z i R W) (hy:(nb ps z)[i]? = some y) (hout:y∉R):Turn n ps s z (i+1) (R++[y]) (W++[y]):=by
 have a:Adj ps z y:=mem_nb.mp (List.mem_of_getElem? hy)
 refine ⟨⟨by simp [h.good.has],List.nodup_append.mpr ⟨h.good.nd,by simp,fun x hx y' hy' e=>hout (by simp at hy';rw [← hy',← e];exact hx)⟩,fun x hx=>?_,fun x hx=>?_⟩,fun x hx=>?_,by simp [h.inn],fun x hx hw=>?_,fun j hj y' hy'=>?_⟩
 ·rcases List.mem_append.mp hx with q | q
  ·exact h.good.rch x q
  ·rw [List.mem_singleton.mp q];exact .step (h.good.rch z h.inn) a
 ·rcases List.mem_append.mp hx with q | q
  ·exact h.good.fit x q
  ·rw [List.mem_singleton.mp q];exact a.fits f
 ·rcases List.mem_append.mp hx with q | q
  ·exact List.mem_append.mpr (.inl (h.sub x q))
  ·exact List.mem_append.mpr (.inr q)
 ·have hw':x∉W:=fun q=>hw (List.mem_append.mpr (.inl q))
  rcases List.mem_append.mp hx with q | q
  ·rcases h.don x q hw' with e | e
   ·exact .inl e
   ·exact .inr fun y' ha=>List.mem_append.mpr (.inl (e y' ha))
  ·exact absurd (List.mem_append.mpr (.inr q)) hw
 ·by_cases e:j=i
  ·subst e;rw [hy] at hy';cases hy';simp
  ·exact List.mem_append.mpr (.inl (h.saw j (by omega) y' hy'))
theorem Turn.stop {n:Int} {ps:List Pipe} {s z:Int} {R W:List Int} (h:Turn n ps s z (nb ps z).length R W):Walk n ps s R W :=
 ⟨h.good,h.sub,fun x hx hw y ha=>by
  rcases h.don x hx hw with e | e
  ·subst e
   obtain ⟨j,hj⟩:=List.mem_iff_getElem?.mp (mem_nb.mpr ha)
   exact h.saw j (List.getElem?_eq_some_iff.mp hj).1 y hj
  ·exact e y ha⟩
theorem Good.len {n:Nat} {ps:List Pipe} {s:Int} {S:List Int} (g:Good n ps s S):S.length≤n:=few n S g.nd g.fit
end Mp
namespace Mp
end Mp
namespace Bz
abbrev Vec:=Nat→Rat
def ex (F:List Vec→Rat) (k:Nat):List Vec→List Vec→Rat
 | _,[]=>0
 | pre,v::vs=>v k*F (pre++vs)-ex F k (pre++[v]) vs
def D0:List Vec→Rat
 | []=>1
 | _::_=>0
def D:Nat→List Vec→Rat
 | 0,vs=>D0 vs
 | k+1,vs=>ex (D k) k [] vs
theorem D0_mid (xs:List Vec) (a:Vec) (ys:List Vec):D0 (xs++a::ys)=0:=by cases xs <;> rfl
def lc (s:Rat) (a b:Vec):Vec:=fun r=>s*a r+b r
theorem ex_pre_swap {F:List Vec→Rat} {k:Nat} (hF:∀ xs a b ys,F (xs++a::b::ys) = - F (xs++b::a::ys)) (a b:Vec):∀ (ys pre post:List Vec),ex F k (pre++a::b::post) ys = - ex F k (pre++b::a::post) ys
 | [],_,_=>by simp [ex]
 | y::ys,pre,post=>by
  have h1:=hF pre a b (post++ys)
  have h2:=ex_pre_swap (k:=k) hF a b ys pre (post++[y])
  simp only [ex,List.append_assoc,List.cons_append] at h1 h2 ⊢
  rw [h1,h2]
  grind
theorem ex_swap {F:List Vec→Rat} {k:Nat} (hF:∀ xs a b ys,F (xs++a::b::ys) = - F (xs++b::a::ys)) (a b:Vec) (ys:List Vec):∀ (xs pre:List Vec),ex F k pre (xs++a::b::ys) = - ex F k pre (xs++b::a::ys)
 | [],pre=>by
  have h2:=ex_pre_swap (k:=k) hF a b ys pre []
  simp only [ex,List.nil_append,List.append_assoc,List.cons_append] at h2 ⊢
  rw [h2]
  grind
 | x::xs,pre=>by
  have h1:=hF (pre++xs) a b ys
  have h2:=ex_swap (k:=k) hF a b ys xs (pre++[x])
  simp only [ex,List.append_assoc,List.cons_append] at h1 h2 ⊢
  rw [h1,h2]
  grind
theorem D_swap:∀ (n:Nat) (xs:List Vec) (a b:Vec) (ys:List Vec),D n (xs++a::b::ys) = - D n (xs++b::a::ys)
 | 0,xs,a,b,ys=>by simp only [D,D0_mid];grind
 | n+1,xs,a,b,ys=>ex_swap (D_swap n) a b ys xs []
theorem ex_pre_lin {F:List Vec→Rat} {k:Nat} {s:Rat} {a b:Vec} (hF:∀ xs ys,F (xs++lc s a b::ys)=s*F (xs++a::ys)+F (xs++b::ys)):∀ (ys pre post:List Vec),ex F k (pre++lc s a b::post) ys=s*ex F k (pre++a::post) ys+ex F k (pre++b::post) ys
 | [],_,_=>by simp only [ex];grind
 | y::ys,pre,post=>by
  have h1:=hF pre (post++ys)
  have h2:=ex_pre_lin (k:=k) hF ys pre (post++[y])
  simp only [ex,List.append_assoc,List.cons_append] at h1 h2 ⊢
  rw [h1,h2]
  grind
theorem ex_lin {F:List Vec→Rat} {k:Nat} {s:Rat} {a b:Vec} (hF:∀ xs ys,F (xs++lc s a b::ys)=s*F (xs++a::ys)+F (xs++b::ys)) (ys:List Vec):∀ (xs pre:List Vec),ex F k pre (xs++lc s a b::ys)=s*ex F k pre (xs++a::ys)+ex F k pre (xs++b::ys)
 | [],pre=>by
  have h2:=ex_pre_lin (k:=k) hF ys pre []
  simp only [ex,List.nil_append] at h2 ⊢
  rw [h2]
  simp only [lc]
  grind
 | x::xs,pre=>by
  have h1:=hF (pre++xs) ys
  have h2:=ex_lin (k:=k) hF ys xs (pre++[x])
  simp only [ex,List.append_assoc,List.cons_append] at h1 h2 ⊢
  rw [h1,h2]
  grind
theorem D_lin (s:Rat) (a b:Vec):∀ (n:Nat) (xs ys:List Vec),D n (xs++lc s a b::ys)=s*D n (xs++a::ys)+D n (xs++b::ys)
 | 0,xs,ys=>by simp only [D,D0_mid];grind
 | n+1,xs,ys=>ex_lin (D_lin s a b n) ys xs []
theorem ex_pre_cong {F:List Vec→Rat} {k:Nat} {a b:Vec} (hF:∀ xs ys,F (xs++a::ys)=F (xs++b::ys)):∀ (ys pre post:List Vec),ex F k (pre++a::post) ys=ex F k (pre++b::post) ys
 | [],_,_=>rfl
 | y::ys,pre,post=>by
  have h1:=hF pre (post++ys)
  have h2:=ex_pre_cong (k:=k) hF ys pre (post++[y])
  simp only [ex,List.append_assoc,List.cons_append] at h1 h2 ⊢
  rw [h1,h2]
theorem ex_cong {F:List Vec→Rat} {k:Nat} {a b:Vec} (hF:∀ xs ys,F (xs++a::ys)=F (xs++b::ys)) (hk:a k=b k) (ys:List Vec):∀ (xs pre:List Vec),ex F k pre (xs++a::ys)=ex F k pre (xs++b::ys)
 | [],pre=>by
  have h2:=ex_pre_cong (k:=k) hF ys pre []
  simp only [ex,List.nil_append] at h2 ⊢
  rw [h2,hk]
 | x::xs,pre=>by
  have h1:=hF (pre++xs) ys
  have h2:=ex_cong hF hk ys xs (pre++[x])
  simp only [ex,List.append_assoc,List.cons_append] at h1 h2 ⊢
  rw [h1,h2]
theorem D_cong {a b:Vec}:∀ (n:Nat),(∀ r,r<n→a r=b r)→∀ (xs ys:List Vec),D n (xs++a::ys)=D n (xs++b::ys)
 | 0,_,xs,ys=>by simp only [D,D0_mid]
 | n+1,h,xs,ys=>ex_cong (D_cong n fun r hr=>h r (by omega)) (h n (by omega)) ys xs []
theorem D_zero (n:Nat) {a:Vec} (h:∀ r,r<n→a r=0) (xs ys:List Vec):D n (xs++a::ys)=0:=by
 have h1:=D_lin 1 a a n xs ys
 have h2:=D_cong (a:=lc 1 a a) (b:=a) n (fun r hr=>by simp only [lc,h r hr];grind) xs ys
 grind
theorem D_same (n:Nat) (a:Vec) (zs:List Vec):∀ (ys xs:List Vec),D n (xs++a::(ys++a::zs))=0
 | [],xs=>by
  have:=D_swap n xs a a zs
  simp only [List.nil_append]
  grind
 | y::ys,xs=>by
  have h1:=D_swap n xs a y (ys++a::zs)
  have h2:=D_same n a zs ys (xs++[y])
  simp only [List.append_assoc,List.cons_append,List.nil_append] at h1 h2 ⊢
  rw [h1,h2]
  grind
def sm:Nat→(Nat→Rat)→Rat
 | 0,_=>0
 | n+1,f=>sm n f+f n
theorem sm_cong {f g:Nat→Rat}:∀ (n:Nat),(∀ i,i<n→f i=g i)→sm n f=sm n g
 | 0,_=>rfl
 | n+1,h=>by simp only [sm];rw [sm_cong n fun i hi=>h i (by omega),h n (by omega)]
theorem sm_zero:∀ (n:Nat) {f:Nat→Rat},(∀ i,i<n→f i=0)→sm n f=0
 | 0,_,_=>rfl
 | n+1,f,h=>by simp only [sm];rw [sm_zero n fun i hi=>h i (by omega),h n (by omega)];grind
theorem sm_add (f g:Nat→Rat):∀ (n:Nat),sm n (fun i=>f i+g i)=sm n f+sm n g
 | 0=>by simp only [sm];grind
 | n+1=>by simp only [sm];rw [sm_add f g n];grind
theorem sm_sub (f g:Nat→Rat):∀ (n:Nat),sm n (fun i=>f i-g i)=sm n f-sm n g
 | 0=>by simp only [sm];grind
 | n+1=>by simp only [sm];rw [sm_sub f g n];grind
theorem sm_mul (c:Rat) (f:Nat→Rat):∀ (n:Nat),sm n (fun i=>c*f i)=c*sm n f
 | 0=>by simp only [sm];grind
 | n+1=>by simp only [sm];rw [sm_mul c f n];grind
theorem sm_mulr (c:Rat) (f:Nat→Rat):∀ (n:Nat),sm n (fun i=>f i*c)=sm n f*c
 | 0=>by simp only [sm];grind
 | n+1=>by simp only [sm];rw [sm_mulr c f n];grind
theorem sm_one {f:Nat→Rat} {k:Nat}:∀ (n:Nat),k<n→(∀ i,i<n→i≠k→f i=0)→sm n f=f k
 | 0,h,_=>by omega
 | n+1,h,z=>by
  simp only [sm]
  by_cases e:k=n
  ·subst e
   rw [sm_zero k fun i hi=>z i (by omega) (by omega)]
   grind
  ·rw [sm_one n (by omega) fun i hi hk=>z i (by omega) hk,z n (by omega) (by omega)]
   grind
theorem D_sum (n:Nat) (c:Nat→Rat) (v:Nat→Vec) (xs ys:List Vec):∀ (k:Nat),D n (xs++(fun r=>sm k (fun l=>c l*v l r))::ys)=sm k (fun l=>c l*D n (xs++v l::ys))
 | 0=>D_zero n (fun _ _=>rfl) xs ys
 | k+1=>by
  have h1:=D_lin (c k) (v k) (fun r=>sm k (fun l=>c l*v l r)) n xs ys
  have h2:=D_cong (a:=fun r=>sm (k+1) (fun l=>c l*v l r)) (b:=lc (c k) (v k) (fun r=>sm k (fun l=>c l*v l r))) n (fun r _=>by simp only [sm,lc];grind) xs ys
  rw [h2,h1,D_sum n c v xs ys k]
  simp only [sm]
  grind
section
variable (A:Nat→Nat→Rat)
def col (l:Nat):Vec:=fun r=>A r l
def colsFrom (i:Nat):Nat→List Vec
 | 0=>[]
 | k+1=>if k<i then [] else col A k::colsFrom i k
abbrev cols (k:Nat):List Vec:=colsFrom A 0 k
theorem colsFrom_le (i:Nat):∀ k,k≤i→colsFrom A i k=[]
 | 0,_=>rfl
 | k+1,h=>by simp only [colsFrom];rw [if_pos (by omega)]
theorem cols_split (i:Nat):∀ k,i<k→cols A k=colsFrom A (i+1) k++col A i::cols A i
 | 0,h=>by omega
 | k+1,h=>by
  by_cases e:i=k
  ·subst e
   rw [colsFrom_le A (i+1) (i+1) (Nat.le_refl _)]
   simp only [cols,colsFrom]
   rw [if_neg (by omega)]
   rfl
  ·have:=cols_split i k (by omega)
   simp only [cols,colsFrom] at this ⊢
   rw [if_neg (by omega),if_neg (by omega),this]
   rfl
theorem D_other (n k i l:Nat) (hi:i<k) (hl:l<k) (hne:l≠i):D n (colsFrom A (i+1) k++col A l::cols A i)=0:=by
 by_cases h:l<i
 ·rw [cols_split A l i h]
  exact D_same n _ _ _ _
 ·have key:∀ k,l<k→colsFrom A (i+1) k=colsFrom A (l+1) k++col A l::colsFrom A (i+1) l:=by
   intro k
   induction k with
   | zero=>intro h;omega
   | succ k ih =>
    intro hk
    by_cases e:l=k
    ·subst e
     rw [colsFrom_le A (l+1) (l+1) (Nat.le_refl _)]
     simp only [colsFrom]
     rw [if_neg (by omega)]
     rfl
    ·simp only [colsFrom]
     rw [if_neg (by omega),if_neg (by omega),ih (by omega)]
     rfl
  rw [key k hl]
  have:=D_same n (col A l) (cols A i) (colsFrom A (i+1) l) (colsFrom A (l+1) k)
  simp only [List.append_assoc,List.cons_append] at this ⊢
  exact this
theorem cramer (k i:Nat) (hi:i<k) (x:Nat→Rat) (b:Vec) (h:∀ r,r<k→b r=sm k (fun l=>A r l*x l)):D k (colsFrom A (i+1) k++b::cols A i)=x i*D k (cols A k):=by
 have h1:=D_cong (a:=b) (b:=fun r=>sm k (fun l=>x l*col A l r)) k (fun r hr=>by rw [h r hr];exact sm_cong k fun l _=>by simp only [col];grind) (colsFrom A (i+1) k) (cols A i)
 rw [h1,D_sum,sm_one (k:=i) k hi,← cols_split A i k hi]
 intro l hl hne
 rw [D_other A k k i l hi hl hne]
 grind
theorem ex_zero {F:List Vec→Rat} {k:Nat} {c:Vec} (hF:∀ ys,F (c::ys)=0):∀ (vs pre:List Vec),ex F k (c::pre) vs=0
 | [],_=>rfl
 | v::vs,pre=>by
  have h2:=ex_zero (k:=k) hF vs (pre++[v])
  simp only [ex,List.cons_append] at h2 ⊢
  rw [hF,h2]
  grind
theorem schur (k:Nat) (x:Nat→Rat) (h:∀ r,r<k→A r k=sm k (fun l=>A r l*x l)):D (k+1) (cols A (k+1))=(A k k-sm k (fun l=>A k l*x l))*D k (cols A k):=by
 let b:Vec:=fun r=>sm k (fun l=>x l*col A l r)
 have e1:D (k+1) (b::cols A k)=0:=by
  have:=D_sum (k+1) x (col A) [] (cols A k) k
  simp only [List.nil_append] at this
  show D (k+1) ((fun r=>sm k (fun l=>x l*col A l r))::cols A k)=0
  rw [this]
  refine sm_zero k fun l hl=>?_
  have h3:=D_same (k+1) (col A l) (cols A l) (colsFrom A (l+1) k) []
  rw [List.nil_append,← cols_split A l k hl] at h3
  rw [h3]
  grind
 have e2:=D_lin (-1) b (col A k) (k+1) [] (cols A k)
 simp only [List.nil_append] at e2
 have e3:cols A (k+1)=col A k::cols A k:=rfl
 have e4:∀ r,r<k→lc (-1) b (col A k) r=0:=fun r hr=>by
  have h1:=h r hr
  have h2:b r=sm k (fun l=>A r l*x l):=sm_cong k fun l _=>by simp only [col];grind
  simp only [lc,col]
  rw [h2,h1]
  grind
 have e5:D (k+1) (lc (-1) b (col A k)::cols A k)=lc (-1) b (col A k) k*D k (cols A k):=by
  show ex (D k) k [] (lc (-1) b (col A k)::cols A k)=_
  simp only [ex,List.nil_append]
  rw [ex_zero (fun ys=>D_zero k e4 [] ys)]
  grind
 have e6:lc (-1) b (col A k) k=A k k-sm k (fun l=>A k l*x l):=by
  have h2:b k=sm k (fun l=>A k l*x l):=sm_cong k fun l _=>by simp only [col];grind
  simp only [lc,col]
  rw [h2]
  grind
 rw [e3]
 grind
end
end Bz
namespace Bz
def Zb (B:Nat) (q:Rat):Prop:=∃ z:Int,q=(z:Rat)∧z.natAbs≤B
theorem Zb.mono {B C:Nat} {q:Rat} (h:Zb B q) (hc:B≤C):Zb C q:=by
 obtain ⟨z,e,b⟩:=h
 exact ⟨z,e,Nat.le_trans b hc⟩
theorem Zb.of (z:Int):Zb z.natAbs z:=⟨z,rfl,Nat.le_refl _⟩
theorem Zb.mul {B C:Nat} {q r:Rat} (h:Zb B q) (k:Zb C r):Zb (B*C) (q*r):=by
 obtain ⟨z,rfl,b⟩:=h
 obtain ⟨y,rfl,c⟩:=k
 exact ⟨z*y,by rw [Rat.intCast_mul],by rw [Int.natAbs_mul];exact Nat.mul_le_mul b c⟩
theorem Zb.sub {B C:Nat} {q r:Rat} (h:Zb B q) (k:Zb C r):Zb (B+C) (q-r):=by
 obtain ⟨z,rfl,b⟩:=h
 obtain ⟨y,rfl,c⟩:=k
 exact ⟨z-y,by rw [Rat.intCast_sub],by omega⟩
theorem Zb.add {B C:Nat} {q r:Rat} (h:Zb B q) (k:Zb C r):Zb (B+C) (q+r):=by
 obtain ⟨z,rfl,b⟩:=h
 obtain ⟨y,rfl,c⟩:=k
 exact ⟨z+y,by rw [Rat.intCast_add],by omega⟩
theorem Zb.sm {B:Nat} {f:Nat→Rat}:∀ (n:Nat),(∀ i,i<n→Zb B (f i))→Zb (n*B) (sm n f)
 | 0,_=>by simp only [Bz.sm];exact ⟨0,rfl,by simp⟩
 | n+1,h=>by
  have:=(Zb.sm n fun i hi=>h i (by omega)).add (h n (by omega))
  rw [Nat.succ_mul]
  exact this
theorem ex_Zb {F:List Vec→Rat} {k M B:Nat}:∀ (vs pre:List Vec),(∀ us:List Vec,us.length+1=(pre++vs).length→(∀ u∈us,u∈pre++vs)→Zb B (F us))→(∀ v∈vs,Zb M (v k))→Zb (vs.length*(M*B)) (ex F k pre vs)
 | [],_,_,_=>by simp only [ex];exact ⟨0,rfl,by simp⟩
 | v::vs,pre,hF,hv=>by
  have h1:=(hv v (by simp)).mul (hF (pre++vs) (by simp;omega) (fun u hu=>by
   rcases List.mem_append.mp hu with h | h <;> simp [h]))
  have h2:=ex_Zb (F:=F) (k:=k) (M:=M) (B:=B) vs (pre++[v]) (fun us hl hm=>hF us (by simp at hl ⊢;omega) (fun u hu=>by
   have:=hm u hu
   simp at this ⊢
   rcases this with h | h | h <;> simp [h])) (fun u hu=>hv u (by simp [hu]))
  simp only [ex,List.length_cons]
  rw [Nat.succ_mul]
  have:=h1.sub h2
  rw [Nat.add_comm]
  exact this
theorem D_Zb {M L:Nat}:∀ (n:Nat) (vs:List Vec),vs.length≤L→1≤L*M→(∀ v∈vs,∀ r,r<n→Zb M (v r))→Zb ((L*M)^n) (D n vs)
 | 0,vs,_,_,_=>by
  cases vs with
  | nil=>exact ⟨1,rfl,by simp⟩
  | cons v vs=>exact ⟨0,rfl,by simp⟩
 | n+1,vs,hl,h1,h=>by
  have:=ex_Zb (F:=D n) (k:=n) (M:=M) (B:=(L*M)^n) vs [] (fun us hu hm=>D_Zb n us (by simp at hu;omega) h1 (fun v hv r hr=>h v (by simpa using hm v hv) r (by omega))) (fun v hv=>h v hv n (by omega))
  refine Zb.mono this ?_
  rw [Nat.pow_succ,← Nat.mul_assoc,Nat.mul_comm ((L*M)^n)]
  exact Nat.mul_le_mul (Nat.mul_le_mul hl (Nat.le_refl _)) (Nat.le_refl _)
def st (R:Nat→Nat→Int) (k:Nat) (d:Int):Nat→Nat→Int:=fun i j=>if i=k then R k j else (R k k*R i j-R i k*R k j).fdiv d
def RD (A:Nat→Nat→Int):Nat→(Nat→Nat→Int)×Int
 | 0=>(A,1)
 | k+1=>(st (RD A k).1 k (RD A k).2,(RD A k).1 k k)
abbrev toQ (A:Nat→Nat→Int):Nat→Nat→Rat:=fun i j=>(A i j:Rat)
def Aniso (m:Nat) (A:Nat→Nat→Rat):Prop:=∀ x:Nat→Rat,sm m (fun i=>x i*sm m (fun j=>A i j*x j))=0→∀ i,i<m→x i=0
structure Elim (A:Nat→Nat→Int) (m k:Nat) (ρ:Nat→Nat→Rat):Prop where
 sol:∀ j r,r<k→(A r j:Rat)=sm k (fun l=>(A r l:Rat)*ρ l j)
 det:((RD A k).2:Rat)=D k (cols (toQ A) k)
 nz:(RD A k).2≠0
 up:∀ i j,i<k→j≤m→((RD A k).1 i j:Rat)=((RD A k).2:Rat)*ρ i j
 lo:∀ i j,k≤i→i<m→j≤m→((RD A k).1 i j:Rat)=((RD A k).2:Rat)*((A i j:Rat)-sm k (fun l=>(A i l:Rat)*ρ l j))
theorem sm_cut {f:Nat→Rat} {k:Nat}:∀ {m:Nat},k≤m→(∀ i,k≤i→i<m→f i=0)→sm m f=sm k f
 | 0,h,_=>by rw [Nat.le_zero.mp h]
 | m+1,h,z=>by
  by_cases e:k=m+1
  ·rw [e]
  ·simp only [sm]
   rw [sm_cut (by omega) fun i h1 h2=>z i h1 (by omega),z m (by omega) (by omega)]
   grind
theorem cast_ne {z:Int} (h:z≠0):(z:Rat)≠0:=fun e=>h (by exact_mod_cast e)
theorem rest_ne {A:Nat→Nat→Rat} {m k:Nat} (an:Aniso m A) (hk:k<m) {x:Nat→Rat} (h:∀ r,r<k→A r k=sm k (fun l=>A r l*x l)):A k k-sm k (fun l=>A k l*x l)≠0:=by
 intro hs
 let y:Nat→Rat:=fun l=>if l<k then-x l else if l=k then 1 else 0
 have hy:∀ r,sm m (fun j=>A r j*y j)=A r k-sm k (fun l=>A r l*x l):=fun r=>by
  rw [sm_cut (k:=k+1) (by omega) fun i h1 _=>by
   have:y i=0:=by show (if i<k then-x i else if i=k then (1:Rat) else 0)=0;rw [if_neg (by omega),if_neg (by omega)]
   rw [this];grind]
  simp only [sm]
  have h1:y k=1:=by show (if k<k then-x k else if k=k then (1:Rat) else 0)=1;rw [if_neg (by omega),if_pos rfl]
  have h2:sm k (fun j=>A r j*y j)=sm k (fun l=>(-1)*(A r l*x l)):=sm_cong k fun i hi=>by
   have:y i = - x i:=by show (if i<k then-x i else if i=k then (1:Rat) else 0) = - x i;rw [if_pos hi]
   rw [this];grind
  rw [h1,h2,sm_mul]
  grind
 have:=an y (sm_zero m fun i hi=>by
  rw [hy i]
  by_cases h1:i<k
  ·rw [h i h1];grind
  ·by_cases h2:i=k
   ·rw [h2,hs];grind
   ·have:y i=0:=by show (if i<k then-x i else if i=k then (1:Rat) else 0)=0;rw [if_neg h1,if_neg h2]
    rw [this];grind) k hk
 have h1:y k=1:=by show (if k<k then-x k else if k=k then (1:Rat) else 0)=1;rw [if_neg (by omega),if_pos rfl]
 rw [h1] at this
 grind
theorem cols_len (A:Nat→Nat→Rat) (i:Nat):∀ k,(colsFrom A i k).length≤k-i
 | 0=>by simp [colsFrom]
 | k+1=>by
  simp only [colsFrom]
  have:=cols_len A i k
  split
  ·simp
  ·simp;omega
theorem cols_mem (A:Nat→Nat→Rat) (i:Nat):∀ k v,v∈colsFrom A i k→∃ l,l<k∧v=col A l
 | 0,v,h=>by simp [colsFrom] at h
 | k+1,v,h=>by
  simp only [colsFrom] at h
  split at h
  ·simp at h
  ·rcases List.mem_cons.mp h with e | e
   ·exact ⟨k,by omega,e⟩
   ·obtain ⟨l,h1,h2⟩:=cols_mem A i k v e
    exact ⟨l,by omega,h2⟩
theorem whole_up {A:Nat→Nat→Int} {k M:Nat} {ρ:Nat→Nat→Rat} (hk:k≤8) (hM:1≤M) {m:Nat} (hkm:k≤m) (hA:∀ i j,i<m→j≤m→(A i j).natAbs≤M) (sol:∀ j r,r<k→(A r j:Rat)=sm k (fun l=>(A r l:Rat)*ρ l j)) (i j:Nat) (hi:i<k) (hj:j≤m):Zb ((8*M)^k) (D k (cols (toQ A) k)*ρ i j):=by
 have h:=cramer (toQ A) k i hi (fun l=>ρ l j) (fun r=>(A r j:Rat)) (fun r hr=>sol j r hr)
 have e:D k (cols (toQ A) k)*ρ i j=D k (colsFrom (toQ A) (i+1) k++(fun r=>(A r j:Rat))::cols (toQ A) i):=by rw [h];grind
 rw [e]
 refine D_Zb k _ ?_ (by omega) ?_
 ·rw [List.length_append,List.length_cons]
  have h1:=cols_len (toQ A) (i+1) k
  have h2:=cols_len (toQ A) 0 i
  show (colsFrom (toQ A) (i+1) k).length+((colsFrom (toQ A) 0 i).length+1)≤8
  omega
 ·intro v hv r hr
  have key:∀ l,l≤m→Zb M ((A r l:Int):Rat):=fun l hl=>(Zb.of (A r l)).mono (hA r l (by omega) hl)
  rcases List.mem_append.mp hv with h1 | h1
  ·obtain ⟨l,hl,rfl⟩:=cols_mem _ _ _ _ h1
   exact key l (by omega)
  ·rcases List.mem_cons.mp h1 with h2 | h2
   ·rw [h2]
    exact key j hj
   ·obtain ⟨l,hl,rfl⟩:=cols_mem _ _ _ _ h2
    exact key l (by omega)
theorem whole_det {A:Nat→Nat→Int} {k M:Nat} (hk:k≤8) (hM:1≤M) {m:Nat} (hkm:k≤m) (hA:∀ i j,i<m→j≤m→(A i j).natAbs≤M):Zb ((8*M)^k) (D k (cols (toQ A) k)):=by
 refine D_Zb k _ (Nat.le_trans (cols_len _ _ _) (by omega)) (by omega) ?_
 intro v hv r hr
 obtain ⟨l,hl,rfl⟩:=cols_mem _ _ _ _ hv
 exact (Zb.of (A r l)).mono (hA r l (by omega) (by omega))
theorem fdiv_of {N d z:Int} (hd:d≠0) (h:(N:Rat)=d*z):N.fdiv d=z:=by
 have e:N=d*z:=by exact_mod_cast h
 rw [e,Int.mul_comm]
 exact Int.mul_fdiv_cancel z hd
theorem Elim.zero (A:Nat→Nat→Int) (m:Nat):Elim A m 0 (fun _ _=>0) where
 sol:=fun _ _ h=>absurd h (by omega)
 det:=rfl
 nz:=by show (1:Int)≠0;decide
 up:=fun _ _ h=>absurd h (by omega)
 lo:=fun i j _ _ _=>by
  show ((A i j:Int):Rat)=((1:Int):Rat)*(((A i j:Int):Rat)-0)
  grind
theorem Elim.step {A:Nat→Nat→Int} {k M m:Nat} {ρ:Nat→Nat→Rat} (E:Elim A m k ρ) (an:Aniso m (toQ A)) (hk:k<m) (hm:m≤7) (hM:1≤M) (hA:∀ i j,i<m→j≤m→(A i j).natAbs≤M):∃ ρ',Elim A m (k+1) ρ':=by
 have hs:=rest_ne an hk (x:=fun l=>ρ l k) (fun r hr=>E.sol k r hr)
 have hdet:=schur (toQ A) k (fun l=>ρ l k) (fun r hr=>E.sol k r hr)
 have hp:=E.lo k k (Nat.le_refl _) hk (by omega)
 rw [E.det] at hp
 obtain ⟨s,es⟩:∃ s,s=toQ A k k-sm k (fun l=>toQ A k l*ρ l k):=⟨_,rfl⟩
 rw [← es] at hs hdet
 have hp':(((RD A k).1 k k:Int):Rat)=D (k+1) (cols (toQ A) (k+1)):=by
  rw [hp,hdet,es]
  grind
 let t:Nat→Rat:=fun j=>((A k j:Rat)-sm k (fun l=>(A k l:Rat)*ρ l j))/s
 have ht:∀ j,s*t j=(A k j:Rat)-sm k (fun l=>(A k l:Rat)*ρ l j):=fun j=>by
  show s*(_/s)=_
  rw [Rat.mul_comm,Rat.div_mul_cancel hs]
 let ρ':Nat→Nat→Rat:=fun l j=>if l<k then ρ l j-ρ l k*t j else t j
 have r1:∀ l j,l<k→ρ' l j=ρ l j-ρ l k*t j:=fun l j h=>if_pos h
 have r2:∀ j,ρ' k j=t j:=fun j=>if_neg (by omega)
 have hsum:∀ r j,sm (k+1) (fun l=>(A r l:Rat)*ρ' l j)=sm k (fun l=>(A r l:Rat)*ρ l j)-sm k (fun l=>(A r l:Rat)*ρ l k)*t j+(A r k:Rat)*t j:=fun r j=>by
  simp only [sm]
  rw [r2,sm_cong (g:=fun l=>(A r l:Rat)*ρ l j-(A r l:Rat)*ρ l k*t j) k (fun l hl=>by rw [r1 l j hl];grind),sm_sub,sm_mulr]
 have sol:∀ j r,r<k+1→(A r j:Rat)=sm (k+1) (fun l=>(A r l:Rat)*ρ' l j):=fun j r hr=>by
  rw [hsum r j]
  by_cases e:r<k
  ·have h1:=E.sol j r e
   have h2:=E.sol k r e
   rw [← h1,← h2]
   grind
  ·have e':r=k:=by omega
   subst e'
   have h1:=ht j
   rw [es] at h1
   simp only [toQ] at h1
   grind
 have nz:((RD A k).1 k k)≠0:=fun e=>by
  have h1:D k (cols (toQ A) k)≠0:=by rw [← E.det];exact cast_ne E.nz
  have h2:s*D k (cols (toQ A) k)=0:=by rw [← hdet,← hp',e];rfl
  rcases Rat.mul_eq_zero.mp h2 with h | h
  ·exact hs h
  ·exact h1 h
 have hd0:((RD A k).2:Rat)≠0:=cast_ne E.nz
 have hpd:(((RD A k).1 k k:Int):Rat)=((RD A k).2:Rat)*s:=by
  rw [E.lo k k (Nat.le_refl _) hk (by omega),es]
 have hkj:∀ j,j≤m→(((RD A k).1 k j:Int):Rat)=(((RD A k).1 k k:Int):Rat)*t j:=fun j hj=>by
  rw [E.lo k j (Nat.le_refl _) hk hj,hpd,← ht j]
  grind
 have up:∀ i j,i<k→j≤m→(((RD A k).1 k k*(RD A k).1 i j-(RD A k).1 i k*(RD A k).1 k j:Int):Rat)=((RD A k).2:Rat)*((((RD A k).1 k k:Int):Rat)*ρ' i j):=fun i j hi hj=>by
  rw [Rat.intCast_sub,Rat.intCast_mul,Rat.intCast_mul,E.up i j hi hj,E.up i k hi (by omega),hkj j hj,r1 i j hi]
  grind
 have lo:∀ i j,k<i→i<m→j≤m→(((RD A k).1 k k*(RD A k).1 i j-(RD A k).1 i k*(RD A k).1 k j:Int):Rat)=((RD A k).2:Rat)*((((RD A k).1 k k:Int):Rat)*((A i j:Rat)-sm (k+1) (fun l=>(A i l:Rat)*ρ' l j))):=fun i j hi him hj=>by
  rw [Rat.intCast_sub,Rat.intCast_mul,Rat.intCast_mul,E.lo i j (by omega) him hj,E.lo i k (by omega) him (by omega),hkj j hj,hsum i j]
  grind
 have wu:∀ i j,i<k+1→j≤m→Zb ((8*M)^(k+1)) ((((RD A k).1 k k:Int):Rat)*ρ' i j):=fun i j hi hj=>by
  rw [hp']
  exact whole_up (by omega) hM (by omega) hA sol i j hi hj
 have wl:∀ i j,k<i→i<m→j≤m→∃ z:Int,(((RD A k).1 k k:Int):Rat)*((A i j:Rat)-sm (k+1) (fun l=>(A i l:Rat)*ρ' l j))=z:=fun i j hi him hj=>by
  have e:(((RD A k).1 k k:Int):Rat)*((A i j:Rat)-sm (k+1) (fun l=>(A i l:Rat)*ρ' l j))=(((RD A k).1 k k:Int):Rat)*(A i j:Rat)-sm (k+1) (fun l=>(A i l:Rat)*((((RD A k).1 k k:Int):Rat)*ρ' l j)):=by
   have:=sm_mul (((RD A k).1 k k:Int):Rat) (fun l=>(A i l:Rat)*ρ' l j) (k+1)
   have h2:sm (k+1) (fun l=>(A i l:Rat)*((((RD A k).1 k k:Int):Rat)*ρ' l j))=sm (k+1) (fun l=>(((RD A k).1 k k:Int):Rat)*((A i l:Rat)*ρ' l j)):=sm_cong _ fun l _=>by grind
   rw [h2,this]
   grind
  rw [e]
  have h1:=((Zb.of ((RD A k).1 k k)).mul (Zb.of (A i j))).sub (Zb.sm (k+1) (fun l hl=>((Zb.of (A i l)).mono (hA i l him (by omega))).mul (wu l j hl hj)))
  obtain ⟨z,hz,_⟩:=h1
  exact ⟨z,hz⟩
 refine ⟨ρ',sol,hp',nz,?_,?_⟩
 ·intro i j hi hj
  show ((st (RD A k).1 k (RD A k).2 i j:Int):Rat)=(((RD A k).1 k k:Int):Rat)*ρ' i j
  unfold st
  by_cases e:i=k
  ·rw [if_pos e,e,r2,hkj j hj]
  ·rw [if_neg e]
   obtain ⟨z,hz,_⟩:=wu i j hi hj
   have h1:=up i j (by omega) hj
   rw [hz] at h1
   rw [fdiv_of E.nz h1,hz]
 ·intro i j hi him hj
  show ((st (RD A k).1 k (RD A k).2 i j:Int):Rat)=(((RD A k).1 k k:Int):Rat)*((A i j:Rat)-sm (k+1) (fun l=>(A i l:Rat)*ρ' l j))
  unfold st
  rw [if_neg (by omega)]
  obtain ⟨z,hz⟩:=wl i j (by omega) him hj
  have h1:=lo i j (by omega) him hj
  rw [hz] at h1
  rw [fdiv_of E.nz h1,hz]
theorem elim_all {A:Nat→Nat→Int} {M m:Nat} (an:Aniso m (toQ A)) (hm:m≤7) (hM:1≤M) (hA:∀ i j,i<m→j≤m→(A i j).natAbs≤M):∀ k,k≤m→∃ ρ,Elim A m k ρ
 | 0,_=>⟨_,Elim.zero A m⟩
 | k+1,h=>by
  obtain ⟨ρ,E⟩:=elim_all an hm hM hA k (by omega)
  exact E.step an (by omega) hm hM hA
theorem Elim.small {A:Nat→Nat→Int} {k M m:Nat} {ρ:Nat→Nat→Rat} (E:Elim A m k ρ) (hk:k≤m) (hm:m≤7) (hM:1≤M) (hA:∀ i j,i<m→j≤m→(A i j).natAbs≤M):(∀ i j,i<m→j≤m→((RD A k).1 i j).natAbs≤(8*M)^(k+1))∧((RD A k).2).natAbs≤(8*M)^k:=by
 have key:∀ {z:Int} {B:Nat},Zb B (z:Rat)→z.natAbs≤B:=fun {z B} h=>by
  obtain ⟨y,e,b⟩:=h
  have:z=y:=by exact_mod_cast e
  rw [this];exact b
 have hu:∀ i j,i<k→j≤m→Zb ((8*M)^k) (((RD A k).2:Rat)*ρ i j):=fun i j hi hj=>by
  rw [E.det]
  exact whole_up (by omega) hM hk hA E.sol i j hi hj
 have hd:Zb ((8*M)^k) ((RD A k).2:Rat):=by
  rw [E.det]
  exact whole_det (by omega) hM hk hA
 refine ⟨fun i j hi hj=>key ?_,key hd⟩
 by_cases h:i<k
 ·rw [E.up i j h hj]
  refine (hu i j h hj).mono (Nat.pow_le_pow_right (by omega) (by omega))
 ·rw [E.lo i j (by omega) hi hj]
  have e:((RD A k).2:Rat)*((A i j:Rat)-sm k (fun l=>(A i l:Rat)*ρ l j))=((RD A k).2:Rat)*(A i j:Rat)-sm k (fun l=>(A i l:Rat)*(((RD A k).2:Rat)*ρ l j)):=by
   have:=sm_mul ((RD A k).2:Rat) (fun l=>(A i l:Rat)*ρ l j) k
   have h2:sm k (fun l=>(A i l:Rat)*(((RD A k).2:Rat)*ρ l j))=sm k (fun l=>((RD A k).2:Rat)*((A i l:Rat)*ρ l j)):=sm_cong _ fun l _=>by grind
   rw [h2,this]
   grind
  rw [e]
  have h1:=(hd.mul ((Zb.of (A i j)).mono (hA i j hi hj))).sub (Zb.sm k (fun l hl=>((Zb.of (A i l)).mono (hA i l hi (by omega))).mul (hu l j hl hj)))
  refine h1.mono ?_
  rw [Nat.pow_succ]
  have e3:(8*M)^k*M+k*(M*(8*M)^k)=(k+1)*(M*(8*M)^k):=by rw [Nat.add_mul,Nat.one_mul,Nat.mul_comm ((8*M)^k) M,Nat.add_comm]
  have e4:(8*M)^k*(8*M)=8*(M*(8*M)^k):=by rw [Nat.mul_comm,Nat.mul_assoc]
  rw [e3,e4]
  exact Nat.mul_le_mul (by omega) (Nat.le_refl _)
theorem elim_end {A:Nat→Nat→Int} {M m:Nat} (an:Aniso m (toQ A)) (hm:m≤7) (hM:1≤M) (hA:∀ i j,i<m→j≤m→(A i j).natAbs≤M):∃ x:Nat→Rat,(∀ r,r<m→sm m (fun l=>(A r l:Rat)*x l)=(A r m:Rat))∧(∀ i,i<m→(RD A m).1 i i=(RD A m).2∧(((RD A m).1 i m:Int):Rat)=((RD A m).2:Rat)*x i)∧(RD A m).2≠0:=by
 obtain ⟨ρ,E⟩:=elim_all an hm hM hA m (Nat.le_refl _)
 refine ⟨fun l=>ρ l m,fun r hr=>(E.sol m r hr).symm,fun i hi=>⟨?_,E.up i m hi (Nat.le_refl _)⟩,E.nz⟩
 have h1:ρ i i=1:=by
  have:=an (fun l=>ρ l i-if l=i then 1 else 0) (sm_zero m fun r hr=>by
   have h2:sm m (fun j=>toQ A r j*(ρ j i-if j=i then 1 else 0))=0:=by
    rw [sm_cong (g:=fun j=>toQ A r j*ρ j i-toQ A r j*(if j=i then 1 else 0)) m (fun j _=>by grind),sm_sub,← E.sol i r hr,sm_one (k:=i) m hi (fun j _ hj=>by rw [if_neg hj];grind),if_pos rfl]
    simp only [toQ]
    grind
   rw [h2]
   grind) i hi
  simp only [if_pos] at this
  grind
 have h2:=E.up i i hi (by omega)
 rw [h1] at h2
 have:(((RD A m).1 i i:Int):Rat)=(((RD A m).2:Int):Rat):=by rw [h2];grind
 exact_mod_cast this
end Bz
namespace St
open Mp Bz
def sp {α:Type}:List α→(α→Rat)→Rat
 | [],_=>0
 | p::r,f=>f p+sp r f
theorem sp_cong {α:Type} {f g:α→Rat}:∀ {ps:List α},(∀ p∈ps,f p=g p)→sp ps f=sp ps g
 | [],_=>rfl
 | p::r,h=>by simp only [sp];rw [h p (by simp),sp_cong fun q hq=>h q (by simp [hq])]
theorem sp_sub {α:Type} (f g:α→Rat):∀ (ps:List α),sp ps (fun p=>f p-g p)=sp ps f-sp ps g
 | []=>by simp only [sp];grind
 | p::r=>by simp only [sp];rw [sp_sub f g r];grind
theorem sp_mul {α:Type} (c:Rat) (f:α→Rat):∀ (ps:List α),sp ps (fun p=>c*f p)=c*sp ps f
 | []=>by simp only [sp];grind
 | p::r=>by simp only [sp];rw [sp_mul c f r];grind
theorem sp_zero {α:Type} {f:α→Rat}:∀ {ps:List α},(∀ p∈ps,f p=0)→sp ps f=0
 | [],_=>rfl
 | p::r,h=>by simp only [sp];rw [h p (by simp),sp_zero fun q hq=>h q (by simp [hq])];grind
theorem sp_nonneg {α:Type} {f:α→Rat}:∀ {ps:List α},(∀ p∈ps,0≤f p)→0≤sp ps f
 | [],_=>by simp only [sp];grind
 | p::r,h=>by
  have h1:=h p (by simp)
  have h2:=sp_nonneg (f:=f) (ps:=r) fun q hq=>h q (List.mem_cons_of_mem _ hq)
  simp only [sp]
  grind
theorem sp_all_zero {α:Type} {f:α→Rat}:∀ {ps:List α},(∀ p∈ps,0≤f p)→sp ps f=0→∀ p∈ps,f p=0
 | [],_,_,p,hp=>by simp at hp
 | q::r,h,e,p,hp=>by
  have h1:=h q (by simp)
  have h2:=sp_nonneg (f:=f) (ps:=r) fun q' hq=>h q' (List.mem_cons_of_mem _ hq)
  simp only [sp] at e
  rcases List.mem_cons.mp hp with rfl | hp
  ·grind
  ·exact sp_all_zero (fun q' hq=>h q' (by simp [hq])) (by grind) p hp
theorem sp_append {α:Type} (f:α→Rat):∀ (ps qs:List α),sp (ps++qs) f=sp ps f+sp qs f
 | [],qs=>by simp only [sp,List.nil_append];grind
 | p::r,qs=>by simp only [sp,List.cons_append];rw [sp_append f r qs];grind
theorem sm_sp {α:Type} (f:Nat→α→Rat) (n:Nat):∀ (ps:List α),sm n (fun i=>sp ps (f i))=sp ps (fun p=>sm n (fun i=>f i p))
 | []=>sm_zero n fun _ _=>rfl
 | p::r=>by simp only [sp];rw [sm_add,sm_sp f n r]
def ind (c:Prop) [Decidable c]:Rat:=if c then 1 else 0
theorem ind_t {c:Prop} [Decidable c] (h:c):ind c=1:=if_pos h
theorem ind_f {c:Prop} [Decidable c] (h:¬ c):ind c=0:=if_neg h
def ease (p:Pipe):Rat:=(p.b:Rat)/(p.a:Rat)
def hard (p:Pipe):Rat:=(p.a:Rat)/(p.b:Rat)
def sg (p:Pipe) (i:Int):Rat:=ind (p.u=i)-ind (p.w=i)
def Lap (ps:List Pipe) (h:Int→Rat) (i:Int):Rat:=sp ps (fun p=>sg p i*(ease p*(h p.u-h p.w)))
structure Nice (n:Nat) (ps:List Pipe):Prop where
 fits:Fits n ps
 ne:∀ p∈ps,p.u≠p.w
 a1:∀ p∈ps,1≤p.a
 b1:∀ p∈ps,1≤p.b
theorem intpos {a:Int} (h:1≤a):(0:Rat)<(a:Rat):=by exact_mod_cast (show (0:Int)<a by omega)
theorem ease_pos {p:Pipe} (ha:1≤p.a) (hb:1≤p.b):0<ease p:=by
 have h1:=intpos ha
 have h2:=intpos hb
 unfold ease
 rw [Rat.div_def]
 exact Rat.mul_pos h2 (Rat.inv_pos.mpr h1)
theorem hard_pos {p:Pipe} (ha:1≤p.a) (hb:1≤p.b):0<hard p:=by
 have h1:=intpos ha
 have h2:=intpos hb
 unfold hard
 rw [Rat.div_def]
 exact Rat.mul_pos h1 (Rat.inv_pos.mpr h2)
theorem ease_hard {p:Pipe} (ha:1≤p.a) (hb:1≤p.b):ease p*hard p=1:=by
 have h1:=intpos ha
 have h2:=intpos hb
 unfold ease hard
 grind
theorem sm_ind (n:Nat) (g:Int→Rat) {x:Int} (hx:0≤x∧x<n):sm n (fun i=>g i*ind (x=(i:Int)))=g x:=by
 obtain ⟨k,rfl⟩:=Int.eq_ofNat_of_zero_le hx.1
 rw [sm_one (k:=k) n (by omega) fun i _ hne=>by rw [ind_f (by omega)];grind]
 rw [ind_t rfl]
 grind
theorem sm_sg (n:Nat) (g:Int→Rat) {p:Pipe} (hu:0≤p.u∧p.u<n) (hw:0≤p.w∧p.w<n):sm n (fun i=>g i*sg p i)=g p.u-g p.w:=by
 have h1:=sm_ind n g hu
 have h2:=sm_ind n g hw
 rw [← h1,← h2,← sm_sub]
 exact sm_cong n fun i _=>by unfold sg;grind
theorem green {n:Nat} {ps:List Pipe} (f:Fits n ps) (g h:Int→Rat):sm n (fun i=>g i*Lap ps h i)=sp ps (fun p=>ease p*(h p.u-h p.w)*(g p.u-g p.w)):=by
 have e:sm n (fun i=>g i*Lap ps h i)=sm n (fun i=>sp ps (fun p=>g i*sg p i*(ease p*(h p.u-h p.w)))):=sm_cong n fun i _=>by
  unfold Lap
  rw [← sp_mul]
  exact sp_cong fun p _=>by grind
 rw [e,sm_sp]
 refine sp_cong fun p hp=>?_
 rw [sm_mulr,sm_sg n g (f p hp).1 (f p hp).2]
 grind
theorem sq_nonneg (x:Rat):0≤x*x:=by
 by_cases h:0≤x
 ·exact Rat.mul_nonneg h h
 ·have:0≤-x:=by grind
  have:=Rat.mul_nonneg this this
  grind
theorem sq_zero {x:Rat} (h:x*x=0):x=0:=by
 rcases Rat.mul_eq_zero.mp h with h | h <;> exact h
theorem Lap_sub (ps:List Pipe) (g h:Int→Rat) (i:Int):Lap ps (fun x=>g x-h x) i=Lap ps g i-Lap ps h i:=by
 unfold Lap
 rw [← sp_sub]
 exact sp_cong fun p _=>by grind
theorem Lap_mul (ps:List Pipe) (c:Rat) (h:Int→Rat) (i:Int):Lap ps (fun x=>c*h x) i=c*Lap ps h i:=by
 unfold Lap
 rw [← sp_mul]
 exact sp_cong fun p _=>by grind
theorem flat_of {n:Nat} {ps:List Pipe} (nc:Nice n ps) {g:Int→Rat} (e:sp ps (fun p=>ease p*(g p.u-g p.w)*(g p.u-g p.w))=0) {x y:Int} (r:Reach ps x y):g y=g x:=by
 have h:=sp_all_zero (fun p hp=>by
  have h1:=sq_nonneg (g p.u-g p.w)
  have h2:=Rat.mul_nonneg (Rat.le_of_lt (ease_pos (nc.a1 p hp) (nc.b1 p hp))) h1
  grind) e
 have key:∀ p∈ps,g p.u=g p.w:=fun p hp=>by
  have h1:=h p hp
  have h2:=ease_pos (nc.a1 p hp) (nc.b1 p hp)
  have h3:ease p*((g p.u-g p.w)*(g p.u-g p.w))=0:=by grind
  rcases Rat.mul_eq_zero.mp h3 with z | z
  ·rw [z] at h2;grind
  ·have:=sq_zero z
   grind
 induction r with
 | refl=>rfl
 | step _ a ih =>
  obtain ⟨p,hp,q⟩:=a
  rcases q with ⟨rfl,rfl⟩ | ⟨rfl,rfl⟩
  ·rw [← ih,key p hp]
  ·rw [← ih,key p hp]
structure IsH (n:Nat) (ps:List Pipe) (one other:Int) (h:Int→Rat):Prop where
 far:∀ x,x=other∨¬ Reach ps other x→h x=0
 har:∀ i:Int,0≤i∧i<n→Lap ps h i=ind (i=one)-ind (i=other)
theorem IsH.unique {n:Nat} {ps:List Pipe} (nc:Nice n ps) {one other:Int} {g h:Int→Rat} (hg:IsH n ps one other g) (hh:IsH n ps one other h):g=h:=by
 have e0:∀ i:Nat,i<n→(g i-h i)*Lap ps (fun x=>g x-h x) i=0:=fun i hi=>by
  rw [Lap_sub,hg.har i (by omega),hh.har i (by omega)]
  grind
 have e1:=green nc.fits (fun x=>g x-h x) (fun x=>g x-h x)
 rw [sm_zero n e0] at e1
 funext x
 by_cases r:Reach ps other x
 ·have h1:=flat_of nc (g:=fun x=>g x-h x) e1.symm r
  have h2:=hg.far other (.inl rfl)
  have h3:=hh.far other (.inl rfl)
  grind
 ·rw [hg.far x (.inr r),hh.far x (.inr r)]
def lk:List Int→(Nat→Rat)→Int→Rat
 | [],_,_=>0
 | a::r,x,y=>if y=a then x 0 else lk r (fun i=>x (i+1)) y
theorem lk_not {fr:List Int}:∀ {x:Nat→Rat} {y:Int},y∉fr→lk fr x y=0:=by
 induction fr with
 | nil=>intro _ _ _;rfl
 | cons a r ih =>
  intro x y h
  simp only [lk]
  rw [if_neg (fun e=>h (by simp [e])),ih (fun e=>h (by simp [e]))]
theorem lk_at {fr:List Int}:∀ {x:Nat→Rat} {i:Nat} {y:Int},fr.Nodup→fr[i]? = some y→lk fr x y=x i:=by
 induction fr with
 | nil=>intro _ _ _ _ h;simp at h
 | cons a r ih =>
  intro x i y nd h
  obtain ⟨n1,n2⟩:=List.nodup_cons.mp nd
  cases i with
  | zero=>simp at h;subst h;exact if_pos rfl
  | succ i =>
   simp at h
   have hm:y∈r:=List.mem_of_getElem? h
   simp only [lk]
   rw [if_neg (fun e:y=a=>n1 (e▸hm)),ih n2 h]
theorem sm_lk {fr:List Int} (nd:fr.Nodup) (x:Nat→Rat) (y:Int):sm fr.length (fun j=>ind (y=fr.getD j 0)*x j)=lk fr x y:=by
 by_cases h:y∈fr
 ·obtain ⟨i,hi⟩:=List.mem_iff_getElem?.mp h
  rw [lk_at nd hi]
  have hl:=(List.getElem?_eq_some_iff.mp hi).1
  rw [sm_one (k:=i) _ hl fun j hj hne=>by
   rw [ind_f fun e=>hne ?_]
   ·grind
   ·have h1:fr[j]? = some y:=by rw [e,List.getD_eq_getElem?_getD,List.getElem?_eq_getElem hj];rfl
    exact (List.getElem?_inj hj nd).mp (h1.trans hi.symm)]
  rw [ind_t (by rw [List.getD_eq_getElem?_getD,hi];rfl)]
  grind
 ·rw [lk_not h]
  refine sm_zero _ fun j hj=>?_
  rw [ind_f fun e=>h ?_]
  ·grind
  ·rw [e,List.getD_eq_getElem?_getD,List.getElem?_eq_getElem hj]
   exact List.getElem_mem hj
def zs:List Pipe→(Pipe→Int)→Int
 | [],_=>0
 | p::r,f=>f p+zs r f
def cz (S:Int) (p:Pipe):Int:=S/p.a*p.b
def touch (y:Int) (p:Pipe):Bool:=decide (y=p.u)||decide (y=p.w)
def betw (y z:Int) (p:Pipe):Bool:=(decide (p.u=y)&&decide (p.w=z))||(decide (p.u=z)&&decide (p.w=y))
def entryZ (ps:List Pipe) (S:Int) (y z:Int):Int:=if y=z then zs (ps.filter (touch y)) (cz S) else-zs (ps.filter (betw y z)) (cz S)
theorem entry_sp {ps:List Pipe} (hne:∀ p∈ps,p.u≠p.w) (S y z:Int):((entryZ ps S y z:Int):Rat)=sp ps (fun p=>(cz S p:Rat)*(sg p y*sg p z)):=by
 induction ps with
 | nil=>unfold entryZ;split <;> rfl
 | cons p r ih =>
  have ih:=ih fun q hq=>hne q (by simp [hq])
  have hp:=hne p (by simp)
  unfold entryZ at ih ⊢
  simp only [sp]
  rw [← ih]
  unfold touch betw sg ind
  by_cases e:y=z
  ·subst e
   rw [if_pos rfl,if_pos rfl,List.filter_cons]
   by_cases h1:p.u=y
   ·have h2:¬ p.w=y:=fun e=>hp (h1.trans e.symm)
    rw [if_pos (by simp [h1])]
    simp only [zs,h1,h2,if_true,if_false]
    rw [Rat.intCast_add]
    grind
   ·by_cases h2:p.w=y
    ·rw [if_pos (by simp [h2])]
     simp only [zs,h1,h2,if_true,if_false]
     rw [Rat.intCast_add]
     grind
    ·rw [if_neg (by simp;exact ⟨fun e=>h1 e.symm,fun e=>h2 e.symm⟩)]
     simp only [h1,h2,if_false]
     grind
  ·rw [if_neg e,if_neg e,List.filter_cons]
   by_cases h1:p.u=y
   ·have h2:¬ p.w=y:=fun e=>hp (h1.trans e.symm)
    have h3:¬ p.u=z:=fun e'=>e (h1.symm.trans e')
    by_cases h4:p.w=z
    ·rw [if_pos (by simp [h1,h4])]
     simp only [zs,h1,h2,h3,h4,e,if_true,if_false]
     rw [Rat.intCast_neg,Rat.intCast_add,Rat.intCast_neg]
     have e':¬ z=y:=fun q=>e q.symm
     simp only [e',if_false]
     grind
    ·rw [if_neg (by simp [h1,h4,e])]
     simp only [h1,h2,h3,h4,e,if_true,if_false]
     grind
   ·by_cases h2:p.w=y
    ·have h3:¬ p.w=z:=fun e'=>e (h2.symm.trans e')
     by_cases h4:p.u=z
     ·rw [if_pos (by simp [h2,h4])]
      simp only [zs,h1,h2,h3,h4,e,if_true,if_false]
      rw [Rat.intCast_neg,Rat.intCast_add,Rat.intCast_neg]
      have e':¬ z=y:=fun q=>e q.symm
      simp only [e',if_false]
      grind
     ·rw [if_neg (by simp [h1,h4])]
      simp only [h1,h2,h3,h4,e,if_true,if_false]
      grind
    ·rw [if_neg (by simp [h1,h2])]
     simp only [h1,h2,if_false]
     grind
theorem cz_ease {S:Int} {p:Pipe} (ha:1≤p.a) (hd:p.a∣S):((cz S p:Int):Rat)=(S:Rat)*ease p:=by
 obtain ⟨k,rfl⟩:=hd
 have h1:=intpos ha
 unfold cz ease
 rw [Int.mul_ediv_cancel_left k (by omega),Rat.intCast_mul,Rat.intCast_mul]
 grind
section
variable {n:Nat} {ps:List Pipe} {other:Int} {fr:List Int} {S:Int}
structure Free (ps:List Pipe) (other:Int) (fr:List Int):Prop where
 nd:fr.Nodup
 mem:∀ x,x∈fr↔Reach ps other x∧x≠other
theorem row_Lap (nc:Nice n ps) (hS:∀ p∈ps,p.a∣S) (nd:fr.Nodup) (x:Nat→Rat) (y:Int):sm fr.length (fun j=>((entryZ ps S y (fr.getD j 0):Int):Rat)*x j)=(S:Rat)*Lap ps (lk fr x) y:=by
 rw [sm_cong (g:=fun j=>sp ps (fun p=>(cz S p:Rat)*(sg p y*sg p (fr.getD j 0))*x j)) _ (fun j _=>by
  rw [entry_sp nc.ne,Rat.mul_comm,← sp_mul]
  exact sp_cong fun p _=>by grind),sm_sp]
 unfold Lap
 rw [← sp_mul]
 refine sp_cong fun p hp=>?_
 have h1:sm fr.length (fun j=>(cz S p:Rat)*(sg p y*sg p (fr.getD j 0))*x j)=sm fr.length (fun j=>((cz S p:Rat)*sg p y)*(ind (p.u=fr.getD j 0)*x j-ind (p.w=fr.getD j 0)*x j)):=sm_cong _ fun j _=>by unfold sg;grind
 rw [h1,sm_mul,sm_sub,sm_lk nd,sm_lk nd,cz_ease (nc.a1 p hp) (hS p hp)]
 grind
theorem aniso_of (nc:Nice n ps) (hS:∀ p∈ps,p.a∣S) (h0:0<S) (hfr:Free ps other fr) (A:Nat→Nat→Int) (hA:∀ i j,i<fr.length→j<fr.length→A i j=entryZ ps S (fr.getD i 0) (fr.getD j 0)):Aniso fr.length (toQ A):=by
 intro x e
 have hS0:(S:Rat)≠0:=cast_ne (by omega)
 have e1:sm fr.length (fun i=>x i*sm fr.length (fun j=>toQ A i j*x j))=(S:Rat)*sm fr.length (fun i=>x i*Lap ps (lk fr x) (fr.getD i 0)):=by
  rw [← sm_mul]
  refine sm_cong _ fun i hi=>?_
  have:sm fr.length (fun j=>toQ A i j*x j)=(S:Rat)*Lap ps (lk fr x) (fr.getD i 0):=by
   rw [← row_Lap nc hS hfr.nd x (fr.getD i 0)]
   exact sm_cong _ fun j hj=>by simp only [toQ];rw [hA i j hi hj]
  rw [this]
  grind
 have e2:sm fr.length (fun i=>x i*Lap ps (lk fr x) (fr.getD i 0))=sp ps (fun p=>ease p*(lk fr x p.u-lk fr x p.w)*(lk fr x p.u-lk fr x p.w)):=by
  unfold Lap
  rw [sm_cong (g:=fun i=>sp ps (fun p=>(ind (p.u=fr.getD i 0)*x i-ind (p.w=fr.getD i 0)*x i)*(ease p*(lk fr x p.u-lk fr x p.w)))) _ (fun i _=>by
   rw [← sp_mul]
   exact sp_cong fun p _=>by unfold sg;grind),sm_sp]
  refine sp_cong fun p _=>?_
  rw [sm_mulr,sm_sub,sm_lk hfr.nd,sm_lk hfr.nd]
  grind
 rw [e1] at e
 rcases Rat.mul_eq_zero.mp e with z | z
 ·exact absurd z hS0
 ·rw [e2] at z
  intro i hi
  have hy:fr[i]? = some (fr.getD i 0):=by rw [List.getD_eq_getElem?_getD,List.getElem?_eq_getElem hi];rfl
  have hm:=(hfr.mem _).mp (List.mem_of_getElem? hy)
  have h1:=flat_of nc z hm.1
  have h2:lk fr x other=0:=lk_not fun q=>((hfr.mem _).mp q).2 rfl
  rw [h2,lk_at hfr.nd hy] at h1
  exact h1
theorem isH_of (nc:Nice n ps) (hS:∀ p∈ps,p.a∣S) (h0:0<S) (hfr:Free ps other fr) {one:Int} (ho:0≤other∧other<n) (hr:Reach ps other one) (x:Nat→Rat) (hx:∀ i,i<fr.length→sm fr.length (fun j=>((entryZ ps S (fr.getD i 0) (fr.getD j 0):Int):Rat)*x j)=(S:Rat)*ind (fr.getD i 0=one)):IsH n ps one other (lk fr x):=by
 have hS0:(S:Rat)≠0:=cast_ne (by omega)
 have far:∀ y,y=other∨¬ Reach ps other y→lk fr x y=0:=fun y hy=>lk_not fun q=>by
  have:=(hfr.mem _).mp q
  rcases hy with h | h
  ·exact this.2 h
  ·exact h this.1
 have key:∀ i:Int,(0≤i∧i<n)→i≠other→Lap ps (lk fr x) i=ind (i=one):=fun i hi hne=>by
  by_cases r:Reach ps other i
  ·obtain ⟨k,hk⟩:=List.mem_iff_getElem?.mp ((hfr.mem i).mpr ⟨r,hne⟩)
   have hl:=(List.getElem?_eq_some_iff.mp hk).1
   have hg:fr.getD k 0=i:=by rw [List.getD_eq_getElem?_getD,hk];rfl
   have h1:=hx k hl
   rw [row_Lap nc hS hfr.nd,hg] at h1
   grind
  ·rw [ind_f fun e:i=one=>r (e▸hr)]
   unfold Lap
   refine sp_zero fun p hp=>?_
   by_cases hu:p.u=i
   ·have h1:¬ Reach ps other p.w:=fun q=>r (.step q ⟨p,hp,.inr ⟨rfl,hu⟩⟩)
    rw [far p.u (.inr (hu▸r)),far p.w (.inr h1)]
    grind
   ·by_cases hw:p.w=i
    ·have h1:¬ Reach ps other p.u:=fun q=>r (.step q ⟨p,hp,.inl ⟨rfl,hw⟩⟩)
     rw [far p.w (.inr (hw▸r)),far p.u (.inr h1)]
     grind
    ·unfold sg
     rw [ind_f hu,ind_f hw]
     grind
 have hone:=hr.fits nc.fits ho
 refine ⟨far,fun i hi=>?_⟩
 by_cases hne:i=other
 ·subst hne
  have e1:=green nc.fits (fun _=>1) (lk fr x)
  rw [sp_zero (fun p _=>by grind)] at e1
  have e2:sm n (fun j=>Lap ps (lk fr x) j-(1*ind (one=(j:Int))-1*ind (i=(j:Int))))=0:=by
   rw [sm_sub,sm_sub,sm_ind n (fun _=>1) hone,sm_ind n (fun _=>1) hi]
   have:sm n (fun j=>Lap ps (lk fr x) j)=sm n (fun j=>1*Lap ps (lk fr x) j):=sm_cong n fun _ _=>by grind
   rw [this,e1]
   grind
  obtain ⟨k,rfl⟩:=Int.eq_ofNat_of_zero_le hi.1
  rw [sm_one (k:=k) n (by omega) fun j hj hjk=>by
   rw [key j (by omega) (by omega),ind_f (show ¬ ((k:Int)=(j:Int)) by omega)]
   have:ind ((j:Int)=one)=ind (one=(j:Int)):=by
    by_cases q:(j:Int)=one
    ·rw [ind_t q,ind_t q.symm]
    ·rw [ind_f q,ind_f fun z=>q z.symm]
   rw [this]
   grind] at e2
  have:ind ((k:Int)=one)=ind (one=(k:Int)):=by
   by_cases q:(k:Int)=one
   ·rw [ind_t q,ind_t q.symm]
   ·rw [ind_f q,ind_f fun z=>q z.symm]
  rw [this,ind_t (show (k:Int)=(k:Int) from rfl)] at *
  grind
 ·rw [key i hi hne,ind_f hne]
  grind
end
end St
namespace St
open Mp Bz
open Classical in
noncomputable def hOf (n:Nat) (ps:List Pipe) (one other:Int):Int→Rat:=if h:∃ g,IsH n ps one other g then Classical.choose h else fun _=>0
theorem hOf_eq {n:Nat} {ps:List Pipe} (nc:Nice n ps) {one other:Int} {g:Int→Rat} (h:IsH n ps one other g):hOf n ps one other=g:=by
 unfold hOf
 have e:∃ g,IsH n ps one other g:=⟨g,h⟩
 rw [dif_pos e]
 exact IsH.unique nc (Classical.choose_spec e) h
def stepZ (s:Int) (p:Pipe):Int:=(s*p.a).fdiv (Int.gcd s p.a:Int)
def scaleZ (ps:List Pipe):Int:=ps.foldl stepZ 1
theorem pos_of {g c x:Int} (hg:0<g) (hx:0<x) (e:x=g*c):0<c:=by
 rcases Int.lt_trichotomy 0 c with q | q | q
 ·exact q
 ·rw [← q,Int.mul_zero] at e;omega
 ·have:=Int.mul_neg_of_pos_of_neg hg q;omega
theorem stepZ_ok {s:Int} {p:Pipe} (hs:0<s) (ha:1≤p.a):0<stepZ s p∧s∣stepZ s p∧p.a∣stepZ s p∧stepZ s p≤s*p.a:=by
 have hg:0<(Int.gcd s p.a:Int):=by
  have:=Int.gcd_pos_of_ne_zero_left p.a (show s≠0 by omega)
  omega
 obtain ⟨c,hc⟩:=Int.gcd_dvd_left s p.a
 obtain ⟨d,hd⟩:=Int.gcd_dvd_right s p.a
 have e:stepZ s p=s*d:=by
  unfold stepZ
  have:s*p.a=(Int.gcd s p.a:Int)*(s*d):=by
   rw [show (Int.gcd s p.a:Int)*(s*d)=s*((Int.gcd s p.a:Int)*d) by grind,← hd]
  rw [this]
  exact Int.mul_fdiv_cancel_left _ (by omega)
 have d0:0<d:=pos_of hg (by omega) hd
 have da:d≤p.a:=by
  have:=Int.mul_le_mul_of_nonneg_right (show (1:Int)≤(Int.gcd s p.a:Int) by omega) (Int.le_of_lt d0)
  omega
 rw [e]
 refine ⟨Int.mul_pos hs d0,⟨d,rfl⟩,⟨c,?_⟩,Int.mul_le_mul_of_nonneg_left da (by omega)⟩
 have:s*d=(Int.gcd s p.a:Int)*c*d:=by rw [← hc]
 rw [this]
 have h2:p.a*c=(Int.gcd s p.a:Int)*d*c:=by rw [← hd]
 rw [h2]
 grind
theorem scale_from (ka:Nat):∀ (ps:List Pipe) (s:Int),0<s→(∀ p∈ps,1≤p.a∧p.a≤2^ka)→0<ps.foldl stepZ s∧s∣ps.foldl stepZ s∧(∀ p∈ps,p.a∣ps.foldl stepZ s)∧ps.foldl stepZ s≤s*2^(ka*ps.length)
 | [],s,hs,_=>⟨hs,Int.dvd_refl _,fun _ h=>by simp at h,by simp⟩
 | p::r,s,hs,h=>by
  obtain ⟨h1,h2⟩:=h p (by simp)
  obtain ⟨a1,a2,a3,a4⟩:=stepZ_ok hs h1
  obtain ⟨b1,b2,b3,b4⟩:=scale_from ka r (stepZ s p) a1 fun q hq=>h q (by simp [hq])
  refine ⟨b1,Int.dvd_trans a2 b2,fun q hq=>?_,?_⟩
  ·rcases List.mem_cons.mp hq with rfl | hq
   ·exact Int.dvd_trans a3 b2
   ·exact b3 q hq
  ·show r.foldl stepZ (stepZ s p)≤s*2^(ka*(r.length+1))
   have h5:stepZ s p≤s*2^ka:=Int.le_trans a4 (Int.mul_le_mul_of_nonneg_left h2 (by omega))
   have h6:(0:Int)≤2^(ka*r.length):=Int.le_of_lt (Int.pow_pos (by decide))
   have h7:=Int.mul_le_mul_of_nonneg_right h5 h6
   rw [Nat.mul_succ,Nat.add_comm,Int.pow_add,← Int.mul_assoc]
   omega
theorem scaleZ_ok {ps:List Pipe} {ka:Nat} (h:∀ p∈ps,1≤p.a∧p.a≤2^ka):0<scaleZ ps∧(∀ p∈ps,p.a∣scaleZ ps)∧scaleZ ps≤2^(ka*ps.length):=by
 obtain ⟨a,_,b,c⟩:=scale_from ka ps 1 (by decide) h
 exact ⟨a,b,by rw [Int.one_mul] at c;exact c⟩
theorem scaleZ_take {ps:List Pipe} {i:Nat} {p:Pipe} (h:ps[i]? = some p):scaleZ (ps.take (i+1))=stepZ (scaleZ (ps.take i)) p:=by
 unfold scaleZ
 rw [List.take_succ,h,List.foldl_append]
 rfl
theorem zs_le {f:Pipe→Int} {B:Nat}:∀ (ps:List Pipe),(∀ p∈ps,(f p).natAbs≤B)→(zs ps f).natAbs≤ps.length*B
 | [],_=>by simp [zs]
 | p::r,h=>by
  have h1:=h p (by simp)
  have h2:=zs_le r fun q hq=>h q (by simp [hq])
  simp only [zs,List.length_cons]
  rw [Nat.succ_mul]
  omega
theorem cz_le {S:Int} {p:Pipe} {ks kb:Nat} (h0:0<S) (hS:S≤2^ks) (ha:1≤p.a) (hb:1≤p.b) (hb2:p.b≤2^kb):(cz S p).natAbs≤2^(ks+kb):=by
 have h1:0≤S/p.a:=Int.ediv_nonneg (by omega) (by omega)
 have h2:S/p.a≤S:=Int.ediv_le_self _ (by omega)
 have h3:S/p.a*p.b≤2^ks*2^kb:=Int.mul_le_mul (Int.le_trans h2 hS) hb2 (by omega) (Int.le_of_lt (Int.pow_pos (by decide)))
 have h4:0≤S/p.a*p.b:=Int.mul_nonneg h1 (by omega)
 unfold cz
 have h5:(2:Int)^ks*2^kb=((2^(ks+kb):Nat):Int):=by rw [← Int.pow_add];norm_cast
 omega
theorem entry_le {ps:List Pipe} {S:Int} {ks kb:Nat} (h0:0<S) (hS:S≤2^ks) (ha:∀ p∈ps,1≤p.a) (hb:∀ p∈ps,1≤p.b∧p.b≤2^kb) (hl:ps.length≤31) (y z:Int):(entryZ ps S y z).natAbs≤2^(ks+kb+5):=by
 have key:∀ (f:Pipe→Bool),(zs (ps.filter f) (cz S)).natAbs≤2^(ks+kb+5):=fun f=>by
  have h1:=zs_le (f:=cz S) (B:=2^(ks+kb)) (ps.filter f) fun p hp=>by
   have:=(List.mem_filter.mp hp).1
   exact cz_le h0 hS (ha p this) (hb p this).1 (hb p this).2
  have h2:=List.length_filter_le f ps
  refine Nat.le_trans h1 ?_
  have e5:2^(ks+kb+5)=32*2^(ks+kb):=by rw [Nat.pow_add 2 (ks+kb) 5,Nat.mul_comm]
  rw [e5]
  exact Nat.mul_le_mul (by omega) (Nat.le_refl _)
 unfold entryZ
 split
 ·exact key _
 ·rw [Int.natAbs_neg]
  exact key _
def aug (ps:List Pipe) (S:Int) (fr:List Int) (one:Int):Nat→Nat→Int:=fun i j=>if j<fr.length then entryZ ps S (fr.getD i 0) (fr.getD j 0) else if fr.getD i 0=one then S else 0
theorem natLe {a b:Nat} (h:a≤b):(2:Nat)^a≤2^b:=Nat.pow_le_pow_right (by decide) h
section
variable {n:Nat} {ps:List Pipe} {other one:Int} {fr:List Int} {S:Int} {ks kb:Nat}
structure Sized (ps:List Pipe) (S:Int) (ks kb:Nat):Prop where
 pos:0<S
 le:S≤2^ks
 dv:∀ p∈ps,p.a∣S
 b2:∀ p∈ps,p.b≤2^kb
 len:ps.length≤31
theorem aug_le (nc:Nice n ps) (sz:Sized ps S ks kb) (i j:Nat):(aug ps S fr one i j).natAbs≤2^(ks+kb+5):=by
 unfold aug
 split
 ·exact entry_le sz.pos sz.le nc.a1 (fun p hp=>⟨nc.b1 p hp,sz.b2 p hp⟩) sz.len _ _
 ·split
  ·have h1:S.natAbs≤2^ks:=by
    have:=sz.le
    have h0:=sz.pos
    have h5:(2:Int)^ks=((2^ks:Nat):Int):=by norm_cast
    omega
   exact Nat.le_trans h1 (natLe (by omega))
  ·simp
theorem aug_aniso (nc:Nice n ps) (sz:Sized ps S ks kb) (hfr:Free ps other fr):Aniso fr.length (toQ (aug ps S fr one)) :=
 aniso_of nc sz.dv sz.pos hfr _ fun i j _ hj=>by unfold aug;rw [if_pos hj]
theorem Free.len (nc:Nice n ps) (ho:0≤other∧other<n) (hfr:Free ps other fr):fr.length+1≤n:=by
 have h1:(other::fr).Nodup:=List.nodup_cons.mpr ⟨fun h=>((hfr.mem _).mp h).2 rfl,hfr.nd⟩
 have:=few n (other::fr) h1 fun x hx=>by
  rcases List.mem_cons.mp hx with rfl | hx
  ·exact ho
  ·exact ((hfr.mem _).mp hx).1.fits nc.fits ho
 simpa using this
noncomputable def xOf (ps:List Pipe) (S:Int) (fr:List Int) (one:Int) (i:Nat):Rat:=Rat.divInt ((RD (aug ps S fr one) fr.length).1 i fr.length) ((RD (aug ps S fr one) fr.length).1 i i)
theorem solve_ok (nc:Nice n ps) (h8:n≤8) (sz:Sized ps S ks kb) (hfr:Free ps other fr) (ho:0≤other∧other<n) (hr:Reach ps other one):IsH n ps one other (lk fr (xOf ps S fr one))∧(∀ i,i<fr.length→(RD (aug ps S fr one) fr.length).1 i i=(RD (aug ps S fr one) fr.length).2)∧(RD (aug ps S fr one) fr.length).2≠0:=by
 have hm:fr.length≤7:=by have:=hfr.len nc ho;omega
 obtain ⟨x,h1,h2,h3⟩:=elim_end (A:=aug ps S fr one) (M:=2^(ks+kb+5)) (aug_aniso nc sz hfr) hm (Nat.one_le_two_pow) (fun i j _ _=>aug_le nc sz i j)
 refine ⟨?_,fun i hi=>(h2 i hi).1,h3⟩
 have hx:∀ i,i<fr.length→xOf ps S fr one i=x i:=fun i hi=>by
  obtain ⟨e1,e2⟩:=h2 i hi
  unfold xOf
  rw [e1,Rat.divInt_eq_div,e2]
  have:=cast_ne h3
  grind
 refine isH_of nc sz.dv sz.pos hfr ho hr _ fun i hi=>?_
 have h4:=h1 i hi
 have e3:((aug ps S fr one i fr.length:Int):Rat)=(S:Rat)*ind (fr.getD i 0=one):=by
  unfold aug ind
  rw [if_neg (by omega)]
  split
  ·grind
  ·have:((0:Int):Rat)=0:=rfl
   rw [this]
   grind
 rw [e3] at h4
 rw [← h4]
 refine sm_cong _ fun j hj=>?_
 rw [hx j hj]
 unfold aug
 rw [if_pos hj]
theorem solve_small (nc:Nice n ps) (h8:n≤8) (sz:Sized ps S ks kb) (hfr:Free ps other fr) (ho:0≤other∧other<n) (k:Nat) (hk:k≤fr.length):(∀ i j,i<fr.length→j≤fr.length→((RD (aug ps S fr one) k).1 i j).natAbs≤2^(8*(ks+kb+8)))∧((RD (aug ps S fr one) k).2).natAbs≤2^(7*(ks+kb+8))∧(RD (aug ps S fr one) k).2≠0:=by
 have hm:fr.length≤7:=by have:=hfr.len nc ho;omega
 obtain ⟨ρ,E⟩:=elim_all (A:=aug ps S fr one) (M:=2^(ks+kb+5)) (aug_aniso nc sz hfr) hm (Nat.one_le_two_pow) (fun i j _ _=>aug_le nc sz i j) k hk
 obtain ⟨h1,h2⟩:=E.small hk hm (Nat.one_le_two_pow) (fun i j _ _=>aug_le nc sz i j)
 have e:8*2^(ks+kb+5)=2^(ks+kb+8):=by
  rw [show (8:Nat)=2^3 from rfl,← Nat.pow_add]
  congr 1
  omega
 rw [e] at h1 h2
 have q:∀ m,m≤8→(2^(ks+kb+8))^m≤2^(8*(ks+kb+8)):=fun m h=>by
  rw [← Nat.pow_mul,Nat.mul_comm]
  exact natLe (Nat.mul_le_mul h (Nat.le_refl _))
 refine ⟨fun i j hi hj=>Nat.le_trans (h1 i j hi hj) (q _ (by omega)),Nat.le_trans h2 ?_,E.nz⟩
 rw [← Nat.pow_mul,Nat.mul_comm]
 exact natLe (Nat.mul_le_mul (by omega) (Nat.le_refl _))
theorem hOf_isH (nc:Nice n ps) (h8:n≤8) (sz:Sized ps S ks kb) (hfr:Free ps other fr) (ho:0≤other∧other<n) (hr:Reach ps other one):IsH n ps one other (hOf n ps one other):=by
 have h1:=(solve_ok nc h8 sz hfr ho hr).1
 rw [hOf_eq nc h1]
 exact h1
end
end St
namespace St
open Mp Bz
theorem lk_take {fr:List Int} (nd:fr.Nodup) {i:Nat} {z:Int} (h:fr[i]? = some z) (x:Nat→Rat) (y:Int):lk (fr.take (i+1)) x y=if y=z then x i else lk (fr.take i) x y:=by
 have hl:=(List.getElem?_eq_some_iff.mp h).1
 have nd1:∀ k,(fr.take k).Nodup:=fun k=>List.Sublist.nodup (List.take_sublist k fr) nd
 by_cases e:y=z
 ·rw [if_pos e,e]
  exact lk_at (nd1 _) (by rw [List.getElem?_take,if_pos (by omega),h])
 ·rw [if_neg e]
  by_cases hy:y∈fr.take i
  ·obtain ⟨k,hk⟩:=List.mem_iff_getElem?.mp hy
   rw [lk_at (nd1 _) hk]
   have hk2:k<i∧fr[k]? = some y:=by
    rw [List.getElem?_take] at hk
    by_cases q:k<i
    ·rw [if_pos q] at hk;exact ⟨q,hk⟩
    ·rw [if_neg q] at hk;cases hk
   exact lk_at (nd1 _) (by rw [List.getElem?_take,if_pos (by omega)];exact hk2.2)
  ·rw [lk_not hy,lk_not]
   rw [List.take_succ,h]
   intro q
   rcases List.mem_append.mp q with q | q
   ·exact hy q
   ·exact e (by simpa using q)
theorem free_of {ps:List Pipe} {other:Int} {ms:List Int} (h:PartOf ps other ms):Free ps other (ms.filter fun x=>!decide (x=other)):=by
 refine ⟨List.Pairwise.filter _ (List.Pairwise.imp (fun {a b} (q:a<b)=>by omega) h.1),fun x=>?_⟩
 rw [List.mem_filter,h.2 x]
 simp
theorem sized_of {ps:List Pipe} {ka kb:Nat} (ha:∀ p∈ps,1≤p.a∧p.a≤2^ka) (hb:∀ p∈ps,p.b≤2^kb) {L:Nat} (hl:ps.length≤L) (h31:L≤31):Sized ps (scaleZ ps) (ka*L) kb:=by
 obtain ⟨h1,h2,h3⟩:=scaleZ_ok ha
 refine ⟨h1,Int.le_trans h3 ?_,h2,hb,by omega⟩
 have:(2:Nat)^(ka*ps.length)≤2^(ka*L):=natLe (Nat.mul_le_mul (Nat.le_refl _) hl)
 exact_mod_cast this
end St
namespace St
open Mp Bz
section
variable {n:Nat} {ps:List Pipe} {one other:Int} {g h:Int→Rat}
open Classical in
theorem IsH.rev (nc:Nice n ps) (hh:IsH n ps one other h) (hr:Reach ps other one):IsH n ps other one (fun x=>if Reach ps other x then h one-h x else 0):=by
 refine ⟨fun x hx=>?_,fun i hi=>?_⟩
 ·rcases hx with rfl | hx
  ·show (if Reach ps other x then h x-h x else 0)=0
   split <;> grind
  ·show (if Reach ps other x then h one-h x else 0)=0
   rw [if_neg fun r=>hx (hr.symm.trans r)]
 ·have hL:Lap ps (fun x=>if Reach ps other x then h one-h x else 0) i = - Lap ps h i:=by
   have:Lap ps (fun x=>if Reach ps other x then h one-h x else 0) i=Lap ps (fun x=>(-1)*h x) i:=by
    unfold Lap
    refine sp_cong fun p hp=>?_
    by_cases r:Reach ps other p.u
    ·have r2:Reach ps other p.w:=.step r ⟨p,hp,.inl ⟨rfl,rfl⟩⟩
     simp only [r,r2,if_true]
     grind
    ·have r2:¬ Reach ps other p.w:=fun z=>r (.step z ⟨p,hp,.inr ⟨rfl,rfl⟩⟩)
     simp only [r,r2,if_false]
     rw [hh.far _ (.inr r),hh.far _ (.inr r2)]
     grind
   rw [this,Lap_mul]
   grind
  rw [hL,hh.har i hi]
  grind
end
def Dn (N:Int) (B:Nat) (q:Rat):Prop:=∃ z:Int,q*(N:Rat)=(z:Rat)∧z.natAbs≤B
theorem Dn.add {N:Int} {B C:Nat} {q r:Rat} (h:Dn N B q) (k:Dn N C r):Dn N (B+C) (q+r):=by
 obtain ⟨z,e,b⟩:=h
 obtain ⟨y,e',c⟩:=k
 exact ⟨z+y,by rw [Rat.intCast_add,← e,← e'];grind,by omega⟩
theorem Dn.sum {N:Int} {B:Nat}:∀ {qs:List Rat},(∀ q∈qs,Dn N B q)→Dn N (qs.length*B) qs.sum
 | [],_=>⟨0,by rw [List.sum_nil];grind,by simp⟩
 | q::r,h=>by
  have h1:=(h q (by simp)).add (Dn.sum (qs:=r) fun x hx=>h x (by simp [hx]))
  rw [List.sum_cons,List.length_cons,Nat.succ_mul,Nat.add_comm]
  exact h1
theorem Dn.le {N:Int} {B:Nat} {q:Rat} (h:Dn N B q) (h0:N≠0):q.num.natAbs≤B∧q.den≤N.natAbs:=by
 obtain ⟨z,e,b⟩:=h
 have:q=Rat.divInt z N:=by
  rw [Rat.divInt_eq_div,← e]
  have:=cast_ne h0
  grind
 rw [this]
 exact ⟨Nat.le_trans (My.num_le z N h0) b,My.den_le z N h0⟩
end St
namespace St
open Mp Bz
section
variable {n:Nat} {ps ps':List Pipe} {one other third:Int} {g h h':Int→Rat}
theorem Adj.mono {ps ps':List Pipe} (hs:∀ p∈ps,p∈ps') {x y:Int} (h:Adj ps x y):Adj ps' x y:=by
 obtain ⟨p,hp,q⟩:=h
 exact ⟨p,hs p hp,q⟩
theorem Reach.monoP {ps ps':List Pipe} (hs:∀ x y,Adj ps x y→Adj ps' x y) {x y:Int} (h:Reach ps x y):Reach ps' x y:=by
 induction h with
 | refl=>exact .refl
 | step _ a ih=>exact .step ih (hs _ _ a)
theorem Lap_append (ps qs:List Pipe) (g:Int→Rat) (i:Int):Lap (ps++qs) g i=Lap ps g i+Lap qs g i:=sp_append _ ps qs
theorem Lap_one (p:Pipe) (g:Int→Rat) (i:Int):Lap [p] g i=sg p i*(ease p*(g p.u-g p.w)):=by
 unfold Lap
 simp only [sp]
 grind
open Classical in
theorem isH_first (nc:Nice n ps) (hr:¬ Reach ps one other) {p:Pipe} (hu:p.u=one) (hw:p.w=other) (ha:1≤p.a) (hb:1≤p.b):IsH n (ps++[p]) one other (fun x=>if Reach ps one x then hard p else 0):=by
 have e1:=ease_hard ha hb
 have hp:Adj (ps++[p]) other one:=⟨p,by simp,.inr ⟨hw,hu⟩⟩
 refine ⟨fun x hx=>?_,fun i hi=>?_⟩
 ·show (if Reach ps one x then hard p else 0)=0
  rw [if_neg fun r=>?_]
  rcases hx with rfl | hx
  ·exact hr r
  ·exact hx ((Reach.step .refl hp).trans (Reach.monoP (fun _ _=>Adj.mono fun _ h=>List.mem_append_left _ h) r))
 ·have hL:Lap ps (fun x=>if Reach ps one x then hard p else 0) i=0:=sp_zero fun q hq=>by
   by_cases r:Reach ps one q.u
   ·have r2:Reach ps one q.w:=.step r ⟨q,hq,.inl ⟨rfl,rfl⟩⟩
    simp only [r,r2,if_true]
    grind
   ·have r2:¬ Reach ps one q.w:=fun z=>r (.step z ⟨q,hq,.inr ⟨rfl,rfl⟩⟩)
    simp only [r,r2,if_false]
    grind
  rw [Lap_append,hL,Lap_one,hu,hw]
  have e2:(if Reach ps one one then hard p else 0)=hard p:=if_pos .refl
  have e3:(if Reach ps one other then hard p else 0)=0:=if_neg hr
  rw [e2,e3]
  have e5:∀ a b:Int,ind (a=b)=ind (b=a):=fun a b=>by
   by_cases q:a=b
   ·rw [ind_t q,ind_t q.symm]
   ·rw [ind_f q,ind_f fun z=>q z.symm]
  unfold sg
  rw [hu,hw,e5 one i,e5 other i]
  grind
end
end St
namespace St
open Bz Mp
def ez (ps:List Pipe) (x y:Int):Rat:=sp ps (fun p=>if betw x y p=true then ease p else 0)
def et (ps:List Pipe) (x:Int):Rat:=sp ps (fun p=>if touch x p=true then ease p else 0)
theorem betw_iff {x y:Int} {p:Pipe}:betw x y p=true↔(p.u=x∧p.w=y)∨(p.u=y∧p.w=x):=by
 unfold betw
 simp
theorem touch_iff {x:Int} {p:Pipe}:touch x p=true↔p.u=x∨p.w=x:=by
 unfold touch
 rw [Bool.or_eq_true,decide_eq_true_eq,decide_eq_true_eq]
 exact or_congr eq_comm eq_comm
theorem ez_symm (ps:List Pipe) (x y:Int):ez ps x y=ez ps y x:=sp_cong fun p _=>by
 have:betw x y p=betw y x p:=by
  rw [Bool.eq_iff_iff,betw_iff,betw_iff]
  exact or_comm
 rw [this]
theorem ez_self {n:Nat} {ps:List Pipe} (nc:Nice n ps) (x:Int):ez ps x x=0:=sp_zero fun p hp=>by
 rw [if_neg]
 intro h
 have:=nc.ne p hp
 rcases betw_iff.mp h with h | h <;> exact this (h.1.trans h.2.symm)
theorem ez_nn {n:Nat} {ps:List Pipe} (nc:Nice n ps) (x y:Int):0≤ez ps x y:=sp_nonneg fun p hp=>by
 split
 ·have:=ease_pos (nc.a1 p hp) (nc.b1 p hp)
  grind
 ·grind
theorem ez_adj {n:Nat} {ps:List Pipe} (nc:Nice n ps) {x y:Int}:ez ps x y≠0↔Adj ps x y:=by
 have key:(∀ p∈ps,betw x y p=false)↔ez ps x y=0:=by
  constructor
  ·intro h
   exact sp_zero fun p hp=>by rw [h p hp];rfl
  ·intro h p hp
   have:=sp_all_zero (f:=fun p=>if betw x y p=true then ease p else 0) (fun p hp=>by
    split
    ·have:=ease_pos (nc.a1 p hp) (nc.b1 p hp)
     grind
    ·grind) h p hp
   cases e:betw x y p with
   | false=>rfl
   | true =>
    rw [e,if_pos rfl] at this
    have h2:=ease_pos (nc.a1 p hp) (nc.b1 p hp)
    rw [this] at h2
    exact absurd h2 (by grind)
 constructor
 ·intro h
  refine Classical.byContradiction fun na=>h (key.mp fun p hp=>?_)
  cases e:betw x y p with
  | false=>rfl
  | true =>
   refine absurd ⟨p,hp,?_⟩ na
   rcases betw_iff.mp e with q | q
   ·exact .inl q
   ·exact .inr ⟨q.2,q.1⟩
 ·rintro ⟨p,hp,h⟩ z
  have:=key.mpr z p hp
  have e:betw x y p=true:=betw_iff.mpr (h.elim .inl fun q=>.inr ⟨q.2,q.1⟩)
  rw [this] at e
  cases e
theorem sm_betw {n:Nat} {ps:List Pipe} (nc:Nice n ps) (y:Int) (g:Pipe→Int→Rat):sm n (fun z=>sp ps (fun p=>if betw y (z:Int) p=true then g p z else 0))=sp ps (fun p=>if p.u=y then g p p.w else if p.w=y then g p p.u else 0):=by
 rw [sm_sp]
 refine sp_cong fun p hp=>?_
 obtain ⟨fu,fw⟩:=nc.fits p hp
 have hne:=nc.ne p hp
 by_cases hu:p.u=y
 ·rw [if_pos hu]
  have e:((p.w.toNat:Nat):Int)=p.w:=by omega
  rw [sm_one (k:=p.w.toNat) n (by omega) (fun i _ hi=>if_neg fun h=>by
   rcases betw_iff.mp h with q | q
   ·omega
   ·exact hne (hu.trans q.2.symm)),if_pos (betw_iff.mpr (.inl ⟨hu,e.symm⟩)),e]
 ·rw [if_neg hu]
  by_cases hw:p.w=y
  ·rw [if_pos hw]
   have e:((p.u.toNat:Nat):Int)=p.u:=by omega
   rw [sm_one (k:=p.u.toNat) n (by omega) (fun i _ hi=>if_neg fun h=>by
    rcases betw_iff.mp h with q | q
    ·exact hu q.1
    ·omega),if_pos (betw_iff.mpr (.inr ⟨e.symm,hw⟩)),e]
  ·rw [if_neg hw]
   refine sm_zero n fun i _=>if_neg fun h=>?_
   rcases betw_iff.mp h with q | q
   ·exact hu q.1
   ·exact hw q.2
theorem lap_ez {n:Nat} {ps:List Pipe} (nc:Nice n ps) (h:Int→Rat) (y:Int):Lap ps h y=sm n (fun z=>ez ps y z*(h y-h z)):=by
 have e:sm n (fun z=>ez ps y z*(h y-h z))=sm n (fun z=>sp ps (fun p=>if betw y (z:Int) p=true then (fun (p:Pipe) (z:Int)=>ease p*(h y-h z)) p z else 0)):=sm_cong n fun z _=>by
  unfold ez
  rw [Rat.mul_comm,← sp_mul]
  refine sp_cong fun p _=>?_
  split <;> grind
 rw [e]
 refine Eq.trans ?_ (sm_betw nc y (fun p z=>ease p*(h y-h z))).symm
 unfold Lap
 refine sp_cong fun p hp=>?_
 have hne:=nc.ne p hp
 unfold sg
 by_cases hu:p.u=y
 ·rw [if_pos hu,ind_t hu,ind_f (fun z=>hne (hu.trans z.symm)),hu]
  grind
 ·rw [if_neg hu,ind_f hu]
  by_cases hw:p.w=y
  ·rw [if_pos hw,ind_t hw,hw];grind
  ·rw [if_neg hw,ind_f hw];grind
theorem et_ez {n:Nat} {ps:List Pipe} (nc:Nice n ps) (y:Int):et ps y=sm n (fun z=>ez ps y z):=by
 have:=sm_betw nc y (fun p _=>ease p)
 unfold ez
 rw [this]
 unfold et
 refine sp_cong fun p _=>?_
 by_cases hu:p.u=y
 ·rw [if_pos hu,if_pos (touch_iff.mpr (.inl hu))]
 ·rw [if_neg hu]
  by_cases hw:p.w=y
  ·rw [if_pos hw,if_pos (touch_iff.mpr (.inr hw))]
  ·rw [if_neg hw,if_neg fun h=>by rcases touch_iff.mp h with q | q;exact hu q;exact hw q]
theorem sm_nonneg {f:Nat→Rat}:∀ (n:Nat),(∀ i,i<n→0≤f i)→0≤sm n f
 | 0,_=>by simp only [sm];grind
 | n+1,h=>by
  have h1:=sm_nonneg n fun i hi=>h i (by omega)
  have h2:=h n (by omega)
  simp only [sm]
  grind
theorem sm_all_zero {f:Nat→Rat}:∀ (n:Nat),(∀ i,i<n→0≤f i)→sm n f=0→∀ i,i<n→f i=0
 | 0,_,_,i,hi=>by omega
 | n+1,h,e,i,hi=>by
  have h1:=sm_nonneg n fun i hi=>h i (by omega)
  have h2:=h n (by omega)
  simp only [sm] at e
  by_cases q:i=n
  ·subst q;grind
  ·exact sm_all_zero n (fun i hi=>h i (by omega)) (by grind) i (by omega)
theorem et_zero {n:Nat} {ps:List Pipe} (nc:Nice n ps) {x:Int} (h:et ps x=0) {y:Int} (hy:0≤y∧y<n):ez ps x y=0:=by
 rw [et_ez nc] at h
 have:=sm_all_zero n (fun i _=>ez_nn nc x i) h y.toNat (by omega)
 rwa [show ((y.toNat:Nat):Int)=y by omega] at this
theorem et_nn {n:Nat} {ps:List Pipe} (nc:Nice n ps) (x:Int):0≤et ps x:=by
 rw [et_ez nc]
 exact sm_nonneg n fun i _=>ez_nn nc x i
def lft (t x:Int):Int:=if x<t then x else x+1
theorem lft_ne (t x:Int):lft t x≠t:=by unfold lft;split <;> omega
theorem lft_inj {t x y:Int} (h:lft t x=lft t y):x=y:=by
 unfold lft at h
 split at h <;> split at h <;> omega
theorem lft_fits {t x:Int} {m:Nat} (hx:0≤x∧x<m):0≤lft t x∧lft t x<(m+1:Nat):=by unfold lft;split <;> omega
theorem lft_has {t z:Int} {m:Nat} (ht:0≤t∧t<(m+1:Nat)) (hz:0≤z∧z<(m+1:Nat)) (hne:z≠t):∃ x:Int,(0≤x∧x<m)∧lft t x=z:=by
 by_cases h:z<t
 ·exact ⟨z,⟨by omega,by omega⟩,by unfold lft;rw [if_pos h]⟩
 ·exact ⟨z-1,⟨by omega,by omega⟩,by unfold lft;rw [if_neg (by omega)];omega⟩
theorem sm_skip (f:Int→Rat) (t:Nat):∀ m:Nat,t≤m→sm (m+1) (fun z=>f z)=sm m (fun z=>f (lft t z))+f t
 | 0,ht=>by
  obtain rfl:t=0:=by omega
  simp only [sm]
 | m+1,ht=>by
  by_cases e:t=m+1
  ·subst e
   show sm (m+1) (fun z=>f z)+f ((m+1:Nat):Int)=_
   congr 1
   exact sm_cong _ fun i hi=>by unfold lft;rw [if_pos (by omega)]
  ·have ih:=sm_skip f t m (by omega)
   show sm (m+1) (fun z=>f z)+f ((m+1:Nat):Int)=sm m (fun z=>f (lft t z))+f (lft t (m:Nat))+f t
   rw [ih]
   have:lft t ((m:Nat):Int)=((m+1:Nat):Int):=by unfold lft;rw [if_neg (by omega)];omega
   rw [this]
   grind
def prs (m:Nat):List (Nat×Nat):=(List.range m).flatMap fun i=>(List.range (m-(i+1))).map fun j=>(i,i+1+j)
def mesh (E:Int→Int→Rat) (l:List (Nat×Nat)):List Pipe:=(l.filter fun q=>!decide (E q.1 q.2=0)).map fun q=>⟨q.1,q.2,(1/E q.1 q.2).num,((1/E q.1 q.2).den:Int)⟩
theorem prs_mem {m:Nat} {q:Nat×Nat} (h:q∈prs m):q.1<q.2∧q.2<m:=by
 unfold prs at h
 rw [List.mem_flatMap] at h
 obtain ⟨i,hi,h⟩:=h
 obtain ⟨j,hj,rfl⟩:=List.mem_map.mp h
 have h1:=List.mem_range.mp hi
 have h2:=List.mem_range.mp hj
 exact ⟨by simp only;omega,by simp only;omega⟩
theorem mesh_mem {E:Int→Int→Rat} {l:List (Nat×Nat)} {p:Pipe} (h:p∈mesh E l):∃ q∈l,E q.1 q.2≠0∧p=⟨q.1,q.2,(1/E q.1 q.2).num,((1/E q.1 q.2).den:Int)⟩:=by
 unfold mesh at h
 obtain ⟨q,hq,rfl⟩:=List.mem_map.mp h
 obtain ⟨h1,h2⟩:=List.mem_filter.mp hq
 exact ⟨q,h1,by simpa using h2,rfl⟩
theorem inv_pos {e:Rat} (h:0<e):0<1/e:=by
 rw [Rat.div_def,Rat.one_mul]
 exact Rat.inv_pos.mpr h
theorem inv_nn {e:Rat} (h:0≤e):0≤e⁻¹:=by
 by_cases z:e=0
 ·rw [z,Rat.inv_zero];grind
 ·have:=Rat.inv_pos.mpr (show 0<e by grind)
  grind
theorem num_pos {e:Rat} (h:0<e):1≤e.num:=by
 have h1:=Rat.num_nonneg.mpr (show 0≤e by grind)
 have h2:e.num≠0:=fun z=>by rw [Rat.num_eq_zero.mp z] at h;grind
 omega
theorem ease_of {e:Rat} (h:0<e) (u w:Int):ease ⟨u,w,(1/e).num,((1/e).den:Int)⟩=e:=by
 have h1:=inv_pos h
 have h2:((1/e).num:Rat)/((1/e).den:Rat)=1/e:=by
  rw [← Rat.mkRat_eq_div]
  exact Rat.mkRat_self _
 have h3:(0:Rat)<((1/e).den:Rat):=by exact_mod_cast (1/e).den_pos
 show (((1/e).den:Int):Rat)/((1/e).num:Rat)=e
 have h4:(((1/e).den:Int):Rat)=((1/e).den:Rat):=rfl
 rw [h4]
 have h5:((1/e).num:Rat)≠0:=fun z=>by rw [z] at h2;grind
 generalize ((1/e).num:Rat)=a at *
 generalize ((1/e).den:Rat)=b at *
 have h6:a*e=b:=by grind
 grind
theorem mesh_nice {E:Int→Int→Rat} {m:Nat} (h0:∀ x y:Int,0≤E x y):Nice m (mesh E (prs m)):=by
 have key:∀ p∈mesh E (prs m),∃ q:Nat×Nat,(q.1<q.2∧q.2<m)∧0<E q.1 q.2∧p=⟨q.1,q.2,(1/E q.1 q.2).num,((1/E q.1 q.2).den:Int)⟩:=fun p hp=>by
  obtain ⟨q,hq,hne,e⟩:=mesh_mem hp
  exact ⟨q,prs_mem hq,by have:=h0 q.1 q.2;grind,e⟩
 refine ⟨fun p hp=>?_,fun p hp=>?_,fun p hp=>?_,fun p hp=>?_⟩ <;> obtain ⟨q,⟨h1,h2⟩,h3,rfl⟩:=key p hp
 ·exact ⟨⟨by show (0:Int)≤(q.1:Int);omega,by show (q.1:Int)<_;omega⟩,⟨by show (0:Int)≤(q.2:Int);omega,by show (q.2:Int)<_;omega⟩⟩
 ·show (q.1:Int)≠(q.2:Int);omega
 ·have:=inv_pos h3
  exact num_pos this
 ·have:=(1/E q.1 q.2).den_pos
  show (1:Int)≤((1/E q.1 q.2).den:Int);omega
theorem sp_flat {α β:Type} (f:α→List β) (g:β→Rat):∀ l:List α,sp (l.flatMap f) g=sp l (fun x=>sp (f x) g)
 | []=>rfl
 | a::l=>by rw [List.flatMap_cons,sp_append,sp_flat f g l];rfl
theorem sp_map {α β:Type} (f:α→β) (g:β→Rat):∀ l:List α,sp (l.map f) g=sp l (fun x=>g (f x))
 | []=>rfl
 | a::l=>by rw [List.map_cons];simp only [sp];rw [sp_map f g l]
theorem sp_filt {α:Type} (b:α→Bool) (g:α→Rat):∀ l:List α,sp (l.filter b) g=sp l (fun x=>if b x=true then g x else 0)
 | []=>rfl
 | a::l=>by
  rw [List.filter_cons]
  simp only [sp]
  rw [← sp_filt b g l]
  split
  ·rfl
  ·grind
theorem sp_rng (F:Nat→Rat):∀ n:Nat,sp (List.range n) F=sm n F
 | 0=>rfl
 | n+1=>by rw [List.range_succ,sp_append,sp_rng F n];simp only [sp,sm];grind
theorem mesh_ez {E:Int→Int→Rat} {m:Nat} (h0:∀ x y:Int,0≤E x y) (sy:∀ x y:Int,E x y=E y x) {x y:Int} (hx:0≤x∧x<m) (hy:0≤y∧y<m) (hne:x≠y):ez (mesh E (prs m)) x y=E x y:=by
 have key:∀ {x y:Int},0≤x→x<y→y<m→ez (mesh E (prs m)) x y=E x y:=by
  intro x y h1 h2 h3
  obtain ⟨a,rfl⟩:=Int.eq_ofNat_of_zero_le h1
  obtain ⟨b,rfl⟩:=Int.eq_ofNat_of_zero_le (show 0≤y by omega)
  unfold ez mesh
  rw [sp_map,sp_filt]
  have e:sp (prs m) (fun q=>if (!decide (E q.1 q.2=0))=true then (if betw (a:Int) (b:Int) ⟨q.1,q.2,(1/E q.1 q.2).num,((1/E q.1 q.2).den:Int)⟩=true then ease ⟨q.1,q.2,(1/E q.1 q.2).num,((1/E q.1 q.2).den:Int)⟩ else 0) else 0)
    = sp (prs m) (fun q=>if q.1=a∧q.2=b then E q.1 q.2 else 0):=sp_cong fun q hq=>by
   obtain ⟨q1,q2⟩:=prs_mem hq
   by_cases z:E q.1 q.2=0
   ·rw [if_neg (by simp [z]),z];split <;> rfl
   ·rw [if_pos (by simp [z]),ease_of (by have:=h0 q.1 q.2;grind)]
    by_cases c:q.1=a∧q.2=b
    ·rw [if_pos c,if_pos (betw_iff.mpr (.inl ⟨by show (q.1:Int)=a;omega,by show (q.2:Int)=b;omega⟩))]
    ·rw [if_neg c,if_neg]
     intro h
     rcases betw_iff.mp h with h | h
     ·have u1:(q.1:Int)=a:=h.1
      have u2:(q.2:Int)=b:=h.2
      exact c ⟨by omega,by omega⟩
     ·have u1:(q.1:Int)=b:=h.1
      have u2:(q.2:Int)=a:=h.2
      omega
  rw [e]
  unfold prs
  rw [sp_flat,sp_rng,sm_one (k:=a) m (by omega) (fun i _ hi=>by
   rw [sp_map]
   exact sp_zero fun j _=>if_neg fun h=>hi h.1),sp_map,sp_rng,sm_one (k:=b-(a+1)) _ (by omega) (fun j _ hj=>if_neg fun h=>by have:=h.2;simp only at this;omega)]
  have eb:a+1+(b-(a+1))=b:=by omega
  rw [if_pos ⟨rfl,eb⟩]
  show E (a:Int) ((a+1+(b-(a+1)):Nat):Int)=_
  rw [eb]
 by_cases h:x<y
 ·exact key hx.1 h hy.2
 ·rw [ez_symm,sy]
  exact key hy.1 (by omega) hx.2
theorem mesh_adj {E:Int→Int→Rat} {m:Nat} (h0:∀ x y:Int,0≤E x y) (sy:∀ x y:Int,E x y=E y x) {x y:Int} (hx:0≤x∧x<m) (hy:0≤y∧y<m) (hne:x≠y):Adj (mesh E (prs m)) x y↔E x y≠0:=by
 rw [← ez_adj (mesh_nice h0),mesh_ez h0 sy hx hy hne]
def eo (ps:List Pipe) (t x y:Int):Rat:=ez ps x y+ez ps x t*ez ps t y/et ps t
theorem eo_nn {n:Nat} {ps:List Pipe} (nc:Nice n ps) (t x y:Int):0≤eo ps t x y:=by
 unfold eo
 have h1:=ez_nn nc x y
 have h2:=Rat.mul_nonneg (ez_nn nc x t) (ez_nn nc t y)
 have h3:=et_nn nc t
 have h4:0≤ez ps x t*ez ps t y/et ps t:=by
  rw [Rat.div_def]
  exact Rat.mul_nonneg h2 (inv_nn h3)
 grind
theorem eo_symm (ps:List Pipe) (t x y:Int):eo ps t x y=eo ps t y x:=by
 unfold eo
 rw [ez_symm ps x y,ez_symm ps x t,ez_symm ps t y]
 grind
theorem eo_lap {m:Nat} {ps:List Pipe} (nc:Nice (m+1) ps) {t:Int} (ht:0≤t∧t<(m+1:Nat)) (h:Int→Rat) (hl:Lap ps h t=0) {y:Int} (hy:0≤y∧y<(m+1:Nat)):sm m (fun z=>eo ps t y (lft t z)*(h y-h (lft t z)))=Lap ps h y:=by
 obtain ⟨k,rfl⟩:=Int.eq_ofNat_of_zero_le ht.1
 have e0:=sm_skip (fun z=>eo ps k y z*(h y-h z)) k m (by omega)
 have e1:sm (m+1) (fun z=>eo ps k y z*(h y-h z))=Lap ps h y+ez ps y k/et ps k*((h y-h k)*et ps k):=by
  have a1:sm (m+1) (fun z=>ez ps k z*(h y-h z))=(h y-h k)*et ps k:=by
   have b1:=lap_ez nc h k
   rw [hl] at b1
   rw [et_ez nc,← sm_mul]
   have b2:=sm_add (fun z:Nat=>ez ps k z*(h k-h z)) (fun z:Nat=>(h y-h k)*ez ps k z) (m+1)
   rw [← b1,Rat.zero_add] at b2
   rw [← b2]
   exact sm_cong _ fun z _=>by grind
  rw [lap_ez nc h y,← a1,← sm_mul,← sm_add]
  refine sm_cong _ fun z _=>?_
  unfold eo
  grind
 have e2:sm m (fun z=>eo ps k y (lft k z)*(h y-h (lft k z)))=sm (m+1) (fun z=>eo ps k y z*(h y-h z))-eo ps k y k*(h y-h k):=by rw [e0];grind
 rw [e2,e1]
 have e3:eo ps k y k=ez ps y k:=by unfold eo;rw [ez_self nc];grind
 rw [e3]
 by_cases z:et ps k=0
 ·have:=et_zero nc z hy
  rw [ez_symm] at this
  rw [this]
  grind
 ·grind
section
variable {m:Nat} {ps:List Pipe} {t:Int}
def outP (ps:List Pipe) (t:Int) (m:Nat):List Pipe:=mesh (fun x y=>eo ps t (lft t x) (lft t y)) (prs m)
theorem out_nice (nc:Nice (m+1) ps):Nice m (outP ps t m):=mesh_nice fun _ _=>eo_nn nc _ _ _
theorem out_adj (nc:Nice (m+1) ps) {x y:Int} (hx:0≤x∧x<m) (hy:0≤y∧y<m) (hne:x≠y):Adj (outP ps t m) x y↔eo ps t (lft t x) (lft t y)≠0 :=
 mesh_adj (fun _ _=>eo_nn nc _ _ _) (fun _ _=>eo_symm _ _ _ _) hx hy hne
theorem eo_ne (nc:Nice (m+1) ps) (ht:0≤t∧t<(m+1:Nat)) {x y:Int} (hy:0≤y∧y<(m+1:Nat)):eo ps t x y≠0↔Adj ps x y∨(Adj ps x t∧Adj ps t y):=by
 rw [← ez_adj nc,← ez_adj nc,← ez_adj nc]
 have h1:=ez_nn nc x y
 have h2:=Rat.mul_nonneg (ez_nn nc x t) (ez_nn nc t y)
 have h3:=et_nn nc t
 have h4:0≤ez ps x t*ez ps t y/et ps t:=by
  rw [Rat.div_def]
  exact Rat.mul_nonneg h2 (inv_nn h3)
 unfold eo
 constructor
 ·intro h
  by_cases z:ez ps x y=0
  ·refine .inr ⟨fun q=>h ?_,fun q=>h ?_⟩
   ·rw [z,q];grind
   ·rw [z,q];grind
  ·exact .inl z
 ·rintro (h | ⟨ha,hb⟩) e
  ·exact h (by grind)
  ·have z:ez ps x t*ez ps t y/et ps t=0:=by grind
   have ne:et ps t≠0:=fun q=>hb (et_zero nc q hy)
   have:ez ps x t*ez ps t y=0:=by grind
   rcases Rat.mul_eq_zero.mp this with q | q
   ·exact ha q
   ·exact hb q
theorem out_reach (nc:Nice (m+1) ps) (ht:0≤t∧t<(m+1:Nat)) {x y:Int} (hx:0≤x∧x<m) (hy:0≤y∧y<m):Reach (outP ps t m) x y↔Reach ps (lft t x) (lft t y):=by
 have hnc:=out_nice (t:=t) nc
 constructor
 ·intro r
  have key:∀ z,Reach (outP ps t m) x z→(0≤z∧z<m)∧Reach ps (lft t x) (lft t z):=by
   intro z r
   induction r with
   | refl=>exact ⟨hx,.refl⟩
   | @step a b r ad ih =>
    have hb:=ad.fits hnc.fits
    have hne:a≠b:=by
     obtain ⟨p,hp,h | h⟩:=ad
     ·rw [← h.1,← h.2];exact hnc.ne p hp
     ·rw [← h.1,← h.2];exact (hnc.ne p hp).symm
    refine ⟨hb,ih.2.trans ?_⟩
    rcases (eo_ne nc ht (lft_fits hb)).mp ((out_adj nc ih.1 hb hne).mp ad) with q | ⟨q1,q2⟩
    ·exact .step .refl q
    ·exact .step (.step .refl q1) q2
  exact (key y r).2
 ·intro r
  have key:∀ z,Reach ps (lft t x) z→(z≠t→∃ j,(0≤j∧j<(m:Int))∧lft t j=z∧Reach (outP ps t m) x j)∧(z=t→∃ j,(0≤j∧j<(m:Int))∧Adj ps (lft t j) t∧Reach (outP ps t m) x j):=by
   intro z r
   induction r with
   | refl=>exact ⟨fun _=>⟨x,hx,rfl,.refl⟩,fun e=>absurd e (lft_ne t x)⟩
   | @step a b r ad ih =>
    have hb:=ad.fits nc.fits
    refine ⟨fun nb=>?_,fun eb=>?_⟩
    ·obtain ⟨j,hj,ej⟩:=lft_has ht hb nb
     by_cases ea:a=t
     ·subst ea
      obtain ⟨i,hi,ai,ri⟩:=ih.2 rfl
      refine ⟨j,hj,ej,?_⟩
      by_cases q:i=j
      ·rw [← q];exact ri
      ·refine .step ri ((out_adj nc hi hj q).mpr ((eo_ne nc ht (lft_fits hj)).mpr (.inr ⟨ai,?_⟩)))
       rw [ej];exact ad
     ·obtain ⟨i,hi,ei,ri⟩:=ih.1 ea
      refine ⟨j,hj,ej,?_⟩
      by_cases q:i=j
      ·rw [← q];exact ri
      ·refine .step ri ((out_adj nc hi hj q).mpr ((eo_ne nc ht (lft_fits hj)).mpr (.inl ?_)))
       rw [ei,ej];exact ad
    ·subst eb
     have ea:a≠b:=by
      obtain ⟨p,hp,h | h⟩:=ad
      ·rw [← h.1,← h.2];exact nc.ne p hp
      ·rw [← h.1,← h.2];exact (nc.ne p hp).symm
     obtain ⟨i,hi,ei,ri⟩:=ih.1 ea
     exact ⟨i,hi,by rw [ei];exact ad,ri⟩
  obtain ⟨j,hj,ej,rj⟩:=(key _ r).1 (lft_ne t y)
  rw [← lft_inj ej]
  exact rj
theorem out_isH (nc:Nice (m+1) ps) (ht:0≤t∧t<(m+1:Nat)) {one other:Int} (h1:0≤one∧one<m) (h2:0≤other∧other<m) {h:Int→Rat} (hh:IsH (m+1) ps (lft t one) (lft t other) h):IsH m (outP ps t m) one other (fun y=>if 0≤y∧y<m then h (lft t y) else 0):=by
 refine ⟨fun x hx=>?_,fun i hi=>?_⟩
 ·split
  ·rename_i hr
   refine hh.far _ ?_
   rcases hx with q | q
   ·exact .inl (by rw [q])
   ·exact .inr fun z=>q ((out_reach nc ht h2 hr).mpr z)
  ·rfl
 ·have e:=lap_ez (out_nice (t:=t) nc) (fun y=>if 0≤y∧y<m then h (lft t y) else 0) i
  rw [e]
  have hl:Lap ps h t=0:=by
   rw [hh.har t ht,ind_f (fun z=>lft_ne t one z.symm),ind_f (fun z=>lft_ne t other z.symm)]
   grind
  have e2:=eo_lap nc ht h hl (lft_fits (t:=t) hi)
  rw [hh.har _ (lft_fits hi)] at e2
  have e3:ind (lft t i=lft t one)-ind (lft t i=lft t other)=ind (i=one)-ind (i=other):=by
   have key:∀ j,ind (lft t i=lft t j)=ind (i=j):=fun j=>by
    by_cases q:i=j
    ·rw [ind_t q,ind_t (by rw [q])]
    ·rw [ind_f q,ind_f fun z=>q (lft_inj z)]
   rw [key,key]
  rw [← e3,← e2]
  refine sm_cong m fun z hz=>?_
  rw [if_pos hi,if_pos (show 0≤(z:Int)∧(z:Int)<m by omega)]
  by_cases q:i=(z:Int)
  ·rw [← q];grind
  ·have hzr:0≤(z:Int)∧(z:Int)<m:=by omega
   have:=mesh_ez (E:=fun x y=>eo ps t (lft t x) (lft t y)) (m:=m) (fun _ _=>eo_nn nc _ _ _) (fun _ _=>eo_symm _ _ _ _) hi hzr q
   show ez (outP ps t m) i z*_=_
   unfold outP
   rw [this]
end
end St
namespace K2
open PySem L2 Mp
def top (i:Nat):Stmt:=PySem.Challenge.pw_splitstream_k08_whole_taken_out.main.body.getD i (.Pass ⟨0,0,0,0⟩)
abbrev s_is_whole:Stmt:=top 10
theorem sc_is_whole:FnScope ["value"] ["value"] (defScope s_is_whole):=⟨rfl,rfl,rfl,by decide +kernel,rfl,by decide +kernel,by decide +kernel⟩
abbrev s_is_fraction:Stmt:=top 11
theorem sc_is_fraction:FnScope ["value"] ["value"] (defScope s_is_fraction):=⟨rfl,rfl,rfl,by decide +kernel,rfl,by decide +kernel,by decide +kernel⟩
abbrev s_common_divisor:Stmt:=top 12
theorem sc_common_divisor:FnScope ["a","b","one","other","rest"] ["a","b"] (defScope s_common_divisor):=⟨rfl,rfl,rfl,by decide +kernel,rfl,by decide +kernel,by decide +kernel⟩
abbrev s_made:Stmt:=top 13
theorem sc_made:FnScope ["a","b","divisor"] ["a","b"] (defScope s_made):=⟨rfl,rfl,rfl,by decide +kernel,rfl,by decide +kernel,by decide +kernel⟩
abbrev s_plus:Stmt:=top 14
theorem sc_plus:FnScope ["one","other"] ["one","other"] (defScope s_plus):=⟨rfl,rfl,rfl,by decide +kernel,rfl,by decide +kernel,by decide +kernel⟩
abbrev s_times:Stmt:=top 15
theorem sc_times:FnScope ["one","other"] ["one","other"] (defScope s_times):=⟨rfl,rfl,rfl,by decide +kernel,rfl,by decide +kernel,by decide +kernel⟩
abbrev s_over:Stmt:=top 16
theorem sc_over:FnScope ["one","other"] ["one","other"] (defScope s_over):=⟨rfl,rfl,rfl,by decide +kernel,rfl,by decide +kernel,by decide +kernel⟩
abbrev s_total:Stmt:=top 17
theorem sc_total:FnScope ["fractions","result","fraction"] ["fractions"] (defScope s_total):=⟨rfl,rfl,rfl,by decide +kernel,rfl,by decide +kernel,by decide +kernel⟩
abbrev s_counts_one_of:Stmt:=top 22
theorem sc_counts_one_of:FnScope ["value","many"] ["value","many"] (defScope s_counts_one_of):=⟨rfl,rfl,rfl,by decide +kernel,rfl,by decide +kernel,by decide +kernel⟩
abbrev s_is_hardness:Stmt:=top 23
theorem sc_is_hardness:FnScope ["value"] ["value"] (defScope s_is_hardness):=⟨rfl,rfl,rfl,by decide +kernel,rfl,by decide +kernel,by decide +kernel⟩
abbrev s_is_pipe:Stmt:=top 24
theorem sc_is_pipe:FnScope ["value","places"] ["value","places"] (defScope s_is_pipe):=⟨rfl,rfl,rfl,by decide +kernel,rfl,by decide +kernel,by decide +kernel⟩
abbrev s_is_net:Stmt:=top 25
theorem sc_is_net:FnScope ["places","pipes"] ["places","pipes"] (defScope s_is_net):=⟨rfl,rfl,rfl,by decide +kernel,rfl,by decide +kernel,by decide +kernel⟩
abbrev s_neighbours:Stmt:=top 26
theorem sc_neighbours:FnScope ["pipes","at","behind","ahead"] ["pipes","at"] (defScope s_neighbours):=⟨rfl,rfl,rfl,by decide +kernel,rfl,by decide +kernel,by decide +kernel⟩
abbrev s_Net___init__:Stmt:=inClass (top 27) 0
theorem sc_Net___init__:FnScope ["self","places","pipes"] ["self","places","pipes"] (defScope s_Net___init__):=⟨rfl,rfl,rfl,by decide +kernel,rfl,by decide +kernel,by decide +kernel⟩
abbrev s_Net_pipes:Stmt:=inClass (top 27) 1
theorem sc_Net_pipes:FnScope ["self"] ["self"] (defScope s_Net_pipes):=⟨rfl,rfl,rfl,by decide +kernel,rfl,by decide +kernel,by decide +kernel⟩
abbrev s_Net_part:Stmt:=inClass (top 27) 2
theorem sc_Net_part:FnScope ["self","at","reached","waiting","place","neighbour"] ["self","at"] (defScope s_Net_part):=⟨rfl,rfl,rfl,by decide +kernel,rfl,by decide +kernel,by decide +kernel⟩
abbrev s_ease_between:Stmt:=top 29
theorem sc_ease_between:FnScope ["pipes","one","other","ways"] ["pipes","one","other"] (defScope s_ease_between):=⟨rfl,rfl,rfl,by decide +kernel,rfl,by decide +kernel,by decide +kernel⟩
abbrev s_ease_at:Stmt:=top 30
theorem sc_ease_at:FnScope ["pipes","at"] ["pipes","at"] (defScope s_ease_at):=⟨rfl,rfl,rfl,by decide +kernel,rfl,by decide +kernel,by decide +kernel⟩
abbrev s_ease_by_way_of:Stmt:=top 31
theorem sc_ease_by_way_of:FnScope ["pipes","one","at","other","product"] ["pipes","one","at","other"] (defScope s_ease_by_way_of):=⟨rfl,rfl,rfl,by decide +kernel,rfl,by decide +kernel,by decide +kernel⟩
abbrev s_pairs:Stmt:=top 32
theorem sc_pairs:FnScope ["many","result","one","other"] ["many"] (defScope s_pairs):=⟨rfl,rfl,rfl,by decide +kernel,rfl,by decide +kernel,by decide +kernel⟩
abbrev s_net_of_eases:Stmt:=top 33
theorem sc_net_of_eases:FnScope ["places","eases"] ["places","eases"] (defScope s_net_of_eases):=⟨rfl,rfl,rfl,by decide +kernel,rfl,by decide +kernel,by decide +kernel⟩
abbrev s_slim:Stmt:=top 34
theorem sc_slim:FnScope ["net","pipes"] ["net"] (defScope s_slim):=⟨rfl,rfl,rfl,by decide +kernel,rfl,by decide +kernel,by decide +kernel⟩
abbrev s_ease_without:Stmt:=top 35
theorem sc_ease_without:FnScope ["pipes","one","at","other"] ["pipes","one","at","other"] (defScope s_ease_without):=⟨rfl,rfl,rfl,by decide +kernel,rfl,by decide +kernel,by decide +kernel⟩
abbrev s_taken_out:Stmt:=top 36
theorem sc_taken_out:FnScope ["net","at","pipes","left"] ["net","at"] (defScope s_taken_out):=⟨rfl,rfl,rfl,by decide +kernel,rfl,by decide +kernel,by decide +kernel⟩
abbrev s_scale_of:Stmt:=top 38
theorem sc_scale_of:FnScope ["pipes","scale","start","end","hardness"] ["pipes"] (defScope s_scale_of):=⟨rfl,rfl,rfl,by decide +kernel,rfl,by decide +kernel,by decide +kernel⟩
abbrev s_scaled_ease:Stmt:=top 39
theorem sc_scaled_ease:FnScope ["hardness","scale"] ["hardness","scale"] (defScope s_scaled_ease):=⟨rfl,rfl,rfl,by decide +kernel,rfl,by decide +kernel,by decide +kernel⟩
abbrev s_entry:Stmt:=top 40
theorem sc_entry:FnScope ["pipes","scale","one","other","ways"] ["pipes","scale","one","other"] (defScope s_entry):=⟨rfl,rfl,rfl,by decide +kernel,rfl,by decide +kernel,by decide +kernel⟩
abbrev s_sheet_row:Stmt:=top 41
theorem sc_sheet_row:FnScope ["pipes","scale","one","places"] ["pipes","scale","one","places"] (defScope s_sheet_row):=⟨rfl,rfl,rfl,by decide +kernel,rfl,by decide +kernel,by decide +kernel⟩
abbrev s_sheet_of:Stmt:=top 42
theorem sc_sheet_of:FnScope ["pipes","scale","places"] ["pipes","scale","places"] (defScope s_sheet_of):=⟨rfl,rfl,rfl,by decide +kernel,rfl,by decide +kernel,by decide +kernel⟩
abbrev s_row_without:Stmt:=top 43
theorem sc_row_without:FnScope ["row","by","at","divisor"] ["row","by","at","divisor"] (defScope s_row_without):=⟨rfl,rfl,rfl,by decide +kernel,rfl,by decide +kernel,by decide +kernel⟩
abbrev s_cleared:Stmt:=top 44
theorem sc_cleared:FnScope ["rows","result","divisor","at","by"] ["rows"] (defScope s_cleared):=⟨rfl,rfl,rfl,by decide +kernel,rfl,by decide +kernel,by decide +kernel⟩
abbrev s_solved:Stmt:=top 45
theorem sc_solved:FnScope ["rows","amounts","done"] ["rows","amounts"] (defScope s_solved):=⟨rfl,rfl,rfl,by decide +kernel,rfl,by decide +kernel,by decide +kernel⟩
abbrev s_are_places:Stmt:=top 47
theorem sc_are_places:FnScope ["net","places"] ["net","places"] (defScope s_are_places):=⟨rfl,rfl,rfl,by decide +kernel,rfl,by decide +kernel,by decide +kernel⟩
abbrev s_check_places:Stmt:=top 48
theorem sc_check_places:FnScope ["net","places"] ["net","places"] (defScope s_check_places):=⟨rfl,rfl,rfl,by decide +kernel,rfl,by decide +kernel,by decide +kernel⟩
abbrev s_asked_sum:Stmt:=top 49
theorem sc_asked_sum:FnScope ["place","one","other"] ["place","one","other"] (defScope s_asked_sum):=⟨rfl,rfl,rfl,by decide +kernel,rfl,by decide +kernel,by decide +kernel⟩
abbrev s_heights_between:Stmt:=top 50
theorem sc_heights_between:FnScope ["net","one","other","pipes","scale","free","amounts","heights","place","height"] ["net","one","other"] (defScope s_heights_between):=⟨rfl,rfl,rfl,by decide +kernel,rfl,by decide +kernel,by decide +kernel⟩
abbrev s_hardness_of:Stmt:=top 51
theorem sc_hardness_of:FnScope ["net","one","other"] ["net","one","other"] (defScope s_hardness_of):=⟨rfl,rfl,rfl,by decide +kernel,rfl,by decide +kernel,by decide +kernel⟩
abbrev s__law_cell_at:Stmt:=top 53
theorem sc__law_cell_at:FnScope ["_law_script","_law_k"] ["_law_script","_law_k"] (defScope s__law_cell_at):=⟨rfl,rfl,rfl,by decide +kernel,rfl,by decide +kernel,by decide +kernel⟩
abbrev s__law_draw:Stmt:=top 54
theorem sc__law_draw:FnScope ["_law_cell","_law_k","_law_many","_law_primes","_law_blend"] ["_law_cell","_law_k","_law_many"] (defScope s__law_draw):=⟨rfl,rfl,rfl,by decide +kernel,rfl,by decide +kernel,by decide +kernel⟩
abbrev s__law_least:Stmt:=top 55
theorem sc__law_least:FnScope ["_law_a","_law_b","_law_one","_law_other"] ["_law_a","_law_b"] (defScope s__law_least):=⟨rfl,rfl,rfl,by decide +kernel,rfl,by decide +kernel,by decide +kernel⟩
abbrev s__law_told:Stmt:=top 56
theorem sc__law_told:FnScope ["_law_script","_law_first","_law_most","_law_cell","_law_other","_law_third","_law_places","_law_pipes","_law_k","_law_here","_law_there"] ["_law_script","_law_first","_law_most"] (defScope s__law_told):=⟨rfl,rfl,rfl,by decide +kernel,rfl,by decide +kernel,by decide +kernel⟩
abbrev s__law_thin:Stmt:=top 58
theorem sc__law_thin:FnScope ["_law_net","_law_pairs","_law_k"] ["_law_net"] (defScope s__law_thin):=⟨rfl,rfl,rfl,by decide +kernel,rfl,by decide +kernel,by decide +kernel⟩
abbrev s__law_slim:Stmt:=top 59
theorem sc__law_slim:FnScope ["_law_net","_law_told_here","_law_found","_law_eases","_law_here","_law_there","_law_hardness","_law_pair","_law_due"] ["_law_net","_law_told_here"] (defScope s__law_slim):=⟨rfl,rfl,rfl,by decide +kernel,rfl,by decide +kernel,by decide +kernel⟩
abbrev s__law_refused:Stmt:=top 60
theorem sc__law_refused:FnScope ["_law_net","_law_at","error","_law_others"] ["_law_net","_law_at"] (defScope s__law_refused):=⟨rfl,rfl,rfl,by decide +kernel,rfl,by decide +kernel,by decide +kernel⟩
abbrev s_law:Stmt:=top 61
theorem sc_law:FnScope ["_law_script","_law_told_here","_law_net","_law_at","_law_found","_law_left","_law_first","_law_one","_law_other"] ["_law_script"] (defScope s_law):=⟨rfl,rfl,rfl,by decide +kernel,rfl,by decide +kernel,by decide +kernel⟩
theorem bt_int:bootBuiltins "int" = some (.type "int"):=by decide +kernel
theorem bt_bool:bootBuiltins "bool" = some (.type "bool"):=by decide +kernel
theorem bt_tuple:bootBuiltins "tuple" = some (.type "tuple"):=by decide +kernel
theorem bt_list:bootBuiltins "list" = some (.type "list"):=by decide +kernel
theorem bt_abs:bootBuiltins "abs" = some (.builtin "abs"):=by decide +kernel
theorem bt_len:bootBuiltins "len" = some (.builtin "len"):=by decide +kernel
theorem bt_min:bootBuiltins "min" = some (.builtin "min"):=by decide +kernel
theorem bt_max:bootBuiltins "max" = some (.builtin "max"):=by decide +kernel
theorem bt_all:bootBuiltins "all" = some (.builtin "all"):=by decide +kernel
theorem bt_sorted:bootBuiltins "sorted" = some (.builtin "sorted"):=by decide +kernel
theorem bt_sum:bootBuiltins "sum" = some (.builtin "sum"):=by decide +kernel
theorem bt_any:bootBuiltins "any" = some (.builtin "any"):=by decide +kernel
theorem bt_ValueError:bootBuiltins "ValueError" = some (.type "ValueError"):=by decide +kernel
theorem ps_never {X:Cx} {st:Stmt}:PS X st (fun _ _ _=>False):=fun _ _ _ _ _ _ h=>h.elim
structure Txt (K:PySem.W.Frag) (mg:Str→Option Value) (C:Addr) (t1 t2 t3:Tok):Prop where
 n_isinstance:mg "isinstance" = none
 n_int:mg "int" = none
 n_bool:mg "bool" = none
 n_abs:mg "abs" = none
 n_len:mg "len" = none
 n_tuple:mg "tuple" = none
 n_list:mg "list" = none
 n_min:mg "min" = none
 n_max:mg "max" = none
 n_range:mg "range" = none
 n_all:mg "all" = none
 n_sorted:mg "sorted" = none
 n_enumerate:mg "enumerate" = none
 n_reversed:mg "reversed" = none
 n_zip:mg "zip" = none
 n_sum:mg "sum" = none
 n_any:mg "any" = none
 n_ValueError:mg "ValueError" = none
 m_MOST_PLACES:mg "MOST_PLACES" = some (.int 8 t1)
 m_MOST_PIPES:mg "MOST_PIPES" = some (.int 28 t2)
 m_MOST_IN_HARDNESS:mg "MOST_IN_HARDNESS" = some (.int 1000000000 t3)
 c_Net:Cls K C
 a_size:NoAttr K C "size"
 a_laid:NoAttr K C "laid"
def PipeAt (K:PySem.W.Frag) (H:Hp) (v:V) (p:Pipe):Prop:=∃ x y,v=.ref x∧SqT K H x [.int p.u,.int p.w,.ref y]∧SqT K H y [.int p.a,.int p.b]
abbrev PipesAt (K:PySem.W.Frag) (H:Hp):List V→List Pipe→Prop:=Paired (PipeAt K H)
structure PipeOk (n:Int) (p:Pipe):Prop where
 u0:0≤p.u
 un:p.u<n
 w0:0≤p.w
 wn:p.w<n
 ne:p.u≠p.w
 a1:1≤p.a
 aM:p.a≤1000000000
 b1:1≤p.b
 bM:p.b≤1000000000
 gc:Int.gcd p.a p.b=1
structure NetOk (n:Int) (ps:List Pipe):Prop where
 n1:1≤n
 n8:n≤8
 ok:∀ p∈ps,PipeOk n p
 le:ps.length≤28
def spWhole:Sp:=fun vs H Q _=>∃ i:Int,vs=[.int i]∧Q (.bl true) H
def spGcd:Sp:=fun vs H Q _=>∃ a b:Int,vs=[.int a,.int b]∧Q (.int (Int.gcd a b:Int)) H
def spFraction (K:PySem.W.Frag):Sp:=fun vs H Q _=>∃ (y:Addr) (a b:Int),vs=[.ref y]∧SqT K H y [.int a,.int b]∧0<b∧Int.gcd a b=1∧Q (.bl true) H
def spCounts:Sp:=fun vs H Q _=>∃ i n:Int,vs=[.int i,.int n]∧0≤i∧i<n∧Q (.bl true) H
def spHard (K:PySem.W.Frag):Sp:=fun vs H Q _=>∃ (y:Addr) (a b:Int),vs=[.ref y]∧SqT K H y [.int a,.int b]∧(1≤a∧a≤1000000000)∧(1≤b∧b≤1000000000)∧Int.gcd a b=1∧Q (.bl true) H
def spPipe (K:PySem.W.Frag):Sp:=fun vs H Q _=>∃ (v:V) (n:Int) (p:Pipe),vs=[v,.int n]∧PipeAt K H v p∧PipeOk n p∧Q (.bl true) H
def spNet (K:PySem.W.Frag):Sp:=fun vs H Q _=>∃ (n:Int) (l:Addr) (us:List V) (ps:List Pipe),vs=[.int n,.ref l]∧SqL K H l us∧PipesAt K H us ps∧NetOk n ps∧∀ H',Same H H'→Q (.bl true) H'
section
variable {K:PySem.W.Frag}
theorem ty_int {H:Hp} (i:Int):TyX K H (.int i) (.type "int"):=.of (.int i)
theorem ii:PySem.W.kitOne K (.type "int") (.type "int")=some true:=by rfl
theorem ib:PySem.W.kitOne K (.type "int") (.type "bool")=some false:=by rfl
theorem tt:PySem.W.kitOne K (.type "tuple") (.type "tuple")=some true:=by rfl
theorem ll:PySem.W.kitOne K (.type "list") (.type "list")=some true:=by rfl
end
section
variable {P:Program} {w:World} {K:PySem.W.Frag} {mg:Str→Option Value} {base:Heap} {C f fw fg ff fc fh fp:Addr} {fd fdw fdg fdf fdc fdh fdp:FuncData} {t1 t2 t3:Tok}
theorem ok_whole (F:Fun K "is_whole" "is_whole" s_is_whole f fd) (T:Txt K mg C t1 t2 t3):FnOk P w K mg base CX0 1 f fd ["value"] spWhole:=by
 refine F.ok sc_is_whole (fun vs H Q E h=>?_) (fun cdv A outer s H vs Q E hr h=>?_)
 ·obtain ⟨i,rfl,_⟩:=h
  rfl
 ·obtain ⟨i,rfl,q⟩:=h
  refine ⟨_,(pss_one (ps_ret (pe_and (pe_isiB rfl T.n_isinstance (pv 0) rfl T.n_int bt_int) (pe_one (pe_not (pe_isiB rfl T.n_isinstance (pv 0) rfl T.n_bool bt_bool)))))),?_⟩
  exact ⟨_,rfl,_,_,_,_,_,rfl,rfl,ty_int i,ii,_,rfl,iteT ⟨_,rfl,_,_,_,_,_,rfl,rfl,ty_int i,ib,_,rfl,q⟩⟩
theorem ok_gcd (F:Fun K "common_divisor" "common_divisor" s_common_divisor f fd) (T:Txt K mg C t1 t2 t3):FnOk P w K mg base CX0 1 f fd ["a","b"] spGcd:=by
 refine F.ok sc_common_divisor (fun vs H Q E h=>?_) (fun cdv A outer s H vs Q E hr h=>?_)
 ·obtain ⟨a,b,rfl,_⟩:=h
  rfl
 ·obtain ⟨a,b,rfl,q⟩:=h
  refine ⟨_,(pss_cons (ps_set (i:=2) sc_common_divisor.nd rfl (Or.inl rfl) (pe_callB call_abs (by rfl) T.n_abs bt_abs (pa_cons (pv 0) pa_nil)))
   (pss_cons (ps_set (i:=3) sc_common_divisor.nd rfl (Or.inl rfl) (pe_callB call_abs (by rfl) T.n_abs bt_abs (pa_cons (pv 1) pa_nil)))
   (pss_cons (ps_while PassesOwn.never (pt_cmpR op_ne (pv 3) pe_int (nomark _)) (pss_cons (ps_set (i:=4) sc_common_divisor.nd rfl (Or.inl rfl) (pe_op op_mod (pv 2) (pv 3)))
   (pss_cons (ps_set (i:=2) sc_common_divisor.nd rfl (Or.inl rfl) (pv 3))
   (pss_one (ps_set (i:=3) sc_common_divisor.nd rfl (Or.inl rfl) (pv 4))))))
   (pss_one (ps_ret (pv 2)))))),?_⟩
  refine ⟨_,rfl,a,rfl,_,rfl,b,rfl,?_⟩
  refine while_by (fun σ H'=>∃ (x y:Int) (z:Option V),σ=[some (.int a),some (.int b),some (.int x),some (.int y),z]∧H'=H∧0≤x∧0≤y∧Nat.gcd x.natAbs y.natAbs=Int.gcd a b)
   (fun σ _=>match σ with | [_,_,_,some (.int y),_]=>y.natAbs | _=>0) ⟨_,_,none,rfl,rfl,?_,?_,?_⟩ ?_ ?_
  ·split <;> omega
  ·split <;> omega
  ·unfold Int.gcd
   congr 1 <;> (split <;> omega)
  ·rintro σ H' ⟨x,y,z,rfl,rfl,hx,hy,hg⟩
   refine ⟨_,rfl,rfl,_,rfl,?_⟩
   refine ite2 (fun h=>?_) (fun h=>?_)
   ·have hy':0<y:=by
     have:¬ y=0:=by simpa using h
     omega
    refine ⟨_,rfl,_,rfl,_,_,rfl,rfl,hy',_,rfl,_,rfl,⟨y,x % y,_,rfl,rfl,hy,Int.emod_nonneg _ (by omega),?_⟩,?_⟩
    ·rw [My.gcd_turn x y hx hy',hg]
    ·show (x % y).natAbs<y.natAbs
     have h1:=Int.emod_nonneg x (show y≠0 by omega)
     have h2:=Int.emod_lt_of_pos x hy'
     omega
   ·have hy':y=0:=by
     have:¬ ¬ y=0:=by simpa using h
     exact Classical.not_not.mp this
    subst hy'
    have e:x=(Int.gcd a b:Int):=by
     simp at hg
     omega
    subst e
    exact ⟨_,rfl,q⟩
  ·rintro σ H' Q1 Q2 f ⟨v,e1,e2,k',e3,q'⟩
   exact ⟨v,e1,e2,k',e3,f _ _ q'⟩
theorem ok_fraction (F:Fun K "is_fraction" "is_fraction" s_is_fraction f fd) (T:Txt K mg C t1 t2 t3) (m_is_whole:mg "is_whole" = some (.ref fw)) (k_is_whole:PySem.W.keepIn K (.ref fw)=true) (b_is_whole:Binds K fdw ["value"] []) (G_is_whole:FnOk P w K mg base CX0 1 fw fdw ["value"] spWhole)
  (m_common_divisor:mg "common_divisor" = some (.ref fg)) (k_common_divisor:PySem.W.keepIn K (.ref fg)=true) (b_common_divisor:Binds K fdg ["a","b"] []) (G_common_divisor:FnOk P w K mg base CX0 1 fg fdg ["a","b"] spGcd):FnOk P w K mg base CX0 2 f fd ["value"] (spFraction K):=by
 refine F.ok sc_is_fraction (fun vs H Q E h=>?_) (fun cdv A outer s H vs Q E hr h=>?_)
 ·obtain ⟨y,a,b,rfl,_⟩:=h
  rfl
 ·obtain ⟨y,a,b,rfl,hy,hb,hg,q⟩:=h
  refine ⟨_,(pss_cons (ps_if (PW.pt (pw_or (pt_not (pt_val (pe_isiB rfl T.n_isinstance (pv 0) rfl T.n_tuple bt_tuple))) (pw_or1 (pt_cmpR op_ne (pe_callB call_len_seq (by rfl) T.n_len bt_len (pa_cons (pv 0) pa_nil)) pe_int (nomark _))))) (pss_one (ps_ret pe_bl)) pss_nil)
   (pss_cons (ps_if (PW.pt (pw_or (pt_not (pt_val (pe_call G_is_whole (hr.mono (by decide)) rfl m_is_whole k_is_whole b_is_whole .nil pass0 (pa_cons (pe_ix ix_tup (pv 0) pe_int (fun _ _=>rfl)) pa_nil)))) (pw_or1 (pt_not (pt_val (pe_call G_is_whole (hr.mono (by decide)) rfl m_is_whole k_is_whole b_is_whole .nil pass0 (pa_cons (pe_ix ix_tup (pv 0) pe_int (fun _ _=>rfl)) pa_nil))))))) (pss_one (ps_ret pe_bl)) pss_nil)
   (pss_one (ps_ret (pe_and (pe_cmpR op_gt (pe_ix ix_tup (pv 0) pe_int (fun _ _=>rfl)) pe_int (nomark _)) (pe_one (pe_cmpR op_eq (pe_call G_common_divisor (hr.mono (by decide)) rfl m_common_divisor k_common_divisor b_common_divisor .nil pass0 (pa_cons (pe_ix ix_tup (pv 0) pe_int (fun _ _=>rfl)) (pa_cons (pe_ix ix_tup (pv 0) pe_int (fun _ _=>rfl)) pa_nil))) pe_int (nomark _)))))))),?_⟩
  refine ⟨_,rfl,_,_,_,_,_,rfl,rfl,TyX.tupS hy,tt,_,rfl,iteF ?_⟩
  refine ⟨_,rfl,y,_,rfl,.inr hy,rfl,_,rfl,iteF ?_⟩
  refine ⟨_,rfl,y,_,_,_,rfl,rfl,hy,rfl,a,rfl,_,rfl,iteF ?_⟩
  refine ⟨_,rfl,y,_,_,_,rfl,rfl,hy,rfl,b,rfl,_,rfl,iteF ?_⟩
  refine ⟨_,rfl,y,_,_,_,rfl,rfl,hy,rfl,_,_,rfl,rfl,_,rfl,?_⟩
  rw [decide_eq_true hb]
  refine iteT ?_
  refine ⟨_,rfl,y,_,_,_,rfl,rfl,hy,rfl,_,rfl,y,_,_,_,rfl,rfl,hy,rfl,a,b,rfl,rfl,?_⟩
  have e:decide (V.int (Int.gcd a b:Int)=V.int 1)=true:=decide_eq_true (by rw [hg];rfl)
  rw [e]
  exact q
theorem ok_counts (F:Fun K "counts_one_of" "counts_one_of" s_counts_one_of f fd) (T:Txt K mg C t1 t2 t3) (m_is_whole:mg "is_whole" = some (.ref fw)) (k_is_whole:PySem.W.keepIn K (.ref fw)=true) (b_is_whole:Binds K fdw ["value"] []) (G_is_whole:FnOk P w K mg base CX0 1 fw fdw ["value"] spWhole):FnOk P w K mg base CX0 2 f fd ["value","many"] spCounts:=by
 refine F.ok sc_counts_one_of (fun vs H Q E h=>?_) (fun cdv A outer s H vs Q E hr h=>?_)
 ·obtain ⟨i,n,rfl,_⟩:=h
  rfl
 ·obtain ⟨i,n,rfl,h0,hn,q⟩:=h
  refine ⟨_,(pss_one (ps_ret (pe_and (pe_call G_is_whole (hr.mono (by decide)) rfl m_is_whole k_is_whole b_is_whole .nil pass0 (pa_cons (pv 0) pa_nil)) (pe_one (pe_chain op_le op_lt pe_int (pv 0) (pv 1)))))),?_⟩
  refine ⟨_,rfl,i,rfl,_,rfl,iteT ?_⟩
  refine ⟨_,rfl,_,_,rfl,rfl,_,rfl,?_⟩
  rw [decide_eq_true h0]
  refine iteT ⟨_,rfl,_,_,rfl,rfl,?_⟩
  show Q (.bl (decide (i<n))) H
  rw [decide_eq_true hn]
  exact q
theorem ok_hard (F:Fun K "is_hardness" "is_hardness" s_is_hardness f fd) (T:Txt K mg C t1 t2 t3) (m_is_fraction:mg "is_fraction" = some (.ref ff)) (k_is_fraction:PySem.W.keepIn K (.ref ff)=true) (b_is_fraction:Binds K fdf ["value"] []) (G_is_fraction:FnOk P w K mg base CX0 2 ff fdf ["value"] (spFraction K)):FnOk P w K mg base CX0 3 f fd ["value"] (spHard K):=by
 refine F.ok sc_is_hardness (fun vs H Q E h=>?_) (fun cdv A outer s H vs Q E hr h=>?_)
 ·obtain ⟨y,a,b,rfl,_⟩:=h
  rfl
 ·obtain ⟨y,a,b,rfl,hy,⟨a1,aM⟩,⟨b1,bM⟩,hg,q⟩:=h
  refine ⟨_,(pss_one (ps_ret (pe_and (pe_call G_is_fraction (hr.mono (by decide)) rfl m_is_fraction k_is_fraction b_is_fraction .nil pass0 (pa_cons (pv 0) pa_nil)) (pe_and (pe_cmpR op_ge (pe_callB (call_minT rfl) (by rfl) T.n_min bt_min (pa_cons (pv 0) pa_nil)) pe_int (nomark _)) (pe_one (pe_cmpR op_le (pe_callB (call_maxT rfl) (by rfl) T.n_max bt_max (pa_cons (pv 0) pa_nil)) (pe_glob (v:=.int 1000000000) rfl T.m_MOST_IN_HARDNESS ⟨_,rfl⟩) (nomark _))))))),?_⟩
  refine ⟨_,rfl,y,a,b,rfl,hy,by omega,hg,_,rfl,iteT ?_⟩
  refine ⟨_,rfl,y,a,b,rfl,hy,_,_,rfl,rfl,_,rfl,?_⟩
  rw [decide_eq_true (show (if b<a then b else a)≥1 by split <;> omega)]
  refine iteT ?_
  refine ⟨_,rfl,y,a,b,rfl,hy,_,_,rfl,rfl,?_⟩
  show Q (.bl (decide ((if b>a then b else a)≤1000000000))) H
  rw [decide_eq_true (show (if b>a then b else a)≤1000000000 by split <;> omega)]
  exact q
theorem ok_pipe (F:Fun K "is_pipe" "is_pipe" s_is_pipe f fd) (T:Txt K mg C t1 t2 t3) (m_counts_one_of:mg "counts_one_of" = some (.ref fc)) (k_counts_one_of:PySem.W.keepIn K (.ref fc)=true) (b_counts_one_of:Binds K fdc ["value","many"] []) (G_counts_one_of:FnOk P w K mg base CX0 2 fc fdc ["value","many"] spCounts)
  (m_is_hardness:mg "is_hardness" = some (.ref fh)) (k_is_hardness:PySem.W.keepIn K (.ref fh)=true) (b_is_hardness:Binds K fdh ["value"] []) (G_is_hardness:FnOk P w K mg base CX0 3 fh fdh ["value"] (spHard K)):FnOk P w K mg base CX0 4 f fd ["value","places"] (spPipe K):=by
 refine F.ok sc_is_pipe (fun vs H Q E h=>?_) (fun cdv A outer s H vs Q E hr h=>?_)
 ·obtain ⟨v,n,p,rfl,_⟩:=h
  rfl
 ·obtain ⟨v,n,p,rfl,⟨x,y,rfl,hx,hy⟩,ok,q⟩:=h
  refine ⟨_,(pss_cons (ps_if (PW.pt (pw_or (pt_not (pt_val (pe_isiB rfl T.n_isinstance (pv 0) rfl T.n_tuple bt_tuple))) (pw_or1 (pt_cmpR op_ne (pe_callB call_len_seq (by rfl) T.n_len bt_len (pa_cons (pv 0) pa_nil)) pe_int (nomark _))))) (pss_one (ps_ret pe_bl)) pss_nil)
   (pss_cons (ps_if (PW.pt (pw_or (pt_not (pt_val (pe_call G_counts_one_of (hr.mono (by decide)) rfl m_counts_one_of k_counts_one_of b_counts_one_of .nil pass0 (pa_cons (pe_ix ix_tup (pv 0) pe_int (fun _ _=>rfl)) (pa_cons (pv 1) pa_nil))))) (pw_or1 (pt_not (pt_val (pe_call G_counts_one_of (hr.mono (by decide)) rfl m_counts_one_of k_counts_one_of b_counts_one_of .nil pass0 (pa_cons (pe_ix ix_tup (pv 0) pe_int (fun _ _=>rfl)) (pa_cons (pv 1) pa_nil)))))))) (pss_one (ps_ret pe_bl)) pss_nil)
   (pss_one (ps_ret (pe_and (pe_cmpR op_ne (pe_ix ix_tup (pv 0) pe_int (fun _ _=>rfl)) (pe_ix ix_tup (pv 0) pe_int (fun _ _=>rfl)) (nomark _)) (pe_one (pe_call G_is_hardness (hr.mono (by decide)) rfl m_is_hardness k_is_hardness b_is_hardness .nil pass0 (pa_cons (pe_ix ix_tup (pv 0) pe_int (fun _ _=>rfl)) pa_nil)))))))),?_⟩
  refine ⟨_,rfl,_,_,_,_,_,rfl,rfl,TyX.tupS hx,tt,_,rfl,iteF ?_⟩
  refine ⟨_,rfl,x,_,rfl,.inr hx,rfl,_,rfl,iteF ?_⟩
  refine ⟨_,rfl,x,_,_,_,rfl,rfl,hx,rfl,_,rfl,p.u,n,rfl,ok.u0,ok.un,_,rfl,iteF ?_⟩
  refine ⟨_,rfl,x,_,_,_,rfl,rfl,hx,rfl,_,rfl,p.w,n,rfl,ok.w0,ok.wn,_,rfl,iteF ?_⟩
  refine ⟨_,rfl,x,_,_,_,rfl,rfl,hx,rfl,_,rfl,x,_,_,_,rfl,rfl,hx,rfl,rfl,_,rfl,?_⟩
  have e:decide (V.int p.u=V.int p.w)=false:=decide_eq_false fun z=>by injection z with z;exact ok.ne z
  rw [e]
  refine iteT ?_
  exact ⟨_,rfl,x,_,_,_,rfl,rfl,hx,rfl,y,p.a,p.b,rfl,hy,⟨ok.a1,ok.aM⟩,⟨ok.b1,ok.bM⟩,ok.gc,q⟩
end
end K2
namespace K2
open PySem L2 Mp
theorem PipeAt.same {K:PySem.W.Frag} {H H':Hp} {v:V} {p:Pipe} (s:Same H H') (h:PipeAt K H v p):PipeAt K H' v p:=by
 obtain ⟨x,y,rfl,hx,hy⟩:=h
 exact ⟨x,y,rfl,Same.tup s hx,Same.tup s hy⟩
theorem PipesAt.same {K:PySem.W.Frag} {H H':Hp} (s:Same H H'):∀ {us:List V} {ps:List Pipe},PipesAt K H us ps→PipesAt K H' us ps
 | _,_,.nil=>.nil
 | _,_,.cons a b=>.cons (a.same s) (PipesAt.same s b)
theorem PipesAt.get {K:PySem.W.Frag} {H:Hp}:∀ {us:List V} {ps:List Pipe} {i:Nat} {v:V},PipesAt K H us ps→us[i]? = some v→∃ p,ps[i]? = some p∧PipeAt K H v p
 | _,_,_,_,.nil,e=>by simp at e
 | _,_,0,_,.cons a _,e=>by simp at e;subst e;exact ⟨_,rfl,a⟩
 | _,_,i+1,_,.cons _ b,e=>by simpa using PipesAt.get b (by simpa using e)
section
variable {P:Program} {w:World} {K:PySem.W.Frag} {mg:Str→Option Value} {base:Heap} {C f fw fg ff fc fh fp:Addr} {fd fdw fdg fdf fdc fdh fdp:FuncData} {t1 t2 t3:Tok}
theorem ok_net (F:Fun K "is_net" "is_net" s_is_net f fd) (T:Txt K mg C t1 t2 t3) (m_is_whole:mg "is_whole" = some (.ref fw)) (k_is_whole:PySem.W.keepIn K (.ref fw)=true) (b_is_whole:Binds K fdw ["value"] []) (G_is_whole:FnOk P w K mg base CX0 1 fw fdw ["value"] spWhole)
  (m_is_pipe:mg "is_pipe" = some (.ref fp)) (k_is_pipe:PySem.W.keepIn K (.ref fp)=true) (b_is_pipe:Binds K fdp ["value","places"] []) (G_is_pipe:FnOk P w K mg base CX0 4 fp fdp ["value","places"] (spPipe K)):FnOk P w K mg base CX0 5 f fd ["places","pipes"] (spNet K):=by
 refine F.ok sc_is_net (fun vs H Q E h=>?_) (fun cdv A outer s H vs Q E hr h=>?_)
 ·obtain ⟨n,l,us,ps,rfl,_⟩:=h
  rfl
 ·obtain ⟨n,l,us,ps,rfl,hl,hp,ok,q⟩:=h
  have hlen:us.length=ps.length:=Paired.length hp
  have hle:=ok.le
  refine ⟨_,(pss_cons (ps_if (PW.pt (pw_or (pt_not (pt_val (pe_call G_is_whole (hr.mono (by decide)) rfl m_is_whole k_is_whole b_is_whole .nil pass0 (pa_cons (pv 0) pa_nil)))) (pw_or1 (pt_not (pt_chain op_le op_le pe_int (pv 0) (pe_glob (v:=.int 8) rfl T.m_MOST_PLACES ⟨_,rfl⟩)))))) (pss_one (ps_ret pe_bl)) pss_nil)
   (pss_cons (ps_if (PW.pt (pw_or (pt_not (pt_val (pe_isiB rfl T.n_isinstance (pv 1) rfl T.n_list bt_list))) (pw_or1 (pt_cmpR op_gt (pe_callB call_len_seq (by rfl) T.n_len bt_len (pa_cons (pv 1) pa_nil)) (pe_glob (v:=.int 28) rfl T.m_MOST_PIPES ⟨_,rfl⟩) (nomark _))))) (pss_one (ps_ret pe_bl)) pss_nil)
   (pss_one (ps_ret (pe_callB (call_all rfl) (by rfl) T.n_all bt_all (pa_cons (pe_comp ["pipe"] [0] rfl rfl (by kernel_rfl) (pi_list (pv 1)) (fun _ _ _ _=>(pg_name (i:=0) (show (["pipe","places"]:List Str).Nodup by decide +kernel) rfl (Or.inl rfl))) (fun _ _ _ _=>gk_name) (fun _ _ _ _=>pf_nil) (fun _ _ _ _=>(pe_call G_is_pipe (hr.mono (by decide)) rfl m_is_pipe k_is_pipe b_is_pipe .nil pass0 (pa_cons (pv 0) (pa_cons (pv 1) pa_nil))))) pa_nil)))))),?_⟩
  refine ⟨_,rfl,n,rfl,_,rfl,iteF ?_⟩
  refine ⟨_,rfl,_,_,rfl,rfl,_,rfl,?_⟩
  rw [decide_eq_true ok.n1]
  refine iteT ?_
  refine ⟨_,_,rfl,rfl,_,rfl,?_⟩
  rw [decide_eq_true ok.n8]
  refine iteF ?_
  refine ⟨_,rfl,_,_,_,_,_,rfl,rfl,TyX.lstS hl,ll,_,rfl,iteF ?_⟩
  refine ⟨_,rfl,l,_,rfl,.inl hl,_,_,rfl,rfl,_,rfl,?_⟩
  rw [decide_eq_false (show ¬ ((us.length:Int)>28) by omega)]
  refine iteF ?_
  refine ⟨_,rfl,l,rfl,⟨_,hl⟩,comp_list (K:=K) (a:=l) (xs:=us) (fun i ys H'=>H'=H∧ys=List.replicate i (.bl true)) ⟨rfl,rfl⟩ (small1000 (by omega)) (fun i ys H' hi ⟨e,e'⟩=>⟨by rw [e',List.length_replicate];exact Nat.le_refl _,e▸hl⟩) ?_ ?_⟩
  ·rintro i x ys H' N hx ⟨rfl,rfl⟩ hN C s₀ H₀ ex
   obtain ⟨p,hpi,hpp⟩:=hp.get hx
   dsimp only [tNoTest,gName]
   refine iteT ?_
   refine ⟨_,rfl,_,rfl,x,n,p,rfl,hpp,ok.ok p (List.mem_of_getElem? hpi),?_⟩
   exact hN _ _ ⟨rfl,by rw [List.replicate_succ']⟩
  ·rintro ys H' ⟨rfl,rfl⟩ p hp'
   refine ⟨p,List.replicate us.length true,rfl,SqL.of (by rw [List.map_replicate];exact upd_same),?_⟩
   have e:(List.replicate us.length true).all id=true:=by simp
   rw [e]
   exact q _ (same_upd hp')
def spNb (K:PySem.W.Frag):Sp:=fun vs H Q _=>∃ (l:Addr) (us:List V) (ps:List Pipe) (z:Int),vs=[.ref l,.int z]∧SqL K H l us∧PipesAt K H us ps∧ps.length≤28∧∀ (H':Hp) (r:Addr),Same H H'→H r=none→H' r=some (.lst ((nb ps z).map V.int))→Q (.ref r) H'
theorem ok_nb (F:Fun K "neighbours" "neighbours" s_neighbours f fd):FnOk P w K mg base CX0 1 f fd ["pipes","at"] (spNb K):=by
 refine F.ok sc_neighbours (fun vs H Q E h=>?_) (fun cdv A outer s H vs Q E hr h=>?_)
 ·obtain ⟨l,us,ps,z,rfl,_⟩:=h
  rfl
 ·obtain ⟨l,us,ps,z,rfl,hl,hp,hle,q⟩:=h
  have hlen:us.length=ps.length:=Paired.length hp
  refine ⟨_,(pss_cons (ps_setC (i:=2) ["one","other","hardness"] [1] rfl rfl (by kernel_rfl) sc_neighbours.nd rfl rfl (pi_list (pv 0)) (fun _ _ _ _=>(pg_tup (n:=3) rfl (pgs_cons (pg_name (i:=0) (show (["one","other","hardness","at"]:List Str).Nodup by decide +kernel) rfl (Or.inl rfl)) (pgs_cons (pg_name (i:=1) (show (["one","other","hardness","at"]:List Str).Nodup by decide +kernel) rfl (Or.inl rfl)) (pgs_cons (pg_name (i:=2) (show (["one","other","hardness","at"]:List Str).Nodup by decide +kernel) rfl (Or.inl rfl)) pgs_nil))))) (fun _ _ _ _=>(gk_tup (gks_cons gk_name (gks_cons gk_name (gks_cons gk_name gks_nil))))) (fun _ _ _ _=>(pf_one (pt_cmpR op_eq (pv 0) (pv 3) (nomark _)))) (fun _ _ _ _=>(pv 1)))
   (pss_cons (ps_setC (i:=3) ["one","other","hardness"] [1] rfl rfl (by kernel_rfl) sc_neighbours.nd rfl rfl (pi_list (pv 0)) (fun _ _ _ _=>(pg_tup (n:=3) rfl (pgs_cons (pg_name (i:=0) (show (["one","other","hardness","at"]:List Str).Nodup by decide +kernel) rfl (Or.inl rfl)) (pgs_cons (pg_name (i:=1) (show (["one","other","hardness","at"]:List Str).Nodup by decide +kernel) rfl (Or.inl rfl)) (pgs_cons (pg_name (i:=2) (show (["one","other","hardness","at"]:List Str).Nodup by decide +kernel) rfl (Or.inl rfl)) pgs_nil))))) (fun _ _ _ _=>(gk_tup (gks_cons gk_name (gks_cons gk_name (gks_cons gk_name gks_nil))))) (fun _ _ _ _=>(pf_one (pt_cmpR op_eq (pv 1) (pv 3) (nomark _)))) (fun _ _ _ _=>(pv 0)))
   (pss_one (ps_ret (pe_op op_cat (pv 2) (pv 3)))))),?_⟩
  refine ⟨_,rfl,l,rfl,⟨_,hl⟩,comp_list (K:=K) (a:=l) (xs:=us) (fun i ys H'=>H'=H∧ys=((ps.take i).filter fun p=>decide (p.u=z)).map (fun p=>V.int p.w)) ⟨rfl,rfl⟩ (small1000 (by omega)) ?_ ?_ ?_⟩
  ·rintro i ys H' hi ⟨rfl,rfl⟩
   refine ⟨?_,hl⟩
   rw [List.length_map]
   exact Nat.le_trans (List.length_filter_le _ _) (by rw [List.length_take];omega)
  ·rintro i x ys H' N hx ⟨rfl,rfl⟩ hN C s₀ H₀ ex
   obtain ⟨p,hpi,⟨x,y,rfl,hx3,hy⟩⟩:=hp.get hx
   have ht:ps.take (i+1)=ps.take i++[p]:=by rw [List.take_succ,hpi];rfl
   refine ⟨x,_,rfl,hx3,rfl,_,_,rfl,_,_,rfl,_,_,rfl,rfl,?_⟩
   refine ⟨_,rfl,_,rfl,rfl,_,rfl,?_⟩
   by_cases e:p.u=z
   ·rw [decide_eq_true (show V.int p.u=V.int z by rw [e])]
    refine iteT ?_
    refine ⟨_,rfl,hN _ _ ⟨rfl,?_⟩⟩
    rw [ht,List.filter_append,List.map_append]
    simp [e]
   ·rw [decide_eq_false (show ¬ V.int p.u=V.int z from fun h=>e (by injection h))]
    refine iteF (hN _ _ ⟨rfl,?_⟩)
    rw [ht,List.filter_append,List.map_append]
    simp [e]
  ·rintro ys H' ⟨rfl,rfl⟩ p1 hp1
   have s1:=same_upd (o:=.lst (((ps.take us.length).filter fun p=>decide (p.u=z)).map (fun p=>V.int p.w))) hp1
   generalize hA:upd H' p1 (.lst (((ps.take us.length).filter fun p=>decide (p.u=z)).map (fun p=>V.int p.w)))=HA at s1
   have hA1:HA p1=some (.lst (((ps.take us.length).filter fun p=>decide (p.u=z)).map (fun p=>V.int p.w))):=by rw [← hA];exact upd_same
   rw [hlen,List.take_length] at hA1
   have hp2:=PipesAt.same s1 hp
   refine ⟨_,rfl,l,rfl,⟨_,s1.seq hl⟩,comp_list (K:=K) (a:=l) (xs:=us) (fun i ys H2=>H2=HA∧ys=((ps.take i).filter fun p=>decide (p.w=z)).map (fun p=>V.int p.u)) ⟨rfl,rfl⟩ (small1000 (by omega)) ?_ ?_ ?_⟩
   ·rintro i ys H2 hi ⟨rfl,rfl⟩
    refine ⟨?_,s1.seq hl⟩
    rw [List.length_map]
    exact Nat.le_trans (List.length_filter_le _ _) (by rw [List.length_take];omega)
   ·rintro i x ys H2 N hx ⟨rfl,rfl⟩ hN C s₀ H₀ ex
    obtain ⟨p,hpi,⟨x,y,rfl,hx3,hy⟩⟩:=hp2.get hx
    have ht:ps.take (i+1)=ps.take i++[p]:=by rw [List.take_succ,hpi];rfl
    refine ⟨x,_,rfl,hx3,rfl,_,_,rfl,_,_,rfl,_,_,rfl,rfl,?_⟩
    refine ⟨_,rfl,_,rfl,rfl,_,rfl,?_⟩
    by_cases e:p.w=z
    ·rw [decide_eq_true (show V.int p.w=V.int z by rw [e])]
     refine iteT ?_
     refine ⟨_,rfl,hN _ _ ⟨rfl,?_⟩⟩
     rw [ht,List.filter_append,List.map_append]
     simp [e]
    ·rw [decide_eq_false (show ¬ V.int p.w=V.int z from fun h=>e (by injection h))]
     refine iteF (hN _ _ ⟨rfl,?_⟩)
     rw [ht,List.filter_append,List.map_append]
     simp [e]
   ·rintro ys H2 ⟨rfl,rfl⟩ p2 hp2'
    have s2:=same_upd (o:=.lst (((ps.take us.length).filter fun p=>decide (p.w=z)).map (fun p=>V.int p.u))) hp2'
    have hB:(upd H2 p2 (.lst (((ps.take us.length).filter fun p=>decide (p.w=z)).map (fun p=>V.int p.u)))) p2=some (.lst ((ps.filter fun p=>decide (p.w=z)).map (fun p=>V.int p.u))):=by rw [hlen,List.take_length];exact upd_same
    have l1:=nb_len ps z
    have e0:(nb ps z).map V.int=(ps.filter fun p=>decide (p.u=z)).map (fun p=>V.int p.w)++(ps.filter fun p=>decide (p.w=z)).map (fun p=>V.int p.u):=by
     unfold nb
     rw [List.map_append,List.map_map,List.map_map]
     rfl
    have l2:=congrArg List.length e0
    rw [List.length_map,List.length_append] at l2
    refine ⟨_,rfl,_,rfl,p1,p2,_,_,rfl,rfl,s2 _ _ hA1,hB,Nat.le_of_lt (small1000 (by omega)),fun r hr'=>?_⟩
    rw [← e0]
    exact q _ r ((s1.trans s2).trans (same_upd hr')) ((s1.trans s2).free hr') upd_same
end
end K2
namespace K2
open PySem L2 Mp
theorem sl:¬ (("size" : Str) = "laid"):=by decide +kernel
def flds (n:Int) (L:Addr):List (Str×V):=putF "laid" (.ref L) (putF "size" (.int n) [])
theorem flds_size (n:Int) (L:Addr):(flds n L).lookup ("size" : Str)=some (.int n):=by
 unfold flds
 rw [lookup_putF,if_neg sl,lookup_putF,if_pos rfl]
theorem flds_laid (n:Int) (L:Addr):(flds n L).lookup ("laid" : Str)=some (.ref L):=by
 unfold flds
 rw [lookup_putF,if_pos rfl]
theorem flds_no (n:Int) (L:Addr) {m:Str} (h1:¬ m = "laid") (h2:¬ m = "size"):(flds n L).lookup m=none:=by
 unfold flds
 rw [lookup_putF,if_neg h1,lookup_putF,if_neg h2]
 all_goals rfl
structure NetAt (K:PySem.W.Frag) (C:Addr) (H:Hp) (x L:Addr) (n:Int) (ps:List Pipe):Prop where
 ob:∃ dx,H x=some (.ins C dx (flds n L))
 pi:∃ us,H L=some (.lst us)∧PipesAt K H us ps
theorem NetAt.same {K:PySem.W.Frag} {C:Addr} {H H':Hp} {x L:Addr} {n:Int} {ps:List Pipe} (s:Same H H') (h:NetAt K C H x L n ps):NetAt K C H' x L n ps:=by
 obtain ⟨⟨dx,h1⟩,us,h2,h3⟩:=h
 exact ⟨⟨dx,s _ _ h1⟩,us,s _ _ h2,PipesAt.same s h3⟩
def spInit (K:PySem.W.Frag) (C:Addr):Sp:=fun vs H Q _=>∃ (x dx l:Addr) (n:Int) (us:List V) (ps:List Pipe),vs=[.ref x,.int n,.ref l]∧H x=some (.ins C dx [])∧SqL K H l us∧PipesAt K H us ps∧NetOk n ps ∧
 ∀ (H':Hp) (L:Addr),H L=none→NetAt K C H' x L n ps→(∀ b o,H b=some o→b≠x→H' b=some o)→Q .non H'
def spPipes (K:PySem.W.Frag) (C:Addr):Sp:=fun vs H Q _=>∃ (x L:Addr) (n:Int) (ps:List Pipe),vs=[.ref x]∧NetAt K C H x L n ps∧∀ (r:Addr) (us:List V),H r=none→PipesAt K H us ps→Q (.ref r) (upd H r (.lst us))
section
variable {P:Program} {w:World} {K:PySem.W.Frag} {mg:Str→Option Value} {base:Heap} {C f fn fb fc:Addr} {fd fdn fdb fdc:FuncData} {t1 t2 t3:Tok}
theorem PipeAt.ne {H:Hp} {v:V} {p:Pipe} {x:Addr} {o o':HO} (h:PipeAt K H v p) (hx:H x=some o) (n1:∀ ys,o≠.tup ys) (n2:∀ ob ys,o≠.frz ob (.tup ys)):PipeAt K (upd H x o') v p:=by
 obtain ⟨a,b,rfl,h1,h2⟩:=h
 have key:∀ {c:Addr} {xs:List V},SqT K H c xs→SqT K (upd H x o') c xs:=fun {c xs} h=>by
  rcases h with (z | ⟨ob,z⟩) | z
  ·exact .inl (.inl (by rw [upd_ne (ne_of z hx (fun e=>n1 _ e.symm))];exact z))
  ·exact .inl (.inr ⟨ob,by rw [upd_ne (ne_of z hx (fun e=>n2 _ _ e.symm))];exact z⟩)
  ·exact .inr z
 exact ⟨a,b,rfl,key h1,key h2⟩
theorem PipesAt.ne {H:Hp} {x:Addr} {o o':HO} (hx:H x=some o) (n1:∀ ys,o≠.tup ys) (n2:∀ ob ys,o≠.frz ob (.tup ys)):∀ {us:List V} {ps:List Pipe},PipesAt K H us ps→PipesAt K (upd H x o') us ps
 | _,_,.nil=>.nil
 | _,_,.cons a b=>.cons (a.ne hx n1 n2) (PipesAt.ne hx n1 n2 b)
theorem PipesAt.snoc {H:Hp}:∀ {us:List V} {ps:List Pipe} {v:V} {p:Pipe},PipesAt K H us ps→PipeAt K H v p→PipesAt K H (us++[v]) (ps++[p])
 | _,_,_,_,.nil,h=>.cons h .nil
 | _,_,_,_,.cons a b,h=>.cons a (PipesAt.snoc b h)
theorem SqL.ne {H:Hp} {x l:Addr} {o o':HO} {xs:List V} (h:SqL K H l xs) (hx:H x=some o) (n1:∀ ys,o≠.lst ys) (n2:∀ ob ys,o≠.frz ob (.lst ys)):SqL K (upd H x o') l xs:=by
 rcases h with (z | ⟨ob,z⟩) | z
 ·exact .inl (.inl (by rw [upd_ne (ne_of z hx (fun e=>n1 _ e.symm))];exact z))
 ·exact .inl (.inr ⟨ob,by rw [upd_ne (ne_of z hx (fun e=>n2 _ _ e.symm))];exact z⟩)
 ·exact .inr z
theorem ok_init (F:Fun K "__init__" "Net.__init__" s_Net___init__ f fd) (T:Txt K mg C t1 t2 t3) (m_is_net:mg "is_net" = some (.ref fn)) (k_is_net:PySem.W.keepIn K (.ref fn)=true) (b_is_net:Binds K fdn ["places","pipes"] []) (G_is_net:FnOk P w K mg base CX0 5 fn fdn ["places","pipes"] (spNet K)):FnOk P w K mg base CX0 6 f fd ["self","places","pipes"] (spInit K C):=by
 refine F.ok sc_Net___init__ (fun vs H Q E h=>?_) (fun cdv A outer s H vs Q E hr h=>?_)
 ·obtain ⟨x,dx,l,n,us,ps,rfl,_⟩:=h
  rfl
 ·obtain ⟨x,dx,l,n,us,ps,rfl,hx,hl,hp,ok,q⟩:=h
  have hlen:us.length=ps.length:=Paired.length hp
  have hle:=ok.le
  refine ⟨_,(pss_cons (ps_if (pt_not (pt_val (pe_call G_is_net (hr.mono (by decide)) rfl m_is_net k_is_net b_is_net .nil pass0 (pa_cons (pv 1) (pa_cons (pv 2) pa_nil))))) (pss_one ps_never) pss_nil)
   (pss_cons (ps_fld (pv 0) (pv 1) rfl)
   (pss_one (ps_fld (pv 0) (pe_comp ["one","other","hardness"] [] rfl rfl (by kernel_rfl) (pi_list (pv 2)) (fun _ _ _ _=>(pg_tup (n:=3) rfl (pgs_cons (pg_name (i:=0) (show (["one","other","hardness"]:List Str).Nodup by decide +kernel) rfl (Or.inl rfl)) (pgs_cons (pg_name (i:=1) (show (["one","other","hardness"]:List Str).Nodup by decide +kernel) rfl (Or.inl rfl)) (pgs_cons (pg_name (i:=2) (show (["one","other","hardness"]:List Str).Nodup by decide +kernel) rfl (Or.inl rfl)) pgs_nil))))) (fun _ _ _ _=>(gk_tup (gks_cons gk_name (gks_cons gk_name (gks_cons gk_name gks_nil))))) (fun _ _ _ _=>pf_nil) (fun _ _ _ _=>(pe_tup (pa_cons (pv 0) (pa_cons (pv 1) (pa_cons (pe_callTy call_tuple_of (by rfl) T.n_tuple bt_tuple (pa_cons (pv 2) pa_nil)) pa_nil)))))) rfl)))),?_⟩
  refine ⟨_,rfl,_,rfl,n,l,us,ps,rfl,hl,hp,ok,fun H1 s1=>⟨_,rfl,iteF ?_⟩⟩
  refine ⟨_,rfl,_,rfl,x,C,dx,[],rfl,s1 _ _ hx,T.c_Net,T.a_size,(by show 0<1000;decide),?_⟩
  have hx2:(upd H1 x (.ins C dx (putF "size" (.int n) []))) x=some (.ins C dx (putF "size" (.int n) [])):=upd_same
  have hl2:SqL K (upd H1 x (.ins C dx (putF "size" (.int n) []))) l us:=SqL.ne (s1.seq hl) (s1 _ _ hx) (fun _=>nofun) (fun _ _=>nofun)
  have hp2:PipesAt K (upd H1 x (.ins C dx (putF "size" (.int n) []))) us ps:=PipesAt.ne (s1 _ _ hx) (fun _=>nofun) (fun _ _=>nofun) (PipesAt.same s1 hp)
  have s2:∀ b o,H b=some o→b≠x→(upd H1 x (.ins C dx (putF "size" (.int n) []))) b=some o:=fun b o e hb=>by rw [upd_ne hb];exact s1 _ _ e
  generalize upd H1 x (.ins C dx (putF "size" (.int n) []))=H2 at hx2 hl2 hp2 s2 ⊢
  refine ⟨_,rfl,l,rfl,⟨_,hl2⟩,comp_list (K:=K) (a:=l) (xs:=us) (fun i ys H'=>Same H2 H'∧PipesAt K H' ys (ps.take i)∧ys.length=i) ⟨Same.refl _,.nil,rfl⟩ (small1000 (by omega)) ?_ ?_ ?_⟩
  ·rintro i ys H' hi ⟨s3,_,e⟩
   exact ⟨by omega,s3.seq hl2⟩
  ·rintro i v ys H' N hv ⟨s3,h3,e3⟩ hN C' s₀ H₀ ex
   obtain ⟨p,hpi,⟨y,z,rfl,hy,hz⟩⟩:=hp2.get hv
   have ht:ps.take (i+1)=ps.take i++[p]:=by rw [List.take_succ,hpi];rfl
   refine ⟨y,_,rfl,Same.tup s3 hy,rfl,_,_,rfl,_,_,rfl,_,_,rfl,rfl,?_⟩
   dsimp only [tNoTest]
   refine iteT ?_
   refine ⟨_,rfl,_,rfl,_,rfl,z,_,rfl,.inr ⟨Same.tup s3 hz,(by show 3≤sizeLine;decide),fun t ht'=>?_⟩⟩
   have s4:=same_upd (o:=.tup [.int p.u,.int p.w,.ref z]) ht'
   exact hN _ _ ⟨s3.trans s4,by rw [ht];exact PipesAt.snoc (PipesAt.same s4 h3) ⟨t,z,rfl,SqT.of upd_same,Same.tup (s3.trans s4) hz⟩,by rw [List.length_append];simp;omega⟩
  ·rintro ys H' ⟨s3,h3,e3⟩ L hL
   rw [hlen,List.take_length] at h3
   have s4:=same_upd (o:=.lst ys) hL
   refine ⟨_,rfl,x,C,dx,_,rfl,s4 _ _ (s3 _ _ hx2),T.c_Net,T.a_laid,(by show 1<1000;decide),?_⟩
   have nx:L≠x:=(ne_of_none (s3 _ _ hx2) hL).symm
   have hLn:H L=none:=by
    cases e:H L with
    | none=>rfl
    | some o=>exact absurd hL (by rw [s3 _ _ (s2 _ _ e nx)];exact nofun)
   refine q _ L hLn ⟨⟨dx,upd_same⟩,ys,by rw [upd_ne nx];exact upd_same,PipesAt.ne (s4 _ _ (s3 _ _ hx2)) (fun _=>nofun) (fun _ _=>nofun) (PipesAt.same s4 h3)⟩ fun b o e hb=>?_
   rw [upd_ne hb]
   exact s4 _ _ (s3 _ _ (s2 _ _ e hb))
theorem ok_pipes (F:Fun K "pipes" "Net.pipes" s_Net_pipes f fd) (T:Txt K mg C t1 t2 t3):FnOk P w K mg base CX0 1 f fd ["self"] (spPipes K C):=by
 refine F.ok sc_Net_pipes (fun vs H Q E h=>?_) (fun cdv A outer s H vs Q E hr h=>?_)
 ·obtain ⟨x,L,n,ps,rfl,_⟩:=h
  rfl
 ·obtain ⟨x,L,n,ps,rfl,⟨⟨dx,h1⟩,us,h2,h3⟩,q⟩:=h
  refine ⟨_,(pss_one (ps_ret (pe_callTy call_list_of (by rfl) T.n_list bt_list (pa_cons (pe_fld (pv 0) rfl) pa_nil)))),?_⟩
  exact ⟨_,rfl,x,C,dx,_,_,rfl,h1,T.c_Net,T.a_laid,flds_laid _ _,L,us,rfl,.inl (SqL.of h2),fun r hr'=>q r us hr' h3⟩
end
end K2
namespace K2
open PySem L2 Mp
theorem NetOk.fits {n:Int} {ps:List Pipe} (h:NetOk n ps):Fits n ps:=fun p hp=>⟨⟨(h.ok p hp).u0,(h.ok p hp).un⟩,⟨(h.ok p hp).w0,(h.ok p hp).wn⟩⟩
def spPart (K:PySem.W.Frag) (C:Addr):Sp:=fun vs H Q _=>∃ (x L:Addr) (n a:Int) (ps:List Pipe),vs=[.ref x,.int a]∧NetAt K C H x L n ps∧NetOk n ps∧0≤a∧a<n ∧
 ∀ (H':Hp) (r:Addr) (ms:List Int),Same H H'→H r=none→PartOf ps a ms→H' r=some (.lst (ms.map V.int))→Q (.ref r) H'
structure Mid (H H':Hp) (d l:Addr) (R W:List Int):Prop where
 se:Same H H'
 di:∃ kvs:List (Key×V),H' d=some (.dK kvs)∧kvs.map (·.1)=R.map Sum.inl
 li:H' l=some (.lst (W.map V.int))
def muP (d l:Addr) (H:Hp):Nat:=match H d,H l with
 | some (.dK kvs),some (.lst us)=>2*(8-kvs.length)+us.length
 | _,_=>0
theorem Mid.mu {H H':Hp} {d l:Addr} {R W:List Int} (m:Mid H H' d l R W):muP d l H'=2*(8-R.length)+W.length:=by
 obtain ⟨_,⟨kvs,h1,h2⟩,h3⟩:=m
 have e:=congrArg List.length h2
 rw [List.length_map,List.length_map] at e
 unfold muP
 rw [h1,h3]
 show 2*(8-kvs.length)+(W.map V.int).length=_
 rw [List.length_map,e]
section
variable {P:Program} {w:World} {K:PySem.W.Frag} {mg:Str→Option Value} {base:Heap} {C f fn fb fc:Addr} {fd fdn fdb fdc:FuncData} {t1 t2 t3:Tok}
theorem ok_part (F:Fun K "part" "Net.part" s_Net_part f fd) (T:Txt K mg C t1 t2 t3) (m_counts_one_of:mg "counts_one_of" = some (.ref fc)) (k_counts_one_of:PySem.W.keepIn K (.ref fc)=true) (b_counts_one_of:Binds K fdc ["value","many"] []) (G_counts_one_of:FnOk P w K mg base CX0 2 fc fdc ["value","many"] spCounts)
  (m_neighbours:mg "neighbours" = some (.ref fb)) (k_neighbours:PySem.W.keepIn K (.ref fb)=true) (b_neighbours:Binds K fdb ["pipes","at"] []) (G_neighbours:FnOk P w K mg base CX0 1 fb fdb ["pipes","at"] (spNb K)):FnOk P w K mg base CX0 3 f fd ["self","at"] (spPart K C):=by
 refine F.ok sc_Net_part (fun vs H Q E h=>?_) (fun cdv A outer s H vs Q E hr h=>?_)
 ·obtain ⟨x,L,n,a,ps,rfl,_⟩:=h
  rfl
 ·obtain ⟨x,L,n,a,ps,rfl,net,ok,a0,an,q⟩:=h
  have hu:=hu_of hr
  obtain ⟨⟨dx,h1⟩,us,h2,h3⟩:=id net
  have n8:=ok.n8
  have n1:=ok.n1
  obtain ⟨m,rfl⟩:∃ m:Nat,n=m:=⟨n.toNat,by omega⟩
  refine ⟨_,(pss_cons (ps_if (pt_not (pt_val (pe_call G_counts_one_of (hr.mono (by decide)) rfl m_counts_one_of k_counts_one_of b_counts_one_of .nil pass0 (pa_cons (pv 1) (pa_cons (pe_fld (pv 0) rfl) pa_nil))))) (pss_one ps_never) pss_nil)
   (pss_cons (ps_set (i:=2) sc_Net_part.nd rfl (Or.inl rfl) (pe_disp (pps_cons (pv 1) pe_bl pps_nil) rfl rfl (fun z=>nomatch z) (by decide)))
   (pss_cons (ps_set (i:=3) sc_Net_part.nd rfl (Or.inl rfl) (pe_lst (pa_cons (pv 1) pa_nil)))
   (pss_cons (ps_while PassesOwn.never (pt_cmpR op_gt (pe_callB call_len_seq (by rfl) T.n_len bt_len (pa_cons (pv 3) pa_nil)) pe_int (nomark _)) (pss_cons (ps_set (i:=4) sc_Net_part.nd rfl (Or.inl rfl) (pe_bm0 PySem.F.plainAttrs_list PySem.F.slot_list_pop PySem.F.type_list_pop mt_pop (pv 3)))
   (pss_one (ps_for PassesOwn.never rfl (pi_list (pe_call G_neighbours (hr.mono (by decide)) rfl m_neighbours k_neighbours b_neighbours .nil pass0 (pa_cons (pe_fld (pv 0) rfl) (pa_cons (pv 4) pa_nil)))) (pg_name (i:=5) sc_Net_part.nd rfl (Or.inl rfl)) (pss_one (ps_if (pt_cmp (pc_dnotin hu (pv 5) (pv 2))) (pss_cons (ps_dput hu (pv 2) (pv 5) pe_bl rfl)
   (pss_one (ps_expr (pe_bm PySem.F.plainAttrs_list PySem.F.slot_list_append PySem.F.type_list_append mt_append (pv 3) (pa_cons (pv 5) pa_nil))))) pss_nil))))))
   (pss_one (ps_ret (pe_callB (call_sortedD rfl) (by rfl) T.n_sorted bt_sorted (pa_cons (pv 2) pa_nil)))))))),?_⟩
  refine ⟨_,rfl,_,rfl,x,C,dx,_,_,rfl,h1,T.c_Net,T.a_size,flds_size _ _,a,m,rfl,a0,an,_,rfl,iteF ?_⟩
  intro d hd
  refine ⟨_,rfl,upd_same,[(Sum.inl a,.bl true)],rfl,by show 1≤15;decide,?_⟩
  have eD:(upd (upd H d (.dK [])) d (.dK (mergeK [] [(Sum.inl a,V.bl true)]))) d=some (.dK [(Sum.inl a,V.bl true)]):=by rw [upd_same];rfl
  have sD:Same H (upd (upd H d (.dK [])) d (.dK (mergeK [] [(Sum.inl a,V.bl true)]))):=fun b o e=>by
   rw [upd_ne (ne_of_none e hd),upd_ne (ne_of_none e hd)]
   exact e
  generalize upd (upd H d (.dK [])) d (.dK (mergeK [] [(Sum.inl a,V.bl true)]))=HD at eD sD ⊢
  refine ⟨_,rfl,by show 1≤sizeLine;decide,fun l hl=>?_⟩
  have sL:=same_upd (o:=.lst [.int a]) hl
  have nd:d≠l:=ne_of_none eD hl
  have hlH:H l=none:=sD.free hl
  refine while_by (fun σ H'=>∃ (R W:List Int) (v4 v5:Option V),σ=[some (.ref x),some (.int a),some (.ref d),some (.ref l),v4,v5]∧Mid H H' d l R W∧Walk m ps a R W∧2*(8-R.length)+W.length≤15)
   (fun _ H'=>muP d l H') ⟨[a],[a],none,none,rfl,⟨sD.trans sL,⟨_,sL _ _ eD,rfl⟩,upd_same⟩,Walk.start ⟨a0,an⟩,by show 2*(8-1)+1≤15;decide⟩ ?_ ?_
  ·rintro σ H' ⟨R,W,v4,v5,rfl,mid,wk,h15⟩
   obtain ⟨se,⟨kvs,hd1,hk⟩,hl1⟩:=id mid
   have hmu:=mid.mu
   refine ⟨_,rfl,l,_,rfl,.inl (SqL.of hl1),_,_,rfl,rfl,_,rfl,?_⟩
   rw [List.length_map]
   rcases List.eq_nil_or_concat W with rfl | ⟨W',z,rfl⟩
   ·refine iteF ?_
    have hR:=wk.good.len
    refine ⟨_,rfl,d,R,kvs,rfl,hd1,hk,by omega,fun r ms hr' hs=>?_⟩
    exact q _ r ms (se.trans (same_upd hr')) (se.free hr') (partOf_sorted wk.good.nd wk.stop hs.1 hs.2) upd_same
   ·rw [List.concat_eq_append] at *
    rw [decide_eq_true (show (((W'++[z]).length:Nat):Int)>0 by rw [List.length_append];simp)]
    refine iteT ?_
    have eW:(W'++[z]).map V.int=W'.map V.int++[.int z]:=by rw [List.map_append];rfl
    refine ⟨_,rfl,.inl ⟨rfl,_,SqL.of hl1⟩,l,_,.int z,rfl,rfl,hl1,by rw [eW];simp,?_⟩
    rw [eW,List.dropLast_concat]
    have m1:Mid H (upd H' l (.lst (W'.map V.int))) d l R W':=⟨fun b o e=>by rw [upd_ne (ne_of_none e hlH)];exact se _ _ e,⟨kvs,by rw [upd_ne nd];exact hd1,hk⟩,upd_same⟩
    have tk:=wk.pop
    generalize upd H' l (.lst (W'.map V.int))=H1 at m1 ⊢
    refine ⟨_,rfl,x,C,dx,_,_,rfl,m1.se _ _ h1,T.c_Net,T.a_laid,flds_laid _ _,_,rfl,L,us,ps,z,rfl,SqL.of (m1.se _ _ h2),PipesAt.same m1.se h3,ok.le,fun H2 r s2 hr2 h2r=>⟨r,rfl,⟨_,SqL.of h2r⟩,?_⟩⟩
    have m2:Mid H H2 d l R W':=⟨m1.se.trans s2,⟨m1.di.choose,s2 _ _ m1.di.choose_spec.1,m1.di.choose_spec.2⟩,s2 _ _ m1.li⟩
    have nlr:l≠r:=ne_of_none m1.li hr2
    have ndr:d≠r:=ne_of_none m1.di.choose_spec.1 hr2
    have hRl:=wk.good.len
    refine for_list (K:=K) (a:=r) (xs:=(nb ps z).map V.int) (fun i σ H3=>∃ (R3 W3:List Int) (v:Option V),σ=[some (.ref x),some (.int a),some (.ref d),some (.ref l),some (.int z),v]∧Mid H H3 d l R3 W3∧Turn m ps a z i R3 W3∧H3 r=some (.lst ((nb ps z).map V.int))∧2*(8-R3.length)+W3.length≤2*(8-R.length)+W'.length)
     ⟨R,W',_,rfl,m2,tk,h2r,Nat.le_refl _⟩ (fun i σ H3 _ ⟨_,_,_,_,_,_,z,_⟩=>SqL.of z) ?_ ?_
    ·rintro i v σ H3 hv ⟨R3,W3,v5',rfl,m3,t3,hr3,hb3⟩
     obtain ⟨se3,⟨kv3,hd3,hk3⟩,hl3⟩:=id m3
     rw [List.getElem?_map] at hv
     cases hy:(nb ps z)[i]? with
     | none=>rw [hy] at hv;cases hv
     | some y =>
      rw [hy] at hv
      cases hv
      have hl8:=t3.good.len
      have ek:=congrArg List.length hk3
      rw [List.length_map,List.length_map] at ek
      refine ⟨_,rfl,_,rfl,d,_,rfl,DGet.k (k:=Sum.inl y) hd3,_,rfl,?_⟩
      cases e:valV kv3 (Sum.inl y:Key) with
      | some u =>
       refine iteF ?_
       have hin:y∈R3:=by
        have:=valV_in e
        rw [hk3] at this
        obtain ⟨y',h1,h2⟩:=List.mem_map.mp this
        cases h2
        exact h1
       exact ⟨R3,W3,_,rfl,m3,t3.old hy hin,hr3,hb3⟩
      | none =>
       refine iteT ?_
       have hout:y∉R3:=fun h=>valV_not e (by rw [hk3];exact List.mem_map.mpr ⟨y,h,rfl⟩)
       have t4:=t3.new ok.fits hy hout
       have hl9:=t4.good.len
       rw [List.length_append] at hl9
       have:([y]:List Int).length=1:=rfl
       refine ⟨_,rfl,_,rfl,d,_,rfl,DPut.k (k:=Sum.inl y) hd3 (small1000 (by omega)),?_⟩
       rw [putK_new _ e]
       have hl4:(upd H3 d (.dK (kv3++[(Sum.inl y,V.bl true)]))) l=some (.lst (W3.map V.int)):=by rw [upd_ne nd.symm];exact hl3
       have hWl:W3.length≤1000:=by
        rw [List.length_append] at h15
        omega
       refine ⟨_,rfl,.inl ⟨rfl,_,SqL.of hl4⟩,_,rfl,l,_,_,rfl,rfl,hl4,by rw [List.length_map];exact small1000 hWl,?_⟩
       refine ⟨R3++[y],W3++[y],_,rfl,⟨fun b o eb=>?_,⟨_,by rw [upd_ne nd];exact upd_same,by rw [List.map_append,hk3,List.map_append];rfl⟩,by rw [upd_same,List.map_append];rfl⟩,t4,?_,by rw [List.length_append,List.length_append];omega⟩
       ·rw [upd_ne (ne_of_none eb hlH),upd_ne (ne_of_none eb hd)]
        exact se3 _ _ eb
       ·rw [upd_ne nlr.symm,upd_ne ndr.symm]
        exact hr3
    ·rintro σ H3 ⟨R3,W3,v5',rfl,m3,t3,hr3,hb3⟩
     rw [List.length_map] at t3
     refine ⟨⟨R3,W3,_,_,rfl,m3,t3.stop,by rw [List.length_append] at h15;omega⟩,?_⟩
     show muP d l H3<muP d l H'
     rw [m3.mu,hmu,List.length_append]
     simp
     omega
  ·rintro σ H' Q1 Q2 f ⟨v,e1,p,ys,e2,e3,i,j,e4,e5,k',e6,q'⟩
   exact ⟨v,e1,p,ys,e2,e3,i,j,e4,e5,k',e6,f _ _ q'⟩
end
end K2
namespace K2
open PySem L2 Mp
section
variable {P:Program} {w:World} {K:PySem.W.Frag} {mg:Str→Option Value} {base:Heap} {C f fi fp fc:Addr} {fd fdi fdp fdc:FuncData} {t1 t2 t3:Tok}
theorem made_same {H H':Hp} {x' dx':Addr} {n:Int} (nx:H x'=none) (ndx:H dx'=none) (kp:∀ b o,(upd (upd H dx' (.own x')) x' (.ins C dx' [])) b=some o→b≠x'→H' b=some o):Same H H':=fun b o e=>by
 refine kp b o ?_ (ne_of_none e nx)
 rw [upd_ne (ne_of_none e nx),upd_ne (ne_of_none e ndx)]
 exact e
theorem made_s0 {H:Hp} {x' dx':Addr} (nx:H x'=none) (ndx:H dx'=none):Same H (upd (upd H dx' (.own x')) x' (.ins C dx' [])):=fun b o e=>by
 rw [upd_ne (ne_of_none e nx),upd_ne (ne_of_none e ndx)]
 exact e
end
end K2
namespace K2
open PySem L2 Mp
theorem inV_int (x:Int) (S:List Int):inV (.int x) (S.map V.int)=decide (x∈S):=by
 unfold inV
 rw [List.any_map]
 show S.any (fun a=>a==x)=decide (x∈S)
 induction S with
 | nil=>simp
 | cons a S ih =>
  rw [List.any_cons,ih]
  by_cases e:a=x
  ·simp [e]
  ·have e':¬ x=a:=fun h=>e h.symm
   simp [e,e']
theorem flat_ints (S:List Int):(S.map V.int).all flatV=true:=by
 rw [List.all_map]
 exact List.all_eq_true.mpr fun _ _=>rfl
def Fq (K:PySem.W.Frag) (H:Hp) (v:V) (q:Rat):Prop:=∃ p,v=.ref p∧SqT K H p [.int q.num,.int (q.den:Int)]
def spMade (K:PySem.W.Frag):Sp:=fun vs H Q _=>∃ (a b:Int) (k:Nat),vs=[.int a,.int b]∧b≠0∧k≤9000∧Bt k b∧∀ p,H p=none→Q (.ref p) (upd H p (.tup [.int (Rat.divInt a b).num,.int ((Rat.divInt a b).den:Int)]))
section
variable {P:Program} {w:World} {K:PySem.W.Frag} {mg:Str→Option Value} {base:Heap} {C f:Addr} {fd:FuncData} {t1 t2 t3:Tok}
theorem ok_made {f1 f2:Addr} {fd1 fd2:FuncData} (F:Fun K "made" "made" s_made f fd) (T:Txt K mg C t1 t2 t3) (m_is_whole:mg "is_whole" = some (.ref f1)) (k_is_whole:PySem.W.keepIn K (.ref f1)=true) (b_is_whole:Binds K fd1 ["value"] []) (G_is_whole:FnOk P w K mg base CX0 1 f1 fd1 ["value"] spWhole)
  (m_common_divisor:mg "common_divisor" = some (.ref f2)) (k_common_divisor:PySem.W.keepIn K (.ref f2)=true) (b_common_divisor:Binds K fd2 ["a","b"] []) (G_common_divisor:FnOk P w K mg base CX0 1 f2 fd2 ["a","b"] spGcd) :
  FnOk P w K mg base CX0 2 f fd ["a","b"] (spMade K):=by
 refine F.ok sc_made (fun vs H Q E h=>?_) (fun cdv A outer s H vs Q E hr h=>?_)
 ·obtain ⟨a,b,k,rfl,_⟩:=h
  rfl
 ·obtain ⟨a,b,k,rfl,hb,hk,hB,q⟩:=h
  refine ⟨_,(pss_cons (ps_if (PW.pt (pw_or (pt_not (pt_val (pe_call G_is_whole (hr.mono (by decide)) rfl m_is_whole k_is_whole b_is_whole .nil pass0 (pa_cons (pv 0) pa_nil)))) (pw_or (pt_not (pt_val (pe_call G_is_whole (hr.mono (by decide)) rfl m_is_whole k_is_whole b_is_whole .nil pass0 (pa_cons (pv 1) pa_nil)))) (pw_or1 (pt_cmpR op_eq (pv 1) pe_int (nomark _)))))) (pss_one ps_never) pss_nil)
   (pss_cons (ps_set (i:=2) sc_made.nd rfl (Or.inl rfl) (pe_call G_common_divisor (hr.mono (by decide)) rfl m_common_divisor k_common_divisor b_common_divisor .nil pass0 (pa_cons (pv 0) (pa_cons (pv 1) pa_nil))))
   (pss_cons (ps_if (pt_cmpR op_lt (pv 1) pe_int (nomark _)) (pss_one (ps_set (i:=2) sc_made.nd rfl (Or.inl rfl) (pe_un un_neg (pv 2)))) pss_nil)
   (pss_one (ps_ret (pe_tup (pa_cons (pe_op op_fdivB (pv 0) (pv 2)) (pa_cons (pe_op op_fdivB (pv 1) (pv 2)) pa_nil)))))))),?_⟩
  refine ⟨_,rfl,a,rfl,_,rfl,iteF ?_⟩
  refine ⟨_,rfl,b,rfl,_,rfl,iteF ?_⟩
  refine ⟨_,rfl,rfl,_,rfl,?_⟩
  refine ite2 (fun h=>?_) (fun _=>?_)
  ·have h':=of_decide_eq_true h
   injection h' with h'
   exact absurd h' hb
  ·refine ⟨_,rfl,_,rfl,a,b,rfl,?_⟩
   have hd:Bt k (My.dv a b):=Bt.le (by rw [My.dv_abs];exact Nat.le_of_dvd (by omega) (Int.gcd_dvd_natAbs_right a b)) hB
   have fin:∀ σ:St,σ=[some (.int a),some (.int b),some (.int (My.dv a b))]→tRet (tTup (tCons (tOp (rI CDivB fun i j=>.int (i.fdiv j)) (tVar 0) (tVar 2)) (tCons (tOp (rI CDivB fun i j=>.int (i.fdiv j)) (tVar 1) (tVar 2)) tNil))) { nx:=fun _ H'=>Q .non H',rt:=Q } σ H:=by
    rintro σ rfl
    refine ⟨_,rfl,_,rfl,_,_,rfl,rfl,⟨My.dv_ne a b hb,k,hk,hd⟩,_,rfl,_,rfl,_,_,rfl,rfl,⟨My.dv_ne a b hb,k,hk,hd⟩,by show 2≤sizeLine;decide,fun p hp=>?_⟩
    dsimp only
    rw [My.made_num a b hb,My.made_den a b hb]
    exact q p hp
   refine ⟨_,rfl,_,_,rfl,rfl,_,rfl,?_⟩
   refine ite2 (fun h=>?_) (fun h=>?_)
   ·have h':b<0:=of_decide_eq_true h
    refine ⟨_,rfl,_,rfl,?_⟩
    exact fin _ (by unfold My.dv;rw [if_pos h'];rfl)
   ·have h':¬ b<0:=fun z=>h (decide_eq_true z)
    exact fin _ (by unfold My.dv;rw [if_neg h'];rfl)
end
def BtQ (k:Nat) (q:Rat):Prop:=Bt k q.num∧Bt k (q.den:Int)
theorem den_ne (q:Rat):(q.den:Int)≠0:=by have:=q.den_nz;omega
def spBin (K:PySem.W.Frag) (op:Rat→Rat→Rat) (ok:Rat→Prop):Sp:=fun vs H Q _=>∃ (u v:V) (q r:Rat) (k:Nat),vs=[u,v]∧Fq K H u q∧Fq K H v r∧ok r∧k≤4000∧BtQ k q∧BtQ k r∧∀ p,H p=none→Q (.ref p) (upd H p (.tup [.int (op q r).num,.int ((op q r).den:Int)]))
theorem add_as (q r:Rat):Rat.divInt (q.num*r.den+r.num*q.den) (q.den*r.den)=q+r:=by
 rw [← My.add_div _ _ _ _ (den_ne q) (den_ne r),My.same,My.same]
theorem mul_as (q r:Rat):Rat.divInt (q.num*r.num) (q.den*r.den)=q*r:=by
 rw [← My.mul_div,My.same,My.same]
theorem div_as (q r:Rat):Rat.divInt (q.num*r.den) (q.den*r.num)=q/r:=by
 rw [← My.div_div,My.same,My.same]
theorem mulne {a b:Int} (ha:a≠0) (hb:b≠0):a*b≠0:=Int.mul_ne_zero ha hb
theorem num_ne {r:Rat} (h:r≠0):r.num≠0:=fun z=>h (Rat.num_eq_zero.mp z)
section
variable {P:Program} {w:World} {K:PySem.W.Frag} {mg:Str→Option Value} {base:Heap} {f fm:Addr} {fd fdm:FuncData}
theorem ok_plus (F:Fun K "plus" "plus" s_plus f fd) (m_made:mg "made" = some (.ref fm)) (k_made:PySem.W.keepIn K (.ref fm)=true) (b_made:Binds K fdm ["a","b"] []) (G_made:FnOk P w K mg base CX0 2 fm fdm ["a","b"] (spMade K)):FnOk P w K mg base CX0 3 f fd ["one","other"] (spBin K (·+·) fun _=>True):=by
 refine F.ok sc_plus (fun vs H Q E h=>?_) (fun cdv A outer s H vs Q E hr h=>?_)
 ·obtain ⟨u,v,q,r,k,rfl,_⟩:=h
  rfl
 ·obtain ⟨u,v,q,r,k,rfl,⟨p,rfl,hp⟩,⟨p',rfl,hp'⟩,_,hk,⟨q1,q2⟩,⟨r1,r2⟩,kq⟩:=h
  refine ⟨_,(pss_one (ps_ret (pe_call G_made (hr.mono (by decide)) rfl m_made k_made b_made .nil pass0 (pa_cons (pe_op op_add (pe_op op_mulB (pe_ix ix_tup (pv 0) pe_int (fun _ _=>rfl)) (pe_ix ix_tup (pv 1) pe_int (fun _ _=>rfl))) (pe_op op_mulB (pe_ix ix_tup (pv 1) pe_int (fun _ _=>rfl)) (pe_ix ix_tup (pv 0) pe_int (fun _ _=>rfl)))) (pa_cons (pe_op op_mulB (pe_ix ix_tup (pv 0) pe_int (fun _ _=>rfl)) (pe_ix ix_tup (pv 1) pe_int (fun _ _=>rfl))) pa_nil))))),?_⟩
  refine ⟨_,rfl,p,_,_,_,rfl,rfl,hp,rfl,_,rfl,p',_,_,_,rfl,rfl,hp',rfl,_,_,rfl,rfl,⟨k,k,by omega,by omega,q1,r2⟩,_,rfl,p',_,_,_,rfl,rfl,hp',rfl,_,rfl,p,_,_,_,rfl,rfl,hp,rfl,_,_,rfl,rfl,⟨k,k,by omega,by omega,r1,q2⟩,_,_,rfl,rfl,?_⟩
  refine ⟨_,rfl,p,_,_,_,rfl,rfl,hp,rfl,_,rfl,p',_,_,_,rfl,rfl,hp',rfl,_,_,rfl,rfl,⟨k,k,by omega,by omega,q2,r2⟩,?_⟩
  refine ⟨_,_,k+k,rfl,mulne (den_ne q) (den_ne r),by omega,q2.mul r2,fun a ha=>?_⟩
  rw [add_as]
  exact kq a ha
theorem ok_times (F:Fun K "times" "times" s_times f fd) (m_made:mg "made" = some (.ref fm)) (k_made:PySem.W.keepIn K (.ref fm)=true) (b_made:Binds K fdm ["a","b"] []) (G_made:FnOk P w K mg base CX0 2 fm fdm ["a","b"] (spMade K)):FnOk P w K mg base CX0 3 f fd ["one","other"] (spBin K (·*·) fun _=>True):=by
 refine F.ok sc_times (fun vs H Q E h=>?_) (fun cdv A outer s H vs Q E hr h=>?_)
 ·obtain ⟨u,v,q,r,k,rfl,_⟩:=h
  rfl
 ·obtain ⟨u,v,q,r,k,rfl,⟨p,rfl,hp⟩,⟨p',rfl,hp'⟩,_,hk,⟨q1,q2⟩,⟨r1,r2⟩,kq⟩:=h
  refine ⟨_,(pss_one (ps_ret (pe_call G_made (hr.mono (by decide)) rfl m_made k_made b_made .nil pass0 (pa_cons (pe_op op_mulB (pe_ix ix_tup (pv 0) pe_int (fun _ _=>rfl)) (pe_ix ix_tup (pv 1) pe_int (fun _ _=>rfl))) (pa_cons (pe_op op_mulB (pe_ix ix_tup (pv 0) pe_int (fun _ _=>rfl)) (pe_ix ix_tup (pv 1) pe_int (fun _ _=>rfl))) pa_nil))))),?_⟩
  refine ⟨_,rfl,p,_,_,_,rfl,rfl,hp,rfl,_,rfl,p',_,_,_,rfl,rfl,hp',rfl,_,_,rfl,rfl,⟨k,k,by omega,by omega,q1,r1⟩,?_⟩
  refine ⟨_,rfl,p,_,_,_,rfl,rfl,hp,rfl,_,rfl,p',_,_,_,rfl,rfl,hp',rfl,_,_,rfl,rfl,⟨k,k,by omega,by omega,q2,r2⟩,?_⟩
  refine ⟨_,_,k+k,rfl,mulne (den_ne q) (den_ne r),by omega,q2.mul r2,fun a ha=>?_⟩
  rw [mul_as]
  exact kq a ha
theorem ok_over (F:Fun K "over" "over" s_over f fd) (m_made:mg "made" = some (.ref fm)) (k_made:PySem.W.keepIn K (.ref fm)=true) (b_made:Binds K fdm ["a","b"] []) (G_made:FnOk P w K mg base CX0 2 fm fdm ["a","b"] (spMade K)):FnOk P w K mg base CX0 3 f fd ["one","other"] (spBin K (· / ·) fun r=>r≠0):=by
 refine F.ok sc_over (fun vs H Q E h=>?_) (fun cdv A outer s H vs Q E hr h=>?_)
 ·obtain ⟨u,v,q,r,k,rfl,_⟩:=h
  rfl
 ·obtain ⟨u,v,q,r,k,rfl,⟨p,rfl,hp⟩,⟨p',rfl,hp'⟩,h0,hk,⟨q1,q2⟩,⟨r1,r2⟩,kq⟩:=h
  refine ⟨_,(pss_one (ps_ret (pe_call G_made (hr.mono (by decide)) rfl m_made k_made b_made .nil pass0 (pa_cons (pe_op op_mulB (pe_ix ix_tup (pv 0) pe_int (fun _ _=>rfl)) (pe_ix ix_tup (pv 1) pe_int (fun _ _=>rfl))) (pa_cons (pe_op op_mulB (pe_ix ix_tup (pv 0) pe_int (fun _ _=>rfl)) (pe_ix ix_tup (pv 1) pe_int (fun _ _=>rfl))) pa_nil))))),?_⟩
  refine ⟨_,rfl,p,_,_,_,rfl,rfl,hp,rfl,_,rfl,p',_,_,_,rfl,rfl,hp',rfl,_,_,rfl,rfl,⟨k,k,by omega,by omega,q1,r2⟩,?_⟩
  refine ⟨_,rfl,p,_,_,_,rfl,rfl,hp,rfl,_,rfl,p',_,_,_,rfl,rfl,hp',rfl,_,_,rfl,rfl,⟨k,k,by omega,by omega,q2,r1⟩,?_⟩
  refine ⟨_,_,k+k,rfl,mulne (den_ne q) (num_ne h0),by omega,q2.mul r1,fun a ha=>?_⟩
  rw [div_as]
  exact kq a ha
end
theorem Fq.same {K:PySem.W.Frag} {H H':Hp} {v:V} {q:Rat} (h:Fq K H v q) (e:Same H H'):Fq K H' v q:=by
 obtain ⟨p,rfl,sq⟩:=h
 exact ⟨p,rfl,Same.tup e sq⟩
theorem Fq.new {K:PySem.W.Frag} {H:Hp} {p:Addr} {q:Rat}:Fq K (upd H p (.tup [.int q.num,.int (q.den:Int)])) (.ref p) q:=⟨p,rfl,SqT.of upd_same⟩
abbrev Fqs (K:PySem.W.Frag) (H:Hp):List V→List Rat→Prop:=Paired (Fq K H)
theorem Fqs.same {K:PySem.W.Frag} {H H':Hp} {vs:List V} {qs:List Rat} (h:Fqs K H vs qs) (e:Same H H'):Fqs K H' vs qs:=Paired.mapP h fun _ _ z=>z.same e
theorem Fqs.get {K:PySem.W.Frag} {H:Hp}:∀ {vs:List V} {qs:List Rat} {i:Nat} {v:V},Fqs K H vs qs→vs[i]? = some v→∃ q,qs[i]? = some q∧Fq K H v q
 | _,_,_,_,.nil,e=>by simp at e
 | _,_,0,_,.cons r _,e=>by simp at e;subst e;exact ⟨_,rfl,r⟩
 | _,_,i+1,_,.cons _ t,e=>by simpa using Fqs.get (i:=i) t (by simpa using e)
theorem Fqs.at {K:PySem.W.Frag} {H:Hp}:∀ {vs:List V} {qs:List Rat} {i:Nat} {q:Rat},Fqs K H vs qs→qs[i]? = some q→∃ v,vs[i]? = some v∧Fq K H v q
 | _,_,_,_,.nil,e=>by simp at e
 | _,_,0,_,.cons r _,e=>by simp at e;subst e;exact ⟨_,rfl,r⟩
 | _,_,i+1,_,.cons _ t,e=>by simpa using Fqs.at (i:=i) t (by simpa using e)
theorem Fqs.snoc {K:PySem.W.Frag} {H:Hp}:∀ {us:List V} {ps:List Rat} {v:V} {p:Rat},Fqs K H us ps→Fq K H v p→Fqs K H (us++[v]) (ps++[p])
 | _,_,_,_,.nil,h=>.cons h .nil
 | _,_,_,_,.cons a b,h=>.cons a (Fqs.snoc b h)
theorem Fqs.len {K:PySem.W.Frag} {H:Hp} {vs:List V} {qs:List Rat} (h:Fqs K H vs qs):vs.length=qs.length:=Paired.length h
theorem BtQ.mono {k l:Nat} {q:Rat} (a:BtQ k q) (h:k≤l):BtQ l q:=⟨a.1.mono h,a.2.mono h⟩
theorem BtQ.add {k l:Nat} {q r:Rat} (a:BtQ k q) (b:BtQ l r):BtQ (k+l+1) (q+r):=by
 have hz:=mulne (den_ne q) (den_ne r)
 rw [← add_as]
 refine ⟨Bt.le (My.num_le _ _ hz) ?_,Bt.le (by have:=My.den_le (q.num*r.den+r.num*q.den) (q.den*r.den) hz;simpa using this) ?_⟩
 ·exact Bt.add (a.1.mul b.2) ((b.1.mul a.2).mono (by omega))
 ·exact (a.2.mul b.2).mono (by omega)
theorem BtQ.mul {k l:Nat} {q r:Rat} (a:BtQ k q) (b:BtQ l r):BtQ (k+l) (q*r):=by
 have hz:=mulne (den_ne q) (den_ne r)
 rw [← mul_as]
 exact ⟨Bt.le (My.num_le _ _ hz) (a.1.mul b.1),Bt.le (by have:=My.den_le (q.num*r.num) (q.den*r.den) hz;simpa using this) (a.2.mul b.2)⟩
theorem BtQ.div {k l:Nat} {q r:Rat} (a:BtQ k q) (b:BtQ l r) (h:r≠0):BtQ (k+l) (q/r):=by
 have hz:=mulne (den_ne q) (num_ne h)
 rw [← div_as]
 exact ⟨Bt.le (My.num_le _ _ hz) (a.1.mul b.2),Bt.le (by have:=My.den_le (q.num*r.den) (q.den*r.num) hz;simpa using this) (a.2.mul b.1)⟩
theorem frac_eq (q r:Rat):PyData.eqv (.tuple [.int q.num,.int (q.den:Int)]) (.tuple [.int r.num,.int (r.den:Int)])=decide (q=r):=by
 show ((q.num==r.num)&&(((q.den:Int)==(r.den:Int))&&true))=_
 by_cases e:q=r
 ·subst e;simp
 ·have:¬ (q.num=r.num∧q.den=r.den):=fun h=>e (Rat.ext h.1 h.2)
  rw [decide_eq_false e]
  by_cases h1:q.num=r.num
  ·have h2:¬ q.den=r.den:=fun z=>this ⟨h1,z⟩
   simp [h1]
   omega
  ·simp [h1]
theorem Fq.rep {K:PySem.W.Frag} {H:Hp} {v:V} {q:Rat} (h:Fq K H v q):Rep K H v (.tuple [.int q.num,.int (q.den:Int)]):=by
 obtain ⟨p,rfl,hp⟩:=h
 exact .tup hp (.cons (.int _) (.cons (.int _) .nil))
theorem rEq_frac {K:PySem.W.Frag} {H:Hp} {u v:V} {q r:Rat} {Q:V→Hp→Prop} (hu:Fq K H u q) (hv:Fq K H v r) (k:Q (.bl (decide (q=r))) H):rEqD K false u v H Q :=
 ⟨_,_,hu.rep,hv.rep,rfl,rfl,(by show 0+1≤40;decide),by rw [if_neg Bool.false_ne_true,frac_eq];exact k⟩
theorem rNe_frac {K:PySem.W.Frag} {H:Hp} {u v:V} {q r:Rat} {Q:V→Hp→Prop} (hu:Fq K H u q) (hv:Fq K H v r) (k:Q (.bl (!decide (q=r))) H):rEqD K true u v H Q :=
 ⟨_,_,hu.rep,hv.rep,rfl,rfl,(by show 0+1≤40;decide),by rw [if_pos rfl,frac_eq];exact k⟩
theorem btq0:BtQ 1 (0:Rat):=⟨by show (0:Int).natAbs<2;decide,by show (1:Int).natAbs<2;decide⟩
theorem sum_take (qs:List Rat) (i:Nat) (q:Rat) (h:qs[i]? = some q):(qs.take (i+1)).sum=(qs.take i).sum+q:=by
 rw [List.take_add_one,h]
 simp [List.sum_append,Rat.add_zero]
def spTotal (K:PySem.W.Frag):Sp:=fun vs H Q _=>∃ (p:Addr) (us:List V) (qs:List Rat),vs=[.ref p]∧SqL K H p us∧Fqs K H us qs∧(∀ q∈qs,BtQ 4000 q)∧(∀ i,i≤qs.length→BtQ 4000 (qs.take i).sum)∧∀ v H',Same H H'→Fq K H' v qs.sum→Q v H'
section
variable {P:Program} {w:World} {K:PySem.W.Frag} {mg:Str→Option Value} {base:Heap} {f fm:Addr} {fd fdm:FuncData}
theorem ok_total (F:Fun K "total" "total" s_total f fd) (m_plus:mg "plus" = some (.ref fm)) (k_plus:PySem.W.keepIn K (.ref fm)=true) (b_plus:Binds K fdm ["one","other"] []) (G_plus:FnOk P w K mg base CX0 3 fm fdm ["one","other"] (spBin K (·+·) fun _=>True)):FnOk P w K mg base CX0 4 f fd ["fractions"] (spTotal K):=by
 refine F.ok sc_total (fun vs H Q E h=>?_) (fun cdv A outer s H vs Q E hr h=>?_)
 ·obtain ⟨p,us,qs,rfl,_⟩:=h
  rfl
 ·obtain ⟨p,us,qs,rfl,sq,fq,hb,hs,k⟩:=h
  refine ⟨_,(pss_cons (ps_set (i:=1) sc_total.nd rfl (Or.inl rfl) (pe_tup (pa_cons pe_int (pa_cons pe_int pa_nil))))
   (pss_cons (ps_for PassesOwn.never rfl (pi_list (pv 0)) (pg_name (i:=2) sc_total.nd rfl (Or.inl rfl)) (pss_one (ps_set (i:=1) sc_total.nd rfl (Or.inl rfl) (pe_call G_plus (hr.mono (by decide)) rfl m_plus k_plus b_plus .nil pass0 (pa_cons (pv 1) (pa_cons (pv 2) pa_nil))))))
   (pss_one (ps_ret (pv 1))))),?_⟩
  refine ⟨by show 2≤sizeLine;decide,fun p0 hp0=>?_⟩
  have s0:Same H (upd H p0 (.tup [.int 0,.int 1])):=same_upd hp0
  refine ⟨_,rfl,p,rfl,⟨_,s0.seq sq⟩,for_list (K:=K) (a:=p) (xs:=us) (fun i σ H'=>∃ (v:V) (x:Option V),σ=[some (.ref p),some v,x]∧Same H H'∧Fq K H' v (qs.take i).sum)
   ⟨.ref p0,none,rfl,s0,⟨p0,rfl,SqT.of upd_same⟩⟩ (fun i σ H' _ ⟨_,_,_,z,_⟩=>z.seq sq) ?_ ?_⟩
  ·rintro i x σ H' hi ⟨v,y,rfl,se,fv⟩
   obtain ⟨q,hq,fx⟩:=(fq.same se).get hi
   have hil:i<qs.length:=(List.getElem?_eq_some_iff.mp hq).1
   refine ⟨_,rfl,_,rfl,v,x,_,_,4000,rfl,fv,fx,trivial,Nat.le_refl _,hs i (by omega),hb q (List.mem_of_getElem? hq),fun a ha=>?_⟩
   refine ⟨.ref a,_,rfl,se.trans (same_upd ha),?_⟩
   rw [sum_take qs i q hq]
   exact Fq.new
  ·rintro σ H' ⟨v,y,rfl,se,fv⟩
   refine ⟨_,rfl,k v H' se ?_⟩
   rw [fq.len,List.take_length] at fv
   exact fv
end
end K2
namespace K2
open PySem L2 Mp St Bz
theorem pow30:(1000000000:Int)≤2^30:=by decide
def spScale (K:PySem.W.Frag):Sp:=fun vs H Q _=>∃ (l:Addr) (us:List V) (ps:List Pipe),vs=[.ref l]∧SqL K H l us∧PipesAt K H us ps∧(∀ p∈ps,1≤p.a∧p.a≤1000000000)∧Q (.int (scaleZ ps)) H
def spEase (K:PySem.W.Frag):Sp:=fun vs H Q _=>∃ (y:Addr) (S:Int) (p:Pipe),vs=[.ref y,.int S]∧SqT K H y [.int p.a,.int p.b]∧(1≤p.a∧p.a≤1000000000)∧(1≤p.b∧p.b≤1000000000)∧Q (.int (cz S p)) H
def spEntry (K:PySem.W.Frag):Sp:=fun vs H Q _=>∃ (l:Addr) (us:List V) (n:Int) (ps:List Pipe) (S y z:Int),vs=[.ref l,.int S,.int y,.int z]∧SqL K H l us∧PipesAt K H us ps∧NetOk n ps∧∀ H',Same H H'→Q (.int (entryZ ps S y z)) H'
theorem inV2 (y u w:Int):inV (.int y) [.int u,.int w]=(decide (y=u)||decide (y=w)):=by
 have:=inV_int y [u,w]
 simp only [List.map_cons,List.map_nil] at this
 rw [this]
 by_cases h1:y=u <;> by_cases h2:y=w <;> simp [h1,h2]
theorem zs_sum (ps:List Pipe) (f:Pipe→Int):(ps.map f).sum=zs ps f:=by
 induction ps with
 | nil=>rfl
 | cons p r ih=>rw [List.map_cons,List.sum_cons,ih];rfl
section
variable {P:Program} {w:World} {K:PySem.W.Frag} {mg:Str→Option Value} {base:Heap} {C f fg fe fn:Addr} {fd fdg fde fdn:FuncData} {t1 t2 t3:Tok}
theorem ok_scale (F:Fun K "scale_of" "scale_of" s_scale_of f fd) (m_common_divisor:mg "common_divisor" = some (.ref fg)) (k_common_divisor:PySem.W.keepIn K (.ref fg)=true) (b_common_divisor:Binds K fdg ["a","b"] []) (G_common_divisor:FnOk P w K mg base CX0 1 fg fdg ["a","b"] spGcd):FnOk P w K mg base CX0 2 f fd ["pipes"] (spScale K):=by
 refine F.ok sc_scale_of (fun vs H Q E h=>?_) (fun cdv A outer s H vs Q E hr h=>?_)
 ·obtain ⟨l,us,ps,rfl,_⟩:=h
  rfl
 ·obtain ⟨l,us,ps,rfl,hl,hp,ha,q⟩:=h
  have hus:us.length=ps.length:=Paired.length hp
  refine ⟨_,(pss_cons (ps_set (i:=1) sc_scale_of.nd rfl (Or.inl rfl) pe_int)
   (pss_cons (ps_for PassesOwn.never rfl (pi_list (pv 0)) (pg_tup (n:=3) rfl (pgs_cons (pg_name (i:=2) sc_scale_of.nd rfl (Or.inl rfl)) (pgs_cons (pg_name (i:=3) sc_scale_of.nd rfl (Or.inl rfl)) (pgs_cons (pg_name (i:=4) sc_scale_of.nd rfl (Or.inl rfl)) pgs_nil)))) (pss_one (ps_set (i:=1) sc_scale_of.nd rfl (Or.inl rfl) (pe_op op_fdivB (pe_op op_mul (pv 1) (pe_ix ix_tup (pv 4) pe_int (fun _ _=>rfl))) (pe_call G_common_divisor (hr.mono (by decide)) rfl m_common_divisor k_common_divisor b_common_divisor .nil pass0 (pa_cons (pv 1) (pa_cons (pe_ix ix_tup (pv 4) pe_int (fun _ _=>rfl)) pa_nil)))))))
   (pss_one (ps_ret (pv 1))))),?_⟩
  refine ⟨_,rfl,l,rfl,⟨_,hl⟩,?_⟩
  refine for_list (K:=K) (a:=l) (xs:=us) (fun i σ H'=>∃ (v2 v3 v4:Option V),σ=[some (.ref l),some (.int (scaleZ (ps.take i))),v2,v3,v4]∧H'=H)
   ⟨none,none,none,rfl,rfl⟩ (fun i σ H' _ ⟨_,_,_,_,e⟩=>e▸hl) ?_ ?_
  ·rintro i v σ H' hv ⟨v2,v3,v4,rfl,rfl⟩
   obtain ⟨p,hpi,⟨x,y,rfl,hx,hy⟩⟩:=hp.get hv
   have pa:=ha p (List.mem_of_getElem? hpi)
   have hpos:=(scaleZ_ok (ps:=ps.take i) (ka:=30) fun q hq=>⟨(ha q (List.mem_of_mem_take hq)).1,Int.le_trans (ha q (List.mem_of_mem_take hq)).2 pow30⟩).1
   have hB:CDivB (scaleZ (ps.take i)*p.a) (Int.gcd (scaleZ (ps.take i)) p.a:Int):=by
    have g0:=Int.gcd_pos_of_ne_zero_right (scaleZ (ps.take i)) (show p.a≠0 by omega)
    have g1:(Int.gcd (scaleZ (ps.take i)) p.a:Int)≤p.a:=Int.le_of_dvd (by omega) (Int.gcd_dvd_right _ _)
    refine ⟨by omega,31,by decide,?_⟩
    show ((Int.gcd (scaleZ (ps.take i)) p.a:Int)).natAbs<2^31
    rw [Int.natAbs_natCast]
    have:(2:Nat)^31=2147483648:=by decide
    omega
   refine ⟨x,_,rfl,hx,rfl,_,_,rfl,_,_,rfl,_,_,rfl,rfl,?_⟩
   refine ⟨_,rfl,_,rfl,y,_,_,_,rfl,rfl,hy,rfl,_,_,rfl,rfl,.inr ⟨by omega,by omega⟩,?_⟩
   refine ⟨_,rfl,_,rfl,y,_,_,_,rfl,rfl,hy,rfl,_,_,rfl,_,_,rfl,rfl,hB,?_⟩
   exact ⟨_,_,_,by rw [scaleZ_take hpi];rfl,rfl⟩
  ·rintro σ H' ⟨v2,v3,v4,rfl,rfl⟩
   refine ⟨_,rfl,?_⟩
   rw [hus,List.take_length]
   exact q
theorem ok_ease (F:Fun K "scaled_ease" "scaled_ease" s_scaled_ease f fd):FnOk P w K mg base CX0 1 f fd ["hardness","scale"] (spEase K):=by
 refine F.ok sc_scaled_ease (fun vs H Q E h=>?_) (fun cdv A outer s H vs Q E hr h=>?_)
 ·obtain ⟨y,S,p,rfl,_⟩:=h
  rfl
 ·obtain ⟨y,S,p,rfl,hy,pa,pb,q⟩:=h
  refine ⟨_,(pss_one (ps_ret (pe_op op_mul (pe_op op_fdiv (pv 1) (pe_ix ix_tup (pv 0) pe_int (fun _ _=>rfl))) (pe_ix ix_tup (pv 0) pe_int (fun _ _=>rfl))))),?_⟩
  exact ⟨_,rfl,_,rfl,y,_,_,_,rfl,rfl,hy,rfl,_,_,rfl,rfl,⟨by omega,by omega⟩,_,rfl,y,_,_,_,rfl,rfl,hy,rfl,_,_,rfl,rfl,.inr ⟨by omega,by omega⟩,q⟩
theorem ok_entry (F:Fun K "entry" "entry" s_entry f fd) (T:Txt K mg C t1 t2 t3) (m_scaled_ease:mg "scaled_ease" = some (.ref fe)) (k_scaled_ease:PySem.W.keepIn K (.ref fe)=true) (b_scaled_ease:Binds K fde ["hardness","scale"] []) (G_scaled_ease:FnOk P w K mg base CX0 1 fe fde ["hardness","scale"] (spEase K)):FnOk P w K mg base CX0 2 f fd ["pipes","scale","one","other"] (spEntry K):=by
 refine F.ok sc_entry (fun vs H Q E h=>?_) (fun cdv A outer s H vs Q E hr h=>?_)
 ·obtain ⟨l,us,n,ps,S,y,z,rfl,_⟩:=h
  rfl
 ·obtain ⟨l,us,n,ps,S,y,z,rfl,hl,hp,ok,q⟩:=h
  have hus:us.length=ps.length:=Paired.length hp
  have hle:=ok.le
  refine ⟨_,(pss_cons (ps_if (pt_cmpR op_eq (pv 2) (pv 3) (nomark _)) (pss_one (ps_ret (pe_callB (call_sumL rfl) (by rfl) T.n_sum bt_sum (pa_cons (pe_comp ["start","end","hardness"] [1,2] rfl rfl (by kernel_rfl) (pi_list (pv 0)) (fun _ _ _ _=>(pg_tup (n:=3) rfl (pgs_cons (pg_name (i:=0) (show (["start","end","hardness","scale","one"]:List Str).Nodup by decide +kernel) rfl (Or.inl rfl)) (pgs_cons (pg_name (i:=1) (show (["start","end","hardness","scale","one"]:List Str).Nodup by decide +kernel) rfl (Or.inl rfl)) (pgs_cons (pg_name (i:=2) (show (["start","end","hardness","scale","one"]:List Str).Nodup by decide +kernel) rfl (Or.inl rfl)) pgs_nil))))) (fun _ _ _ _=>(gk_tup (gks_cons gk_name (gks_cons gk_name (gks_cons gk_name gks_nil))))) (fun _ _ _ _=>(pf_one (pt_cmpR op_in_seq (pv 4) (pe_tup (pa_cons (pv 0) (pa_cons (pv 1) pa_nil))) rfl))) (fun _ _ _ _=>(pe_call G_scaled_ease (hr.mono (by decide)) rfl m_scaled_ease k_scaled_ease b_scaled_ease .nil pass0 (pa_cons (pv 2) (pa_cons (pv 3) pa_nil))))) pa_nil)))) pss_nil)
   (pss_cons (ps_set (i:=4) sc_entry.nd rfl (Or.inr rfl) (pe_tup (pa_cons (pe_tup (pa_cons (pv 2) (pa_cons (pv 3) pa_nil))) (pa_cons (pe_tup (pa_cons (pv 3) (pa_cons (pv 2) pa_nil))) pa_nil))))
   (pss_one (ps_ret (pe_un un_neg (pe_callB (call_sumL rfl) (by rfl) T.n_sum bt_sum (pa_cons (pe_comp ["start","end","hardness"] [1,4] rfl rfl (by kernel_rfl) (pi_list (pv 0)) (fun _ _ _ _=>(pg_tup (n:=3) rfl (pgs_cons (pg_name (i:=0) (show (["start","end","hardness","scale","ways"]:List Str).Nodup by decide +kernel) rfl (Or.inl rfl)) (pgs_cons (pg_name (i:=1) (show (["start","end","hardness","scale","ways"]:List Str).Nodup by decide +kernel) rfl (Or.inl rfl)) (pgs_cons (pg_name (i:=2) (show (["start","end","hardness","scale","ways"]:List Str).Nodup by decide +kernel) rfl (Or.inl rfl)) pgs_nil))))) (fun _ _ _ _=>(gk_tup (gks_cons gk_name (gks_cons gk_name (gks_cons gk_name gks_nil))))) (fun _ _ _ _=>(pf_one (pt_cmpR (op_inT2 hr.units) (pe_tup (pa_cons (pv 0) (pa_cons (pv 1) pa_nil))) (pv 4) rfl))) (fun _ _ _ _=>(pe_call G_scaled_ease (hr.mono (by decide)) rfl m_scaled_ease k_scaled_ease b_scaled_ease .nil pass0 (pa_cons (pv 2) (pa_cons (pv 3) pa_nil))))) pa_nil))))))),?_⟩
  refine ⟨_,rfl,_,rfl,rfl,_,rfl,?_⟩
  refine ite2 (fun h=>?_) (fun h=>?_)
  ·have e:y=z:=by
    have h':=of_decide_eq_true h
    injection h'
   subst e
   refine ⟨_,rfl,l,rfl,⟨_,hl⟩,comp_list (K:=K) (a:=l) (xs:=us) (fun i ys H'=>Same H H'∧ys=(((ps.take i).filter (touch y)).map (cz S)).map V.int) ⟨Same.refl _,rfl⟩ (small1000 (by omega)) ?_ ?_ ?_⟩
   ·rintro i ys H' hi ⟨s1,rfl⟩
    refine ⟨?_,s1.seq hl⟩
    rw [List.length_map,List.length_map]
    exact Nat.le_trans (List.length_filter_le _ _) (by rw [List.length_take];omega)
   ·rintro i x ys H' N hx ⟨s1,rfl⟩ hN C' s₀ H₀ ex
    obtain ⟨p,hpi,⟨x,yy,rfl,hx3,hy⟩⟩:=(PipesAt.same s1 hp).get hx
    have pok:=ok.ok p (List.mem_of_getElem? hpi)
    have ht:ps.take (i+1)=ps.take i++[p]:=by rw [List.take_succ,hpi];rfl
    refine ⟨x,_,rfl,hx3,rfl,_,_,rfl,_,_,rfl,_,_,rfl,rfl,?_⟩
    refine ⟨_,rfl,_,rfl,_,rfl,by show 2≤sizeLine;decide,fun t htt=>?_⟩
    have s2:=same_upd (o:=.tup [.int p.u,.int p.w]) htt
    refine ⟨t,_,rfl,.inr (SqT.of upd_same),rfl,rfl,_,rfl,?_⟩
    show if inV (.int y) [.int p.u,.int p.w]=true then _ else _
    rw [inV2]
    show if touch y p=true then _ else _
    by_cases e:touch y p=true
    ·rw [e]
     refine iteT ?_
     refine ⟨_,rfl,_,rfl,yy,S,p,rfl,Same.tup s2 hy,⟨pok.a1,pok.aM⟩,⟨pok.b1,pok.bM⟩,hN _ _ ⟨s1.trans s2,?_⟩⟩
     rw [ht,List.filter_append,List.map_append,List.map_append]
     simp [e]
    ·have e':touch y p=false:=by simpa using e
     rw [e']
     refine iteF (hN _ _ ⟨s1.trans s2,?_⟩)
     rw [ht,List.filter_append,List.map_append,List.map_append]
     simp [e']
   ·rintro ys H' ⟨s1,rfl⟩ p hp'
    refine ⟨p,((ps.take us.length).filter (touch y)).map (cz S),rfl,SqL.of upd_same,?_⟩
    rw [hus,List.take_length,zs_sum]
    have e0:entryZ ps S y y=zs (ps.filter (touch y)) (cz S):=by unfold entryZ;rw [if_pos rfl]
    rw [← e0]
    exact q _ (s1.trans (same_upd hp'))
  ·have e:¬ y=z:=fun e=>h (by rw [e];exact decide_eq_true rfl)
   refine ⟨_,rfl,_,rfl,by show 2≤sizeLine;decide,fun r1 hr1=>⟨_,rfl,_,rfl,by show 2≤sizeLine;decide,fun r2 hr2=>⟨by show 2≤sizeLine;decide,fun wt hwt=>?_⟩⟩⟩
   have s1:=same_upd (o:=.tup [.int y,.int z]) hr1
   have s2:=same_upd (o:=.tup [.int z,.int y]) hr2
   have s3:=same_upd (o:=.tup [.ref r1,.ref r2]) hwt
   have h1:=s3 _ _ (s2 _ _ (upd_same (H:=H) (a:=r1) (o:=.tup [.int y,.int z])))
   have h2:=s3 _ _ (upd_same (H:=upd H r1 (.tup [.int y,.int z])) (a:=r2) (o:=.tup [.int z,.int y]))
   have h3:(upd (upd (upd H r1 (.tup [.int y,.int z])) r2 (.tup [.int z,.int y])) wt (.tup [.ref r1,.ref r2])) wt=some (.tup [.ref r1,.ref r2]):=upd_same
   have hne:r1≠r2:=ne_of_none (upd_same (H:=H) (a:=r1) (o:=.tup [.int y,.int z])) hr2
   have s0:=(s1.trans s2).trans s3
   generalize upd (upd (upd H r1 (.tup [.int y,.int z])) r2 (.tup [.int z,.int y])) wt (.tup [.ref r1,.ref r2])=H1 at h1 h2 h3 s0 ⊢
   refine ⟨_,rfl,l,rfl,⟨_,s0.seq hl⟩,comp_list (K:=K) (a:=l) (xs:=us) (fun i ys H'=>Same H1 H'∧ys=(((ps.take i).filter (betw y z)).map (cz S)).map V.int) ⟨Same.refl _,rfl⟩ (small1000 (by omega)) ?_ ?_ ?_⟩
   ·rintro i ys H' hi ⟨s4,rfl⟩
    refine ⟨?_,(s0.trans s4).seq hl⟩
    rw [List.length_map,List.length_map]
    exact Nat.le_trans (List.length_filter_le _ _) (by rw [List.length_take];omega)
   ·rintro i x ys H' N hx ⟨s4,rfl⟩ hN C' s₀ H₀ ex
    obtain ⟨p,hpi,⟨x,yy,rfl,hx3,hy⟩⟩:=(PipesAt.same (s0.trans s4) hp).get hx
    have pok:=ok.ok p (List.mem_of_getElem? hpi)
    have ht:ps.take (i+1)=ps.take i++[p]:=by rw [List.take_succ,hpi];rfl
    refine ⟨x,_,rfl,hx3,rfl,_,_,rfl,_,_,rfl,_,_,rfl,rfl,?_⟩
    refine ⟨_,rfl,_,rfl,by show 2≤sizeLine;decide,fun t htt=>?_⟩
    have s5:=same_upd (o:=.tup [.int p.u,.int p.w]) htt
    have s45:=s4.trans s5
    refine ⟨_,rfl,t,wt,r1,r2,p.u,p.w,y,z,z,y,rfl,rfl,SqT.of upd_same,SqT.of (s45 _ _ h3),hne,SqT.of (s45 _ _ h1),SqT.of (s45 _ _ h2),_,rfl,?_⟩
    show if betw y z p=true then _ else _
    by_cases e:betw y z p=true
    ·rw [e]
     refine iteT ?_
     refine ⟨_,rfl,_,rfl,yy,S,p,rfl,Same.tup s5 hy,⟨pok.a1,pok.aM⟩,⟨pok.b1,pok.bM⟩,hN _ _ ⟨s45,?_⟩⟩
     rw [ht,List.filter_append,List.map_append,List.map_append]
     simp [e]
    ·have e':betw y z p=false:=by simpa using e
     rw [e']
     refine iteF (hN _ _ ⟨s45,?_⟩)
     rw [ht,List.filter_append,List.map_append,List.map_append]
     simp [e']
   ·rintro ys H' ⟨s4,rfl⟩ p hp'
    refine ⟨p,((ps.take us.length).filter (betw y z)).map (cz S),rfl,SqL.of upd_same,_,rfl,?_⟩
    rw [hus,List.take_length,zs_sum]
    have e0:entryZ ps S y z = - zs (ps.filter (betw y z)) (cz S):=by unfold entryZ;rw [if_neg e]
    show Q (.int (- zs (ps.filter (betw y z)) (cz S))) _
    rw [← e0]
    exact q _ ((s0.trans s4).trans (same_upd hp'))
def spRow (K:PySem.W.Frag):Sp:=fun vs H Q _=>∃ (l g:Addr) (us:List V) (n:Int) (ps:List Pipe) (S y:Int) (fr:List Int),vs=[.ref l,.int S,.int y,.ref g]∧SqL K H l us∧PipesAt K H us ps∧NetOk n ps∧SqL K H g (fr.map V.int)∧fr.length≤8 ∧
 ∀ (H':Hp) (r:Addr),Same H H'→H r=none→H' r=some (.lst (fr.map fun z=>V.int (entryZ ps S y z)))→Q (.ref r) H'
theorem ok_row (F:Fun K "sheet_row" "sheet_row" s_sheet_row f fd) (m_entry:mg "entry" = some (.ref fn)) (k_entry:PySem.W.keepIn K (.ref fn)=true) (b_entry:Binds K fdn ["pipes","scale","one","other"] []) (G_entry:FnOk P w K mg base CX0 2 fn fdn ["pipes","scale","one","other"] (spEntry K)):FnOk P w K mg base CX0 3 f fd ["pipes","scale","one","places"] (spRow K):=by
 refine F.ok sc_sheet_row (fun vs H Q E h=>?_) (fun cdv A outer s H vs Q E hr h=>?_)
 ·obtain ⟨l,g,us,n,ps,S,y,fr,rfl,_⟩:=h
  rfl
 ·obtain ⟨l,g,us,n,ps,S,y,fr,rfl,hl,hp,ok,hg,h8,q⟩:=h
  refine ⟨_,(pss_one (ps_ret (pe_comp ["other"] [0,1,2] rfl rfl (by kernel_rfl) (pi_list (pv 3)) (fun _ _ _ _=>(pg_name (i:=0) (show (["other","pipes","scale","one"]:List Str).Nodup by decide +kernel) rfl (Or.inl rfl))) (fun _ _ _ _=>gk_name) (fun _ _ _ _=>pf_nil) (fun _ _ _ _=>(pe_call G_entry (hr.mono (by decide)) rfl m_entry k_entry b_entry .nil pass0 (pa_cons (pv 1) (pa_cons (pv 2) (pa_cons (pv 3) (pa_cons (pv 0) pa_nil))))))))),?_⟩
  refine ⟨_,rfl,g,rfl,⟨_,hg⟩,comp_list (K:=K) (a:=g) (xs:=fr.map V.int) (fun i ys H'=>Same H H'∧ys=(fr.take i).map fun z=>V.int (entryZ ps S y z)) ⟨Same.refl _,rfl⟩ (small1000 (by rw [List.length_map];omega)) ?_ ?_ ?_⟩
  ·rintro i ys H' hi ⟨s1,rfl⟩
   refine ⟨?_,s1.seq hg⟩
   rw [List.length_map,List.length_take]
   omega
  ·rintro i x ys H' N hx ⟨s1,rfl⟩ hN C' s₀ H₀ ex
   rw [List.getElem?_map] at hx
   cases e:fr[i]? with
   | none=>rw [e] at hx;cases hx
   | some z =>
    rw [e] at hx
    cases hx
    dsimp only [tNoTest,gName]
    refine iteT ?_
    refine ⟨_,rfl,_,rfl,_,rfl,_,rfl,l,us,n,ps,S,y,z,rfl,s1.seq hl,PipesAt.same s1 hp,ok,fun H2 s2=>hN _ _ ⟨s1.trans s2,?_⟩⟩
    rw [List.take_succ,e,List.map_append]
    rfl
  ·rintro ys H' ⟨s1,rfl⟩ r hr'
   rw [List.length_map,List.take_length]
   exact q _ r (s1.trans (same_upd hr')) (s1.free hr') upd_same
def RowsAt (H:Hp) (as:List Addr) (A:Nat→Nat→Int) (m wd:Nat):Prop:=as.length=m∧∀ (i:Nat) (a:Addr),as[i]? = some a→H a=some (.lst ((List.range wd).map fun j=>V.int (A i j)))
theorem RowsAt.same {H H':Hp} {as:List Addr} {A:Nat→Nat→Int} {m wd:Nat} (s:Same H H') (h:RowsAt H as A m wd):RowsAt H' as A m wd:=⟨h.1,fun i a e=>s _ _ (h.2 i a e)⟩
def spSheet (K:PySem.W.Frag):Sp:=fun vs H Q _=>∃ (l g:Addr) (us:List V) (n:Int) (ps:List Pipe) (S:Int) (fr:List Int),vs=[.ref l,.int S,.ref g]∧SqL K H l us∧PipesAt K H us ps∧NetOk n ps∧SqL K H g (fr.map V.int)∧fr.length≤8 ∧
 ∀ (H':Hp) (r:Addr) (as:List Addr),Same H H'→H r=none→H' r=some (.lst (as.map V.ref))→RowsAt H' as (fun i j=>entryZ ps S (fr.getD i 0) (fr.getD j 0)) fr.length fr.length→Q (.ref r) H'
theorem map_range (fr:List Int) (g:Int→V):fr.map g=(List.range fr.length).map fun j=>g (fr.getD j 0):=by
 refine List.ext_getElem? fun i=>?_
 rw [List.getElem?_map,List.getElem?_map]
 by_cases h:i<fr.length
 ·rw [List.getElem?_range h,List.getElem?_eq_getElem h]
  show some (g fr[i])=some (g (fr.getD i 0))
  rw [List.getD_eq_getElem?_getD,List.getElem?_eq_getElem h]
  rfl
 ·rw [List.getElem?_eq_none (by omega),List.getElem?_eq_none (by rw [List.length_range];omega)]
  rfl
theorem ok_sheet (F:Fun K "sheet_of" "sheet_of" s_sheet_of f fd) (m_sheet_row:mg "sheet_row" = some (.ref fn)) (k_sheet_row:PySem.W.keepIn K (.ref fn)=true) (b_sheet_row:Binds K fdn ["pipes","scale","one","places"] []) (G_sheet_row:FnOk P w K mg base CX0 3 fn fdn ["pipes","scale","one","places"] (spRow K)):FnOk P w K mg base CX0 4 f fd ["pipes","scale","places"] (spSheet K):=by
 refine F.ok sc_sheet_of (fun vs H Q E h=>?_) (fun cdv A outer s H vs Q E hr h=>?_)
 ·obtain ⟨l,g,us,n,ps,S,fr,rfl,_⟩:=h
  rfl
 ·obtain ⟨l,g,us,n,ps,S,fr,rfl,hl,hp,ok,hg,h8,q⟩:=h
  refine ⟨_,(pss_one (ps_ret (pe_comp ["one"] [0,1,2] rfl rfl (by kernel_rfl) (pi_list (pv 2)) (fun _ _ _ _=>(pg_name (i:=0) (show (["one","pipes","scale","places"]:List Str).Nodup by decide +kernel) rfl (Or.inl rfl))) (fun _ _ _ _=>gk_name) (fun _ _ _ _=>pf_nil) (fun _ _ _ _=>(pe_call G_sheet_row (hr.mono (by decide)) rfl m_sheet_row k_sheet_row b_sheet_row .nil pass0 (pa_cons (pv 1) (pa_cons (pv 2) (pa_cons (pv 0) (pa_cons (pv 3) pa_nil))))))))),?_⟩
  refine ⟨_,rfl,g,rfl,⟨_,hg⟩,comp_list (K:=K) (a:=g) (xs:=fr.map V.int) (fun i ys H'=>∃ as:List Addr,Same H H'∧ys=as.map V.ref∧RowsAt H' as (fun i j=>entryZ ps S (fr.getD i 0) (fr.getD j 0)) i fr.length) ⟨[],Same.refl _,rfl,rfl,fun i a e=>by simp at e⟩ (small1000 (by rw [List.length_map];omega)) ?_ ?_ ?_⟩
  ·rintro i ys H' hi ⟨as,s1,rfl,hR⟩
   refine ⟨?_,s1.seq hg⟩
   rw [List.length_map,hR.1]
   exact Nat.le_refl _
  ·rintro i x ys H' N hx ⟨as,s1,rfl,hR⟩ hN C' s₀ H₀ ex
   rw [List.getElem?_map] at hx
   cases e:fr[i]? with
   | none=>rw [e] at hx;cases hx
   | some z =>
    rw [e] at hx
    cases hx
    dsimp only [tNoTest,gName]
    refine iteT ?_
    refine ⟨_,rfl,_,rfl,_,rfl,_,rfl,l,g,us,n,ps,S,z,fr,rfl,s1.seq hl,PipesAt.same s1 hp,ok,s1.seq hg,h8,fun H2 r s2 hr2 h2=>hN _ _ ⟨as++[r],s1.trans s2,by rw [List.map_append];rfl,by rw [List.length_append,hR.1];rfl,fun j a ea=>?_⟩⟩
    by_cases hj:j<i
    ·rw [List.getElem?_append_left (by rw [hR.1];exact hj)] at ea
     exact s2 _ _ (hR.2 j a ea)
    ·have hj':=(List.getElem?_eq_some_iff.mp ea).1
     rw [List.length_append,hR.1] at hj'
     have:j=i:=by simp at hj';omega
     subst this
     rw [List.getElem?_append_right (by rw [hR.1];exact Nat.le_refl _),hR.1] at ea
     simp at ea
     subst ea
     rw [h2,map_range fr (fun z'=>V.int (entryZ ps S z z'))]
     have hz:fr.getD j 0=z:=by rw [List.getD_eq_getElem?_getD,e];rfl
     show _=some (HO.lst ((List.range fr.length).map fun l=>V.int (entryZ ps S (fr.getD j 0) (fr.getD l 0))))
     rw [hz]
  ·rintro ys H' ⟨as,s1,rfl,hR⟩ r hr'
   rw [List.length_map] at hR
   exact q _ r as (s1.trans (same_upd hr')) (s1.free hr') upd_same (hR.same (same_upd hr'))
end
end K2
namespace K2
open PySem L2 Mp St Bz
theorem rng_at {wd j:Nat} {g:Nat→V} (h:j<wd):((List.range wd).map g)[j]? = some (g j):=by
 rw [List.getElem?_map,List.getElem?_range h]
 rfl
theorem rng_get {wd j:Nat} {g:Nat→V} {v:V} (h:((List.range wd).map g)[j]? = some v):j<wd∧v=g j:=by
 have hl:=(List.getElem?_eq_some_iff.mp h).1
 rw [List.length_map,List.length_range] at hl
 rw [rng_at hl] at h
 cases h
 exact ⟨hl,rfl⟩
def spRowWo (K:PySem.W.Frag):Sp:=fun vs H Q _=>∃ (r b:Addr) (wd k:Nat) (ro by':Nat→Int) (d:Int),vs=[.ref r,.ref b,.int k,.int d]∧H r=some (.lst ((List.range wd).map fun j=>V.int (ro j)))∧H b=some (.lst ((List.range wd).map fun j=>V.int (by' j)))∧k<wd∧wd≤9∧d≠0∧Bt 8000 d∧(∀ j,j<wd→Bt 8000 (ro j)∧Bt 8000 (by' j)) ∧
 ∀ (H':Hp) (p:Addr),Same H H'→H p=none→H' p=some (.lst ((List.range wd).map fun j=>V.int ((by' k*ro j-ro k*by' j).fdiv d)))→Q (.ref p) H'
def SmallRD (A:Nat→Nat→Int) (m:Nat):Prop:=∀ k,k≤m→(∀ i j,i<m→j≤m→Bt 8000 ((RD A k).1 i j))∧Bt 8000 (RD A k).2∧(RD A k).2≠0
def spCleared (K:PySem.W.Frag):Sp:=fun vs H Q _=>∃ (r:Addr) (as:List Addr) (A:Nat→Nat→Int) (m wd:Nat),vs=[.ref r]∧H r=some (.lst (as.map V.ref))∧RowsAt H as A m wd∧m≤wd∧wd≤m+1∧m≤8∧SmallRD A m ∧
 ∀ (H':Hp) (p:Addr) (bs:List Addr),Same H H'→H' p=some (.lst (bs.map V.ref))→RowsAt H' bs (RD A m).1 m wd→Q (.ref p) H'
section
variable {P:Program} {w:World} {K:PySem.W.Frag} {mg:Str→Option Value} {base:Heap} {C f fr fc fm:Addr} {fd fdr fdc fdm:FuncData} {t1 t2 t3:Tok}
theorem ok_rowwo (F:Fun K "row_without" "row_without" s_row_without f fd) (T:Txt K mg C t1 t2 t3):FnOk P w K mg base CX0 1 f fd ["row","by","at","divisor"] (spRowWo K):=by
 refine F.ok sc_row_without (fun vs H Q E h=>?_) (fun cdv A outer s H vs Q E hr h=>?_)
 ·obtain ⟨r,b,wd,k,ro,by',d,rfl,_⟩:=h
  rfl
 ·obtain ⟨r,b,wd,k,ro,by',d,rfl,h1,h2,hk,h9,d0,hd,hb,q⟩:=h
  refine ⟨_,(pss_one (ps_ret (pe_comp ["mine","its"] [3,1,2,0] rfl rfl (by kernel_rfl) (pi_zip rfl T.n_zip (pa_cons (pv 0) (pa_cons (pv 1) pa_nil))) (fun _ _ _ _=>(pg_tup (n:=2) rfl (pgs_cons (pg_name (i:=0) (show (["mine","its","divisor","by","at","row"]:List Str).Nodup by decide +kernel) rfl (Or.inl rfl)) (pgs_cons (pg_name (i:=1) (show (["mine","its","divisor","by","at","row"]:List Str).Nodup by decide +kernel) rfl (Or.inl rfl)) pgs_nil)))) (fun _ _ _ _=>(gk_tup (gks_cons gk_name (gks_cons gk_name gks_nil)))) (fun _ _ _ _=>pf_nil) (fun _ _ _ _=>(pe_op op_fdivB (pe_op op_sub (pe_op op_mulB (pe_ix ix_list (pv 3) (pv 4) (fun _ _=>rfl)) (pv 0)) (pe_op op_mulB (pe_ix ix_list (pv 5) (pv 4) (fun _ _=>rfl)) (pv 1))) (pv 2)))))),?_⟩
  refine ⟨_,rfl,_,rfl,r,b,rfl,⟨_,SqL.of h1⟩,⟨_,SqL.of h2⟩,comp_zip (K:=K) (a:=r) (b:=b) (xs:=(List.range wd).map fun j=>V.int (ro j)) (zs:=(List.range wd).map fun j=>V.int (by' j)) (fun i ys H'=>Same H H'∧ys=(List.range i).map fun j=>V.int ((by' k*ro j-ro k*by' j).fdiv d)) ⟨Same.refl _,rfl⟩ (small1000 (by rw [List.length_map,List.length_range];omega)) (by rw [List.length_map,List.length_map]) ?_ ?_ ?_⟩
  ·rintro i ys H' hi ⟨s1,rfl⟩
   exact ⟨by rw [List.length_map,List.length_range];exact Nat.le_refl _,SqL.of (s1 _ _ h1),SqL.of (s1 _ _ h2)⟩
  ·rintro i x z ys H' N p hx hz ⟨s1,rfl⟩ hp hN C' s₀ H₀ ex
   obtain ⟨hi,rfl⟩:=rng_get hx
   obtain ⟨_,rfl⟩:=rng_get hz
   have s2:=same_upd (o:=.tup [.int (ro i),.int (by' i)]) hp
   have s12:=s1.trans s2
   refine ⟨p,_,rfl,SqT.of upd_same,rfl,_,_,rfl,_,_,rfl,rfl,?_⟩
   dsimp only [tNoTest]
   refine iteT ?_
   refine ⟨_,rfl,_,rfl,b,_,_,_,rfl,rfl,SqL.of (s12 _ _ h2),atI_nat (j:=k) (rng_at hk),_,rfl,_,_,rfl,rfl,⟨8000,8000,by decide,by decide,(hb k hk).2,(hb i hi).1⟩,?_⟩
   refine ⟨_,rfl,_,rfl,r,_,_,_,rfl,rfl,SqL.of (s12 _ _ h1),atI_nat (j:=k) (rng_at hk),_,rfl,_,_,rfl,rfl,⟨8000,8000,by decide,by decide,(hb k hk).1,(hb i hi).2⟩,?_⟩
   refine ⟨_,_,rfl,rfl,_,rfl,_,_,rfl,rfl,⟨d0,8000,by decide,hd⟩,hN _ _ ⟨s12,?_⟩⟩
   rw [List.range_succ,List.map_append]
   rfl
  ·rintro ys H' ⟨s1,rfl⟩ p hp
   refine q _ p (s1.trans (same_upd hp)) (s1.free hp) ?_
   rw [List.length_map,List.length_range]
   exact upd_same
theorem RowsAt.get {H:Hp} {as:List Addr} {A:Nat→Nat→Int} {m wd i:Nat} (h:RowsAt H as A m wd) (hi:i<m):∃ a,as[i]? = some a∧H a=some (.lst ((List.range wd).map fun j=>V.int (A i j))):=by
 have hl:i<as.length:=by rw [h.1];exact hi
 exact ⟨as[i],List.getElem?_eq_getElem hl,h.2 i _ (List.getElem?_eq_getElem hl)⟩
theorem RowsAt.snoc {H:Hp} {as:List Addr} {A:Nat→Nat→Int} {i wd:Nat} {a:Addr} (h:RowsAt H as A i wd) (ha:H a=some (.lst ((List.range wd).map fun j=>V.int (A i j)))):RowsAt H (as++[a]) A (i+1) wd:=by
 refine ⟨by rw [List.length_append,h.1];rfl,fun j b eb=>?_⟩
 by_cases hj:j<i
 ·rw [List.getElem?_append_left (by rw [h.1];exact hj)] at eb
  exact h.2 j b eb
 ·have hj':=(List.getElem?_eq_some_iff.mp eb).1
  rw [List.length_append,h.1] at hj'
  have:j=i:=by simp at hj';omega
  subst this
  rw [List.getElem?_append_right (by rw [h.1];exact Nat.le_refl _),h.1] at eb
  simp at eb
  subst eb
  exact ha
theorem ok_cleared (F:Fun K "cleared" "cleared" s_cleared f fd) (T:Txt K mg C t1 t2 t3) (m_row_without:mg "row_without" = some (.ref fr)) (k_row_without:PySem.W.keepIn K (.ref fr)=true) (b_row_without:Binds K fdr ["row","by","at","divisor"] []) (G_row_without:FnOk P w K mg base CX0 1 fr fdr ["row","by","at","divisor"] (spRowWo K)):FnOk P w K mg base CX0 2 f fd ["rows"] (spCleared K):=by
 refine F.ok sc_cleared (fun vs H Q E h=>?_) (fun cdv A outer s H vs Q E hr h=>?_)
 ·obtain ⟨r,as,A,m,wd,rfl,_⟩:=h
  rfl
 ·obtain ⟨r,as,A',m,wd,rfl,h0,hR,hw1,hw2,h8,sm,q⟩:=h
  have hlen:(as.map V.ref).length=m:=by rw [List.length_map,hR.1]
  refine ⟨_,(pss_cons (ps_set (i:=1) sc_cleared.nd rfl (Or.inl rfl) (pv 0))
   (pss_cons (ps_set (i:=2) sc_cleared.nd rfl (Or.inr rfl) pe_int)
   (pss_cons (ps_for PassesOwn.never rfl (pi_range1 rfl T.n_range (pa_cons (pe_callB call_len_seq (by rfl) T.n_len bt_len (pa_cons (pv 0) pa_nil)) pa_nil)) (pg_name (i:=3) sc_cleared.nd rfl (Or.inr rfl)) (pss_cons (ps_set (i:=4) sc_cleared.nd rfl (Or.inr rfl) (pe_ix ix_list (pv 1) (pv 3) (fun _ _=>rfl)))
   (pss_cons (ps_setC (i:=1) ["number","row"] [3,4,2] rfl rfl (by kernel_rfl) sc_cleared.nd rfl rfl (pi_enum rfl T.n_enumerate (pa_cons (pv 1) pa_nil)) (fun _ _ _ _=>(pg_tup (n:=2) rfl (pgs_cons (pg_name (i:=0) (show (["number","row","at","by","divisor"]:List Str).Nodup by decide +kernel) rfl (Or.inl rfl)) (pgs_cons (pg_name (i:=1) (show (["number","row","at","by","divisor"]:List Str).Nodup by decide +kernel) rfl (Or.inl rfl)) pgs_nil)))) (fun _ _ _ _=>(gk_tup (gks_cons gk_name (gks_cons gk_name gks_nil)))) (fun _ _ _ _=>pf_nil) (fun _ _ _ _=>(pe_ifExp (pt_cmpR op_eq (pv 0) (pv 2) (nomark _)) (pv 1) (pe_call G_row_without (hr.mono (by decide)) rfl m_row_without k_row_without b_row_without .nil pass0 (pa_cons (pv 1) (pa_cons (pv 3) (pa_cons (pv 2) (pa_cons (pv 4) pa_nil))))))))
   (pss_one (ps_set (i:=2) sc_cleared.nd rfl (Or.inr rfl) (pe_ix ix_list (pv 4) (pv 3) (fun _ _=>rfl)))))))
   (pss_one (ps_ret (pv 1)))))),?_⟩
  refine ⟨_,rfl,_,rfl,r,_,rfl,.inl (SqL.of h0),((as.map V.ref).length:Int),rfl,by omega,by omega,?_⟩
  rw [hlen,Int.toNat_natCast]
  refine for_range (lo:=0) (n:=m) (fun i σ H'=>∃ (rk:Addr) (bs:List Addr) (v3 v4:Option V),σ=[some (.ref r),some (.ref rk),some (.int (RD A' i).2),v3,v4]∧Same H H'∧H' rk=some (.lst (bs.map V.ref))∧RowsAt H' bs (RD A' i).1 m wd)
   ⟨r,as,none,none,rfl,Same.refl _,h0,hR⟩ ?_ ?_
  ·rintro i σ H1 hi ⟨rk,bs,v3,v4,rfl,s1,hk,hB⟩
   obtain ⟨a,ea,ha⟩:=hB.get hi
   obtain ⟨sm1,sm2,sm3⟩:=sm i (by omega)
   have hbl:(bs.map V.ref).length=m:=by rw [List.length_map,hB.1]
   refine ⟨_,rfl,_,rfl,rk,_,_,.ref a,rfl,rfl,SqL.of hk,by rw [Int.zero_add];exact atI_nat (j:=i) (by rw [List.getElem?_map,ea];rfl),?_⟩
   refine ⟨_,rfl,rk,rfl,⟨_,SqL.of hk⟩,comp_enum (K:=K) (a:=rk) (xs:=bs.map V.ref) (fun j ys H2=>∃ cs:List Addr,Same H1 H2∧ys=cs.map V.ref∧RowsAt H2 cs (RD A' (i+1)).1 j wd) ⟨[],Same.refl _,rfl,rfl,fun i a e=>by simp at e⟩ (small1000 (by omega)) ?_ ?_ ?_⟩
   ·rintro j ys H2 hj ⟨cs,s2,rfl,hC⟩
    exact ⟨by rw [List.length_map,hC.1];exact Nat.le_refl _,SqL.of (s2 _ _ hk)⟩
   ·rintro j v ys H2 N p hv ⟨cs,s2,rfl,hC⟩ hp hN C' s₀ H₀ ex
    rw [List.getElem?_map] at hv
    cases e:bs[j]? with
    | none=>rw [e] at hv;cases hv
    | some b =>
     rw [e] at hv
     cases hv
     have hjm:j<m:=by have:=(List.getElem?_eq_some_iff.mp e).1;rw [hB.1] at this;exact this
     have hb:=hB.2 j b e
     have s3:=same_upd (o:=.tup [.int j,.ref b]) hp
     have s23:=s2.trans s3
     have hrow:(RD A' (i+1)).1=st (RD A' i).1 i (RD A' i).2:=rfl
     refine ⟨p,_,rfl,SqT.of upd_same,rfl,_,_,rfl,_,_,rfl,rfl,?_⟩
     dsimp only [tNoTest]
     refine iteT ?_
     refine ⟨_,rfl,_,rfl,rfl,_,rfl,?_⟩
     by_cases ej:j=i
     ·rw [decide_eq_true (show V.int (j:Int)=V.int (0+(i:Int)) by rw [ej,Int.zero_add])]
      refine iteT ?_
      refine ⟨_,rfl,hN _ _ ⟨cs++[b],s23,by rw [List.map_append];rfl,(hC.same s3).snoc ?_⟩⟩
      rw [s23 _ _ hb,hrow]
      congr 2
      refine List.map_congr_left fun l _=>?_
      unfold st
      rw [if_pos ej,ej]
     ·rw [decide_eq_false (show ¬ V.int (j:Int)=V.int (0+(i:Int)) from fun z=>ej (by injection z with z;omega))]
      refine iteF ?_
      refine ⟨_,rfl,_,rfl,_,rfl,_,rfl,b,a,wd,i,(RD A' i).1 j,(RD A' i).1 i,(RD A' i).2,by rw [Int.zero_add];rfl,s23 _ _ hb,s23 _ _ ha,by omega,by omega,sm3,sm2,fun l hl=>⟨sm1 j l hjm (by omega),sm1 i l hi (by omega)⟩,fun H4 c s4 hc h4=>?_⟩
      refine hN _ _ ⟨cs++[c],s23.trans s4,by rw [List.map_append];rfl,(hC.same (s3.trans s4)).snoc ?_⟩
      rw [h4,hrow]
      congr 2
      refine List.map_congr_left fun l _=>?_
      unfold st
      rw [if_neg ej]
   ·rintro ys H2 ⟨cs,s2,rfl,hC⟩ p hp
    rw [hbl] at hC
    have s3:=same_upd (o:=.lst (cs.map V.ref)) hp
    refine ⟨_,rfl,_,rfl,a,_,_,_,rfl,rfl,SqL.of ((s2.trans s3) _ _ ha),by rw [Int.zero_add];exact atI_nat (j:=i) (rng_at (by omega)),?_⟩
    exact ⟨p,cs,_,_,rfl,(s1.trans s2).trans s3,upd_same,hC.same s3⟩
  ·rintro σ H1 ⟨rk,bs,v3,v4,rfl,s1,hk,hB⟩
   exact ⟨_,rfl,q _ rk bs s1 hk hB⟩
def augR (A:Nat→Nat→Int) (b:Nat→Int) (m:Nat):Nat→Nat→Int:=fun i j=>if j<m then A i j else b i
def spSolved (K:PySem.W.Frag):Sp:=fun vs H Q _=>∃ (r am:Addr) (as:List Addr) (A:Nat→Nat→Int) (b:Nat→Int) (m:Nat),vs=[.ref r,.ref am]∧H r=some (.lst (as.map V.ref))∧RowsAt H as A m m∧H am=some (.lst ((List.range m).map fun i=>V.int (b i)))∧m≤7∧SmallRD (augR A b m) m∧(∀ i,i<m→(RD (augR A b m) m).1 i i≠0) ∧
 ∀ (H':Hp) (p:Addr) (us:List V),Same H H'→H p=none→H' p=some (.lst us)→Fqs K H' us ((List.range m).map fun i=>Rat.divInt ((RD (augR A b m) m).1 i m) ((RD (augR A b m) m).1 i i))→Q (.ref p) H'
theorem ok_solved (F:Fun K "solved" "solved" s_solved f fd) (T:Txt K mg C t1 t2 t3) (m_cleared:mg "cleared" = some (.ref fc)) (k_cleared:PySem.W.keepIn K (.ref fc)=true) (b_cleared:Binds K fdc ["rows"] []) (G_cleared:FnOk P w K mg base CX0 2 fc fdc ["rows"] (spCleared K))
  (m_made:mg "made" = some (.ref fm)) (k_made:PySem.W.keepIn K (.ref fm)=true) (b_made:Binds K fdm ["a","b"] []) (G_made:FnOk P w K mg base CX0 2 fm fdm ["a","b"] (spMade K)):FnOk P w K mg base CX0 3 f fd ["rows","amounts"] (spSolved K):=by
 refine F.ok sc_solved (fun vs H Q E h=>?_) (fun cdv A outer s H vs Q E hr h=>?_)
 ·obtain ⟨r,am,as,A,b,m,rfl,_⟩:=h
  rfl
 ·obtain ⟨r,am,as,A',b,m,rfl,h0,hR,hA,h7,sm,hnz,q⟩:=h
  have hlen:(as.map V.ref).length=m:=by rw [List.length_map,hR.1]
  refine ⟨_,(pss_cons (ps_set (i:=2) sc_solved.nd rfl (Or.inl rfl) (pe_call G_cleared (hr.mono (by decide)) rfl m_cleared k_cleared b_cleared .nil pass0 (pa_cons (pe_comp ["row","amount"] [] rfl rfl (by kernel_rfl) (pi_zip rfl T.n_zip (pa_cons (pv 0) (pa_cons (pv 1) pa_nil))) (fun _ _ _ _=>(pg_tup (n:=2) rfl (pgs_cons (pg_name (i:=0) (show (["row","amount"]:List Str).Nodup by decide +kernel) rfl (Or.inl rfl)) (pgs_cons (pg_name (i:=1) (show (["row","amount"]:List Str).Nodup by decide +kernel) rfl (Or.inl rfl)) pgs_nil)))) (fun _ _ _ _=>(gk_tup (gks_cons gk_name (gks_cons gk_name gks_nil)))) (fun _ _ _ _=>pf_nil) (fun _ _ _ _=>(pe_op op_cat (pv 0) (pe_lst (pa_cons (pv 1) pa_nil))))) pa_nil)))
   (pss_one (ps_ret (pe_comp ["at","row"] [0] rfl rfl (by kernel_rfl) (pi_enum rfl T.n_enumerate (pa_cons (pv 2) pa_nil)) (fun _ _ _ _=>(pg_tup (n:=2) rfl (pgs_cons (pg_name (i:=0) (show (["at","row","rows"]:List Str).Nodup by decide +kernel) rfl (Or.inl rfl)) (pgs_cons (pg_name (i:=1) (show (["at","row","rows"]:List Str).Nodup by decide +kernel) rfl (Or.inl rfl)) pgs_nil)))) (fun _ _ _ _=>(gk_tup (gks_cons gk_name (gks_cons gk_name gks_nil)))) (fun _ _ _ _=>pf_nil) (fun _ _ _ _=>(pe_call G_made (hr.mono (by decide)) rfl m_made k_made b_made .nil pass0 (pa_cons (pe_ix ix_list (pv 1) (pe_callB call_len_seq (by rfl) T.n_len bt_len (pa_cons (pv 2) pa_nil)) (fun _ _=>rfl)) (pa_cons (pe_ix ix_list (pv 1) (pv 0) (fun _ _=>rfl)) pa_nil)))))))),?_⟩
  refine ⟨_,rfl,_,rfl,r,am,rfl,⟨_,SqL.of h0⟩,⟨_,SqL.of hA⟩,comp_zip (K:=K) (a:=r) (b:=am) (xs:=as.map V.ref) (zs:=(List.range m).map fun i=>V.int (b i)) (fun i ys H'=>∃ cs:List Addr,Same H H'∧ys=cs.map V.ref∧RowsAt H' cs (augR A' b m) i (m+1)) ⟨[],Same.refl _,rfl,rfl,fun i a e=>by simp at e⟩ (small1000 (by omega)) (by rw [List.length_map,List.length_range,hlen]) ?_ ?_ ?_⟩
  ·rintro i ys H' hi ⟨cs,s1,rfl,hC⟩
   exact ⟨by rw [List.length_map,hC.1];exact Nat.le_refl _,SqL.of (s1 _ _ h0),SqL.of (s1 _ _ hA)⟩
  ·rintro i x z ys H' N p hx hz ⟨cs,s1,rfl,hC⟩ hp hN C' s₀ H₀ ex
   obtain ⟨him,rfl⟩:=rng_get hz
   rw [List.getElem?_map] at hx
   cases e:as[i]? with
   | none=>rw [e] at hx;cases hx
   | some a =>
    rw [e] at hx
    cases hx
    have ha:=hR.2 i a e
    have s2:=same_upd (o:=.tup [.ref a,.int (b i)]) hp
    refine ⟨p,_,rfl,SqT.of upd_same,rfl,_,_,rfl,_,_,rfl,rfl,?_⟩
    dsimp only [tNoTest]
    refine iteT ?_
    refine ⟨_,rfl,_,rfl,by show 1≤sizeLine;decide,fun l hl=>?_⟩
    have s3:=same_upd (o:=.lst [.int (b i)]) hl
    refine ⟨a,l,_,_,rfl,rfl,s3 _ _ (s2 _ _ (s1 _ _ ha)),upd_same,Nat.le_of_lt (small1000 (by rw [List.length_map,List.length_range];show m+1≤1000;omega)),fun c hc=>?_⟩
    have s4:=same_upd (o:=.lst (((List.range m).map fun j=>V.int (A' i j))++[.int (b i)])) hc
    refine hN _ _ ⟨cs++[c],((s1.trans s2).trans s3).trans s4,by rw [List.map_append];rfl,(hC.same ((s2.trans s3).trans s4)).snoc ?_⟩
    rw [upd_same,List.range_succ,List.map_append]
    congr 3
    ·refine List.map_congr_left fun l hl=>?_
     unfold augR
     rw [if_pos (List.mem_range.mp hl)]
    ·unfold augR
     rw [List.map_singleton,if_neg (by omega)]
  ·rintro ys H1 ⟨cs,s1,rfl,hC⟩ p hp
   rw [hlen] at hC
   have s2:=same_upd (o:=.lst (cs.map V.ref)) hp
   refine ⟨p,cs,augR A' b m,m,m+1,rfl,upd_same,hC.same s2,by omega,by omega,by omega,sm,fun H3 d bs s3 hd hB=>?_⟩
   have s13:=(s1.trans s2).trans s3
   have hbl:(bs.map V.ref).length=m:=by rw [List.length_map,hB.1]
   obtain ⟨sm1,sm2,sm3⟩:=sm m (Nat.le_refl _)
   refine ⟨_,rfl,d,rfl,⟨_,SqL.of hd⟩,comp_enum (K:=K) (a:=d) (xs:=bs.map V.ref) (fun j ys H4=>Same H3 H4∧Fqs K H4 ys ((List.range j).map fun i=>Rat.divInt ((RD (augR A' b m) m).1 i m) ((RD (augR A' b m) m).1 i i))) ⟨Same.refl _,.nil⟩ (small1000 (by omega)) ?_ ?_ ?_⟩
   ·rintro j ys H4 hj ⟨s4,hF⟩
    exact ⟨by rw [hF.len,List.length_map,List.length_range];exact Nat.le_refl _,SqL.of (s4 _ _ hd)⟩
   ·rintro j v ys H4 N pp hv ⟨s4,hF⟩ hpp hN C' s₀ H₀ ex
    rw [List.getElem?_map] at hv
    cases e:bs[j]? with
    | none=>rw [e] at hv;cases hv
    | some a =>
     rw [e] at hv
     cases hv
     have hjm:j<m:=by have:=(List.getElem?_eq_some_iff.mp e).1;rw [hB.1] at this;exact this
     have ha:=hB.2 j a e
     have s5:=same_upd (o:=.tup [.int j,.ref a]) hpp
     have s45:=s4.trans s5
     refine ⟨pp,_,rfl,SqT.of upd_same,rfl,_,_,rfl,_,_,rfl,rfl,?_⟩
     dsimp only [tNoTest]
     refine iteT ?_
     refine ⟨_,rfl,_,rfl,r,_,rfl,.inl (SqL.of ((s13.trans s45) _ _ h0)),a,_,_,_,rfl,rfl,SqL.of (s45 _ _ ha),by rw [hlen];exact atI_nat (j:=m) (rng_at (by omega)),?_⟩
     refine ⟨_,rfl,_,rfl,a,_,_,_,rfl,rfl,SqL.of (s45 _ _ ha),atI_nat (j:=j) (rng_at (by omega)),?_⟩
     refine ⟨_,_,8000,rfl,hnz j hjm,by decide,sm1 j j hjm (by omega),fun c hc=>hN _ _ ⟨s45.trans (same_upd hc),?_⟩⟩
     rw [List.range_succ,List.map_append]
     exact Fqs.snoc (hF.same (s5.trans (same_upd hc))) Fq.new
   ·rintro ys H4 ⟨s4,hF⟩ pp hpp
    rw [hbl] at hF
    exact q _ pp ys ((s13.trans s4).trans (same_upd hpp)) ((s13.trans s4).free hpp) upd_same (hF.same (same_upd hpp))
def askZ (x one other:Int):Int:=if one=other∨(x≠one∧x≠other) then 0 else if x=one then 1 else -1
def spAsked:Sp:=fun vs H Q _=>∃ x one other:Int,vs=[.int x,.int one,.int other]∧∀ (H':Hp) (p:Addr),Same H H'→H p=none→H' p=some (.tup [.int (askZ x one other),.int 1])→Q (.ref p) H'
theorem ok_asked (F:Fun K "asked_sum" "asked_sum" s_asked_sum f fd):FnOk P w K mg base CX0 1 f fd ["place","one","other"] spAsked:=by
 refine F.ok sc_asked_sum (fun vs H Q E h=>?_) (fun cdv A outer s H vs Q E hr h=>?_)
 ·obtain ⟨x,one,other,rfl,_⟩:=h
  rfl
 ·obtain ⟨x,one,other,rfl,q⟩:=h
  refine ⟨_,(pss_cons (ps_if (PW.pt (pw_or (pt_cmpR op_eq (pv 1) (pv 2) (nomark _)) (pw_or1 (pt_cmpR op_notIn_seq (pv 0) (pe_tup (pa_cons (pv 1) (pa_cons (pv 2) pa_nil))) rfl)))) (pss_one (ps_ret (pe_tup (pa_cons pe_int (pa_cons pe_int pa_nil))))) pss_nil)
   (pss_one (ps_ret (pe_ifExp (pt_cmpR op_eq (pv 0) (pv 1) (nomark _)) (pe_tup (pa_cons pe_int (pa_cons pe_int pa_nil))) (pe_tup (pa_cons (pe_un un_neg pe_int) (pa_cons pe_int pa_nil))))))),?_⟩
  refine ⟨_,rfl,_,rfl,rfl,_,rfl,?_⟩
  refine ite2 (fun h=>?_) (fun h=>?_)
  ·have e:one=other:=by
    have h':=of_decide_eq_true h
    injection h'
   refine ⟨by show 2≤sizeLine;decide,fun p hp=>q _ p (same_upd hp) hp ?_⟩
   unfold askZ
   rw [if_pos (.inl e)]
   exact upd_same
  ·have e:¬ one=other:=fun e=>h (by rw [e];exact decide_eq_true rfl)
   refine ⟨_,rfl,_,rfl,_,rfl,by show 2≤sizeLine;decide,fun t ht=>?_⟩
   have s1:=same_upd (o:=.tup [.int one,.int other]) ht
   refine ⟨t,_,rfl,.inr (SqT.of upd_same),rfl,rfl,_,rfl,?_⟩
   show if (!inV (.int x) [.int one,.int other])=true then _ else _
   rw [inV2]
   by_cases e1:x=one
   ·rw [decide_eq_true e1]
    refine iteF ?_
    refine ⟨_,rfl,_,rfl,rfl,_,rfl,?_⟩
    rw [decide_eq_true (show V.int x=V.int one by rw [e1])]
    refine iteT ?_
    refine ⟨by show 2≤sizeLine;decide,fun p hp=>q _ p (s1.trans (same_upd hp)) (s1.free hp) ?_⟩
    unfold askZ
    rw [if_neg (by omega),if_pos e1]
    exact upd_same
   ·rw [decide_eq_false e1]
    by_cases e2:x=other
    ·rw [decide_eq_true e2]
     refine iteF ?_
     refine ⟨_,rfl,_,rfl,rfl,_,rfl,?_⟩
     rw [decide_eq_false (show ¬ V.int x=V.int one from fun z=>e1 (by injection z))]
     refine iteF ?_
     refine ⟨_,rfl,by show 2≤sizeLine;decide,fun p hp=>q _ p (s1.trans (same_upd hp)) (s1.free hp) ?_⟩
     unfold askZ
     rw [if_neg (by omega),if_neg e1]
     exact upd_same
    ·rw [decide_eq_false e2]
     refine iteT ?_
     refine ⟨by show 2≤sizeLine;decide,fun p hp=>q _ p (s1.trans (same_upd hp)) (s1.free hp) ?_⟩
     unfold askZ
     rw [if_pos (.inr ⟨e1,e2⟩)]
     exact upd_same
end
end K2
namespace K2
open PySem L2 Mp St Bz
theorem NetOk.nice {n:Nat} {ps:List Pipe} (h:NetOk n ps):Nice n ps:=⟨h.fits,fun p hp=>(h.ok p hp).ne,fun p hp=>(h.ok p hp).a1,fun p hp=>(h.ok p hp).b1⟩
theorem NetOk.sized {n:Nat} {ps:List Pipe} (h:NetOk n ps):Sized ps (scaleZ ps) (30*28) 30:=sized_of (fun p hp=>⟨(h.ok p hp).a1,Int.le_trans (h.ok p hp).aM pow30⟩) (fun p hp=>Int.le_trans (h.ok p hp).bM pow30) h.le (by decide)
theorem bt_of_le {z:Int} {k l:Nat} (h:z.natAbs≤2^k) (hk:k<l):Bt l z:=Nat.lt_of_le_of_lt h (Nat.pow_lt_pow_right (by decide) hk)
theorem SqT.ne {K:PySem.W.Frag} {H:Hp} {x c:Addr} {o o':HO} {xs:List V} (h:SqT K H c xs) (hx:H x=some o) (n1:∀ ys,o≠.tup ys) (n2:∀ ob ys,o≠.frz ob (.tup ys)):SqT K (upd H x o') c xs:=by
 rcases h with (z | ⟨ob,z⟩) | z
 ·exact .inl (.inl (by rw [upd_ne (ne_of z hx (fun e=>n1 _ e.symm))];exact z))
 ·exact .inl (.inr ⟨ob,by rw [upd_ne (ne_of z hx (fun e=>n2 _ _ e.symm))];exact z⟩)
 ·exact .inr z
theorem Fq.ne {K:PySem.W.Frag} {H:Hp} {x:Addr} {o o':HO} {v:V} {q:Rat} (h:Fq K H v q) (hx:H x=some o) (n1:∀ ys,o≠.tup ys) (n2:∀ ob ys,o≠.frz ob (.tup ys)):Fq K (upd H x o') v q:=by
 obtain ⟨p,rfl,h⟩:=h
 exact ⟨p,rfl,SqT.ne h hx n1 n2⟩
theorem Fqs.ne {K:PySem.W.Frag} {H:Hp} {x:Addr} {o o':HO} {vs:List V} {qs:List Rat} (h:Fqs K H vs qs) (hx:H x=some o) (n1:∀ ys,o≠.tup ys) (n2:∀ ob ys,o≠.frz ob (.tup ys)):Fqs K (upd H x o') vs qs:=Paired.mapP h fun _ _ z=>z.ne hx n1 n2
theorem Fqs.set {K:PySem.W.Frag} {H:Hp}:∀ {vs:List V} {qs:List Rat} (j:Nat) {v:V} {q:Rat},Fqs K H vs qs→Fq K H v q→Fqs K H (vs.set j v) (qs.set j q)
 | _,_,_,_,_,.nil,_=>.nil
 | _,_,0,_,_,.cons _ t,h=>.cons h t
 | _,_,j+1,_,_,.cons r t,h=>.cons r (Fqs.set j t h)
theorem Fqs.rep {K:PySem.W.Frag} {H:Hp} {v:V} {q:Rat} (h:Fq K H v q):∀ (k:Nat),Fqs K H (List.replicate k v) (List.replicate k q)
 | 0=>.nil
 | k+1=>.cons h (Fqs.rep h k)
theorem flat_rep {α:Type} (v:α):∀ k,(List.replicate k [v]).flatten=List.replicate k v
 | 0=>rfl
 | k+1=>by rw [List.replicate_succ,List.flatten_cons,flat_rep v k];rfl
theorem ixN_nat {n j:Nat} (h:j<n):ixN n (j:Int)=some j:=by
 unfold ixN
 rw [if_pos (by omega),if_pos (by omega)]
 simp
noncomputable def hts (n:Nat) (ps:List Pipe) (one other:Int):List Rat:=(List.range n).map fun i:Nat=>hOf n ps one other (i:Int)
def spHB (K:PySem.W.Frag) (C:Addr):Sp:=fun vs H Q _=>∃ (x L:Addr) (n:Nat) (ps:List Pipe) (one other:Int),vs=[.ref x,.int one,.int other]∧NetAt K C H x L n ps∧NetOk n ps∧(0≤other∧other<n)∧Reach ps other one ∧
 ∀ (H':Hp) (r:Addr) (us:List V),Same H H'→H r=none→H' r=some (.lst us)→Fqs K H' us (hts n ps one other)→Q (.ref r) H'
section
variable {P:Program} {w:World} {K:PySem.W.Frag} {mg:Str→Option Value} {base:Heap} {C f fp fq fs fa fh fv:Addr} {fd fdp fdq fds fda fdh fdv:FuncData} {t1 t2 t3:Tok}
theorem ok_hb (F:Fun K "heights_between" "heights_between" s_heights_between f fd) (T:Txt K mg C t1 t2 t3)
  (t_pipes:Meth K C "pipes" fp) (b_pipes:Binds K fdp ["self"] []) (G_pipes:FnOk P w K mg base CX0 1 fp fdp ["self"] (spPipes K C))
  (t_part:Meth K C "part" fq) (b_part:Binds K fdq ["self","at"] []) (G_part:FnOk P w K mg base CX0 3 fq fdq ["self","at"] (spPart K C))
  (m_scale_of:mg "scale_of" = some (.ref fs)) (k_scale_of:PySem.W.keepIn K (.ref fs)=true) (b_scale_of:Binds K fds ["pipes"] []) (G_scale_of:FnOk P w K mg base CX0 2 fs fds ["pipes"] (spScale K))
  (m_asked_sum:mg "asked_sum" = some (.ref fa)) (k_asked_sum:PySem.W.keepIn K (.ref fa)=true) (b_asked_sum:Binds K fda ["place","one","other"] []) (G_asked_sum:FnOk P w K mg base CX0 1 fa fda ["place","one","other"] spAsked)
  (m_sheet_of:mg "sheet_of" = some (.ref fh)) (k_sheet_of:PySem.W.keepIn K (.ref fh)=true) (b_sheet_of:Binds K fdh ["pipes","scale","places"] []) (G_sheet_of:FnOk P w K mg base CX0 4 fh fdh ["pipes","scale","places"] (spSheet K))
  (m_solved:mg "solved" = some (.ref fv)) (k_solved:PySem.W.keepIn K (.ref fv)=true) (b_solved:Binds K fdv ["rows","amounts"] []) (G_solved:FnOk P w K mg base CX0 3 fv fdv ["rows","amounts"] (spSolved K)):FnOk P w K mg base CX0 6 f fd ["net","one","other"] (spHB K C):=by
 refine F.ok sc_heights_between (fun vs H Q E h=>?_) (fun cdv A outer s H vs Q E hr h=>?_)
 ·obtain ⟨x,L,n,ps,one,other,rfl,_⟩:=h
  rfl
 ·obtain ⟨x,L,n,ps,one,other,rfl,net,ok,ho,hro,q⟩:=h
  obtain ⟨⟨dx,h1⟩,_⟩:=id net
  have n8:=ok.n8
  have n1:=ok.n1
  refine ⟨_,(pss_cons (ps_set (i:=3) sc_heights_between.nd rfl (Or.inl rfl) (pe_meth0 (pv 0) T.c_Net t_pipes G_pipes (hr.mono (by decide)) b_pipes .nil pass0))
   (pss_cons (ps_set (i:=4) sc_heights_between.nd rfl (Or.inr rfl) (pe_call G_scale_of (hr.mono (by decide)) rfl m_scale_of k_scale_of b_scale_of .nil pass0 (pa_cons (pv 3) pa_nil)))
   (pss_cons (ps_setC (i:=5) ["place"] [2] rfl rfl (by kernel_rfl) sc_heights_between.nd rfl rfl (pi_list (pe_meth (pv 0) T.c_Net t_part G_part (hr.mono (by decide)) b_part .nil pass0 (pa_cons (pv 2) pa_nil))) (fun _ _ _ _=>(pg_name (i:=0) (show (["place","other"]:List Str).Nodup by decide +kernel) rfl (Or.inl rfl))) (fun _ _ _ _=>gk_name) (fun _ _ _ _=>(pf_one (pt_cmpR op_ne (pv 0) (pv 1) (nomark _)))) (fun _ _ _ _=>(pv 0)))
   (pss_cons (ps_setC (i:=6) ["place"] [4,1,2] rfl rfl (by kernel_rfl) sc_heights_between.nd rfl rfl (pi_list (pv 5)) (fun _ _ _ _=>(pg_name (i:=0) (show (["place","scale","one","other"]:List Str).Nodup by decide +kernel) rfl (Or.inl rfl))) (fun _ _ _ _=>gk_name) (fun _ _ _ _=>pf_nil) (fun _ _ _ _=>(pe_op op_mul (pe_ix ix_tup (pe_call G_asked_sum (hr.mono (by decide)) rfl m_asked_sum k_asked_sum b_asked_sum .nil pass0 (pa_cons (pv 0) (pa_cons (pv 2) (pa_cons (pv 3) pa_nil)))) pe_int (fun _ _=>rfl)) (pv 1))))
   (pss_cons (ps_set (i:=7) sc_heights_between.nd rfl (Or.inl rfl) (pe_op op_rep (pe_lst (pa_cons (pe_tup (pa_cons pe_int (pa_cons pe_int pa_nil))) pa_nil)) (pe_fld (pv 0) rfl)))
   (pss_cons (ps_for PassesOwn.never rfl (pi_zip rfl T.n_zip (pa_cons (pv 5) (pa_cons (pe_call G_solved (hr.mono (by decide)) rfl m_solved k_solved b_solved .nil pass0 (pa_cons (pe_call G_sheet_of (hr.mono (by decide)) rfl m_sheet_of k_sheet_of b_sheet_of .nil pass0 (pa_cons (pv 3) (pa_cons (pv 4) (pa_cons (pv 5) pa_nil)))) (pa_cons (pv 6) pa_nil))) pa_nil))) (pg_tup (n:=2) rfl (pgs_cons (pg_name (i:=8) sc_heights_between.nd rfl (Or.inl rfl)) (pgs_cons (pg_name (i:=9) sc_heights_between.nd rfl (Or.inl rfl)) pgs_nil))) (pss_one (ps_asg (pv 9) (pg_sub (pv 7) (pv 8) set_list))))
   (pss_one (ps_ret (pv 7))))))))),?_⟩
  refine ⟨_,rfl,x,dx,_,rfl,h1,flds_no _ _ (by decide +kernel) (by decide +kernel),x,L,n,ps,rfl,net,fun r us hr1 pa=>?_⟩
  have s1:=same_upd (o:=.lst us) hr1
  have hrl:(upd H r (.lst us)) r=some (.lst us):=upd_same
  have pa1:=PipesAt.same s1 pa
  generalize upd H r (.lst us)=H1 at s1 hrl pa1 ⊢
  refine ⟨_,rfl,r,us,ps,rfl,SqL.of hrl,pa1,fun p hp=>⟨(ok.ok p hp).a1,(ok.ok p hp).aM⟩,?_⟩
  refine ⟨_,rfl,x,dx,_,rfl,s1 _ _ h1,flds_no _ _ (by decide +kernel) (by decide +kernel),_,rfl,x,L,n,other,ps,rfl,net.same s1,ok,ho.1,ho.2,fun H2 rm ms s2 hrm pt h2=>?_⟩
  have s12:=s1.trans s2
  have hms:ms.length≤8:=by
   have:=few n ms (List.Pairwise.imp (fun {a b} (q:a<b)=>by omega) pt.1) fun y hy=>((pt.2 y).mp hy).fits ok.fits ho
   omega
  refine ⟨rm,rfl,⟨_,SqL.of h2⟩,comp_list (K:=K) (a:=rm) (xs:=ms.map V.int) (fun i ys H'=>H'=H2∧ys=((ms.take i).filter fun y=>!decide (y=other)).map V.int) ⟨rfl,rfl⟩ (small1000 (by rw [List.length_map];omega)) ?_ ?_ ?_⟩
  ·rintro i ys H' hi ⟨rfl,rfl⟩
   refine ⟨?_,SqL.of h2⟩
   rw [List.length_map]
   exact Nat.le_trans (List.length_filter_le _ _) (by rw [List.length_take];omega)
  ·rintro i v ys H' N hv ⟨rfl,rfl⟩ hN C' s₀ H₀ ex
   rw [List.getElem?_map] at hv
   cases e:ms[i]? with
   | none=>rw [e] at hv;cases hv
   | some y =>
    rw [e] at hv
    cases hv
    have ht:ms.take (i+1)=ms.take i++[y]:=by rw [List.take_succ,e];rfl
    dsimp only [gName]
    refine ⟨_,rfl,_,rfl,rfl,_,rfl,?_⟩
    by_cases ey:y=other
    ·rw [decide_eq_true (show V.int y=V.int other by rw [ey])]
     refine iteF ?_
     refine hN _ _ ⟨rfl,?_⟩
     rw [ht,List.filter_append,List.map_append]
     simp [ey]
    ·rw [decide_eq_false (show ¬ V.int y=V.int other from fun z=>ey (by injection z))]
     refine iteT ?_
     refine ⟨_,rfl,hN _ _ ⟨rfl,?_⟩⟩
     rw [ht,List.filter_append,List.map_append]
     simp [ey]
  ·rintro ys H' ⟨rfl,rfl⟩ rf hrf
   rw [List.length_map,List.take_length]
   have hfree:=free_of pt
   obtain ⟨fr,efr⟩:∃ fr,fr=ms.filter fun y=>!decide (y=other):=⟨_,rfl⟩
   rw [← efr] at hfree ⊢
   have hfl:fr.length≤7:=by have:=hfree.len ok.nice ho;omega
   have s3:=same_upd (o:=.lst (fr.map V.int)) hrf
   have hf3:(upd H' rf (.lst (fr.map V.int))) rf=some (.lst (fr.map V.int)):=upd_same
   have s13:=s12.trans s3
   generalize upd H' rf (.lst (fr.map V.int))=H3 at s3 hf3 s13 ⊢
   refine ⟨_,rfl,rf,rfl,⟨_,SqL.of hf3⟩,comp_list (K:=K) (a:=rf) (xs:=fr.map V.int) (fun i ys H'=>Same H3 H'∧ys=(fr.take i).map fun z=>V.int (if z=one then scaleZ ps else 0)) ⟨Same.refl _,rfl⟩ (small1000 (by rw [List.length_map];omega)) ?_ ?_ ?_⟩
   ·rintro i ys H' hi ⟨s4,rfl⟩
    refine ⟨?_,SqL.of (s4 _ _ hf3)⟩
    rw [List.length_map,List.length_take]
    omega
   ·rintro i v ys H' N hv ⟨s4,rfl⟩ hN C' s₀ H₀ ex
    rw [List.getElem?_map] at hv
    cases e:fr[i]? with
    | none=>rw [e] at hv;cases hv
    | some y =>
     rw [e] at hv
     cases hv
     have hyo:y≠other:=((hfree.mem y).mp (List.mem_of_getElem? e)).2
     dsimp only [tNoTest,gName]
     refine iteT ?_
     refine ⟨_,rfl,_,rfl,_,rfl,y,one,other,rfl,fun H5 p s5 hp h5=>?_⟩
     have hz:askZ y one other=if y=one then 1 else 0:=by
      unfold askZ
      by_cases q1:y=one
      ·rw [if_neg (by omega),if_pos q1,if_pos q1]
      ·rw [if_pos (.inr ⟨q1,hyo⟩),if_neg q1]
     refine ⟨p,_,_,_,rfl,rfl,SqT.of h5,rfl,_,rfl,_,_,rfl,rfl,.inl (by rw [hz];split <;> omega),hN _ _ ⟨s4.trans s5,?_⟩⟩
     rw [List.take_succ,e,List.map_append,hz]
     by_cases q1:y=one
     ·simp [q1]
     ·simp [q1]
   ·rintro ys H' ⟨s4,rfl⟩ ra hra
    rw [List.length_map,List.take_length]
    have s5:=same_upd (o:=.lst (fr.map fun z=>V.int (if z=one then scaleZ ps else 0))) hra
    have ha5:(upd H' ra (.lst (fr.map fun z=>V.int (if z=one then scaleZ ps else 0)))) ra=some (.lst ((List.range fr.length).map fun i=>V.int (if fr.getD i 0=one then scaleZ ps else 0))):=by
     rw [upd_same,map_range fr fun z=>V.int (if z=one then scaleZ ps else 0)]
    have s15:=(s13.trans s4).trans s5
    have hf5:=(s4.trans s5) _ _ hf3
    generalize upd H' ra (.lst (fr.map fun z=>V.int (if z=one then scaleZ ps else 0)))=H5 at s5 ha5 s15 hf5 ⊢
    refine ⟨by show 2≤sizeLine;decide,fun tz htz=>⟨by show 1≤sizeLine;decide,fun lz hlz=>?_⟩⟩
    have s6:=same_upd (o:=.tup [.int 0,.int 1]) htz
    have s7:=same_upd (o:=.lst [.ref tz]) hlz
    have htz7:=s7 _ _ (upd_same (H:=H5) (a:=tz) (o:=.tup [.int 0,.int 1]))
    have s17:=(s15.trans s6).trans s7
    have hlz7:(upd (upd H5 tz (.tup [.int 0,.int 1])) lz (.lst [.ref tz])) lz=some (.lst [.ref tz]):=upd_same
    have s57:=s6.trans s7
    generalize upd (upd H5 tz (.tup [.int 0,.int 1])) lz (.lst [.ref tz])=H7 at s57 htz7 s17 hlz7 ⊢
    refine ⟨_,rfl,x,C,dx,_,_,rfl,s17 _ _ h1,T.c_Net,T.a_size,flds_size _ _,lz,n,_,rfl,rfl,hlz7,by omega,by omega,?_,fun hl hhl=>?_⟩
    ·exact Nat.le_of_lt (small1000 (by show 1*(n:Int).toNat≤1000;omega))
    rw [Int.toNat_natCast,flat_rep]
    have s8:=same_upd (o:=.lst (List.replicate n (.ref tz))) hhl
    have hlH:H hl=none:=s17.free hhl
    have hh8:(upd H7 hl (.lst (List.replicate n (.ref tz)))) hl=some (.lst (List.replicate n (.ref tz))):=upd_same
    have hz8:Fqs K (upd H7 hl (.lst (List.replicate n (.ref tz)))) (List.replicate n (.ref tz)) (List.replicate n 0):=Fqs.rep ⟨tz,rfl,SqT.of (s8 _ _ htz7)⟩ n
    have s18:=s17.trans s8
    have s58:=s57.trans s8
    generalize upd H7 hl (.lst (List.replicate n (.ref tz)))=H8 at s8 hh8 hz8 s18 s58 ⊢
    refine ⟨_,rfl,_,rfl,_,rfl,_,rfl,r,rf,us,n,ps,scaleZ ps,fr,rfl,SqL.of ((((s2.trans s3).trans s4).trans s5 |>.trans s58) _ _ hrl),PipesAt.same (((s2.trans s3).trans s4).trans s5 |>.trans s58) pa1,ok,SqL.of (s58 _ _ hf5),by omega,fun H9 rs as s9 hrs h9 hR=>?_⟩
    have small:=fun k hk=>solve_small (one:=one) ok.nice (by omega) ok.sized hfree ho k hk
    have sok:=solve_ok (one:=one) ok.nice (by omega) ok.sized hfree ho hro
    have eaug:augR (fun i j=>entryZ ps (scaleZ ps) (fr.getD i 0) (fr.getD j 0)) (fun i=>if fr.getD i 0=one then scaleZ ps else 0) fr.length=aug ps (scaleZ ps) fr one:=rfl
    refine ⟨_,rfl,rs,ra,as,_,fun i=>if fr.getD i 0=one then scaleZ ps else 0,fr.length,rfl,h9,hR,(s58.trans s9) _ _ ha5,hfl,?_,?_,fun H10 rx xs s10 hrx h10 hX=>?_⟩
    ·rw [eaug]
     intro k hk
     obtain ⟨a1,a2,a3⟩:=small k hk
     exact ⟨fun i j hi hj=>bt_of_le (a1 i j hi hj) (by decide),bt_of_le a2 (by decide),a3⟩
    ·rw [eaug]
     intro i hi
     rw [sok.2.1 i hi]
     exact sok.2.2
    rw [eaug] at hX
    have s8a:=s9.trans s10
    have hx10:hl≠rx:=ne_of_none (s9 _ _ hh8) hrx
    have hf10:=(s58.trans s8a) _ _ hf5
    have hfne:hl≠rf:=(ne_of_none (s57 _ _ hf5) hhl).symm
    have hxl:xs.length=fr.length:=by rw [hX.len,List.length_map,List.length_range]
    have s1a:=s18.trans s8a
    have e0:List.replicate n (0:Rat)=(List.range n).map fun i:Nat=>lk (fr.take 0) (xOf ps (scaleZ ps) fr one) (i:Int):=by
     rw [List.take_zero]
     refine List.ext_getElem? fun i=>?_
     rw [List.getElem?_replicate,List.getElem?_map]
     by_cases hi:i<n
     ·rw [if_pos hi,List.getElem?_range hi];rfl
     ·rw [if_neg hi,List.getElem?_eq_none (by rw [List.length_range];omega)];rfl
    refine ⟨rf,rx,rfl,⟨_,SqL.of hf10⟩,⟨_,SqL.of h10⟩,for_zip (K:=K) (a:=rf) (b:=rx) (xs:=fr.map V.int) (zs:=xs) (fun i σ H'=>∃ (ws:List V) (v8 v9:Option V),σ=[some (.ref x),some (.int one),some (.int other),some (.ref r),some (.int (scaleZ ps)),some (.ref rf),some (.ref ra),some (.ref hl),v8,v9]∧(∀ b o,b≠hl→H10 b=some o→H' b=some o)∧H' hl=some (.lst ws)∧Fqs K H' ws ((List.range n).map fun y:Nat=>lk (fr.take i) (xOf ps (scaleZ ps) fr one) (y:Int)))
     ⟨List.replicate n (.ref tz),none,none,rfl,fun b o _ e=>e,s8a _ _ hh8,by rw [← e0];exact hz8.same s8a⟩ (by rw [List.length_map];exact hxl) ?_ ?_ ?_⟩
    ·rintro i σ H' hi ⟨ws,v8,v9,rfl,kp,hw,hF⟩
     exact ⟨SqL.of (kp _ _ hfne.symm hf10),SqL.of (kp _ _ hx10.symm h10)⟩
    ·rintro i v z σ H' p hv hz ⟨ws,v8,v9,rfl,kp,hw,hF⟩ hp
     rw [List.getElem?_map] at hv
     cases e:fr[i]? with
     | none=>rw [e] at hv;cases hv
     | some y =>
      rw [e] at hv
      cases hv
      have hil:i<fr.length:=(List.getElem?_eq_some_iff.mp e).1
      obtain ⟨qz,hqz,fz⟩:=hX.get hz
      have eq:qz=xOf ps (scaleZ ps) fr one i:=by
       rw [List.getElem?_map,List.getElem?_range hil] at hqz
       cases hqz
       rfl
      subst eq
      have hy:=((hfree.mem y).mp (List.mem_of_getElem? e)).1.fits ok.fits ho
      obtain ⟨j,rfl⟩:=Int.eq_ofNat_of_zero_le hy.1
      have hjn:j<n:=by omega
      have s11:=same_upd (o:=.tup [.int (j:Int),z]) hp
      have hw11:=s11 _ _ hw
      have hphl:p≠hl:=(ne_of_none hw hp).symm
      have hF11:=hF.same s11
      have fz11:Fq K (upd H' p (.tup [.int (j:Int),z])) z (xOf ps (scaleZ ps) fr one i):=by
       obtain ⟨pz,rfl,hpz⟩:=fz
       refine ⟨pz,rfl,Same.tup s11 ?_⟩
       have hpne:∀ {o:HO},H10 pz=some o→(∀ ys,o≠.lst ys)→pz≠hl:=fun {o} eo no z=>by
        rw [z,s8a _ _ hh8] at eo
        cases eo
        exact no _ rfl
       rcases hpz with (z | ⟨ob,z⟩) | z
       ·exact .inl (.inl (kp _ _ (hpne z fun _=>nofun) z))
       ·exact .inl (.inr ⟨ob,kp _ _ (hpne z fun _=>nofun) z⟩)
       ·exact .inr z
      have kp11:∀ b o,b≠hl→H10 b=some o→(upd H' p (.tup [.int (j:Int),z])) b=some o:=fun b o nb eb=>s11 _ _ (kp b o nb eb)
      have hp11:(upd H' p (.tup [.int (j:Int),z])) p=some (.tup [.int (j:Int),z]):=upd_same
      generalize upd H' p (.tup [.int (j:Int),z])=H11 at s11 hw11 hF11 fz11 kp11 hp11 ⊢
      have hwl:ws.length=n:=by rw [hF11.len,List.length_map,List.length_range]
      refine ⟨p,_,rfl,SqT.of hp11,rfl,_,_,rfl,_,_,rfl,rfl,?_⟩
      refine ⟨_,rfl,_,rfl,_,rfl,hl,ws,j,j,rfl,rfl,hw11,by rw [hwl];exact ixN_nat hjn,?_⟩
      refine ⟨ws.set j z,_,_,rfl,fun b o nb eb=>by rw [upd_ne nb];exact kp11 b o nb eb,upd_same,?_⟩
      have e2:((List.range n).map fun y:Nat=>lk (fr.take (i+1)) (xOf ps (scaleZ ps) fr one) (y:Int))=((List.range n).map fun y:Nat=>lk (fr.take i) (xOf ps (scaleZ ps) fr one) (y:Int)).set j (xOf ps (scaleZ ps) fr one i):=by
       refine List.ext_getElem? fun k=>?_
       rw [List.getElem?_set,List.length_map,List.length_range,List.getElem?_map,List.getElem?_map]
       by_cases hk:k<n
       ·rw [List.getElem?_range hk]
        show some (lk (fr.take (i+1)) (xOf ps (scaleZ ps) fr one) (k:Int))=_
        rw [lk_take hfree.nd e]
        by_cases ek:j=k
        ·rw [if_pos (by omega),if_pos ek,if_pos (by omega)]
        ·rw [if_neg (by omega),if_neg ek];rfl
       ·rw [List.getElem?_eq_none (by rw [List.length_range];omega),if_neg (by omega)]
        rfl
      rw [e2]
      exact Fqs.set j (hF11.ne hw11 (fun _=>nofun) (fun _ _=>nofun)) (fz11.ne hw11 (fun _=>nofun) (fun _ _=>nofun))
    ·rintro σ H' ⟨ws,v8,v9,rfl,kp,hw,hF⟩
     rw [List.length_map,List.take_length] at hF
     refine ⟨_,rfl,q _ hl ws (fun b o e=>kp b o (ne_of_none e hlH) (s1a _ _ e)) hlH hw ?_⟩
     unfold hts
     rw [hOf_eq ok.nice sok.1]
     exact hF
end
end K2
namespace K2
open PySem L2 Mp St Bz
theorem btq_of {q:Rat} {N:Int} {B k:Nat} (h:Dn N B q) (h0:N≠0) (hN:N.natAbs<2^k) (hB:B<2^k):BtQ k q:=by
 obtain ⟨a,b⟩:=h.le h0
 exact ⟨Nat.lt_of_le_of_lt a hB,by show ((q.den:Int)).natAbs<2^k;rw [Int.natAbs_natCast];exact Nat.lt_of_le_of_lt b hN⟩
theorem part_free {n:Nat} {ps:List Pipe} (ok:NetOk n ps) {other:Int} (ho:0≤other∧other<n):∃ fr,Free ps other fr:=by
 obtain ⟨S,h⟩:∃ S:List Int,S.Nodup∧∀ x,x∈S↔Reach ps other x:=by
  classical
  refine ⟨((List.range n).map fun i:Nat=>(i:Int)).filter fun x=>decide (Reach ps other x),?_,fun x=>?_⟩
  ·refine List.Pairwise.filter _ (List.Pairwise.map _ (fun {a b} (q:a≠b)=>?_) List.nodup_range)
   exact fun e=>q (by omega)
  ·rw [List.mem_filter,decide_eq_true_eq]
   refine ⟨fun h=>h.2,fun h=>⟨?_,h⟩⟩
   have:=h.fits ok.fits ho
   exact List.mem_map.mpr ⟨x.toNat,List.mem_range.mpr (by omega),by omega⟩
 refine ⟨S.filter fun x=>!decide (x=other),List.Pairwise.filter _ h.1,fun x=>?_⟩
 rw [List.mem_filter,h.2 x]
 simp
theorem NetOk.isH {n:Nat} {ps:List Pipe} (ok:NetOk n ps) {one other:Int} (ho:0≤other∧other<n) (hr:Reach ps other one):IsH n ps one other (hOf n ps one other):=by
 obtain ⟨fr,hfr⟩:=part_free ok ho
 have n8:=ok.n8
 exact hOf_isH ok.nice (by omega) ok.sized hfr ho hr
def spArePl (K:PySem.W.Frag) (C:Addr):Sp:=fun vs H Q _=>∃ (x L l:Addr) (n:Nat) (ps:List Pipe) (zs:List Int),vs=[.ref x,.ref l]∧NetAt K C H x L n ps∧SqL K H l (zs.map V.int)∧zs.length≤8∧(∀ z∈zs,0≤z∧z<n)∧∀ H',Same H H'→Q (.bl true) H'
def spCheckPl (K:PySem.W.Frag) (C:Addr):Sp:=fun vs H Q _=>∃ (x L l:Addr) (n:Nat) (ps:List Pipe) (zs:List Int),vs=[.ref x,.ref l]∧NetAt K C H x L n ps∧SqL K H l (zs.map V.int)∧zs.length≤8∧(∀ z∈zs,0≤z∧z<n)∧∀ H',Same H H'→Q .non H'
section
variable {P:Program} {w:World} {K:PySem.W.Frag} {mg:Str→Option Value} {base:Heap} {C f fc fa:Addr} {fd fdc fda:FuncData} {t1 t2 t3:Tok}
theorem ok_arepl (F:Fun K "are_places" "are_places" s_are_places f fd) (T:Txt K mg C t1 t2 t3) (m_counts_one_of:mg "counts_one_of" = some (.ref fc)) (k_counts_one_of:PySem.W.keepIn K (.ref fc)=true) (b_counts_one_of:Binds K fdc ["value","many"] []) (G_counts_one_of:FnOk P w K mg base CX0 2 fc fdc ["value","many"] spCounts):FnOk P w K mg base CX0 3 f fd ["net","places"] (spArePl K C):=by
 refine F.ok sc_are_places (fun vs H Q E h=>?_) (fun cdv A outer s H vs Q E hr h=>?_)
 ·obtain ⟨x,L,l,n,ps,zs,rfl,_⟩:=h
  rfl
 ·obtain ⟨x,L,l,n,ps,zs,rfl,net,hl,h8,hz,q⟩:=h
  obtain ⟨⟨dx,h1⟩,_⟩:=id net
  refine ⟨_,(pss_one (ps_ret (pe_callB (call_all rfl) (by rfl) T.n_all bt_all (pa_cons (pe_comp ["place"] [0] rfl rfl (by kernel_rfl) (pi_list (pv 1)) (fun _ _ _ _=>(pg_name (i:=0) (show (["place","net"]:List Str).Nodup by decide +kernel) rfl (Or.inl rfl))) (fun _ _ _ _=>gk_name) (fun _ _ _ _=>pf_nil) (fun _ _ _ _=>(pe_call G_counts_one_of (hr.mono (by decide)) rfl m_counts_one_of k_counts_one_of b_counts_one_of .nil pass0 (pa_cons (pv 0) (pa_cons (pe_fld (pv 1) rfl) pa_nil))))) pa_nil)))),?_⟩
  refine ⟨_,rfl,l,rfl,⟨_,hl⟩,comp_list (K:=K) (a:=l) (xs:=zs.map V.int) (fun i ys H'=>H'=H∧ys=List.replicate i (.bl true)) ⟨rfl,rfl⟩ (small1000 (by rw [List.length_map];omega)) (fun i ys H' hi ⟨e,e'⟩=>⟨by rw [e',List.length_replicate];exact Nat.le_refl _,e▸hl⟩) ?_ ?_⟩
  ·rintro i v ys H' N hv ⟨rfl,rfl⟩ hN C' s₀ H₀ ex
   rw [List.getElem?_map] at hv
   cases e:zs[i]? with
   | none=>rw [e] at hv;cases hv
   | some z =>
    rw [e] at hv
    cases hv
    have hzz:=hz z (List.mem_of_getElem? e)
    dsimp only [tNoTest,gName]
    refine iteT ?_
    refine ⟨_,rfl,_,rfl,x,C,dx,_,_,rfl,h1,T.c_Net,T.a_size,flds_size _ _,z,n,rfl,hzz.1,hzz.2,hN _ _ ⟨rfl,by rw [List.replicate_succ']⟩⟩
  ·rintro ys H' ⟨rfl,rfl⟩ p hp'
   refine ⟨p,List.replicate (zs.map V.int).length true,rfl,SqL.of (by rw [List.map_replicate];exact upd_same),?_⟩
   have e:(List.replicate (zs.map V.int).length true).all id=true:=by simp
   rw [e]
   exact q _ (same_upd hp')
theorem ok_checkpl (F:Fun K "check_places" "check_places" s_check_places f fd) (m_are_places:mg "are_places" = some (.ref fa)) (k_are_places:PySem.W.keepIn K (.ref fa)=true) (b_are_places:Binds K fda ["net","places"] []) (G_are_places:FnOk P w K mg base CX0 3 fa fda ["net","places"] (spArePl K C)):FnOk P w K mg base CX0 4 f fd ["net","places"] (spCheckPl K C):=by
 refine F.ok sc_check_places (fun vs H Q E h=>?_) (fun cdv A outer s H vs Q E hr h=>?_)
 ·obtain ⟨x,L,l,n,ps,zs,rfl,_⟩:=h
  rfl
 ·obtain ⟨x,L,l,n,ps,zs,rfl,net,hl,h8,hz,q⟩:=h
  refine ⟨_,(pss_one (ps_if (pt_not (pt_val (pe_call G_are_places (hr.mono (by decide)) rfl m_are_places k_are_places b_are_places .nil pass0 (pa_cons (pv 0) (pa_cons (pv 1) pa_nil))))) (pss_one ps_never) pss_nil)),?_⟩
  exact ⟨_,rfl,_,rfl,x,L,l,n,ps,zs,rfl,net,hl,h8,hz,fun H1 s1=>⟨_,rfl,iteF (q _ s1)⟩⟩
end
end K2
namespace K2
open PySem L2 Mp
def spCell (K:PySem.W.Frag):Sp:=fun vs H Q _=>∃ (a:Addr) (ns:List Int) (k:Int),vs=[.ref a,.int k]∧0≤k∧SqL K H a (ns.map V.int)∧∀ z,Q (.int z) H
def spDraw:Sp:=fun vs H Q _=>∃ c k m:Int,vs=[.int c,.int k,.int m]∧0≤k∧k<2^60∧0<m∧∀ (r:Int) (H':Hp),Same H H'→0≤r→r<m→Q (.int r) H'
def spLeast:Sp:=fun vs H Q _=>∃ a b:Int,vs=[.int a,.int b]∧0≤a∧1≤b∧(∃ k,k≤9000∧L2.Bt k b) ∧
 ∀ t:Addr,H t=none→Q (.ref t) (upd H t (.tup [.int (a.fdiv (Int.gcd a b:Int)),.int (b.fdiv (Int.gcd a b:Int))]))
abbrev primes:List V:=[.int 1000003,.int 1000033,.int 1000037,.int 1000039,.int 1000081,.int 1000099,.int 1000117,.int 1000121]
theorem primes_at:∀ j:Nat,j<8→∃ pr:Int,0<pr∧primes[j]? = some (.int pr)
 | 0,_=>⟨_,by decide,rfl⟩
 | 1,_=>⟨_,by decide,rfl⟩
 | 2,_=>⟨_,by decide,rfl⟩
 | 3,_=>⟨_,by decide,rfl⟩
 | 4,_=>⟨_,by decide,rfl⟩
 | 5,_=>⟨_,by decide,rfl⟩
 | 6,_=>⟨_,by decide,rfl⟩
 | 7,_=>⟨_,by decide,rfl⟩
 | n+8,h=>by omega
theorem least_of {a b:Int} (ha:1≤a) (hb:1≤b):∃ a' b':Int,a.fdiv (Int.gcd a b:Int)=a'∧b.fdiv (Int.gcd a b:Int)=b'∧1≤a'∧a'≤a∧1≤b'∧b'≤b∧Int.gcd a' b'=1∧a'*b=a*b':=by
 obtain ⟨a',ea⟩:=Int.gcd_dvd_left a b
 obtain ⟨b',eb⟩:=Int.gcd_dvd_right a b
 have hg:0<(Int.gcd a b:Int):=by
  have:=Int.gcd_pos_of_ne_zero_left b (show a≠0 by omega)
  omega
 generalize hgg:(Int.gcd a b:Int)=g at *
 have e1:a.fdiv g=a':=by rw [ea];exact Int.mul_fdiv_cancel_left _ (by omega)
 have e2:b.fdiv g=b':=by rw [eb];exact Int.mul_fdiv_cancel_left _ (by omega)
 have pos:∀ {c c':Int},1≤c→c=g*c'→0<c':=fun {c c'} h e=>by
  by_cases z:0<c'
  ·exact z
  ·have:=Int.mul_le_mul_of_nonneg_left (show c'≤0 by omega) (Int.le_of_lt hg)
   rw [Int.mul_zero,← e] at this
   omega
 have up:∀ {c c':Int},0<c'→c=g*c'→c'≤c:=fun {c c'} h e=>by
  have:=Int.mul_le_mul_of_nonneg_right (show (1:Int)≤g by omega) (Int.le_of_lt h)
  rw [Int.one_mul,← e] at this
  exact this
 have pa:0<a':=pos ha ea
 have pb:0<b':=pos hb eb
 refine ⟨a',b',e1,e2,by omega,?_,by omega,?_,?_,by rw [eb,show a*b'=(g*a')*b' by rw [← ea]];grind⟩
 ·exact up pa ea
 ·exact up pb eb
 ·have h1:Int.gcd (g*a') (g*b')=g.natAbs*Int.gcd a' b':=Int.gcd_mul_left ..
  rw [← ea,← eb] at h1
  have h2:Int.gcd a b=g.natAbs:=by omega
  rw [h2] at h1
  have h3:0<g.natAbs:=by omega
  exact (Nat.eq_of_mul_eq_mul_left h3 (by rw [Nat.mul_one];exact h1)).symm
theorem bt31 {b:Int} (b1:1≤b) (bM:b≤1000000000):∃ k,k≤9000∧L2.Bt k b:=by
 have hb31:b.natAbs<2^31:=by
  have:(2:Nat)^31=2147483648:=by decide
  omega
 exact ⟨31,by decide,hb31⟩
section
variable {P:Program} {w:World} {K:PySem.W.Frag} {mg:Str→Option Value} {base:Heap} {C f:Addr} {fd:FuncData} {t1 t2 t3:Tok}
theorem ok_cell (F:Fun K "_law_cell_at" "_law_cell_at" s__law_cell_at f fd) (T:Txt K mg C t1 t2 t3):FnOk P w K mg base CX0 1 f fd ["_law_script","_law_k"] (spCell K):=by
 refine F.ok sc__law_cell_at (fun vs H Q E h=>?_) (fun cdv A outer s H vs Q E hr h=>?_)
 ·obtain ⟨a,ns,k,rfl,_⟩:=h
  rfl
 ·obtain ⟨a,ns,k,rfl,k0,sq,q⟩:=h
  obtain ⟨k,rfl⟩:∃ m:Nat,k=m:=⟨k.toNat,by omega⟩
  refine ⟨_,(pss_cons (ps_if (pt_cmpR op_lt (pv 1) (pe_callB call_len_seq (by rfl) T.n_len bt_len (pa_cons (pv 0) pa_nil)) (nomark _)) (pss_one (ps_ret (pe_ix ix_list (pv 0) (pv 1) (fun _ _=>rfl)))) pss_nil)
   (pss_one (ps_ret pe_int))),?_⟩
  refine ⟨_,rfl,_,rfl,a,_,rfl,.inl sq,_,_,rfl,rfl,_,rfl,?_⟩
  refine ite2 (fun h=>?_) (fun h=>?_)
  ·have h':(k:Int)<((ns.map V.int).length:Nat):=of_decide_eq_true h
   have hk:k<ns.length:=by rw [List.length_map] at h';omega
   refine ⟨_,rfl,_,rfl,a,_,_,_,rfl,rfl,sq,atI_nat (j:=k) (v:=.int (ns.getD k 0)) ?_,q _⟩
   rw [List.getElem?_map,List.getD_eq_getElem?_getD,List.getElem?_eq_getElem hk]
   rfl
  ·exact q _
theorem ok_draw (F:Fun K "_law_draw" "_law_draw" s__law_draw f fd):FnOk P w K mg base CX0 1 f fd ["_law_cell","_law_k","_law_many"] spDraw:=by
 refine F.ok sc__law_draw (fun vs H Q E h=>?_) (fun cdv A outer s H vs Q E hr h=>?_)
 ·obtain ⟨c,k,m,rfl,_⟩:=h
  rfl
 ·obtain ⟨c,k,m,rfl,k0,kM,hm,q⟩:=h
  obtain ⟨k,rfl⟩:∃ m:Nat,k=m:=⟨k.toNat,by omega⟩
  obtain ⟨pr,hpr,hat⟩:=primes_at (k % 8) (by omega)
  refine ⟨_,(pss_cons (ps_set (i:=3) sc__law_draw.nd rfl (Or.inl rfl) (pe_tup (pa_cons pe_int (pa_cons pe_int (pa_cons pe_int (pa_cons pe_int (pa_cons pe_int (pa_cons pe_int (pa_cons pe_int (pa_cons pe_int pa_nil))))))))))
   (pss_cons (ps_set (i:=4) sc__law_draw.nd rfl (Or.inl rfl) (pe_op op_add (pe_op op_add (pe_op op_mul (pv 0) pe_int) (pe_op op_mul (pv 1) pe_int)) (pe_op op_mul (pe_op op_mod (pe_op op_fdiv (pv 0) pe_int) pe_int) pe_int)))
   (pss_one (ps_ret (pe_op op_mod (pe_op op_mod (pv 4) (pe_ix ix_tup (pv 3) (pe_op op_mod (pv 1) pe_int) (fun _ _=>rfl))) (pv 2)))))),?_⟩
  refine ⟨by show 8≤sizeLine;decide,fun t ht=>?_⟩
  refine ⟨_,rfl,_,_,rfl,rfl,.inr ⟨by decide,by decide⟩,_,rfl,_,_,rfl,rfl,.inr ⟨by decide,by decide⟩,_,_,rfl,rfl,_,rfl,_,_,rfl,rfl,⟨by decide,by decide⟩,_,_,rfl,rfl,(by show (0:Int)<1000003;decide),_,_,rfl,rfl,.inr ⟨by decide,by decide⟩,_,_,rfl,rfl,?_⟩
  refine ⟨_,rfl,_,rfl,_,rfl,_,_,rfl,rfl,(by show (0:Int)<8;decide),t,_,_,.int pr,rfl,rfl,SqT.of upd_same,?_,_,_,rfl,rfl,hpr,_,rfl,_,_,rfl,rfl,hm,?_⟩
  ·exact atI_nat (j:=k % 8) hat
  ·exact q _ _ (same_upd ht) (Int.emod_nonneg _ (by omega)) (Int.emod_lt_of_pos _ hm)
theorem ok_least (F:Fun K "_law_least" "_law_least" s__law_least f fd):FnOk P w K mg base CX0 1 f fd ["_law_a","_law_b"] spLeast:=by
 refine F.ok sc__law_least (fun vs H Q E h=>?_) (fun cdv A outer s H vs Q E hr h=>?_)
 ·obtain ⟨a,b,rfl,_⟩:=h
  rfl
 ·obtain ⟨a,b,rfl,a0,b1,⟨kb,hk,hbt⟩,q⟩:=h
  refine ⟨_,(pss_cons (ps_par (i:=2) (j:=3) rfl sc__law_least.nd rfl rfl (by decide) rfl rfl (pa_cons (pv 0) (pa_cons (pv 1) pa_nil)) rfl)
   (pss_cons (ps_while PassesOwn.never (pt_cmpR op_gt (pv 3) pe_int (nomark _)) (pss_one (ps_par (i:=2) (j:=3) rfl sc__law_least.nd rfl rfl (by decide) rfl rfl (pa_cons (pv 3) (pa_cons (pe_op op_mod (pv 2) (pv 3)) pa_nil)) rfl)))
   (pss_one (ps_ret (pe_tup (pa_cons (pe_op op_fdivB (pv 0) (pv 2)) (pa_cons (pe_op op_fdivB (pv 1) (pv 2)) pa_nil))))))),?_⟩
  refine ⟨_,rfl,_,rfl,_,_,rfl,?_⟩
  refine while_by (fun σ H'=>∃ (x y:Int),σ=[some (.int a),some (.int b),some (.int x),some (.int y)]∧H'=H∧0≤x∧0≤y∧Nat.gcd x.natAbs y.natAbs=Int.gcd a b)
   (fun σ _=>match σ with | [_,_,_,some (.int y)]=>y.natAbs | _=>0) ⟨a,b,rfl,rfl,by omega,by omega,rfl⟩ ?_ ?_
  ·rintro σ H' ⟨x,y,rfl,rfl,hx,hy,hg⟩
   refine ⟨_,rfl,_,_,rfl,rfl,_,rfl,?_⟩
   refine ite2 (fun h=>?_) (fun h=>?_)
   ·have hy':0<y:=of_decide_eq_true h
    refine ⟨_,rfl,_,rfl,_,rfl,_,_,rfl,rfl,hy',_,_,rfl,⟨y,x % y,rfl,rfl,hy,Int.emod_nonneg _ (by omega),?_⟩,?_⟩
    ·rw [My.gcd_turn x y hx hy',hg]
    ·show (x % y).natAbs<y.natAbs
     have h1:=Int.emod_nonneg x (show y≠0 by omega)
     have h2:=Int.emod_lt_of_pos x hy'
     omega
   ·have hy':y=0:=by
     have:¬ 0<y:=fun z=>h (decide_eq_true z)
     omega
    subst hy'
    have e:x=(Int.gcd a b:Int):=by
     simp at hg
     omega
    subst e
    have hg0:0<Int.gcd a b:=Int.gcd_pos_of_ne_zero_right a (show b≠0 by omega)
    have hgl:(Int.gcd a b:Int)≤b:=Int.le_of_dvd (by omega) (Int.gcd_dvd_right a b)
    have hB:L2.CDivB a (Int.gcd a b:Int):=⟨by omega,kb,hk,Nat.lt_of_le_of_lt (by rw [Int.natAbs_natCast];omega) hbt⟩
    have hB':L2.CDivB b (Int.gcd a b:Int):=⟨hB.1,hB.2⟩
    refine ⟨_,rfl,_,rfl,_,_,rfl,rfl,hB,_,rfl,_,rfl,_,_,rfl,rfl,hB',by show 2≤sizeLine;decide,fun t ht=>?_⟩
    exact q t ht
  ·rintro σ H' Q1 Q2 f ⟨v,e1,i,j,e2,e3,k',e4,q'⟩
   exact ⟨v,e1,i,j,e2,e3,k',e4,f _ _ q'⟩
end
end K2
namespace K2
open PySem L2 Mp
structure Told (K:PySem.W.Frag) (H:Hp) (t l:Addr) (n:Nat) (ps:List Pipe):Prop where
 tu:H t=some (.tup [.int n,.ref l])
 li:∃ us,H l=some (.lst us)∧PipesAt K H us ps
 ok:NetOk n ps
theorem Told.same {K:PySem.W.Frag} {H H':Hp} {t l:Addr} {n:Nat} {ps:List Pipe} (s:Same H H') (h:Told K H t l n ps):Told K H' t l n ps:=by
 obtain ⟨h1,⟨us,h2,h3⟩,h4⟩:=h
 exact ⟨s _ _ h1,⟨us,s _ _ h2,PipesAt.same s h3⟩,h4⟩
def spTold (K:PySem.W.Frag):Sp:=fun vs H Q _=>∃ (a:Addr) (ns:List Int) (i m:Int),vs=[.ref a,.int i,.int m]∧0≤i∧0≤m∧m≤12∧SqL K H a (ns.map V.int) ∧
 ∀ (H':Hp) (t l:Addr) (n:Nat) (ps:List Pipe),Same H H'→H l=none→(ps.length:Int)≤m→n≤5→(∀ p∈ps,p.a≤4∧p.b≤3)→Told K H' t l n ps→Q (.ref t) H'
abbrev sizes:List V:=[.int 3,.int 4,.int 2,.int 4,.int 5,.int 3,.int 1]
theorem sizes_at:∀ j:Nat,j<7→∃ pl:Nat,1≤pl∧pl≤5∧sizes[j]? = some (.int pl)
 | 0,_=>⟨3,by decide,by decide,rfl⟩
 | 1,_=>⟨4,by decide,by decide,rfl⟩
 | 2,_=>⟨2,by decide,by decide,rfl⟩
 | 3,_=>⟨4,by decide,by decide,rfl⟩
 | 4,_=>⟨5,by decide,by decide,rfl⟩
 | 5,_=>⟨3,by decide,by decide,rfl⟩
 | 6,_=>⟨1,by decide,by decide,rfl⟩
 | n+7,h=>by omega
theorem there_ne {n:Nat} {x r:Int} (h2:2≤n) (h5:n≤5) (x0:0≤x) (xn:x<n) (r0:0≤r) (rn:r<(n:Int)-1):0≤(x+1+r) % (n:Int)∧(x+1+r) % (n:Int)<n∧x≠(x+1+r) % (n:Int):=by
 have:n=2∨n=3∨n=4∨n=5:=by omega
 rcases this with rfl | rfl | rfl | rfl <;> omega
section
variable {P:Program} {w:World} {K:PySem.W.Frag} {mg:Str→Option Value} {base:Heap} {C f fc fr fl:Addr} {fd fdc fdr fdl:FuncData} {t1 t2 t3:Tok}
theorem ok_told (F:Fun K "_law_told" "_law_told" s__law_told f fd) (T:Txt K mg C t1 t2 t3) (m__law_cell_at:mg "_law_cell_at" = some (.ref fc)) (k__law_cell_at:PySem.W.keepIn K (.ref fc)=true) (b__law_cell_at:Binds K fdc ["_law_script","_law_k"] []) (G__law_cell_at:FnOk P w K mg base CX0 1 fc fdc ["_law_script","_law_k"] (spCell K))
  (m__law_draw:mg "_law_draw" = some (.ref fr)) (k__law_draw:PySem.W.keepIn K (.ref fr)=true) (b__law_draw:Binds K fdr ["_law_cell","_law_k","_law_many"] []) (G__law_draw:FnOk P w K mg base CX0 1 fr fdr ["_law_cell","_law_k","_law_many"] spDraw)
  (m__law_least:mg "_law_least" = some (.ref fl)) (k__law_least:PySem.W.keepIn K (.ref fl)=true) (b__law_least:Binds K fdl ["_law_a","_law_b"] []) (G__law_least:FnOk P w K mg base CX0 1 fl fdl ["_law_a","_law_b"] spLeast):FnOk P w K mg base CX0 2 f fd ["_law_script","_law_first","_law_most"] (spTold K):=by
 refine F.ok sc__law_told (fun vs H Q E h=>?_) (fun cdv A outer s H vs Q E hr h=>?_)
 ·obtain ⟨a,ns,i,m,rfl,_⟩:=h
  rfl
 ·obtain ⟨a,ns,i0,m,rfl,hi0,hm0,hm,sq,q⟩:=h
  refine ⟨_,(pss_cons (ps_set (i:=3) sc__law_told.nd rfl (Or.inl rfl) (pe_call G__law_cell_at (hr.mono (by decide)) rfl m__law_cell_at k__law_cell_at b__law_cell_at .nil pass0 (pa_cons (pv 0) (pa_cons (pv 1) pa_nil))))
   (pss_cons (ps_set (i:=4) sc__law_told.nd rfl (Or.inl rfl) (pe_call G__law_cell_at (hr.mono (by decide)) rfl m__law_cell_at k__law_cell_at b__law_cell_at .nil pass0 (pa_cons (pv 0) (pa_cons (pe_op op_add (pv 1) pe_int) pa_nil))))
   (pss_cons (ps_set (i:=5) sc__law_told.nd rfl (Or.inl rfl) (pe_call G__law_cell_at (hr.mono (by decide)) rfl m__law_cell_at k__law_cell_at b__law_cell_at .nil pass0 (pa_cons (pv 0) (pa_cons (pe_op op_add (pv 1) pe_int) pa_nil))))
   (pss_cons (ps_set (i:=6) sc__law_told.nd rfl (Or.inl rfl) (pe_ix ix_tup (pe_tup (pa_cons pe_int (pa_cons pe_int (pa_cons pe_int (pa_cons pe_int (pa_cons pe_int (pa_cons pe_int (pa_cons pe_int pa_nil)))))))) (pe_op op_mod (pv 3) pe_int) (fun _ _=>rfl)))
   (pss_cons (ps_set (i:=7) sc__law_told.nd rfl (Or.inl rfl) (pe_lst pa_nil))
   (pss_cons (ps_if (pt_cmpR op_gt (pv 6) pe_int (nomark _)) (pss_one (ps_for PassesOwn.never rfl (pi_range1 rfl T.n_range (pa_cons (pe_op op_mod (pe_op op_fdiv (pv 3) pe_int) (pe_op op_add (pv 2) pe_int)) pa_nil)) (pg_name (i:=8) sc__law_told.nd rfl (Or.inl rfl)) (pss_cons (ps_set (i:=9) sc__law_told.nd rfl (Or.inl rfl) (pe_call G__law_draw (hr.mono (by decide)) rfl m__law_draw k__law_draw b__law_draw .nil pass0 (pa_cons (pv 4) (pa_cons (pv 8) (pa_cons (pv 6) pa_nil)))))
   (pss_cons (ps_set (i:=10) sc__law_told.nd rfl (Or.inl rfl) (pe_op op_mod (pe_op op_add (pe_op op_add (pv 9) pe_int) (pe_call G__law_draw (hr.mono (by decide)) rfl m__law_draw k__law_draw b__law_draw .nil pass0 (pa_cons (pv 4) (pa_cons (pe_op op_add (pv 8) pe_int) (pa_cons (pe_op op_sub (pv 6) pe_int) pa_nil))))) (pv 6)))
   (pss_one (ps_expr (pe_bm PySem.F.plainAttrs_list PySem.F.slot_list_append PySem.F.type_list_append mt_append (pv 7) (pa_cons (pe_tup (pa_cons (pv 9) (pa_cons (pv 10) (pa_cons (pe_call G__law_least (hr.mono (by decide)) rfl m__law_least k__law_least b__law_least .nil pass0 (pa_cons (pe_op op_add pe_int (pe_call G__law_draw (hr.mono (by decide)) rfl m__law_draw k__law_draw b__law_draw .nil pass0 (pa_cons (pv 5) (pa_cons (pv 8) (pa_cons pe_int pa_nil))))) (pa_cons (pe_op op_add pe_int (pe_call G__law_draw (hr.mono (by decide)) rfl m__law_draw k__law_draw b__law_draw .nil pass0 (pa_cons (pv 5) (pa_cons (pe_op op_add (pv 8) pe_int) (pa_cons pe_int pa_nil))))) pa_nil))) pa_nil)))) pa_nil)))))))) pss_nil)
   (pss_one (ps_ret (pe_tup (pa_cons (pv 6) (pa_cons (pv 7) pa_nil))))))))))),?_⟩
  refine ⟨_,rfl,_,rfl,a,ns,i0,rfl,hi0,sq,fun c1=>?_⟩
  refine ⟨_,rfl,_,rfl,_,_,rfl,rfl,a,ns,i0+1,rfl,by omega,sq,fun c2=>?_⟩
  refine ⟨_,rfl,_,rfl,_,_,rfl,rfl,a,ns,i0+2,rfl,by omega,sq,fun c3=>?_⟩
  have h7:0≤c1 % 7∧c1 % 7<7:=by omega
  obtain ⟨n,n1,n5,hat⟩:=sizes_at (c1 % 7).toNat (by omega)
  refine ⟨by show 7≤sizeLine;decide,fun tp htp=>⟨_,rfl,_,_,rfl,rfl,(by show (0:Int)<7;decide),tp,_,_,.int n,rfl,rfl,SqT.of upd_same,?_,?_⟩⟩
  ·have:=atI_nat (j:=(c1 % 7).toNat) hat
   rw [Int.toNat_of_nonneg h7.1] at this
   exact this
  have s1:=same_upd (o:=.tup sizes) htp
  refine ⟨by show 0≤sizeLine;decide,fun l hl=>?_⟩
  have s2:=s1.trans (same_upd (o:=.lst []) hl)
  have hlH:=s1.free hl
  have hl2:(upd (upd H tp (.tup sizes)) l (.lst [])) l=some (.lst []):=upd_same
  show _
  generalize upd (upd H tp (.tup sizes)) l (.lst [])=H2 at s2 hl2 ⊢
  have fin:∀ (H3:Hp) (us:List V) (ps:List Pipe),Same H H3→H3 l=some (.lst us)→PipesAt K H3 us ps→(ps.length:Int)≤m→(∀ p∈ps,PipeOk n p)→(∀ p∈ps,p.a≤4∧p.b≤3)→∀ t,H3 t=none→Q (.ref t) (upd H3 t (.tup [.int n,.ref l])):=fun H3 us ps s3 h3 p3 le ok smp t ht=>by
   have s4:=same_upd (o:=.tup [.int n,.ref l]) ht
   exact q _ t l n ps (s3.trans s4) hlH le n5 smp ⟨upd_same,⟨us,s4 _ _ h3,PipesAt.same s4 p3⟩,⟨by omega,by omega,ok,by omega⟩⟩
  refine ⟨_,rfl,_,_,rfl,rfl,_,rfl,?_⟩
  refine ite2 (fun h=>?_) (fun h=>?_)
  ·have hn2:(n:Int)>1:=of_decide_eq_true h
   have hmod:0≤(c1/7) % (m+1)∧(c1/7) % (m+1)<m+1:=⟨Int.emod_nonneg _ (by omega),Int.emod_lt_of_pos _ (by omega)⟩
   refine ⟨_,rfl,_,_,rfl,rfl,⟨by decide,by decide⟩,_,rfl,_,_,rfl,rfl,_,_,rfl,rfl,(by omega),(c1/7) % (m+1),rfl,by omega,by omega,?_⟩
   refine for_range (lo:=0) (n:=((c1/7) % (m+1)).toNat) (fun i σ H3=>∃ (us:List V) (ps:List Pipe) (v8 v9 v10:Option V),σ=[some (.ref a),some (.int i0),some (.int m),some (.int c1),some (.int c2),some (.int c3),some (.int n),some (.ref l),v8,v9,v10]∧Same H H3∧H3 l=some (.lst us)∧PipesAt K H3 us ps∧ps.length=i∧(∀ p∈ps,PipeOk n p)∧∀ p∈ps,p.a≤4∧p.b≤3)
    ⟨[],[],none,none,none,rfl,s2,hl2,.nil,rfl,(fun _ h=>by cases h),fun _ h=>by cases h⟩ ?_ ?_
   ·rintro i σ H3 hi ⟨us,ps,v8,v9,v10,rfl,s3,h3,p3,le,ok,smp⟩
    refine ⟨_,rfl,_,rfl,_,rfl,c2,0+(i:Int),n,rfl,by omega,by omega,by omega,fun x H4 s4 x0 xn=>?_⟩
    refine ⟨_,rfl,_,_,rfl,rfl,_,rfl,_,rfl,_,_,rfl,rfl,_,rfl,_,_,rfl,rfl,c2,0+(i:Int)+3,(n:Int)-1,rfl,by omega,by omega,by omega,fun r H5 s5 r0 rn=>?_⟩
    refine ⟨_,_,rfl,rfl,_,rfl,_,_,rfl,rfl,by omega,?_⟩
    obtain ⟨y0,yn,xy⟩:=there_ne (by omega) n5 x0 xn r0 rn
    have s35:=s4.trans s5
    refine ⟨_,rfl,.inl ⟨rfl,_,SqL.of (s35 _ _ h3)⟩,_,rfl,_,rfl,_,rfl,_,rfl,c3,0+(i:Int),4,rfl,by omega,by omega,by decide,fun r3 H6 s6 r30 r3n=>?_⟩
    refine ⟨_,_,rfl,rfl,_,rfl,_,rfl,_,_,rfl,rfl,c3,0+(i:Int)+5,3,rfl,by omega,by omega,by decide,fun r4 H7 s7 r40 r4n=>?_⟩
    refine ⟨_,_,rfl,rfl,1+r3,1+r4,rfl,by omega,by omega,bt31 (by omega) (by omega),fun th hth=>?_⟩
    obtain ⟨a',b',e1,e2,a1,aM,b1,bM,gc,_⟩:=least_of (a:=1+r3) (b:=1+r4) (by omega) (by omega)
    rw [e1,e2]
    refine ⟨by show 3≤sizeLine;decide,fun tt htt=>?_⟩
    have s8:=same_upd (o:=.tup [.int a',.int b']) hth
    have s9:=same_upd (o:=.tup [.int x,.int ((x+1+r) % (n:Int)),.ref th]) htt
    have s39:=(((s35.trans s6).trans s7).trans s8).trans s9
    have hth9:=s9 _ _ (upd_same (H:=H7) (a:=th) (o:=.tup [.int a',.int b']))
    have htt9:(upd (upd H7 th (.tup [.int a',.int b'])) tt (.tup [.int x,.int ((x+1+r) % (n:Int)),.ref th])) tt=some (.tup [.int x,.int ((x+1+r) % (n:Int)),.ref th]):=upd_same
    have hus:us.length=ps.length:=Paired.length p3
    generalize hH9:upd (upd H7 th (.tup [.int a',.int b'])) tt (.tup [.int x,.int ((x+1+r) % (n:Int)),.ref th])=H9 at s9 s39 hth9 htt9
    refine ⟨l,us,.ref tt,rfl,rfl,?_,small1000 (by omega),?_⟩
    ·exact s39 _ _ h3
    show ∃ (us':List V) (ps:List Pipe) (v8 v9 v10:Option V),_
    refine ⟨us++[.ref tt],ps++[⟨x,(x+1+r) % (n:Int),a',b'⟩],_,_,_,rfl,?_,?_,?_,by rw [List.length_append];simp;omega,?_,?_⟩
    ·intro b o e
     rw [upd_ne (ne_of_none e hlH)]
     exact s39 _ _ (s3 _ _ e)
    ·exact upd_same
    ·exact PipesAt.ne (s39 _ _ h3) (fun _=>nofun) (fun _ _=>nofun) (PipesAt.snoc (PipesAt.same s39 p3) ⟨tt,th,rfl,SqT.of htt9,SqT.of hth9⟩)
    ·intro p hp
     rcases List.mem_append.mp hp with h | h
     ·exact ok p h
     ·rw [List.mem_singleton.mp h]
      exact ⟨x0,xn,y0,yn,xy,a1,by show a'≤1000000000;omega,b1,by show b'≤1000000000;omega,gc⟩
    ·intro p hp
     rcases List.mem_append.mp hp with h | h
     ·exact smp p h
     ·rw [List.mem_singleton.mp h]
      exact ⟨by show a'≤4;omega,by show b'≤3;omega⟩
   ·rintro σ H3 ⟨us,ps,v8,v9,v10,rfl,s3,h3,p3,le,ok,smp⟩
    exact ⟨_,rfl,_,rfl,by show 2≤sizeLine;decide,fin H3 us ps s3 h3 p3 (by omega) ok smp⟩
  ·exact ⟨_,rfl,_,rfl,by show 2≤sizeLine;decide,fin H2 [] [] s2 hl2 .nil (by simp;omega) (fun _ h=>by cases h) (fun _ h=>by cases h)⟩
end
end K2
namespace K2
open PySem L2 Mp
section
variable {P:Program} {w:World} {K:PySem.W.Frag} {mg:Str→Option Value} {base:Heap} {C f:Addr} {fd:FuncData} {t1 t2 t3:Tok}
end
end K2
namespace K2
open PySem L2 Mp St Bz
theorem hts_at {n:Nat} {ps:List Pipe} {one other:Int} {j:Nat} (h:j<n):(hts n ps one other)[j]? = some (hOf n ps one other (j:Int)):=by
 unfold hts
 rw [List.getElem?_map,List.getElem?_range h]
 rfl
def OptAt (K:PySem.W.Frag) (H:Hp) (v:V):Option Rat→Prop
 | none=>v=.non
 | some q=>Fq K H v q
theorem OptAt.same {K:PySem.W.Frag} {H H':Hp} {v:V} {o:Option Rat} (h:OptAt K H v o) (e:Same H H'):OptAt K H' v o:=by
 cases o with
 | none=>exact h
 | some q=>exact Fq.same h e
theorem PipeOk.hardq {n:Int} {p:Pipe} (h:PipeOk n p):(hard p).num=p.a∧((hard p).den:Int)=p.b:=by
 have hb:=h.b1
 have e:hard p=Rat.divInt p.a p.b:=(Rat.divInt_eq_div _ _).symm
 have g:=h.gc
 rw [e]
 constructor
 ·rw [← My.made_num p.a p.b (by omega)]
  unfold My.dv
  rw [if_neg (by omega),g]
  simp
 ·rw [← My.made_den p.a p.b (by omega)]
  unfold My.dv
  rw [if_neg (by omega),g]
  simp
theorem PipeOk.fq {K:PySem.W.Frag} {H:Hp} {n:Int} {p:Pipe} {y:Addr} (h:PipeOk n p) (hy:SqT K H y [.int p.a,.int p.b]):Fq K H (.ref y) (hard p):=by
 obtain ⟨e1,e2⟩:=h.hardq
 exact ⟨y,rfl,by rw [e1,e2];exact hy⟩
theorem ease_as {p:Pipe} (ha:1≤p.a) (hb:1≤p.b):(1:Rat)/hard p=ease p:=by
 have h1:=ease_hard ha hb
 have h2:=hard_pos ha hb
 grind
theorem hard_ne {p:Pipe} (ha:1≤p.a) (hb:1≤p.b):hard p≠0:=fun z=>by
 have:=hard_pos ha hb
 rw [z] at this
 grind
theorem PipeOk.btq {n:Int} {p:Pipe} (h:PipeOk n p) {k:Nat} (ha:p.a<2^k) (hb:p.b<2^k):BtQ k (hard p)∧BtQ k (ease p):=by
 have a1:=h.a1
 have b1:=h.b1
 have h2k:((2^k:Nat):Int)=2^k:=by norm_cast
 have t1:Bt k p.a:=by show p.a.natAbs<2^k;omega
 have t2:Bt k p.b:=by show p.b.natAbs<2^k;omega
 have e:ease p=Rat.divInt p.b p.a:=(Rat.divInt_eq_div _ _).symm
 have e':hard p=Rat.divInt p.a p.b:=(Rat.divInt_eq_div _ _).symm
 constructor
 ·rw [e']
  exact ⟨Bt.le (My.num_le _ _ (by omega)) t1,Bt.le (by have:=My.den_le p.a p.b (by omega);simpa using this) t2⟩
 ·rw [e]
  exact ⟨Bt.le (My.num_le _ _ (by omega)) t2,Bt.le (by have:=My.den_le p.b p.a (by omega);simpa using this) t1⟩
theorem one_fq {K:PySem.W.Frag} {H:Hp} {p:Addr} (h:H p=some (.tup [.int 1,.int 1])):Fq K H (.ref p) 1:=⟨p,rfl,SqT.of h⟩
theorem zero_fq {K:PySem.W.Frag} {H:Hp} {p:Addr} (h:H p=some (.tup [.int 0,.int 1])):Fq K H (.ref p) 0:=⟨p,rfl,SqT.of h⟩
theorem btq1:BtQ 1 (1:Rat):=⟨by show (1:Int).natAbs<2;decide,by show (1:Int).natAbs<2;decide⟩
end K2
namespace K2
open PySem L2 Mp St Bz
structure TxtS (K:PySem.W.Frag) (mg:Str→Option Value) (C CS CP:Addr):Prop where
 n_list:mg "list" = none
 n_zip:mg "zip" = none
 c_Net:Cls K C
 c_Stream:Cls K CS
 a_flows:NoAttr K CS "flows"
 a_heights:NoAttr K CS "heights"
 c_Apart:Cls K CP
 a_places:NoAttr K CP "places"
def sflds (F G:Addr):List (Str×V):=putF "heights" (.ref G) (putF "flows" (.ref F) [])
def pflds (F:Addr):List (Str×V):=putF "places" (.ref F) []
structure StreamAt (CS:Addr) (H:Hp) (y F G:Addr) (us ws:List V):Prop where
 ob:∃ dx,H y=some (.ins CS dx (sflds F G))
 fl:H F=some (.lst us)
 hl:H G=some (.lst ws)
structure ApartAt (CP:Addr) (H:Hp) (y F:Addr) (ms:List Int):Prop where
 ob:∃ dx,H y=some (.ins CP dx (pflds F))
 fl:H F=some (.lst (ms.map V.int))
open Classical in
noncomputable def hdQ (n:Nat) (ps:List Pipe) (one other:Int):Option Rat:=if Reach ps one other then some (hOf n ps one other one) else none
def spHardOf (K:PySem.W.Frag) (C:Addr):Sp:=fun vs H Q _=>∃ (x L:Addr) (n:Nat) (ps:List Pipe) (one other:Int),vs=[.ref x,.int one,.int other]∧NetAt K C H x L n ps∧NetOk n ps∧(0≤one∧one<n)∧(0≤other∧other<n) ∧
 ∀ (H':Hp) (v:V),Same H H'→OptAt K H' v (hdQ n ps one other)→Q v H'
section
variable {P:Program} {w:World} {K:PySem.W.Frag} {mg:Str→Option Value} {base:Heap} {C CS CP f fc fp fq fh fo fm fl fs fa:Addr} {fd fdc fdp fdq fdh fdo fdm fdl fds fda:FuncData} {t1 t2 t3:Tok}
theorem ok_hardof (F:Fun K "hardness_of" "hardness_of" s_hardness_of f fd) (T:Txt K mg C t1 t2 t3)
  (t_part:Meth K C "part" fq) (b_part:Binds K fdq ["self","at"] []) (G_part:FnOk P w K mg base CX0 3 fq fdq ["self","at"] (spPart K C))
  (m_check_places:mg "check_places" = some (.ref fc)) (k_check_places:PySem.W.keepIn K (.ref fc)=true) (b_check_places:Binds K fdc ["net","places"] []) (G_check_places:FnOk P w K mg base CX0 4 fc fdc ["net","places"] (spCheckPl K C))
  (m_heights_between:mg "heights_between" = some (.ref fh)) (k_heights_between:PySem.W.keepIn K (.ref fh)=true) (b_heights_between:Binds K fdh ["net","one","other"] []) (G_heights_between:FnOk P w K mg base CX0 6 fh fdh ["net","one","other"] (spHB K C)) :
  FnOk P w K mg base CX0 7 f fd ["net","one","other"] (spHardOf K C):=by
 refine F.ok sc_hardness_of (fun vs H Q E h=>?_) (fun cdv A outer s H vs Q E hr h=>?_)
 ·obtain ⟨x,L,n,ps,one,other,rfl,_⟩:=h
  rfl
 ·obtain ⟨x,L,n,ps,one,other,rfl,net,ok,h1,h2,q⟩:=h
  obtain ⟨⟨dx,hx⟩,_⟩:=id net
  refine ⟨_,(pss_cons (ps_expr (pe_call G_check_places (hr.mono (by decide)) rfl m_check_places k_check_places b_check_places .nil pass0 (pa_cons (pv 0) (pa_cons (pe_lst (pa_cons (pv 1) (pa_cons (pv 2) pa_nil))) pa_nil))))
   (pss_cons (ps_if (pt_cmpR op_notIn_seq (pv 2) (pe_meth (pv 0) T.c_Net t_part G_part (hr.mono (by decide)) b_part .nil pass0 (pa_cons (pv 1) pa_nil)) rfl) (pss_one (ps_ret pe_non)) pss_nil)
   (pss_one (ps_ret (pe_ix ix_list (pe_call G_heights_between (hr.mono (by decide)) rfl m_heights_between k_heights_between b_heights_between .nil pass0 (pa_cons (pv 0) (pa_cons (pv 1) (pa_cons (pv 2) pa_nil)))) (pv 1) (fun _ _=>rfl)))))),?_⟩
  refine ⟨_,rfl,_,rfl,_,rfl,by show 2≤sizeLine;decide,fun l hl=>?_⟩
  have s0:=same_upd (o:=.lst [.int one,.int other]) hl
  have hl0:(upd H l (.lst [.int one,.int other])) l=some (.lst ([one,other].map V.int)):=upd_same
  generalize upd H l (.lst [.int one,.int other])=H0 at s0 hl0 ⊢
  refine ⟨x,L,l,n,ps,[one,other],rfl,net.same s0,SqL.of hl0,(by show 2≤8;decide),fun z hz=>?_,fun H1 s1=>?_⟩
  ·simp only [List.mem_cons,List.not_mem_nil,or_false] at hz
   rcases hz with rfl | rfl
   ·exact h1
   ·exact h2
  have s01:=s0.trans s1
  refine ⟨_,rfl,_,rfl,x,dx,_,rfl,s01 _ _ hx,flds_no _ _ (by decide +kernel) (by decide +kernel),_,rfl,x,L,n,one,ps,rfl,net.same s01,ok,h1.1,h1.2,fun H2 r ms s2 hr2 pt hr=>?_⟩
  have s02:=s01.trans s2
  have i2:inV (.int other) (ms.map V.int)=decide (other∈ms):=inV_int other ms
  refine ⟨r,_,rfl,.inl (SqL.of hr),rfl,flat_ints _,_,rfl,?_⟩
  show if (!inV (.int other) (ms.map V.int))=true then _ else _
  rw [i2]
  by_cases m2:other∈ms
  ·have r2:=(pt.2 other).mp m2
   rw [decide_eq_true m2]
   refine iteF ?_
   refine ⟨_,rfl,_,rfl,_,rfl,x,L,n,ps,one,other,rfl,net.same s02,ok,h2,r2.symm,fun H3 rh us s3 hrh h3 hF=>?_⟩
   obtain ⟨on,rfl⟩:=Int.eq_ofNat_of_zero_le h1.1
   obtain ⟨v2,e2,f2⟩:=hF.at (hts_at (j:=on) (by omega))
   refine ⟨_,rfl,rh,_,_,v2,rfl,rfl,SqL.of h3,atI_nat (j:=on) e2,q _ _ (s02.trans s3) ?_⟩
   unfold hdQ
   rw [if_pos r2]
   exact f2
  ·have r2:¬ Reach ps one other:=fun z=>m2 ((pt.2 other).mpr z)
   rw [decide_eq_false m2]
   refine iteT (q _ _ s02 ?_)
   unfold hdQ
   rw [if_neg r2]
   rfl
end
end K2
namespace K2
open PySem L2 Mp St Bz
def optD:Option Rat→PyData
 | none=>.none
 | some q=>.tuple [.int q.num,.int (q.den:Int)]
theorem OptAt.rep {K:PySem.W.Frag} {H:Hp} {v:V} {o:Option Rat} (h:OptAt K H v o):Rep K H v (optD o):=by
 cases o with
 | none=>cases (show v=.non from h);exact .non
 | some q=>exact Fq.rep h
theorem opt_eq (a b:Option Rat):PyData.eqv (optD a) (optD b)=decide (a=b):=by
 cases a with
 | none=>cases b with
  | none=>rfl
  | some r=>rw [decide_eq_false (by simp)];rfl
 | some q=>cases b with
  | none=>rw [decide_eq_false (by simp)];rfl
  | some r =>
   have:=frac_eq q r
   show PyData.eqv (.tuple [.int q.num,.int (q.den:Int)]) (.tuple [.int r.num,.int (r.den:Int)])=_
   rw [this]
   by_cases e:q=r
   ·simp [e]
   ·simp [e]
theorem optD_lay (a:Option Rat):(optD a).canLay0=true:=by cases a <;> rfl
theorem optD_depth (a:Option Rat):(optD a).depth≤40:=by
 cases a with
 | none=>show 0≤40;decide
 | some q=>show 0+1≤40;decide
theorem rNe_opt {K:PySem.W.Frag} {H:Hp} {u v:V} {a b:Option Rat} {Q:V→Hp→Prop} (hu:OptAt K H u a) (hv:OptAt K H v b) (k:Q (.bl (!decide (a=b))) H):rEqD K true u v H Q :=
 ⟨_,_,hu.rep,hv.rep,optD_lay _,optD_lay _,optD_depth _,by rw [if_pos rfl,opt_eq];exact k⟩
theorem hdQ_some {n:Nat} {ps:List Pipe} {one other:Int} (r:Reach ps one other):hdQ n ps one other=some (hOf n ps one other one):=by
 unfold hdQ
 rw [if_pos r]
theorem hdQ_none {n:Nat} {ps:List Pipe} {one other:Int} (r:¬ Reach ps one other):hdQ n ps one other=none:=by
 unfold hdQ
 rw [if_neg r]
section
variable {P:Program} {w:World} {K:PySem.W.Frag} {mg:Str→Option Value} {base:Heap} {C CS CP f fc fh fb:Addr} {fd fdc fdh fdb:FuncData} {t1 t2 t3:Tok}
end
end K2
namespace K2
open PySem L2 Mp St Bz
def EzSm (ps:List Pipe):Prop:=∃ (N:Int) (B:Nat),N≠0∧N.natAbs<2^900∧28*B<2^900∧∀ p∈ps,Dn N B (ease p)
theorem EzSm.sum {ps:List Pipe} (h:EzSm ps) (hl:ps.length≤28) {qs:List Pipe} (hs:qs.Sublist ps):BtQ 900 (qs.map ease).sum:=by
 obtain ⟨N,B,h0,hN,hB,hd⟩:=h
 have d:Dn N ((qs.map ease).length*B) (qs.map ease).sum:=Dn.sum fun q hq=>by
  obtain ⟨p,hp,rfl⟩:=List.mem_map.mp hq
  exact hd p (hs.subset hp)
 refine btq_of d h0 hN (Nat.lt_of_le_of_lt (Nat.mul_le_mul_right _ ?_) hB)
 rw [List.length_map]
 exact Nat.le_trans hs.length_le hl
theorem sum_sp (ps:List Pipe) (f:Pipe→Rat):(ps.map f).sum=sp ps f:=by
 induction ps with
 | nil=>rfl
 | cons p r ih=>rw [List.map_cons,List.sum_cons,ih];rfl
theorem ez_sum (ps:List Pipe) (x y:Int):((ps.filter (betw x y)).map ease).sum=ez ps x y:=by
 rw [sum_sp,sp_filt]
 rfl
theorem et_sum (ps:List Pipe) (x:Int):((ps.filter (touch x)).map ease).sum=et ps x:=by
 rw [sum_sp,sp_filt]
 rfl
theorem EzSm.ez {ps:List Pipe} (h:EzSm ps) (hl:ps.length≤28) (x y:Int):BtQ 900 (ez ps x y):=by
 rw [← ez_sum]
 exact h.sum hl List.filter_sublist
theorem EzSm.et {ps:List Pipe} (h:EzSm ps) (hl:ps.length≤28) (x:Int):BtQ 900 (et ps x):=by
 rw [← et_sum]
 exact h.sum hl List.filter_sublist
def spEzb (K:PySem.W.Frag):Sp:=fun vs H Q _=>∃ (l:Addr) (us:List V) (n:Nat) (ps:List Pipe) (x y:Int),vs=[.ref l,.int x,.int y]∧SqL K H l us∧PipesAt K H us ps∧NetOk n ps∧EzSm ps∧∀ (H':Hp) (v:V),Same H H'→Fq K H' v (ez ps x y)→Q v H'
def spEza (K:PySem.W.Frag):Sp:=fun vs H Q _=>∃ (l:Addr) (us:List V) (n:Nat) (ps:List Pipe) (x:Int),vs=[.ref l,.int x]∧SqL K H l us∧PipesAt K H us ps∧NetOk n ps∧EzSm ps∧∀ (H':Hp) (v:V),Same H H'→Fq K H' v (et ps x)→Q v H'
def spEzw (K:PySem.W.Frag) (g:List Pipe→Int→Int→Int→Rat):Sp:=fun vs H Q _=>∃ (l:Addr) (us:List V) (n:Nat) (ps:List Pipe) (x t y:Int),vs=[.ref l,.int x,.int t,.int y]∧SqL K H l us∧PipesAt K H us ps∧NetOk n ps∧EzSm ps∧(0≤y∧y<n)∧∀ (H':Hp) (v:V),Same H H'→Fq K H' v (g ps x t y)→Q v H'
def PrAt (H:Hp) (v:V) (q:Nat×Nat):Prop:=∃ a,v=.ref a∧H a=some (.tup [.int (q.1:Int),.int (q.2:Int)])
abbrev PrsAt (H:Hp):List V→List (Nat×Nat)→Prop:=Paired (PrAt H)
theorem PrsAt.same {H H':Hp} {us:List V} {l:List (Nat×Nat)} (h:PrsAt H us l) (s:Same H H'):PrsAt H' us l:=Paired.mapP h fun _ _ ⟨a,e,z⟩=>⟨a,e,s _ _ z⟩
theorem PrsAt.put {H:Hp} {us:List V} {l:List (Nat×Nat)} {r:Addr} {xs ys:List V} (h:PrsAt H us l) (hr:H r=some (.lst xs)):PrsAt (upd H r (.lst ys)) us l:=Paired.mapP h fun _ _ ⟨a,e,z⟩=>⟨a,e,by rw [upd_ne (fun q=>by rw [q,hr] at z;cases z)];exact z⟩
theorem Paired.snoc' {α β:Type} {R:α→β→Prop}:∀ {us:List α} {ps:List β} {v:α} {p:β},Paired R us ps→R v p→Paired R (us++[v]) (ps++[p])
 | _,_,_,_,.nil,h=>.cons h .nil
 | _,_,_,_,.cons a b,h=>.cons a (Paired.snoc' b h)
theorem Paired.get' {α β:Type} {R:α→β→Prop}:∀ {us:List α} {ps:List β} {i:Nat} {v:α},Paired R us ps→us[i]? = some v→∃ p,ps[i]? = some p∧R v p
 | _,_,_,_,.nil,e=>by simp at e
 | _,_,0,_,.cons a _,e=>by simp at e;subst e;exact ⟨_,rfl,a⟩
 | _,_,i+1,_,.cons _ b,e=>by simpa using Paired.get' b (by simpa using e)
def prsTo (m i:Nat):List (Nat×Nat):=(List.range i).flatMap fun i=>(List.range (m-(i+1))).map fun j=>(i,i+1+j)
theorem prsTo_succ (m i:Nat):prsTo m (i+1)=prsTo m i++(List.range (m-(i+1))).map fun j=>(i,i+1+j):=by
 unfold prsTo
 rw [List.range_succ,List.flatMap_append,List.flatMap_cons,List.flatMap_nil,List.append_nil]
theorem prsTo_len (m:Nat):∀ i,(prsTo m i).length≤m*i
 | 0=>Nat.le_refl _
 | i+1=>by
  have:=prsTo_len m i
  rw [prsTo_succ,List.length_append,List.length_map,List.length_range,Nat.mul_succ]
  omega
theorem prs_len:∀ m,m≤8→(prs m).length≤28:=by
 intro m hm
 have:m=0∨m=1∨m=2∨m=3∨m=4∨m=5∨m=6∨m=7∨m=8:=by omega
 rcases this with rfl | rfl | rfl | rfl | rfl | rfl | rfl | rfl | rfl <;> decide
def spPairs:Sp:=fun vs H Q _=>∃ m:Nat,vs=[.int (m:Int)]∧m≤8∧∀ (H':Hp) (r:Addr) (us:List V),Same H H'→H r=none→H' r=some (.lst us)→PrsAt H' us (prs m)→Q (.ref r) H'
def EsAt (K:PySem.W.Frag) (E:Int→Int→Rat) (H:Hp) (v:V) (q:Nat×Nat):Prop:=∃ a e,v=.ref a∧H a=some (.tup [.int (q.1:Int),.int (q.2:Int),e])∧Fq K H e (E q.1 q.2)
theorem EsAt.same {K:PySem.W.Frag} {E:Int→Int→Rat} {H H':Hp} {us:List V} {l:List (Nat×Nat)} (h:Paired (EsAt K E H) us l) (s:Same H H'):Paired (EsAt K E H') us l:=Paired.mapP h fun _ _ ⟨a,e,z1,z2,z3⟩=>⟨a,e,z1,s _ _ z2,z3.same s⟩
theorem mesh_snoc (E:Int→Int→Rat) (l:List (Nat×Nat)) (q:Nat×Nat):mesh E (l++[q])=mesh E l++(if E q.1 q.2=0 then [] else [⟨q.1,q.2,(1/E q.1 q.2).num,((1/E q.1 q.2).den:Int)⟩]):=by
 unfold mesh
 rw [List.filter_append,List.map_append]
 by_cases h:E q.1 q.2=0 <;> simp [h]
def spNoe (K:PySem.W.Frag) (C:Addr):Sp:=fun vs H Q _=>∃ (l:Addr) (us:List V) (m:Nat) (E:Int→Int→Rat),vs=[.int (m:Int),.ref l]∧SqL K H l us∧Paired (EsAt K E H) us (prs m)∧m≤8∧(∀ q∈prs m,BtQ 4000 (E q.1 q.2))∧NetOk m (mesh E (prs m)) ∧
 ∀ (H':Hp) (x L:Addr),Same H H'→H x=none→NetAt K C H' x L m (mesh E (prs m))→Q (.ref x) H'
def spSlim (K:PySem.W.Frag) (C:Addr):Sp:=fun vs H Q _=>∃ (x L:Addr) (n:Nat) (ps:List Pipe),vs=[.ref x]∧NetAt K C H x L n ps∧NetOk n ps∧EzSm ps∧NetOk n (mesh (ez ps) (prs n)) ∧
 ∀ (H':Hp) (x' L':Addr),Same H H'→NetAt K C H' x' L' n (mesh (ez ps) (prs n))→Q (.ref x') H'
def spOut (K:PySem.W.Frag) (C CN:Addr):Sp:=fun vs H Q E=>∃ (x L:Addr) (n:Nat) (ps:List Pipe) (t:Int),vs=[.ref x,.int t]∧NetAt K C H x L n ps∧NetOk n ps∧0≤t ∧
 ((∃ m:Nat,n=m+1∧1≤m∧t<n∧EzSm ps∧NetOk m (outP ps t m)∧∀ (H':Hp) (x' L':Addr),Same H H'→NetAt K C H' x' L' m (outP ps t m)→Q (.ref x') H')∨((t=n∨n=1)∧∀ H',Same H H'→E (.ref CN) none H'))
structure TxtO (K:PySem.W.Frag) (mg:Str→Option Value) (C CN:Addr):Prop where
 n_range:mg "range" = none
 n_len:mg "len" = none
 c_Net:Cls K C
 a_size:NoAttr K C "size"
 e_NoPlace:IsErr K CN
 m_NoPlace:mg "NoPlace" = some (.ref CN)
section
variable {P:Program} {w:World} {K:PySem.W.Frag} {mg:Str→Option Value} {base:Heap} {C CN f fa fb fc fe fi fn fp fq fo ft:Addr} {fd fda fdb fdc fde fdi fdn fdp fdq fdo fdt:FuncData} {t1 t2 t3:Tok}
theorem ok_ezb (F:Fun K "ease_between" "ease_between" s_ease_between f fd)
  (m_total:mg "total" = some (.ref ft)) (k_total:PySem.W.keepIn K (.ref ft)=true) (b_total:Binds K fdt ["fractions"] []) (G_total:FnOk P w K mg base CX0 4 ft fdt ["fractions"] (spTotal K))
  (m_over:mg "over" = some (.ref fo)) (k_over:PySem.W.keepIn K (.ref fo)=true) (b_over:Binds K fdo ["one","other"] []) (G_over:FnOk P w K mg base CX0 3 fo fdo ["one","other"] (spBin K (· / ·) fun r=>r≠0)):FnOk P w K mg base CX0 5 f fd ["pipes","one","other"] (spEzb K):=by
 refine F.ok sc_ease_between (fun vs H Q E h=>?_) (fun cdv A outer s H vs Q E hr h=>?_)
 ·obtain ⟨l,us,n,ps,x,y,rfl,_⟩:=h
  rfl
 ·obtain ⟨l,us,n,ps,y,z,rfl,hl,hp,ok,sm,q⟩:=h
  have hus:us.length=ps.length:=Paired.length hp
  have hle:=ok.le
  refine ⟨_,(pss_cons (ps_set (i:=3) sc_ease_between.nd rfl (Or.inr rfl) (pe_tup (pa_cons (pe_tup (pa_cons (pv 1) (pa_cons (pv 2) pa_nil))) (pa_cons (pe_tup (pa_cons (pv 2) (pa_cons (pv 1) pa_nil))) pa_nil))))
   (pss_one (ps_ret (pe_call G_total (hr.mono (by decide)) rfl m_total k_total b_total .nil pass0 (pa_cons (pe_comp ["start","end","hardness"] [3] rfl rfl (by kernel_rfl) (pi_list (pv 0)) (fun _ _ _ _=>(pg_tup (n:=3) rfl (pgs_cons (pg_name (i:=0) (show (["start","end","hardness","ways"]:List Str).Nodup by decide +kernel) rfl (Or.inl rfl)) (pgs_cons (pg_name (i:=1) (show (["start","end","hardness","ways"]:List Str).Nodup by decide +kernel) rfl (Or.inl rfl)) (pgs_cons (pg_name (i:=2) (show (["start","end","hardness","ways"]:List Str).Nodup by decide +kernel) rfl (Or.inl rfl)) pgs_nil))))) (fun _ _ _ _=>(gk_tup (gks_cons gk_name (gks_cons gk_name (gks_cons gk_name gks_nil))))) (fun _ _ _ _=>(pf_one (pt_cmpR (op_inT2 hr.units) (pe_tup (pa_cons (pv 0) (pa_cons (pv 1) pa_nil))) (pv 3) rfl))) (fun _ _ _ _=>(pe_call G_over (hr.mono (by decide)) rfl m_over k_over b_over .nil pass0 (pa_cons (pe_tup (pa_cons pe_int (pa_cons pe_int pa_nil))) (pa_cons (pv 2) pa_nil))))) pa_nil))))),?_⟩
  refine ⟨_,rfl,_,rfl,by show 2≤sizeLine;decide,fun r1 hr1=>⟨_,rfl,_,rfl,by show 2≤sizeLine;decide,fun r2 hr2=>⟨by show 2≤sizeLine;decide,fun wt hwt=>?_⟩⟩⟩
  have s1:=same_upd (o:=.tup [.int y,.int z]) hr1
  have s2:=same_upd (o:=.tup [.int z,.int y]) hr2
  have s3:=same_upd (o:=.tup [.ref r1,.ref r2]) hwt
  have h1:=s3 _ _ (s2 _ _ (upd_same (H:=H) (a:=r1) (o:=.tup [.int y,.int z])))
  have h2:=s3 _ _ (upd_same (H:=upd H r1 (.tup [.int y,.int z])) (a:=r2) (o:=.tup [.int z,.int y]))
  have h3:(upd (upd (upd H r1 (.tup [.int y,.int z])) r2 (.tup [.int z,.int y])) wt (.tup [.ref r1,.ref r2])) wt=some (.tup [.ref r1,.ref r2]):=upd_same
  have hne:r1≠r2:=ne_of_none (upd_same (H:=H) (a:=r1) (o:=.tup [.int y,.int z])) hr2
  have s0:=(s1.trans s2).trans s3
  generalize upd (upd (upd H r1 (.tup [.int y,.int z])) r2 (.tup [.int z,.int y])) wt (.tup [.ref r1,.ref r2])=H1 at h1 h2 h3 s0 ⊢
  refine ⟨_,rfl,l,rfl,⟨_,s0.seq hl⟩,comp_list (K:=K) (a:=l) (xs:=us) (fun i ys H'=>Same H1 H'∧Fqs K H' ys (((ps.take i).filter (betw y z)).map ease)) ⟨Same.refl _,.nil⟩ (small1000 (by omega)) ?_ ?_ ?_⟩
  ·rintro i ys H' hi ⟨s4,hY⟩
   refine ⟨?_,(s0.trans s4).seq hl⟩
   rw [hY.len,List.length_map]
   exact Nat.le_trans (List.length_filter_le _ _) (by rw [List.length_take];omega)
  ·rintro i x ys H' N hx ⟨s4,hY⟩ hN C' s₀ H₀ ex
   obtain ⟨p,hpi,⟨x,yy,rfl,hx3,hy⟩⟩:=(PipesAt.same (s0.trans s4) hp).get hx
   have pok:=ok.ok p (List.mem_of_getElem? hpi)
   have ht:ps.take (i+1)=ps.take i++[p]:=by rw [List.take_succ,hpi];rfl
   refine ⟨x,_,rfl,hx3,rfl,_,_,rfl,_,_,rfl,_,_,rfl,rfl,?_⟩
   refine ⟨_,rfl,_,rfl,by show 2≤sizeLine;decide,fun t htt=>?_⟩
   have s5:=same_upd (o:=.tup [.int p.u,.int p.w]) htt
   have s45:=s4.trans s5
   refine ⟨_,rfl,t,wt,r1,r2,p.u,p.w,y,z,z,y,rfl,rfl,SqT.of upd_same,SqT.of (s45 _ _ h3),hne,SqT.of (s45 _ _ h1),SqT.of (s45 _ _ h2),_,rfl,?_⟩
   show if betw y z p=true then _ else _
   by_cases e:betw y z p=true
   ·rw [e]
    refine iteT ?_
    obtain ⟨bh,_⟩:=pok.btq (k:=31) (by have:=pok.aM;omega) (by have:=pok.bM;omega)
    refine ⟨by show 2≤sizeLine;decide,fun t1 ht1=>?_⟩
    have s6:=same_upd (o:=.tup [.int 1,.int 1]) ht1
    refine ⟨_,rfl,.ref t1,.ref yy,1,hard p,4000,rfl,one_fq upd_same,pok.fq (Same.tup s6 (Same.tup s5 hy)),hard_ne pok.a1 pok.b1,by decide,btq1.mono (by decide),bh.mono (by decide),fun c hc=>?_⟩
    have s7:=same_upd (o:=.tup [.int (1/hard p:Rat).num,.int ((1/hard p:Rat).den:Int)]) hc
    refine hN _ _ ⟨(s45.trans s6).trans s7,?_⟩
    rw [ht,List.filter_append,List.map_append]
    have e2:[p].filter (betw y z)=[p]:=by simp [e]
    rw [e2,List.map_cons,List.map_nil,← ease_as pok.a1 pok.b1]
    exact Fqs.snoc (hY.same ((s5.trans s6).trans s7)) Fq.new
   ·have e':betw y z p=false:=by simpa using e
    rw [e']
    refine iteF (hN _ _ ⟨s45,?_⟩)
    rw [ht,List.filter_append,List.map_append]
    have e2:[p].filter (betw y z)=[]:=by simp [e']
    rw [e2,List.map_nil,List.append_nil]
    exact hY.same s5
  ·rintro ys H' ⟨s4,hY⟩ pl hpl
   rw [hus,List.take_length] at hY
   have s5:=same_upd (o:=.lst ys) hpl
   refine ⟨pl,ys,_,rfl,SqL.of upd_same,hY.same s5,fun q hq=>?_,fun i hi=>?_,fun v H2 s6 f6=>q _ _ ((s0.trans s4).trans (s5.trans s6)) ?_⟩
   ·obtain ⟨p,hp,rfl⟩:=List.mem_map.mp hq
    have pok:=ok.ok p (List.mem_filter.mp hp).1
    obtain ⟨_,be⟩:=pok.btq (k:=31) (by have:=pok.aM;omega) (by have:=pok.bM;omega)
    exact be.mono (by decide)
   ·rw [← List.map_take]
    exact (sm.sum hle ((List.take_sublist _ _).trans List.filter_sublist)).mono (by decide)
   ·rw [← ez_sum]
    exact f6
theorem ok_eza (F:Fun K "ease_at" "ease_at" s_ease_at f fd)
  (m_total:mg "total" = some (.ref ft)) (k_total:PySem.W.keepIn K (.ref ft)=true) (b_total:Binds K fdt ["fractions"] []) (G_total:FnOk P w K mg base CX0 4 ft fdt ["fractions"] (spTotal K))
  (m_over:mg "over" = some (.ref fo)) (k_over:PySem.W.keepIn K (.ref fo)=true) (b_over:Binds K fdo ["one","other"] []) (G_over:FnOk P w K mg base CX0 3 fo fdo ["one","other"] (spBin K (· / ·) fun r=>r≠0)):FnOk P w K mg base CX0 5 f fd ["pipes","at"] (spEza K):=by
 refine F.ok sc_ease_at (fun vs H Q E h=>?_) (fun cdv A outer s H vs Q E hr h=>?_)
 ·obtain ⟨l,us,n,ps,x,rfl,_⟩:=h
  rfl
 ·obtain ⟨l,us,n,ps,y,rfl,hl,hp,ok,sm,q⟩:=h
  have hus:us.length=ps.length:=Paired.length hp
  have hle:=ok.le
  refine ⟨_,(pss_one (ps_ret (pe_call G_total (hr.mono (by decide)) rfl m_total k_total b_total .nil pass0 (pa_cons (pe_comp ["start","end","hardness"] [1] rfl rfl (by kernel_rfl) (pi_list (pv 0)) (fun _ _ _ _=>(pg_tup (n:=3) rfl (pgs_cons (pg_name (i:=0) (show (["start","end","hardness","at"]:List Str).Nodup by decide +kernel) rfl (Or.inl rfl)) (pgs_cons (pg_name (i:=1) (show (["start","end","hardness","at"]:List Str).Nodup by decide +kernel) rfl (Or.inl rfl)) (pgs_cons (pg_name (i:=2) (show (["start","end","hardness","at"]:List Str).Nodup by decide +kernel) rfl (Or.inl rfl)) pgs_nil))))) (fun _ _ _ _=>(gk_tup (gks_cons gk_name (gks_cons gk_name (gks_cons gk_name gks_nil))))) (fun _ _ _ _=>(pf_one (pt_cmpR op_in_seq (pv 3) (pe_tup (pa_cons (pv 0) (pa_cons (pv 1) pa_nil))) rfl))) (fun _ _ _ _=>(pe_call G_over (hr.mono (by decide)) rfl m_over k_over b_over .nil pass0 (pa_cons (pe_tup (pa_cons pe_int (pa_cons pe_int pa_nil))) (pa_cons (pv 2) pa_nil))))) pa_nil)))),?_⟩
  refine ⟨_,rfl,l,rfl,⟨_,hl⟩,comp_list (K:=K) (a:=l) (xs:=us) (fun i ys H'=>Same H H'∧Fqs K H' ys (((ps.take i).filter (touch y)).map ease)) ⟨Same.refl _,.nil⟩ (small1000 (by omega)) ?_ ?_ ?_⟩
  ·rintro i ys H' hi ⟨s4,hY⟩
   refine ⟨?_,s4.seq hl⟩
   rw [hY.len,List.length_map]
   exact Nat.le_trans (List.length_filter_le _ _) (by rw [List.length_take];omega)
  ·rintro i x ys H' N hx ⟨s4,hY⟩ hN C' s₀ H₀ ex
   obtain ⟨p,hpi,⟨x,yy,rfl,hx3,hy⟩⟩:=(PipesAt.same s4 hp).get hx
   have pok:=ok.ok p (List.mem_of_getElem? hpi)
   have ht:ps.take (i+1)=ps.take i++[p]:=by rw [List.take_succ,hpi];rfl
   refine ⟨x,_,rfl,hx3,rfl,_,_,rfl,_,_,rfl,_,_,rfl,rfl,?_⟩
   refine ⟨_,rfl,_,rfl,_,rfl,by show 2≤sizeLine;decide,fun t htt=>?_⟩
   have s5:=same_upd (o:=.tup [.int p.u,.int p.w]) htt
   have s45:=s4.trans s5
   refine ⟨t,_,rfl,.inr (SqT.of upd_same),rfl,rfl,_,rfl,?_⟩
   show if inV (.int y) [.int p.u,.int p.w]=true then _ else _
   rw [inV2]
   show if touch y p=true then _ else _
   by_cases e:touch y p=true
   ·rw [e]
    refine iteT ?_
    obtain ⟨bh,_⟩:=pok.btq (k:=31) (by have:=pok.aM;omega) (by have:=pok.bM;omega)
    refine ⟨by show 2≤sizeLine;decide,fun t1 ht1=>?_⟩
    have s6:=same_upd (o:=.tup [.int 1,.int 1]) ht1
    refine ⟨_,rfl,.ref t1,.ref yy,1,hard p,4000,rfl,one_fq upd_same,pok.fq (Same.tup s6 (Same.tup s5 hy)),hard_ne pok.a1 pok.b1,by decide,btq1.mono (by decide),bh.mono (by decide),fun c hc=>?_⟩
    have s7:=same_upd (o:=.tup [.int (1/hard p:Rat).num,.int ((1/hard p:Rat).den:Int)]) hc
    refine hN _ _ ⟨(s45.trans s6).trans s7,?_⟩
    rw [ht,List.filter_append,List.map_append]
    have e2:[p].filter (touch y)=[p]:=by simp [e]
    rw [e2,List.map_cons,List.map_nil,← ease_as pok.a1 pok.b1]
    exact Fqs.snoc (hY.same ((s5.trans s6).trans s7)) Fq.new
   ·have e':touch y p=false:=by simpa using e
    rw [e']
    refine iteF (hN _ _ ⟨s45,?_⟩)
    rw [ht,List.filter_append,List.map_append]
    have e2:[p].filter (touch y)=[]:=by simp [e']
    rw [e2,List.map_nil,List.append_nil]
    exact hY.same s5
  ·rintro ys H' ⟨s4,hY⟩ pl hpl
   rw [hus,List.take_length] at hY
   have s5:=same_upd (o:=.lst ys) hpl
   refine ⟨pl,ys,_,rfl,SqL.of upd_same,hY.same s5,fun q hq=>?_,fun i hi=>?_,fun v H2 s6 f6=>q _ _ (s4.trans (s5.trans s6)) ?_⟩
   ·obtain ⟨p,hp,rfl⟩:=List.mem_map.mp hq
    have pok:=ok.ok p (List.mem_filter.mp hp).1
    obtain ⟨_,be⟩:=pok.btq (k:=31) (by have:=pok.aM;omega) (by have:=pok.bM;omega)
    exact be.mono (by decide)
   ·rw [← List.map_take]
    exact (sm.sum hle ((List.take_sublist _ _).trans List.filter_sublist)).mono (by decide)
   ·rw [← et_sum]
    exact f6
theorem ok_ezw (F:Fun K "ease_by_way_of" "ease_by_way_of" s_ease_by_way_of f fd)
  (m_ease_between:mg "ease_between" = some (.ref fb)) (k_ease_between:PySem.W.keepIn K (.ref fb)=true) (b_ease_between:Binds K fdb ["pipes","one","other"] []) (G_ease_between:FnOk P w K mg base CX0 5 fb fdb ["pipes","one","other"] (spEzb K))
  (m_ease_at:mg "ease_at" = some (.ref fa)) (k_ease_at:PySem.W.keepIn K (.ref fa)=true) (b_ease_at:Binds K fda ["pipes","at"] []) (G_ease_at:FnOk P w K mg base CX0 5 fa fda ["pipes","at"] (spEza K))
  (m_times:mg "times" = some (.ref ft)) (k_times:PySem.W.keepIn K (.ref ft)=true) (b_times:Binds K fdt ["one","other"] []) (G_times:FnOk P w K mg base CX0 3 ft fdt ["one","other"] (spBin K (·*·) fun _=>True))
  (m_over:mg "over" = some (.ref fo)) (k_over:PySem.W.keepIn K (.ref fo)=true) (b_over:Binds K fdo ["one","other"] []) (G_over:FnOk P w K mg base CX0 3 fo fdo ["one","other"] (spBin K (· / ·) fun r=>r≠0)):FnOk P w K mg base CX0 6 f fd ["pipes","one","at","other"] (spEzw K fun ps x t y=>ez ps x t*ez ps t y/et ps t):=by
 refine F.ok sc_ease_by_way_of (fun vs H Q E h=>?_) (fun cdv A outer s H vs Q E hr h=>?_)
 ·obtain ⟨l,us,n,ps,x,t,y,rfl,_⟩:=h
  rfl
 ·obtain ⟨l,us,n,ps,x,t,y,rfl,hl,hp,ok,sm,hy,q⟩:=h
  have hle:=ok.le
  refine ⟨_,(pss_cons (ps_set (i:=4) sc_ease_by_way_of.nd rfl (Or.inl rfl) (pe_call G_times (hr.mono (by decide)) rfl m_times k_times b_times .nil pass0 (pa_cons (pe_call G_ease_between (hr.mono (by decide)) rfl m_ease_between k_ease_between b_ease_between .nil pass0 (pa_cons (pv 0) (pa_cons (pv 1) (pa_cons (pv 2) pa_nil)))) (pa_cons (pe_call G_ease_between (hr.mono (by decide)) rfl m_ease_between k_ease_between b_ease_between .nil pass0 (pa_cons (pv 0) (pa_cons (pv 2) (pa_cons (pv 3) pa_nil)))) pa_nil))))
   (pss_cons (ps_if (pt_cmpR (op_eqD hr.units) (pv 4) (pe_tup (pa_cons pe_int (pa_cons pe_int pa_nil))) (nomark _)) (pss_one (ps_ret (pv 4))) pss_nil)
   (pss_one (ps_ret (pe_call G_over (hr.mono (by decide)) rfl m_over k_over b_over .nil pass0 (pa_cons (pv 4) (pa_cons (pe_call G_ease_at (hr.mono (by decide)) rfl m_ease_at k_ease_at b_ease_at .nil pass0 (pa_cons (pv 0) (pa_cons (pv 2) pa_nil))) pa_nil))))))),?_⟩
  refine ⟨_,rfl,_,rfl,_,rfl,l,us,n,ps,x,t,rfl,hl,hp,ok,sm,fun H1 v1 s1 f1=>?_⟩
  refine ⟨_,rfl,_,rfl,_,rfl,l,us,n,ps,t,y,rfl,s1.seq hl,PipesAt.same s1 hp,ok,sm,fun H2 v2 s2 f2=>?_⟩
  refine ⟨v1,v2,_,_,4000,rfl,f1.same s2,f2,trivial,by decide,(sm.ez hle _ _).mono (by decide),(sm.ez hle _ _).mono (by decide),fun pc hpc=>?_⟩
  have bp:BtQ 1800 (ez ps x t*ez ps t y):=(sm.ez hle _ _).mul (sm.ez hle _ _)
  have s3:=same_upd (o:=.tup [.int (ez ps x t*ez ps t y).num,.int ((ez ps x t*ez ps t y).den:Int)]) hpc
  have f3:Fq K (upd H2 pc (.tup [.int (ez ps x t*ez ps t y).num,.int ((ez ps x t*ez ps t y).den:Int)])) (.ref pc) (ez ps x t*ez ps t y):=Fq.new
  have s03:=(s1.trans s2).trans s3
  generalize upd H2 pc (.tup [.int (ez ps x t*ez ps t y).num,.int ((ez ps x t*ez ps t y).den:Int)])=H3 at s3 f3 s03 ⊢
  refine ⟨_,rfl,by show 2≤sizeLine;decide,fun tz htz=>rEq_frac (f3.same (same_upd htz)) (zero_fq upd_same) ⟨_,rfl,?_⟩⟩
  have s4:=same_upd (o:=.tup [.int 0,.int 1]) htz
  have f4:=f3.same s4
  have s04:=s03.trans s4
  generalize upd H3 tz (.tup [.int 0,.int 1])=H4 at s4 f4 s04 ⊢
  by_cases e:ez ps x t*ez ps t y=0
  ·rw [decide_eq_true e]
   refine iteT ⟨_,rfl,q _ _ s04 ?_⟩
   have e2:ez ps x t*ez ps t y/et ps t=ez ps x t*ez ps t y:=by rw [e];grind
   show Fq K H4 (.ref pc) (ez ps x t*ez ps t y/et ps t)
   rw [e2]
   exact f4
  ·rw [decide_eq_false e]
   refine iteF ?_
   have hne:et ps t≠0:=fun z=>e (by rw [et_zero ok.nice z hy];grind)
   refine ⟨_,rfl,_,rfl,_,rfl,l,us,n,ps,t,rfl,s04.seq hl,PipesAt.same s04 hp,ok,sm,fun H5 v5 s5 f5=>?_⟩
   refine ⟨.ref pc,v5,_,_,4000,rfl,f4.same s5,f5,hne,by decide,bp.mono (by decide),(sm.et hle _).mono (by decide),fun c hc=>q _ _ ((s04.trans s5).trans (same_upd hc)) Fq.new⟩
theorem ok_ezo (F:Fun K "ease_without" "ease_without" s_ease_without f fd)
  (m_ease_between:mg "ease_between" = some (.ref fb)) (k_ease_between:PySem.W.keepIn K (.ref fb)=true) (b_ease_between:Binds K fdb ["pipes","one","other"] []) (G_ease_between:FnOk P w K mg base CX0 5 fb fdb ["pipes","one","other"] (spEzb K))
  (m_ease_by_way_of:mg "ease_by_way_of" = some (.ref fa)) (k_ease_by_way_of:PySem.W.keepIn K (.ref fa)=true) (b_ease_by_way_of:Binds K fda ["pipes","one","at","other"] []) (G_ease_by_way_of:FnOk P w K mg base CX0 6 fa fda ["pipes","one","at","other"] (spEzw K fun ps x t y=>ez ps x t*ez ps t y/et ps t))
  (m_plus:mg "plus" = some (.ref ft)) (k_plus:PySem.W.keepIn K (.ref ft)=true) (b_plus:Binds K fdt ["one","other"] []) (G_plus:FnOk P w K mg base CX0 3 ft fdt ["one","other"] (spBin K (·+·) fun _=>True)):FnOk P w K mg base CX0 7 f fd ["pipes","one","at","other"] (spEzw K fun ps x t y=>eo ps t x y):=by
 refine F.ok sc_ease_without (fun vs H Q E h=>?_) (fun cdv A outer s H vs Q E hr h=>?_)
 ·obtain ⟨l,us,n,ps,x,t,y,rfl,_⟩:=h
  rfl
 ·obtain ⟨l,us,n,ps,x,t,y,rfl,hl,hp,ok,sm,hy,q⟩:=h
  have hle:=ok.le
  refine ⟨_,(pss_one (ps_ret (pe_call G_plus (hr.mono (by decide)) rfl m_plus k_plus b_plus .nil pass0 (pa_cons (pe_call G_ease_between (hr.mono (by decide)) rfl m_ease_between k_ease_between b_ease_between .nil pass0 (pa_cons (pv 0) (pa_cons (pv 1) (pa_cons (pv 3) pa_nil)))) (pa_cons (pe_call G_ease_by_way_of (hr.mono (by decide)) rfl m_ease_by_way_of k_ease_by_way_of b_ease_by_way_of .nil pass0 (pa_cons (pv 0) (pa_cons (pv 1) (pa_cons (pv 2) (pa_cons (pv 3) pa_nil))))) pa_nil))))),?_⟩
  refine ⟨_,rfl,_,rfl,_,rfl,l,us,n,ps,x,y,rfl,hl,hp,ok,sm,fun H1 v1 s1 f1=>?_⟩
  refine ⟨_,rfl,_,rfl,_,rfl,_,rfl,l,us,n,ps,x,t,y,rfl,s1.seq hl,PipesAt.same s1 hp,ok,sm,hy,fun H2 v2 s2 f2=>?_⟩
  have b2:BtQ 2700 (ez ps x t*ez ps t y/et ps t):=by
   by_cases z:et ps t=0
   ·have:ez ps x t*ez ps t y/et ps t=0:=by rw [z];grind
    rw [this]
    exact btq0.mono (by decide)
   ·exact ((sm.ez hle _ _).mul (sm.ez hle _ _)).div (sm.et hle _) z
  exact ⟨v1,v2,_,_,4000,rfl,f1.same s2,f2,trivial,by decide,(sm.ez hle _ _).mono (by decide),b2.mono (by decide),fun c hc=>q _ _ ((s1.trans s2).trans (same_upd hc)) Fq.new⟩
theorem ok_pairs (F:Fun K "pairs" "pairs" s_pairs f fd) (T:Txt K mg C t1 t2 t3):FnOk P w K mg base CX0 1 f fd ["many"] spPairs:=by
 refine F.ok sc_pairs (fun vs H Q E h=>?_) (fun cdv A outer s H vs Q E hr h=>?_)
 ·obtain ⟨m,rfl,_⟩:=h
  rfl
 ·obtain ⟨m,rfl,hm,q⟩:=h
  refine ⟨_,(pss_cons (ps_set (i:=1) sc_pairs.nd rfl (Or.inl rfl) (pe_lst pa_nil))
   (pss_cons (ps_for PassesOwn.never rfl (pi_range1 rfl T.n_range (pa_cons (pv 0) pa_nil)) (pg_name (i:=2) sc_pairs.nd rfl (Or.inl rfl)) (pss_one (ps_for PassesOwn.never rfl (pi_range2 rfl T.n_range (pa_cons (pe_op op_add (pv 2) pe_int) (pa_cons (pv 0) pa_nil))) (pg_name (i:=3) sc_pairs.nd rfl (Or.inl rfl)) (pss_one (ps_expr (pe_bm PySem.F.plainAttrs_list PySem.F.slot_list_append PySem.F.type_list_append mt_append (pv 1) (pa_cons (pe_tup (pa_cons (pv 2) (pa_cons (pv 3) pa_nil))) pa_nil)))))))
   (pss_one (ps_ret (pv 1))))),?_⟩
  refine ⟨by show 0≤sizeLine;decide,fun r hr'=>?_⟩
  have s1:=same_upd (o:=.lst []) hr'
  have hr1:(upd H r (.lst [])) r=some (.lst []):=upd_same
  generalize upd H r (.lst [])=H1 at s1 hr1 ⊢
  refine ⟨_,rfl,(m:Int),rfl,by omega,by omega,?_⟩
  rw [Int.toNat_natCast]
  refine for_range (lo:=0) (n:=m) (fun i σ H'=>∃ (us:List V) (v2 v3:Option V),σ=[some (.int (m:Int)),some (.ref r),v2,v3]∧Same H H'∧H' r=some (.lst us)∧PrsAt H' us (prsTo m i))
   ⟨[],none,none,rfl,s1,hr1,.nil⟩ ?_ ?_
  ·rintro i σ H' hi ⟨us,v2,v3,rfl,s2,hr2,hp⟩
   dsimp only [gName]
   rw [Int.zero_add]
   refine ⟨_,rfl,_,_,rfl,rfl,_,rfl,(i:Int)+1,(m:Int),rfl,⟨by omega,by omega,by omega,by omega⟩,?_⟩
   have en:((m:Int)-((i:Int)+1)).toNat=m-(i+1):=by omega
   rw [en]
   have hlen:=prsTo_len m i
   have h64:m*i≤64:=Nat.mul_le_mul (show m≤8 by omega) (show i≤8 by omega)
   refine for_range (lo:=(i:Int)+1) (n:=m-(i+1)) (fun j σ H'=>∃ (us:List V) (v3:Option V),σ=[some (.int (m:Int)),some (.ref r),some (.int (i:Int)),v3]∧Same H H'∧H' r=some (.lst us)∧PrsAt H' us (prsTo m i++(List.range j).map fun j=>(i,i+1+j)))
    ⟨us,v3,rfl,s2,hr2,by rw [List.range_zero,List.map_nil,List.append_nil];exact hp⟩ ?_ ?_
   ·rintro j σ H3 hj ⟨us,v3,rfl,s3,hr3,hp3⟩
    have hul:us.length=(prsTo m i).length+j:=by rw [Paired.length hp3,List.length_append,List.length_map,List.length_range]
    refine ⟨_,rfl,.inl ⟨rfl,_,SqL.of hr3⟩,_,rfl,_,rfl,by show 2≤sizeLine;decide,fun t ht=>?_⟩
    have s4:=same_upd (o:=.tup [.int (i:Int),.int ((i:Int)+1+(j:Int))]) ht
    have ht4:(upd H3 t (.tup [.int (i:Int),.int ((i:Int)+1+(j:Int))])) t=some (.tup [.int (i:Int),.int ((i:Int)+1+(j:Int))]):=upd_same
    have hr4:=s4 _ _ hr3
    have hp4:=hp3.same s4
    have s04:=s3.trans s4
    generalize upd H3 t (.tup [.int (i:Int),.int ((i:Int)+1+(j:Int))])=H4 at s4 ht4 hr4 hp4 s04 ⊢
    refine ⟨r,us,.ref t,rfl,rfl,hr4,small1000 (by omega),?_⟩
    have et:((i+1+j:Nat):Int)=(i:Int)+1+(j:Int):=by omega
    refine ⟨us++[.ref t],_,rfl,fun b o eb=>by rw [upd_ne (ne_of_none eb hr')];exact s04 _ _ eb,upd_same,?_⟩
    rw [List.range_succ,List.map_append,← List.append_assoc]
    exact Paired.snoc' (hp4.put hr4) ⟨t,rfl,by rw [upd_ne (fun z=>by rw [z,hr4] at ht4;cases ht4)];show _=some (HO.tup [.int (i:Int),.int ((i+1+j:Nat):Int)]);rw [et];exact ht4⟩
   ·rintro σ H3 ⟨us,v3,rfl,s3,hr3,hp3⟩
    exact ⟨us,_,_,rfl,s3,hr3,by rw [prsTo_succ];exact hp3⟩
  ·rintro σ H' ⟨us,v2,v3,rfl,s2,hr2,hp⟩
   exact ⟨_,rfl,q _ r us s2 hr' hr2 hp⟩
theorem ok_noe (F:Fun K "net_of_eases" "net_of_eases" s_net_of_eases f fd) (M_Net:Mk K C fi) (m_Net:mg "Net" = some (.ref C)) (b_Net:Binds K fdi ["self","places","pipes"] []) (G_Net:FnOk P w K mg base CX0 6 fi fdi ["self","places","pipes"] (spInit K C))
  (m_over:mg "over" = some (.ref fo)) (k_over:PySem.W.keepIn K (.ref fo)=true) (b_over:Binds K fdo ["one","other"] []) (G_over:FnOk P w K mg base CX0 3 fo fdo ["one","other"] (spBin K (· / ·) fun r=>r≠0)):FnOk P w K mg base CX0 9 f fd ["places","eases"] (spNoe K C):=by
 refine F.ok sc_net_of_eases (fun vs H Q E h=>?_) (fun cdv A outer s H vs Q E hr h=>?_)
 ·obtain ⟨l,us,m,E,rfl,_⟩:=h
  rfl
 ·obtain ⟨l,us,m,E,rfl,hl,hE,hm,hb,ok,q⟩:=h
  have hpl:=prs_len m hm
  have hus:us.length=(prs m).length:=Paired.length hE
  refine ⟨_,(pss_one (ps_ret (pe_make M_Net G_Net (hr.mono (by decide)) rfl m_Net b_Net .nil pass0 (pa_cons (pv 0) (pa_cons (pe_comp ["one","other","ease"] [] rfl rfl (by kernel_rfl) (pi_list (pv 1)) (fun _ _ _ _=>(pg_tup (n:=3) rfl (pgs_cons (pg_name (i:=0) (show (["one","other","ease"]:List Str).Nodup by decide +kernel) rfl (Or.inl rfl)) (pgs_cons (pg_name (i:=1) (show (["one","other","ease"]:List Str).Nodup by decide +kernel) rfl (Or.inl rfl)) (pgs_cons (pg_name (i:=2) (show (["one","other","ease"]:List Str).Nodup by decide +kernel) rfl (Or.inl rfl)) pgs_nil))))) (fun _ _ _ _=>(gk_tup (gks_cons gk_name (gks_cons gk_name (gks_cons gk_name gks_nil))))) (fun _ _ _ _=>(pf_one (pt_cmpR (op_neD hr.units) (pv 2) (pe_tup (pa_cons pe_int (pa_cons pe_int pa_nil))) (nomark _)))) (fun _ _ _ _=>(pe_tup (pa_cons (pv 0) (pa_cons (pv 1) (pa_cons (pe_call G_over (hr.mono (by decide)) rfl m_over k_over b_over .nil pass0 (pa_cons (pe_tup (pa_cons pe_int (pa_cons pe_int pa_nil))) (pa_cons (pv 2) pa_nil))) pa_nil)))))) pa_nil))))),?_⟩
  refine ⟨_,rfl,_,rfl,l,rfl,⟨_,hl⟩,comp_list (K:=K) (a:=l) (xs:=us) (fun i ys H'=>Same H H'∧PipesAt K H' ys (mesh E ((prs m).take i))∧ys.length≤i) ⟨Same.refl _,.nil,Nat.le_refl _⟩ (small1000 (by omega)) ?_ ?_ ?_⟩
  ·rintro i ys H' hi ⟨s2,hY,hl2⟩
   exact ⟨hl2,s2.seq hl⟩
  ·rintro i v ys H' N hv ⟨s2,hY,hl2⟩ hN C' s₀ H₀ ex
   obtain ⟨p,hpi,⟨a,e,rfl,ha,fe⟩⟩:=Paired.get' (EsAt.same hE s2) hv
   have ht:(prs m).take (i+1)=(prs m).take i++[p]:=by rw [List.take_succ,hpi];rfl
   have bE:=hb p (List.mem_of_getElem? hpi)
   refine ⟨a,_,rfl,SqT.of ha,rfl,_,_,rfl,_,_,rfl,_,_,rfl,rfl,?_⟩
   refine ⟨_,rfl,by show 2≤sizeLine;decide,fun tz htz=>rNe_frac (fe.same (same_upd htz)) (zero_fq upd_same) ⟨_,rfl,?_⟩⟩
   have s3:=same_upd (o:=.tup [.int 0,.int 1]) htz
   have fe3:=fe.same s3
   generalize upd H' tz (.tup [.int 0,.int 1])=H3 at s3 fe3 ⊢
   rw [ht,mesh_snoc] at hN
   by_cases z:E p.1 p.2=0
   ·rw [decide_eq_true z]
    rw [if_pos z,List.append_nil] at hN
    exact iteF (hN _ _ ⟨s2.trans s3,PipesAt.same s3 hY,by omega⟩)
   ·rw [decide_eq_false z]
    rw [if_neg z] at hN
    refine iteT ?_
    refine ⟨_,rfl,_,rfl,by show 2≤sizeLine;decide,fun t1 ht1=>?_⟩
    have s4:=same_upd (o:=.tup [.int 1,.int 1]) ht1
    refine ⟨_,rfl,.ref t1,e,1,_,4000,rfl,one_fq upd_same,fe3.same s4,z,by decide,btq1.mono (by decide),bE,fun c hc=>?_⟩
    have s5:=same_upd (o:=.tup [.int (1/E p.1 p.2:Rat).num,.int ((1/E p.1 p.2:Rat).den:Int)]) hc
    refine ⟨by show 3≤sizeLine;decide,fun t6 ht6=>?_⟩
    have s6:=same_upd (o:=.tup [.int (p.1:Int),.int (p.2:Int),.ref c]) ht6
    have sA:=((s3.trans s4).trans s5).trans s6
    exact hN _ _ ⟨s2.trans sA,PipesAt.snoc (PipesAt.same sA hY) ⟨t6,c,rfl,SqT.of upd_same,SqT.of (s6 _ _ upd_same)⟩,by rw [List.length_append];simp;omega⟩
  ·rintro ys H2 ⟨s2,hY,_⟩ r hr2
   rw [hus,List.take_length] at hY
   have s3:=same_upd (o:=.lst ys) hr2
   have hr3:(upd H2 r (.lst ys)) r=some (.lst ys):=upd_same
   have hY3:=PipesAt.same s3 hY
   have s03:=s2.trans s3
   generalize upd H2 r (.lst ys)=H3 at s3 hr3 hY3 s03 ⊢
   intro x' dx' nx ndx nex
   have s0:=made_s0 (C:=C) nx ndx
   refine ⟨x',dx',r,m,ys,_,rfl,upd_same,SqL.of (s0 _ _ hr3),PipesAt.same s0 hY3,ok,fun H4 L' hL net' kp=>⟨rfl,?_⟩⟩
   have s4:=made_same (n:=(m:Int)) nx ndx kp
   exact q _ x' L' (s03.trans s4) (s03.free nx) net'
theorem ok_slim (F:Fun K "slim" "slim" s_slim f fd) (T:Txt K mg C t1 t2 t3)
  (t_pipes:Meth K C "pipes" fp) (b_pipes:Binds K fdp ["self"] []) (G_pipes:FnOk P w K mg base CX0 1 fp fdp ["self"] (spPipes K C))
  (m_net_of_eases:mg "net_of_eases" = some (.ref fn)) (k_net_of_eases:PySem.W.keepIn K (.ref fn)=true) (b_net_of_eases:Binds K fdn ["places","eases"] []) (G_net_of_eases:FnOk P w K mg base CX0 9 fn fdn ["places","eases"] (spNoe K C))
  (m_pairs:mg "pairs" = some (.ref fq)) (k_pairs:PySem.W.keepIn K (.ref fq)=true) (b_pairs:Binds K fdq ["many"] []) (G_pairs:FnOk P w K mg base CX0 1 fq fdq ["many"] spPairs)
  (m_ease_between:mg "ease_between" = some (.ref fb)) (k_ease_between:PySem.W.keepIn K (.ref fb)=true) (b_ease_between:Binds K fdb ["pipes","one","other"] []) (G_ease_between:FnOk P w K mg base CX0 5 fb fdb ["pipes","one","other"] (spEzb K)):FnOk P w K mg base CX0 10 f fd ["net"] (spSlim K C):=by
 refine F.ok sc_slim (fun vs H Q E h=>?_) (fun cdv A outer s H vs Q E hr h=>?_)
 ·obtain ⟨x,L,n,ps,rfl,_⟩:=h
  rfl
 ·obtain ⟨x,L,n,ps,rfl,net,ok,sm,okS,q⟩:=h
  obtain ⟨⟨dx,h1⟩,_⟩:=id net
  have n8:=ok.n8
  have hle:=ok.le
  refine ⟨_,(pss_cons (ps_set (i:=1) sc_slim.nd rfl (Or.inr rfl) (pe_meth0 (pv 0) T.c_Net t_pipes G_pipes (hr.mono (by decide)) b_pipes .nil pass0))
   (pss_one (ps_ret (pe_call G_net_of_eases (hr.mono (by decide)) rfl m_net_of_eases k_net_of_eases b_net_of_eases .nil pass0 (pa_cons (pe_fld (pv 0) rfl) (pa_cons (pe_comp ["one","other"] [1] rfl rfl (by kernel_rfl) (pi_list (pe_call G_pairs (hr.mono (by decide)) rfl m_pairs k_pairs b_pairs .nil pass0 (pa_cons (pe_fld (pv 0) rfl) pa_nil))) (fun _ _ _ _=>(pg_tup (n:=2) rfl (pgs_cons (pg_name (i:=0) (show (["one","other","pipes"]:List Str).Nodup by decide +kernel) rfl (Or.inl rfl)) (pgs_cons (pg_name (i:=1) (show (["one","other","pipes"]:List Str).Nodup by decide +kernel) rfl (Or.inl rfl)) pgs_nil)))) (fun _ _ _ _=>(gk_tup (gks_cons gk_name (gks_cons gk_name gks_nil)))) (fun _ _ _ _=>pf_nil) (fun _ _ _ _=>(pe_tup (pa_cons (pv 0) (pa_cons (pv 1) (pa_cons (pe_call G_ease_between (hr.mono (by decide)) rfl m_ease_between k_ease_between b_ease_between .nil pass0 (pa_cons (pv 2) (pa_cons (pv 0) (pa_cons (pv 1) pa_nil)))) pa_nil)))))) pa_nil)))))),?_⟩
  refine ⟨_,rfl,x,dx,_,rfl,h1,flds_no _ _ (by decide +kernel) (by decide +kernel),x,L,n,ps,rfl,net,fun r us hr1 pa=>?_⟩
  have s1:=same_upd (o:=.lst us) hr1
  have hrl:(upd H r (.lst us)) r=some (.lst us):=upd_same
  have pa1:=PipesAt.same s1 pa
  generalize upd H r (.lst us)=H1 at s1 hrl pa1 ⊢
  refine ⟨_,rfl,x,C,dx,_,_,rfl,s1 _ _ h1,T.c_Net,T.a_size,flds_size _ _,?_⟩
  refine ⟨_,rfl,x,C,dx,_,_,rfl,s1 _ _ h1,T.c_Net,T.a_size,flds_size _ _,n,rfl,by omega,fun H2 rp up s2 hrp h2 hp2=>?_⟩
  have hpl:=prs_len n (by omega)
  have hup:up.length=(prs n).length:=Paired.length hp2
  refine ⟨rp,rfl,⟨_,SqL.of h2⟩,comp_list (K:=K) (a:=rp) (xs:=up) (fun i ys H'=>Same H2 H'∧Paired (EsAt K (ez ps) H') ys ((prs n).take i)) ⟨Same.refl _,.nil⟩ (small1000 (by omega)) ?_ ?_ ?_⟩
  ·rintro i ys H' hi ⟨s3,hY⟩
   exact ⟨by rw [Paired.length hY,List.length_take];exact Nat.min_le_left _ _,SqL.of (s3 _ _ h2)⟩
  ·rintro i v ys H' N hv ⟨s3,hY⟩ hN C' s₀ H₀ ex
   obtain ⟨p,hpi,⟨a,rfl,ha⟩⟩:=Paired.get' (hp2.same s3) hv
   have ht:(prs n).take (i+1)=(prs n).take i++[p]:=by rw [List.take_succ,hpi];rfl
   refine ⟨a,_,rfl,SqT.of ha,rfl,_,_,rfl,_,_,rfl,rfl,?_⟩
   dsimp only [tNoTest]
   refine iteT ?_
   refine ⟨_,rfl,_,rfl,_,rfl,_,rfl,_,rfl,r,us,n,ps,(p.1:Int),(p.2:Int),rfl,SqL.of ((s2.trans s3) _ _ hrl),PipesAt.same (s2.trans s3) pa1,ok,sm,fun H4 v4 s4 f4=>?_⟩
   refine ⟨by show 3≤sizeLine;decide,fun t6 ht6=>?_⟩
   have s6:=same_upd (o:=.tup [.int (p.1:Int),.int (p.2:Int),v4]) ht6
   refine hN _ _ ⟨(s3.trans s4).trans s6,?_⟩
   rw [ht]
   exact Paired.snoc' (EsAt.same hY (s4.trans s6)) ⟨t6,v4,rfl,upd_same,f4.same s6⟩
  ·rintro ys H3 ⟨s3,hY⟩ le hle3
   rw [hup,List.take_length] at hY
   have s4:=same_upd (o:=.lst ys) hle3
   refine ⟨le,ys,n,ez ps,rfl,SqL.of upd_same,EsAt.same hY s4,by omega,fun q hq=>(sm.ez hle _ _).mono (by decide),okS,fun H5 x' L' s5 hx' net'=>q _ x' L' (((s1.trans s2).trans s3).trans (s4.trans s5)) net'⟩
end
end K2
namespace K2
open PySem L2 Mp St Bz
def spCounts2:Sp:=fun vs H Q _=>∃ i n:Int,vs=[.int i,.int n]∧0≤i∧Q (.bl (decide (i<n))) H
section
variable {P:Program} {w:World} {K:PySem.W.Frag} {mg:Str→Option Value} {base:Heap} {C CN f fa fb fc fe fi fn fp fq fo ft:Addr} {fd fda fdb fdc fde fdi fdn fdp fdq fdo fdt:FuncData} {t1 t2 t3:Tok}
theorem ok_counts2 (F:Fun K "counts_one_of" "counts_one_of" s_counts_one_of f fd) (T:Txt K mg C t1 t2 t3) (m_is_whole:mg "is_whole" = some (.ref fa)) (k_is_whole:PySem.W.keepIn K (.ref fa)=true) (b_is_whole:Binds K fda ["value"] []) (G_is_whole:FnOk P w K mg base CX0 1 fa fda ["value"] spWhole):FnOk P w K mg base CX0 2 f fd ["value","many"] spCounts2:=by
 refine F.ok sc_counts_one_of (fun vs H Q E h=>?_) (fun cdv A outer s H vs Q E hr h=>?_)
 ·obtain ⟨i,n,rfl,_⟩:=h
  rfl
 ·obtain ⟨i,n,rfl,h0,q⟩:=h
  refine ⟨_,(pss_one (ps_ret (pe_and (pe_call G_is_whole (hr.mono (by decide)) rfl m_is_whole k_is_whole b_is_whole .nil pass0 (pa_cons (pv 0) pa_nil)) (pe_one (pe_chain op_le op_lt pe_int (pv 0) (pv 1)))))),?_⟩
  refine ⟨_,rfl,i,rfl,_,rfl,iteT ?_⟩
  refine ⟨_,rfl,_,_,rfl,rfl,_,rfl,?_⟩
  rw [decide_eq_true h0]
  exact iteT ⟨_,rfl,_,_,rfl,rfl,q⟩
theorem ok_out (F:Fun K "taken_out" "taken_out" s_taken_out f fd) (T:TxtO K mg C CN)
  (t_pipes:Meth K C "pipes" fp) (b_pipes:Binds K fdp ["self"] []) (G_pipes:FnOk P w K mg base CX0 1 fp fdp ["self"] (spPipes K C))
  (m_counts_one_of:mg "counts_one_of" = some (.ref fc)) (k_counts_one_of:PySem.W.keepIn K (.ref fc)=true) (b_counts_one_of:Binds K fdc ["value","many"] []) (G_counts_one_of:FnOk P w K mg base CX0 2 fc fdc ["value","many"] spCounts2)
  (m_net_of_eases:mg "net_of_eases" = some (.ref fn)) (k_net_of_eases:PySem.W.keepIn K (.ref fn)=true) (b_net_of_eases:Binds K fdn ["places","eases"] []) (G_net_of_eases:FnOk P w K mg base CX0 9 fn fdn ["places","eases"] (spNoe K C))
  (m_pairs:mg "pairs" = some (.ref fq)) (k_pairs:PySem.W.keepIn K (.ref fq)=true) (b_pairs:Binds K fdq ["many"] []) (G_pairs:FnOk P w K mg base CX0 1 fq fdq ["many"] spPairs)
  (m_ease_without:mg "ease_without" = some (.ref fb)) (k_ease_without:PySem.W.keepIn K (.ref fb)=true) (b_ease_without:Binds K fdb ["pipes","one","at","other"] []) (G_ease_without:FnOk P w K mg base CX0 7 fb fdb ["pipes","one","at","other"] (spEzw K fun ps x t y=>eo ps t x y)):FnOk P w K mg base (CXX P w) 10 f fd ["net","at"] (spOut K C CN):=by
 refine F.okX sc_taken_out (fun vs H Q E h=>?_) (fun cdv A outer s H vs Q E hr h=>?_)
 ·obtain ⟨x,L,n,ps,t,rfl,_⟩:=h
  rfl
 ·have hRs:=raises_cx (P:=P) (w:=w) (K:=K) (mg:=mg) (base:=base) (N:=["net","at","pipes","left"]) (qual:="taken_out") (scope:=defScope s_taken_out) (f:=f) (cd:=cdv) (A:=A) (outer:=outer) (s₀:=s) (H₀:=H) (E:=E)
  obtain ⟨x,L,n,ps,t,rfl,net,ok,ht0,h⟩:=h
  obtain ⟨⟨dx,h1⟩,_⟩:=id net
  have n8:=ok.n8
  have hle:=ok.le
  refine ⟨_,(pss_cons (ps_if (PW.pt (pw_or (pt_not (pt_val (pe_call G_counts_one_of (hr.mono (by decide)) rfl m_counts_one_of k_counts_one_of b_counts_one_of .nil pass0 (pa_cons (pv 1) (pa_cons (pe_fld (pv 0) rfl) pa_nil))))) (pw_or1 (pt_cmpR op_eq (pe_fld (pv 0) rfl) pe_int (nomark _))))) (pss_one (ps_raise T.e_NoPlace T.m_NoPlace rfl hRs rfl (pa_cons pe_str pa_nil))) pss_nil)
   (pss_cons (ps_set (i:=2) sc_taken_out.nd rfl (Or.inr rfl) (pe_meth0 (pv 0) T.c_Net t_pipes G_pipes (hr.mono (by decide)) b_pipes .nil pass0))
   (pss_cons (ps_set (i:=3) sc_taken_out.nd rfl (Or.inr rfl) (pe_comp ["place"] [1] rfl rfl (by kernel_rfl) (pi_range1 rfl T.n_range (pa_cons (pe_fld (pv 0) rfl) pa_nil)) (fun _ _ _ _=>(pg_name (i:=0) (show (["place","at"]:List Str).Nodup by decide +kernel) rfl (Or.inl rfl))) (fun _ _ _ _=>gk_name) (fun _ _ _ _=>(pf_one (pt_cmpR op_ne (pv 0) (pv 1) (nomark _)))) (fun _ _ _ _=>(pv 0))))
   (pss_one (ps_ret (pe_call G_net_of_eases (hr.mono (by decide)) rfl m_net_of_eases k_net_of_eases b_net_of_eases .nil pass0 (pa_cons (pe_callB call_len_seq (by rfl) T.n_len bt_len (pa_cons (pv 3) pa_nil)) (pa_cons (pe_comp ["one","other"] [2,1,3] rfl rfl (by kernel_rfl) (pi_list (pe_call G_pairs (hr.mono (by decide)) rfl m_pairs k_pairs b_pairs .nil pass0 (pa_cons (pe_callB call_len_seq (by rfl) T.n_len bt_len (pa_cons (pv 3) pa_nil)) pa_nil))) (fun _ _ _ _=>(pg_tup (n:=2) rfl (pgs_cons (pg_name (i:=0) (show (["one","other","pipes","at","left"]:List Str).Nodup by decide +kernel) rfl (Or.inl rfl)) (pgs_cons (pg_name (i:=1) (show (["one","other","pipes","at","left"]:List Str).Nodup by decide +kernel) rfl (Or.inl rfl)) pgs_nil)))) (fun _ _ _ _=>(gk_tup (gks_cons gk_name (gks_cons gk_name gks_nil)))) (fun _ _ _ _=>pf_nil) (fun _ _ _ _=>(pe_tup (pa_cons (pv 0) (pa_cons (pv 1) (pa_cons (pe_call G_ease_without (hr.mono (by decide)) rfl m_ease_without k_ease_without b_ease_without .nil pass0 (pa_cons (pv 2) (pa_cons (pe_ix ix_list (pv 4) (pv 0) (fun _ _=>rfl)) (pa_cons (pv 3) (pa_cons (pe_ix ix_list (pv 4) (pv 1) (fun _ _=>rfl)) pa_nil))))) pa_nil)))))) pa_nil)))))))),?_⟩
  refine ⟨_,rfl,_,rfl,x,C,dx,_,_,rfl,h1,T.c_Net,T.a_size,flds_size _ _,t,n,rfl,ht0,?_⟩
  rcases h with ⟨m,em,m1,htn,sm,okM,q⟩ | ⟨hbad,q⟩
  case inr =>
   refine ⟨_,rfl,?_⟩
   by_cases e:t<(n:Int)
   ·have n1:n=1:=hbad.resolve_left (by omega)
    rw [decide_eq_true e]
    refine iteF ⟨_,rfl,x,C,dx,_,_,rfl,h1,T.c_Net,T.a_size,flds_size _ _,rfl,_,rfl,?_⟩
    rw [decide_eq_true (show V.int (n:Int)=V.int 1 by rw [n1];rfl)]
    exact iteT ⟨by show 1≤sizeLine;decide,q _ (Same.refl _)⟩
   ·rw [decide_eq_false e]
    exact iteT ⟨by show 1≤sizeLine;decide,q _ (Same.refl _)⟩
  subst em
  obtain ⟨k,rfl⟩:=Int.eq_ofNat_of_zero_le ht0
  refine ⟨_,rfl,?_⟩
  rw [decide_eq_true htn]
  refine iteF ⟨_,rfl,x,C,dx,_,_,rfl,h1,T.c_Net,T.a_size,flds_size _ _,rfl,_,rfl,?_⟩
  rw [decide_eq_false (show ¬ V.int ((m+1:Nat):Int)=V.int 1 from fun z=>by injection z with z;omega)]
  refine iteF ?_
  refine ⟨_,rfl,x,dx,_,rfl,h1,flds_no _ _ (by decide +kernel) (by decide +kernel),x,L,(m+1:Nat),ps,rfl,net,fun r us hr1 pa=>?_⟩
  have s1:=same_upd (o:=.lst us) hr1
  have hrl:(upd H r (.lst us)) r=some (.lst us):=upd_same
  have pa1:=PipesAt.same s1 pa
  generalize upd H r (.lst us)=H1 at s1 hrl pa1 ⊢
  refine ⟨_,rfl,x,C,dx,_,_,rfl,s1 _ _ h1,T.c_Net,T.a_size,flds_size _ _,((m+1:Nat):Int),rfl,by omega,by omega,?_⟩
  rw [Int.toNat_natCast]
  refine comp_range (fun i ys H'=>H'=H1∧ys=(List.range (if i≤k then i else i-1)).map fun j:Nat=>V.int (lft (k:Int) (j:Int))) ⟨rfl,rfl⟩ (small1000 (by omega)) ?_ ?_ ?_
  ·rintro i ys H' hi ⟨_,rfl⟩
   rw [List.length_map,List.length_range]
   split <;> omega
  ·rintro i ys H' N hi ⟨rfl,rfl⟩ hN C' s₀ H₀ ex
   dsimp only [gName]
   rw [Int.zero_add]
   refine ⟨_,rfl,_,rfl,rfl,_,rfl,?_⟩
   by_cases e:i=k
   ·rw [decide_eq_true (show V.int (i:Int)=V.int (k:Int) by rw [e])]
    refine iteF (hN _ _ ⟨rfl,?_⟩)
    rw [if_pos (by omega),if_neg (by omega),Nat.add_sub_cancel]
   ·rw [decide_eq_false (show ¬ V.int (i:Int)=V.int (k:Int) from fun z=>e (by injection z with z;omega))]
    refine iteT ⟨_,rfl,hN _ _ ⟨rfl,?_⟩⟩
    by_cases e2:i<k
    ·rw [if_pos (by omega),if_pos (by omega),List.range_succ,List.map_append]
     congr 1
     show [V.int (i:Int)]=[V.int (lft (k:Int) (i:Int))]
     unfold lft
     rw [if_pos (by omega)]
    ·obtain ⟨j,rfl⟩:∃ j,i=j+1:=⟨i-1,by omega⟩
     rw [if_neg (by omega),if_neg (by omega),Nat.add_sub_cancel,Nat.add_sub_cancel,List.range_succ,List.map_append]
     congr 1
     show [V.int ((j+1:Nat):Int)]=[V.int (lft (k:Int) (j:Int))]
     unfold lft
     rw [if_neg (by omega)]
     congr 2
  rintro ys H2 ⟨rfl,rfl⟩ ll hll
  rw [if_neg (show ¬ m+1≤k by omega),Nat.add_sub_cancel]
  have s2:=same_upd (o:=.lst ((List.range m).map fun j:Nat=>V.int (lft (k:Int) (j:Int)))) hll
  have hl2:(upd H2 ll (.lst ((List.range m).map fun j:Nat=>V.int (lft (k:Int) (j:Int))))) ll=some (.lst ((List.range m).map fun j:Nat=>V.int (lft (k:Int) (j:Int)))):=upd_same
  have s12:=s1.trans s2
  have hrl2:=s2 _ _ hrl
  have pa2:=PipesAt.same s2 pa1
  generalize upd H2 ll (.lst ((List.range m).map fun j:Nat=>V.int (lft (k:Int) (j:Int))))=H3 at s2 hl2 s12 hrl2 pa2 ⊢
  have hll3:((List.range m).map fun j:Nat=>V.int (lft (k:Int) (j:Int))).length=m:=by rw [List.length_map,List.length_range]
  refine ⟨_,rfl,ll,_,rfl,.inl (SqL.of hl2),?_⟩
  rw [hll3]
  refine ⟨_,rfl,ll,_,rfl,.inl (SqL.of hl2),m,by rw [hll3];rfl,by omega,fun H4 rp up s4 hrp h4 hp4=>?_⟩
  have hpl:=prs_len m (by omega)
  have hup:up.length=(prs m).length:=Paired.length hp4
  refine ⟨rp,rfl,⟨_,SqL.of h4⟩,comp_list (K:=K) (a:=rp) (xs:=up) (fun i ys H'=>Same H4 H'∧Paired (EsAt K (fun x y=>eo ps k (lft k x) (lft k y)) H') ys ((prs m).take i)) ⟨Same.refl _,.nil⟩ (small1000 (by omega)) ?_ ?_ ?_⟩
  ·rintro i ys H' hi ⟨s5,hY⟩
   exact ⟨by rw [Paired.length hY,List.length_take];exact Nat.min_le_left _ _,SqL.of (s5 _ _ h4)⟩
  ·rintro i v ys H' N hv ⟨s5,hY⟩ hN C' s₀ H₀ ex
   obtain ⟨p,hpi,⟨a,rfl,ha⟩⟩:=Paired.get' (hp4.same s5) hv
   obtain ⟨pl1,pl2⟩:=prs_mem (List.mem_of_getElem? hpi)
   have ht:(prs m).take (i+1)=(prs m).take i++[p]:=by rw [List.take_succ,hpi];rfl
   have s35:=s4.trans s5
   have atl:∀ j:Nat,j<m→atI ((List.range m).map fun j:Nat=>V.int (lft (k:Int) (j:Int))) (j:Int)=some (V.int (lft (k:Int) (j:Int))):=fun j hj=>atI_nat (j:=j) (by rw [List.getElem?_map,List.getElem?_range hj];rfl)
   refine ⟨a,_,rfl,SqT.of ha,rfl,_,_,rfl,_,_,rfl,rfl,?_⟩
   dsimp only [tNoTest]
   refine iteT ?_
   refine ⟨_,rfl,_,rfl,_,rfl,_,rfl,_,rfl,ll,_,_,_,rfl,rfl,SqL.of (s35 _ _ hl2),atl p.1 (by omega),_,rfl,_,rfl,_,rfl,ll,_,_,_,rfl,rfl,SqL.of (s35 _ _ hl2),atl p.2 pl2,?_⟩
   refine ⟨r,us,(m+1:Nat),ps,lft k p.1,k,lft k p.2,rfl,SqL.of (s35 _ _ hrl2),PipesAt.same s35 pa2,ok,sm,lft_fits ⟨by omega,by omega⟩,fun H6 v6 s6 f6=>?_⟩
   refine ⟨by show 3≤sizeLine;decide,fun t6 ht6=>?_⟩
   have s7:=same_upd (o:=.tup [.int (p.1:Int),.int (p.2:Int),v6]) ht6
   refine hN _ _ ⟨(s5.trans s6).trans s7,?_⟩
   rw [ht]
   exact Paired.snoc' (EsAt.same hY (s6.trans s7)) ⟨t6,v6,rfl,upd_same,f6.same s7⟩
  ·rintro ys H5 ⟨s5,hY⟩ le hle5
   rw [hup,List.take_length] at hY
   have s6:=same_upd (o:=.lst ys) hle5
   have bE:∀ x y,BtQ 4000 (eo ps k x y):=fun x y=>by
    have b2:BtQ 2700 (ez ps x k*ez ps k y/et ps k):=by
     by_cases z:et ps k=0
     ·have:ez ps x k*ez ps k y/et ps k=0:=by rw [z];grind
      rw [this]
      exact btq0.mono (by decide)
     ·exact ((sm.ez hle _ _).mul (sm.ez hle _ _)).div (sm.et hle _) z
    exact ((sm.ez hle x y).add b2).mono (by decide)
   exact ⟨le,ys,m,_,rfl,SqL.of upd_same,EsAt.same hY s6,by omega,fun q hq=>bE _ _,okM,fun H7 x' L' s7 hx' net'=>q _ x' L' (((s12.trans s4).trans s5).trans (s6.trans s7)) net'⟩
end
end K2
namespace K2
open PySem L2 Mp St Bz
def Sm8 (n:Nat) (ps:List Pipe):Prop:=n≤5∧ps.length≤8∧∀ p∈ps,p.a≤4∧p.b≤3
theorem ease_dn {p:Pipe} (a1:1≤p.a) (a4:p.a≤4) (b1:1≤p.b) (b3:p.b≤3):Dn 12 36 (ease p):=by
 have ha:p.a=1∨p.a=2∨p.a=3∨p.a=4:=by omega
 have h12:((12:Int):Rat)=12:=rfl
 unfold ease
 rcases ha with e | e | e | e <;> rw [e]
 ·exact ⟨p.b*12,by rw [Rat.intCast_mul];have:((1:Int):Rat)=1:=rfl;rw [this];grind,by omega⟩
 ·exact ⟨p.b*6,by rw [Rat.intCast_mul];have:((2:Int):Rat)=2:=rfl;have h3:((6:Int):Rat)=6:=rfl;rw [this,h12,h3];grind,by omega⟩
 ·exact ⟨p.b*4,by rw [Rat.intCast_mul];have:((3:Int):Rat)=3:=rfl;have h3:((4:Int):Rat)=4:=rfl;rw [this,h12,h3];grind,by omega⟩
 ·exact ⟨p.b*3,by rw [Rat.intCast_mul];have:((4:Int):Rat)=4:=rfl;have h3:((3:Int):Rat)=3:=rfl;rw [this,h12,h3];grind,by omega⟩
theorem Sm8.ezs {n:Nat} {ps:List Pipe} (h:Sm8 n ps) (ok:NetOk n ps):∀ p∈ps,Dn 12 36 (ease p):=fun p hp=>ease_dn (ok.ok p hp).a1 (h.2.2 p hp).1 (ok.ok p hp).b1 (h.2.2 p hp).2
theorem Sm8.sm {n:Nat} {ps:List Pipe} (h:Sm8 n ps) (ok:NetOk n ps):EzSm ps:=⟨12,36,by decide,by decide +kernel,by decide +kernel,h.ezs ok⟩
theorem nn_int {q:Rat} {z:Int} (h:0≤q) (e:q*((12:Int):Rat)=(z:Rat)):0≤z:=by
 have h12:((12:Int):Rat)=12:=rfl
 rw [h12] at e
 have:(0:Rat)≤(z:Rat):=by rw [← e];exact Rat.mul_nonneg h (by decide +kernel)
 exact_mod_cast this
theorem Sm8.sub {n:Nat} {ps:List Pipe} (h:Sm8 n ps) (ok:NetOk n ps) (b:Pipe→Bool):∃ z:Int,((ps.filter b).map ease).sum*((12:Int):Rat)=(z:Rat)∧z.natAbs≤288:=by
 obtain ⟨z,e,hz⟩:Dn 12 (((ps.filter b).map ease).length*36) ((ps.filter b).map ease).sum:=Dn.sum fun q hq=>by
  obtain ⟨p,hp,rfl⟩:=List.mem_map.mp hq
  exact h.ezs ok p (List.mem_filter.mp hp).1
 refine ⟨z,e,Nat.le_trans hz ?_⟩
 rw [List.length_map]
 have h1:=List.length_filter_le b ps
 have h2:=h.2.1
 omega
theorem Sm8.ez {n:Nat} {ps:List Pipe} (h:Sm8 n ps) (ok:NetOk n ps) (x y:Int):∃ z:Int,ez ps x y*((12:Int):Rat)=(z:Rat)∧0≤z∧z≤288:=by
 obtain ⟨z,e,hz⟩:=h.sub ok (betw x y)
 rw [ez_sum] at e
 have:=nn_int (ez_nn ok.nice x y) e
 exact ⟨z,e,this,by omega⟩
theorem Sm8.et {n:Nat} {ps:List Pipe} (h:Sm8 n ps) (ok:NetOk n ps) (x:Int):∃ z:Int,et ps x*((12:Int):Rat)=(z:Rat)∧0≤z∧z≤288:=by
 obtain ⟨z,e,hz⟩:=h.sub ok (touch x)
 rw [et_sum] at e
 have:=nn_int (et_nn ok.nice x) e
 exact ⟨z,e,this,by omega⟩
theorem eo_dn {n:Nat} {ps:List Pipe} (h:Sm8 n ps) (ok:NetOk n ps) (t x y:Int):∃ (N:Int) (B:Nat),N≠0∧N.natAbs≤1000000000∧B≤1000000000∧Dn N B (eo ps t x y):=by
 obtain ⟨z1,e1,h1,g1⟩:=h.ez ok x y
 obtain ⟨z2,e2,h2,g2⟩:=h.ez ok x t
 obtain ⟨z3,e3,h3,g3⟩:=h.ez ok t y
 obtain ⟨z4,e4,h4,g4⟩:=h.et ok t
 have h12:((12:Int):Rat)=12:=rfl
 rw [h12] at e1 e2 e3 e4
 unfold eo
 by_cases z:et ps t=0
 ·have:ez ps x y+ez ps x t*ez ps t y/et ps t=ez ps x y:=by rw [z];grind
  rw [this]
  exact ⟨12,288,by decide,by decide,by decide,z1,by rw [h12];exact e1,by omega⟩
 ·have z4p:1≤z4:=by
   rcases Int.lt_or_eq_of_le h4 with q | q
   ·omega
   ·exfalso
    rw [← q] at e4
    have:et ps t*12=0:=e4
    grind
  have b1:z1*z4≤288*288:=Int.mul_le_mul g1 g4 (by omega) (by omega)
  have b2:z2*z3≤288*288:=Int.mul_le_mul g2 g3 (by omega) (by omega)
  have b3:0≤z1*z4:=Int.mul_nonneg h1 h4
  have b4:0≤z2*z3:=Int.mul_nonneg h2 h3
  refine ⟨12*z4,165888,by omega,by omega,by decide,z1*z4+z2*z3,?_,by omega⟩
  rw [Rat.intCast_add,Rat.intCast_mul,Rat.intCast_mul,Rat.intCast_mul,← e1,← e2,← e3,← e4,h12]
  grind
theorem inv_le {E:Rat} (h:0<E) {N:Int} {B:Nat} (h0:N≠0) (d:Dn N B E):(1/E).num.natAbs≤N.natAbs∧(1/E).den≤B:=by
 obtain ⟨b1,b2⟩:=d.le h0
 have hn:E.num≠0:=num_ne (fun z=>by rw [z] at h;grind)
 have e:1/E=Rat.divInt ((1:Rat).num*E.den) (((1:Rat).den:Int)*E.num):=(div_as 1 E).symm
 rw [e]
 have n1:=My.num_le ((1:Rat).num*E.den) (((1:Rat).den:Int)*E.num) (by show (1:Int)*E.num≠0;omega)
 have n2:=My.den_le ((1:Rat).num*E.den) (((1:Rat).den:Int)*E.num) (by show (1:Int)*E.num≠0;omega)
 refine ⟨Nat.le_trans n1 ?_,Nat.le_trans n2 ?_⟩
 ·show ((1:Int)*(E.den:Int)).natAbs≤_
  omega
 ·show ((1:Int)*E.num).natAbs≤_
  omega
theorem mesh_ok {E:Int→Int→Rat} {m:Nat} (h1:1≤m) (h8:m≤8) (h0:∀ x y:Int,0≤E x y) (hb:∀ x y:Int,∃ (N:Int) (B:Nat),N≠0∧N.natAbs≤1000000000∧B≤1000000000∧Dn N B (E x y)):NetOk m (mesh E (prs m)):=by
 have nc:=mesh_nice (m:=m) h0
 refine ⟨by omega,by omega,fun p hp=>?_,?_⟩
 ·obtain ⟨fu,fw⟩:=nc.fits p hp
  obtain ⟨q,hq,hne,rfl⟩:=mesh_mem hp
  have pos:0<E q.1 q.2:=by have:=h0 q.1 q.2;grind
  obtain ⟨N,B,n0,nM,bM,d⟩:=hb q.1 q.2
  obtain ⟨i1,i2⟩:=inv_le pos n0 d
  have a1:=nc.a1 _ hp
  have b1:=nc.b1 _ hp
  exact ⟨fu.1,fu.2,fw.1,fw.2,nc.ne _ hp,a1,by show (1/E q.1 q.2).num≤1000000000;omega,b1,by show ((1/E q.1 q.2).den:Int)≤1000000000;omega,by
   show Int.gcd (1/E q.1 q.2).num ((1/E q.1 q.2).den:Int)=1
   have:=(1/E q.1 q.2).reduced
   unfold Int.gcd
   rw [Int.natAbs_natCast]
   exact this⟩
 ·unfold mesh
  rw [List.length_map]
  exact Nat.le_trans (List.length_filter_le _ _) (prs_len m h8)
theorem slim_ok {n:Nat} {ps:List Pipe} (h:Sm8 n ps) (ok:NetOk n ps):NetOk n (mesh (ez ps) (prs n)) :=
 mesh_ok (by have:=ok.n1;omega) (by have:=ok.n8;omega) (fun x y=>ez_nn ok.nice x y) fun x y=>by
  obtain ⟨z,e,z0,z1⟩:=h.ez ok x y
  exact ⟨12,288,by decide,by decide,by decide,z,e,by omega⟩
theorem out_ok {m:Nat} {ps:List Pipe} {t:Int} (h:Sm8 (m+1) ps) (ok:NetOk (m+1:Nat) ps) (h1:1≤m):NetOk m (outP ps t m) :=
 mesh_ok h1 (by have:=h.1;omega) (fun x y=>eo_nn ok.nice _ _ _) fun x y=>eo_dn h ok _ _ _
theorem out_hd {m:Nat} {ps:List Pipe} {t one other:Int} (ok:NetOk (m+1:Nat) ps) (okM:NetOk m (outP ps t m)) (ht:0≤t∧t<(m+1:Nat)) (h1:0≤one∧one<m) (h2:0≤other∧other<m):hdQ m (outP ps t m) one other=hdQ (m+1) ps (lft t one) (lft t other):=by
 by_cases r:Reach ps (lft t one) (lft t other)
 ·have r':=(out_reach ok.nice ht h1 h2).mpr r
  rw [hdQ_some r,hdQ_some r',hOf_eq okM.nice (out_isH ok.nice ht h1 h2 (ok.isH (lft_fits h2) r.symm))]
  dsimp only
  rw [if_pos h1]
 ·rw [hdQ_none r,hdQ_none fun z=>r ((out_reach ok.nice ht h1 h2).mp z)]
def Thin (ps:List Pipe):Prop:=(∀ p∈ps,p.u<p.w)∧ps.Pairwise fun p r=>p.u<r.u∨(p.u=r.u∧p.w<r.w)
theorem prs_pw (m:Nat):(prs m).Pairwise fun q r=>q.1<r.1∨(q.1=r.1∧q.2<r.2):=by
 unfold prs
 rw [List.pairwise_flatMap]
 refine ⟨fun i _=>List.Pairwise.map _ (fun {a b} (q:a<b)=>.inr ⟨rfl,by simp only;omega⟩) List.pairwise_lt_range,List.Pairwise.imp (fun {a b} (q:a<b) x hx y hy=>?_) List.pairwise_lt_range⟩
 obtain ⟨_,_,rfl⟩:=List.mem_map.mp hx
 obtain ⟨_,_,rfl⟩:=List.mem_map.mp hy
 exact .inl q
theorem mesh_thin (E:Int→Int→Rat) (m:Nat):Thin (mesh E (prs m)):=by
 refine ⟨fun p hp=>?_,?_⟩
 ·obtain ⟨q,hq,_,rfl⟩:=mesh_mem hp
  have:=(prs_mem hq).1
  show (q.1:Int)<(q.2:Int)
  omega
 ·unfold mesh
  refine List.Pairwise.map _ (fun {a b} h=>?_) (List.Pairwise.filter _ (prs_pw m))
  show (a.1:Int)<(b.1:Int)∨((a.1:Int)=(b.1:Int)∧(a.2:Int)<(b.2:Int))
  omega
def spThin (K:PySem.W.Frag) (C:Addr):Sp:=fun vs H Q _=>∃ (x L:Addr) (n:Nat) (ps:List Pipe),vs=[.ref x]∧NetAt K C H x L n ps∧ps.length≤28∧Thin ps∧∀ H',Same H H'→Q (.bl true) H'
def spRefused (K:PySem.W.Frag) (C:Addr):Sp:=fun vs H Q _=>∃ (x L:Addr) (n:Nat) (ps:List Pipe) (t:Int),vs=[.ref x,.int t]∧NetAt K C H x L n ps∧NetOk n ps∧0≤t∧(t=n∨n=1)∧∀ H',Same H H'→Q (.bl true) H'
structure Others (K:PySem.W.Frag) (mg:Str→Option Value) (CN CE c3 c4 c5 c6 c7:Addr):Prop where
 ce:ErrCls K CN
 m_NetError:mg "NetError" = some (.ref CE)
 x_NetError:PySem.W.exmOne K (.ref CN) (.ref CE)=some true
 m_BadNet:mg "BadNet" = some (.ref c3)
 i_BadNet:PySem.W.kitOne K (.ref CN) (.ref c3)=some false
 m_BadFraction:mg "BadFraction" = some (.ref c4)
 i_BadFraction:PySem.W.kitOne K (.ref CN) (.ref c4)=some false
 m_NoPipe:mg "NoPipe" = some (.ref c5)
 i_NoPipe:PySem.W.kitOne K (.ref CN) (.ref c5)=some false
 m_BadFlows:mg "BadFlows" = some (.ref c6)
 i_BadFlows:PySem.W.kitOne K (.ref CN) (.ref c6)=some false
 m_BadRow:mg "BadRow" = some (.ref c7)
 i_BadRow:PySem.W.kitOne K (.ref CN) (.ref c7)=some false
 m_NoPlace:mg "NoPlace" = some (.ref CN)
 i_NoPlace:PySem.W.kitOne K (.ref CN) (.ref CN)=some true
 i_ValueError:PySem.W.kitOne K (.ref CN) (.type "ValueError")=some true
 n_isinstance:mg "isinstance" = none
 n_ValueError:mg "ValueError" = none
 n_any:mg "any" = none
def UwAt (H:Hp) (v:V) (p:Pipe):Prop:=∃ a,v=.ref a∧H a=some (.tup [.int p.u,.int p.w])
section
variable {P:Program} {w:World} {K:PySem.W.Frag} {mg:Str→Option Value} {base:Heap} {C CN f fc fo fp ft:Addr} {fd fdc fdo fdp fdt:FuncData} {t1 t2 t3:Tok}
theorem ok_refused {CE c3 c4 c5 c6 c7:Addr} (F:Fun K "_law_refused" "_law_refused" s__law_refused f fd) (T:Others K mg CN CE c3 c4 c5 c6 c7) (m_taken_out:mg "taken_out" = some (.ref fc)) (k_taken_out:PySem.W.keepIn K (.ref fc)=true) (b_taken_out:Binds K fdc ["net","at"] []) (G_taken_out:FnOk P w K mg base (CXX P w) 10 fc fdc ["net","at"] (spOut K C CN)) :
  FnOk P w K mg base CX0 11 f fd ["_law_net","_law_at"] (spRefused K C):=by
 refine F.ok sc__law_refused (fun vs H Q E h=>?_) (fun cdv A outer s H vs Q E hr h=>?_)
 ·obtain ⟨x,L,n,ps,t,rfl,_⟩:=h
  rfl
 ·obtain ⟨x,L,n,ps,t,rfl,net,ok,ht,hb,k⟩:=h
  refine ⟨_,(pss_cons (ps_try (i:=2) rfl rfl rfl rfl rfl rfl sc__law_refused.nd rfl rfl rfl T.m_NetError (fun E pn xe hPs=>(pss_one (ps_expr (pe_call G_taken_out (hr.mono (by decide)) rfl m_taken_out k_taken_out b_taken_out .nil hPs (pa_cons (pv 0) (pa_cons (pv 1) pa_nil)))))) (fun a=>(pss_cons (ps_set (i:=3) sc__law_refused.nd rfl (Or.inl rfl) (pe_lst (pa_cons (pe_isiO rfl T.n_isinstance (pv 2) rfl T.m_BadNet) (pa_cons (pe_isiO rfl T.n_isinstance (pv 2) rfl T.m_BadFraction) (pa_cons (pe_isiO rfl T.n_isinstance (pv 2) rfl T.m_NoPipe) pa_nil)))))
   (pss_cons (ps_set (i:=3) sc__law_refused.nd rfl (Or.inl rfl) (pe_op op_cat (pv 3) (pe_lst (pa_cons (pe_isiO rfl T.n_isinstance (pv 2) rfl T.m_BadFlows) (pa_cons (pe_isiO rfl T.n_isinstance (pv 2) rfl T.m_BadRow) pa_nil)))))
   (pss_one (ps_ret (pe_and (pe_isiO rfl T.n_isinstance (pv 2) rfl T.m_NoPlace) (pe_and (pe_isiB rfl T.n_isinstance (pv 2) rfl T.n_ValueError bt_ValueError) (pe_one (pe_not (pe_callB call_anyH (by rfl) T.n_any bt_any (pa_cons (pv 3) pa_nil))))))))))))
   (pss_one (ps_ret pe_bl))),?_⟩
  refine ⟨fun cls _ H'=>cls=.ref CN∧Same H H',⟨_,rfl,_,rfl,x,L,n,ps,t,rfl,net,ok,ht,.inr ⟨hb,fun H' s'=>⟨rfl,s'⟩⟩⟩,?_⟩
  rintro a cls H' ⟨rfl,s0⟩ ha
  refine ⟨T.x_NetError,?_⟩
  have s1:Same H' (upd H' a (ExcAt a (.ref CN))):=same_upd ha
  have ty:∀ {H1:Hp},Same (upd H' a (ExcAt a (.ref CN))) H1→TyX K H1 (.ref a) (.ref CN):=fun e=>.exc (e _ _ upd_same) T.ce
  refine ⟨_,rfl,_,_,_,_,_,rfl,rfl,ty (Same.refl _),T.i_BadNet,_,rfl,_,_,_,_,_,rfl,rfl,ty (Same.refl _),T.i_BadFraction,_,rfl,_,_,_,_,_,rfl,rfl,ty (Same.refl _),T.i_NoPipe,(by show 3≤sizeLine;decide),fun l hl=>?_⟩
  have s2:=same_upd (o:=.lst [.bl false,.bl false,.bl false]) hl
  refine ⟨_,rfl,_,rfl,_,_,_,_,_,rfl,rfl,ty s2,T.i_BadFlows,_,rfl,_,_,_,_,_,rfl,rfl,ty s2,T.i_BadRow,(by show 2≤sizeLine;decide),fun l2 hl2=>?_⟩
  have s3:=same_upd (o:=.lst [.bl false,.bl false]) hl2
  refine ⟨l,l2,_,_,rfl,rfl,s3 _ _ upd_same,upd_same,(by show 5≤sizeLine;decide),fun l3 hl3=>?_⟩
  have s4:=same_upd (o:=.lst ([.bl false,.bl false,.bl false]++[.bl false,.bl false])) hl3
  have s5:=(s2.trans s3).trans s4
  refine ⟨_,rfl,_,_,_,_,_,rfl,rfl,ty s5,T.i_NoPlace,_,rfl,iteT ?_⟩
  refine ⟨_,rfl,_,_,_,_,_,rfl,rfl,ty s5,T.i_ValueError,_,rfl,iteT ?_⟩
  exact ⟨_,rfl,l3,[false,false,false,false,false],_,rfl,SqL.of upd_same,s5 _ _ upd_same,_,rfl,k _ (s0.trans (s1.trans s5))⟩
theorem ok_thin (F:Fun K "_law_thin" "_law_thin" s__law_thin f fd) (T:Txt K mg C t1 t2 t3)
  (t_pipes:Meth K C "pipes" fp) (b_pipes:Binds K fdp ["self"] []) (G_pipes:FnOk P w K mg base CX0 1 fp fdp ["self"] (spPipes K C)):FnOk P w K mg base CX0 2 f fd ["_law_net"] (spThin K C):=by
 refine F.ok sc__law_thin (fun vs H Q E h=>?_) (fun cdv A outer s H vs Q E hr h=>?_)
 ·obtain ⟨x,L,n,ps,rfl,_⟩:=h
  rfl
 ·obtain ⟨x,L,n,ps,rfl,net,hle,thin,q⟩:=h
  obtain ⟨⟨dx,h1⟩,_⟩:=id net
  refine ⟨_,(pss_cons (ps_setC (i:=1) ["_law_pipe"] [] rfl rfl (by kernel_rfl) sc__law_thin.nd rfl rfl (pi_list (pe_meth0 (pv 0) T.c_Net t_pipes G_pipes (hr.mono (by decide)) b_pipes .nil pass0)) (fun _ _ _ _=>(pg_name (i:=0) (show (["_law_pipe"]:List Str).Nodup by decide +kernel) rfl (Or.inl rfl))) (fun _ _ _ _=>gk_name) (fun _ _ _ _=>pf_nil) (fun _ _ _ _=>(pe_tup (pa_cons (pe_ix ix_tup (pv 0) pe_int (fun _ _=>rfl)) (pa_cons (pe_ix ix_tup (pv 0) pe_int (fun _ _=>rfl)) pa_nil)))))
   (pss_cons (ps_for PassesOwn.never rfl (pi_range1 rfl T.n_range (pa_cons (pe_callB call_len_seq (by rfl) T.n_len bt_len (pa_cons (pv 1) pa_nil)) pa_nil)) (pg_name (i:=2) sc__law_thin.nd rfl (Or.inl rfl)) (pss_one (ps_if (PW.pt (pw_or (pt_cmpR op_ge (pe_ix ix_tup (pe_ix ix_list (pv 1) (pv 2) (fun _ _=>rfl)) pe_int (fun _ _=>rfl)) (pe_ix ix_tup (pe_ix ix_list (pv 1) (pv 2) (fun _ _=>rfl)) pe_int (fun _ _=>rfl)) (nomark _)) (pw_or1 (PW.pt (pw_and (pt_cmpR op_gt (pv 2) pe_int (nomark _)) (pw_and1 (pt_cmpR (op_leT hr.units) (pe_ix ix_list (pv 1) (pv 2) (fun _ _=>rfl)) (pe_ix ix_list (pv 1) (pe_op op_sub (pv 2) pe_int) (fun _ _=>rfl)) (nomark _)))))))) (pss_one (ps_ret pe_bl)) pss_nil)))
   (pss_one (ps_ret pe_bl)))),?_⟩
  refine ⟨_,rfl,x,dx,_,rfl,h1,flds_no _ _ (by decide +kernel) (by decide +kernel),x,L,n,ps,rfl,net,fun r us hr1 pa=>?_⟩
  have s1:=same_upd (o:=.lst us) hr1
  have hrl:(upd H r (.lst us)) r=some (.lst us):=upd_same
  have pa1:=PipesAt.same s1 pa
  have hus:us.length=ps.length:=Paired.length pa
  generalize upd H r (.lst us)=H1 at s1 hrl pa1 ⊢
  refine ⟨r,rfl,⟨_,SqL.of hrl⟩,comp_list (K:=K) (a:=r) (xs:=us) (fun i ys H'=>Same H1 H'∧Paired (UwAt H') ys (ps.take i)) ⟨Same.refl _,.nil⟩ (small1000 (by omega)) ?_ ?_ ?_⟩
  ·rintro i ys H' hi ⟨s2,hY⟩
   exact ⟨by rw [Paired.length hY,List.length_take];exact Nat.min_le_left _ _,SqL.of (s2 _ _ hrl)⟩
  ·rintro i v ys H' N hv ⟨s2,hY⟩ hN C' s₀ H₀ ex
   obtain ⟨p,hpi,⟨x3,y3,rfl,hx3,hy3⟩⟩:=(PipesAt.same s2 pa1).get hv
   have htk:ps.take (i+1)=ps.take i++[p]:=by rw [List.take_succ,hpi];rfl
   dsimp only [tNoTest,gName]
   refine iteT ?_
   refine ⟨_,rfl,x3,_,_,_,rfl,rfl,hx3,rfl,_,rfl,x3,_,_,_,rfl,rfl,hx3,rfl,by show 2≤sizeLine;decide,fun tp htp=>hN _ _ ⟨s2.trans (same_upd htp),?_⟩⟩
   rw [htk]
   exact Paired.snoc' (Paired.mapP hY fun _ _ ⟨a,e,z⟩=>⟨a,e,same_upd htp _ _ z⟩) ⟨tp,rfl,upd_same⟩
  rintro ys H2 ⟨s2,hY⟩ lp hlp
  rw [hus,List.take_length] at hY
  have s3:=same_upd (o:=.lst ys) hlp
  have hl3:(upd H2 lp (.lst ys)) lp=some (.lst ys):=upd_same
  have hY3:Paired (UwAt (upd H2 lp (.lst ys))) ys ps:=Paired.mapP hY fun _ _ ⟨a,e,z⟩=>⟨a,e,s3 _ _ z⟩
  have s03:=(s1.trans s2).trans s3
  have hyl:ys.length=ps.length:=Paired.length hY
  generalize upd H2 lp (.lst ys)=H3 at s3 hl3 hY3 s03 ⊢
  have at_:∀ k,k<ps.length→∃ a p,ps[k]? = some p∧atI ys (k:Int)=some (.ref a)∧H3 a=some (.tup [.int p.u,.int p.w]):=fun k hk=>by
   have e:ys[k]? = some (ys[k]'(by omega)):=List.getElem?_eq_getElem (by omega)
   obtain ⟨p,hp,⟨a,ea,ha⟩⟩:=Paired.get' hY3 e
   exact ⟨a,p,hp,atI_nat (j:=k) (by rw [e,ea]),ha⟩
  refine ⟨_,rfl,lp,_,rfl,.inl (SqL.of hl3),(ys.length:Int),rfl,by omega,by omega,?_⟩
  rw [Int.toNat_natCast,hyl]
  refine for_range (lo:=0) (n:=ps.length) (fun i σ H'=>∃ v2:Option V,σ=[some (.ref x),some (.ref lp),v2]∧H'=H3) ⟨none,rfl,rfl⟩ ?_ ?_
  ·rintro i σ H' hi ⟨v2,rfl,rfl⟩
   obtain ⟨a,p,hp,ea,ha⟩:=at_ i hi
   have lt1:=thin.1 p (List.mem_of_getElem? hp)
   dsimp only [gName]
   rw [Int.zero_add]
   refine ⟨_,rfl,_,rfl,lp,_,_,_,rfl,rfl,SqL.of hl3,ea,a,_,_,_,rfl,rfl,SqT.of ha,rfl,_,rfl,_,rfl,lp,_,_,_,rfl,rfl,SqL.of hl3,ea,a,_,_,_,rfl,rfl,SqT.of ha,rfl,_,_,rfl,rfl,_,rfl,?_⟩
   rw [decide_eq_false (show ¬ (p.u≥p.w) by omega)]
   refine iteF ?_
   refine ⟨_,rfl,_,_,rfl,rfl,_,rfl,?_⟩
   by_cases e0:i=0
   ·rw [decide_eq_false (show ¬ ((i:Int)>0) by omega)]
    exact iteF ⟨_,rfl,rfl⟩
   ·rw [decide_eq_true (show ((i:Int)>0) by omega)]
    refine iteT ?_
    obtain ⟨b,p',hp',eb,hb⟩:=at_ (i-1) (by omega)
    have ei:(i:Int)-1=((i-1:Nat):Int):=by omega
    have pw:p'.u<p.u∨(p'.u=p.u∧p'.w<p.w):=by
     have e1:=List.getElem?_eq_some_iff.mp hp'
     have e2:=List.getElem?_eq_some_iff.mp hp
     have:=(List.pairwise_iff_getElem.mp thin.2) (i-1) i e1.1 e2.1 (by omega)
     rw [e1.2,e2.2] at this
     exact this
    refine ⟨_,rfl,_,rfl,lp,_,_,_,rfl,rfl,SqL.of hl3,ea,_,rfl,_,rfl,_,_,rfl,rfl,lp,_,_,_,rfl,rfl,SqL.of hl3,by rw [ei];exact eb,a,b,_,_,_,_,rfl,rfl,SqT.of ha,SqT.of hb,_,rfl,?_⟩
    have:(if p.u=p'.u then decide (p.w≤p'.w) else decide (p.u≤p'.u))=false:=by
     split
     ·exact decide_eq_false (by omega)
     ·exact decide_eq_false (by omega)
    rw [this]
    exact iteF ⟨_,rfl,rfl⟩
  ·rintro σ H' ⟨v2,rfl,rfl⟩
   exact q _ s03
end
end K2
namespace K2
open PySem L2 Mp St Bz
theorem PipeAt.rep {K:PySem.W.Frag} {H:Hp} {v:V} {p:Pipe} (h:PipeAt K H v p):Rep K H v (.tuple [.int p.u,.int p.w,.tuple [.int p.a,.int p.b]]):=by
 obtain ⟨x,y,rfl,hx,hy⟩:=h
 exact .tup hx (.cons (.int _) (.cons (.int _) (.cons (.tup hy (.cons (.int _) (.cons (.int _) .nil))) .nil)))
def pipesD (ps:List Pipe):List PyData:=ps.map fun p=>.tuple [.int p.u,.int p.w,.tuple [.int p.a,.int p.b]]
theorem PipesAt.reps {K:PySem.W.Frag} {H:Hp}:∀ {us:List V} {ps:List Pipe},PipesAt K H us ps→Reps K H us (pipesD ps)
 | _,_,.nil=>.nil
 | _,_,.cons a b=>.cons a.rep (PipesAt.reps b)
theorem pipesD_lay:∀ ps:List Pipe,(PyData.list (pipesD ps)).canLay0=true
 | []=>rfl
 | p::ps=>pipesD_lay ps
theorem pipesD_depth (ps:List Pipe):(PyData.list (pipesD ps)).depth≤40:=by
 have key:∀ ps:List Pipe,PyData.depthAll (pipesD ps)≤2:=by
  intro ps
  induction ps with
  | nil=>show 0≤2;decide
  | cons p r ih =>
   show max _ (PyData.depthAll (pipesD r))≤2
   exact Nat.max_le.mpr ⟨by show 2≤2;decide,ih⟩
 show PyData.depthAll (pipesD ps)+1≤40
 have:=key ps
 omega
theorem pipesD_eq:∀ ps:List Pipe,PyData.eqvAll (pipesD ps) (pipesD ps)=true
 | []=>rfl
 | p::ps=>by
  show (((p.u==p.u)&&((p.w==p.w)&&((((p.a==p.a)&&((p.b==p.b)&&true)))&&true)))&&PyData.eqvAll (pipesD ps) (pipesD ps))=true
  rw [pipesD_eq ps]
  simp
theorem rNe_pipes {K:PySem.W.Frag} {H:Hp} {a b:Addr} {us vs:List V} {ps:List Pipe} {Q:V→Hp→Prop} (ha:H a=some (.lst us)) (hb:H b=some (.lst vs)) (pa:PipesAt K H us ps) (pb:PipesAt K H vs ps) (k:Q (.bl false) H):rEqD K true (.ref a) (.ref b) H Q :=
 ⟨_,_,.lst (SqL.of ha) pa.reps,.lst (SqL.of hb) pb.reps,pipesD_lay ps,pipesD_lay ps,pipesD_depth ps,by
  rw [if_pos rfl]
  have:PyData.eqv (.list (pipesD ps)) (.list (pipesD ps))=true:=pipesD_eq ps
  rw [this]
  exact k⟩
theorem rEq_pipes {K:PySem.W.Frag} {H:Hp} {a b:Addr} {us vs:List V} {ps:List Pipe} {Q:V→Hp→Prop} (ha:H a=some (.lst us)) (hb:H b=some (.lst vs)) (pa:PipesAt K H us ps) (pb:PipesAt K H vs ps) (k:Q (.bl true) H):rEqD K false (.ref a) (.ref b) H Q :=
 ⟨_,_,.lst (SqL.of ha) pa.reps,.lst (SqL.of hb) pb.reps,pipesD_lay ps,pipesD_lay ps,pipesD_depth ps,by
  rw [if_neg Bool.false_ne_true]
  have:PyData.eqv (.list (pipesD ps)) (.list (pipesD ps))=true:=pipesD_eq ps
  rw [this]
  exact k⟩
def kk (q:Int×Int):List Key:=[Sum.inl q.1,Sum.inl q.2]
theorem kk_inj {q r:Int×Int} (h:kk q=kk r):q=r:=by
 unfold kk at h
 simp only [List.cons.injEq,Sum.inl.injEq,and_true] at h
 exact Prod.ext h.1 h.2
def mm (p:Pipe):Int×Int:=(if p.w<p.u then p.w else p.u,if p.w>p.u then p.w else p.u)
theorem mm_betw {p:Pipe} (hne:p.u≠p.w):betw (mm p).1 (mm p).2 p=true:=by
 rw [betw_iff]
 unfold mm
 dsimp only
 by_cases h:p.w<p.u
 ·rw [if_pos h,if_neg (by omega)];exact .inr ⟨rfl,rfl⟩
 ·rw [if_neg h,if_pos (by omega)];exact .inl ⟨rfl,rfl⟩
theorem mm_lt {p:Pipe} (hne:p.u≠p.w):(mm p).1<(mm p).2:=by
 unfold mm
 dsimp only
 split <;> split <;> omega
theorem mm_of {p:Pipe} {x y:Int} (h:betw x y p=true) (hxy:x<y):mm p=(x,y):=by
 unfold mm
 rcases betw_iff.mp h with ⟨a,b⟩ | ⟨a,b⟩
 ·rw [if_neg (by omega),if_pos (by omega),a,b]
 ·rw [if_pos (by omega),if_neg (by omega),a,b]
theorem ez_snoc (ps:List Pipe) (p:Pipe) (x y:Int):ez (ps++[p]) x y=ez ps x y+(if betw x y p=true then ease p else 0):=by
 unfold ez
 rw [sp_append]
 simp only [sp]
 grind
theorem val_none {κ:Type} [DecidableEq κ] {k:κ}:∀ {kvs:List (κ×V)},valV kvs k=none↔k∉kvs.map (·.1)
 | []=>⟨fun _=>List.not_mem_nil,fun _=>rfl⟩
 | p::r=>by
  by_cases e:p.1=k
  ·rw [valV_pos e];simp [e]
  ·rw [valV_neg e,val_none]
   simp only [List.map_cons,List.mem_cons,not_or]
   exact ⟨fun h=>⟨fun z=>e z.symm,h⟩,fun h=>h.2⟩
theorem keys_put {κ:Type} [DecidableEq κ] {kvs:List (κ×V)} {k:κ} {v:V}:(putK kvs k v).map (·.1)=if k∈kvs.map (·.1) then kvs.map (·.1) else kvs.map (·.1)++[k]:=by
 by_cases h:k∈kvs.map (·.1)
 ·rw [if_pos h]
  unfold putK
  have:(kvs.any fun kv=>decide (kv.1=k))=true:=by
   obtain ⟨p,hp,e⟩:=List.mem_map.mp h
   exact List.any_eq_true.mpr ⟨p,hp,decide_eq_true e⟩
  rw [if_pos this,List.map_map]
  refine List.map_congr_left fun p _=>?_
  show (if p.1=k then (p.1,v) else p).1=p.1
  split <;> rfl
 ·rw [if_neg h,putK_new v (val_none.mpr h),List.map_append]
  rfl
structure EzD (K:PySem.W.Frag) (H:Hp) (d:Addr) (ps:List Pipe) (kvs:List (List Key×V)) (ks:List (Int×Int)):Prop where
 at_:H d=some (.dT kvs)
 keys:kvs.map (·.1)=ks.map kk
 mem:∀ q,q∈ks↔∃ p∈ps,mm p=q
 val:∀ q v,valV kvs (kk q)=some v→Fq K H v (ez ps q.1 q.2)
 len:ks.length≤ps.length
theorem EzD.in_ {K:PySem.W.Frag} {H:Hp} {d:Addr} {ps:List Pipe} {kvs:List (List Key×V)} {ks:List (Int×Int)} (h:EzD K H d ps kvs ks) {q:Int×Int}:kk q∈kvs.map (·.1)↔q∈ks:=by
 rw [h.keys,List.mem_map]
 exact ⟨fun ⟨r,hr,e⟩=>by rw [← kk_inj e];exact hr,fun hq=>⟨q,hq,rfl⟩⟩
theorem EzD.len_eq {K:PySem.W.Frag} {H:Hp} {d:Addr} {ps:List Pipe} {kvs:List (List Key×V)} {ks:List (Int×Int)} (h:EzD K H d ps kvs ks):kvs.length=ks.length:=by
 have:=congrArg List.length h.keys
 rwa [List.length_map,List.length_map] at this
theorem EzD.same {K:PySem.W.Frag} {H H':Hp} {d:Addr} {ps:List Pipe} {kvs:List (List Key×V)} {ks:List (Int×Int)} (h:EzD K H d ps kvs ks) (s:Same H H'):EzD K H' d ps kvs ks:=⟨s _ _ h.at_,h.keys,h.mem,fun q v e=>(h.val q v e).same s,h.len⟩
theorem EzD.put {K:PySem.W.Frag} {H:Hp} {d:Addr} {ps:List Pipe} {kvs:List (List Key×V)} {ks:List (Int×Int)} (h:EzD K H d ps kvs ks) (hps:∀ r∈ps,r.u≠r.w) {p:Pipe} (hne:p.u≠p.w) {v:V} (hv:Fq K H v (ez ps (mm p).1 (mm p).2+ease p)) :
  ∃ ks',EzD K (upd H d (.dT (putK kvs (kk (mm p)) v))) d (ps++[p]) (putK kvs (kk (mm p)) v) ks':=by
 have stay:∀ {u:V} {q:Rat},Fq K H u q→Fq K (upd H d (.dT (putK kvs (kk (mm p)) v))) u q:=fun z=>z.ne h.at_ (fun _=>nofun) (fun _ _=>nofun)
 refine ⟨if mm p∈ks then ks else ks++[mm p],upd_same,?_,fun q=>?_,fun q u e=>?_,?_⟩
 ·rw [keys_put]
  by_cases e:mm p∈ks
  ·rw [if_pos e,if_pos (h.in_.mpr e),h.keys]
  ·rw [if_neg e,if_neg (fun z=>e (h.in_.mp z)),List.map_append,h.keys];rfl
 ·have hm:=h.mem q
  by_cases e:mm p∈ks
  ·rw [if_pos e,hm]
   constructor
   ·rintro ⟨r,hr,z⟩;exact ⟨r,List.mem_append_left _ hr,z⟩
   ·rintro ⟨r,hr,z⟩
    rcases List.mem_append.mp hr with y | y
    ·exact ⟨r,y,z⟩
    ·rw [List.mem_singleton.mp y] at z
     rw [← z]
     exact (h.mem _).mp e
  ·rw [if_neg e,List.mem_append,hm,List.mem_singleton]
   constructor
   ·rintro (⟨r,hr,z⟩ | z)
    ·exact ⟨r,List.mem_append_left _ hr,z⟩
    ·exact ⟨p,by simp,z.symm⟩
   ·rintro ⟨r,hr,z⟩
    rcases List.mem_append.mp hr with y | y
    ·exact .inl ⟨r,y,z⟩
    ·rw [List.mem_singleton.mp y] at z
     exact .inr z.symm
 ·rw [valV_put] at e
  rw [ez_snoc]
  by_cases eq:kk q=kk (mm p)
  ·rw [if_pos eq] at e
   cases e
   rw [kk_inj eq,if_pos (mm_betw hne)]
   exact stay hv
  ·rw [if_neg eq] at e
   have hq:=h.in_.mp (Classical.byContradiction fun z=>by rw [val_none.mpr z] at e;cases e)
   have hlt:q.1<q.2:=by
    obtain ⟨r,hr,z⟩:=(h.mem q).mp hq
    rw [← z]
    exact mm_lt (hps r hr)
   rw [if_neg (fun z=>eq (by rw [mm_of z hlt])),Rat.add_zero]
   exact stay (h.val q u e)
 ·rw [List.length_append]
  have:=h.len
  split
  ·omega
  ·rw [List.length_append];simp;omega
theorem prs_has {m i j:Nat} (h1:i<j) (h2:j<m):(i,j)∈prs m:=by
 unfold prs
 rw [List.mem_flatMap]
 exact ⟨i,List.mem_range.mpr (by omega),List.mem_map.mpr ⟨j-(i+1),List.mem_range.mpr (by omega),by rw [show i+1+(j-(i+1))=j by omega]⟩⟩
theorem map_on {α:Type} {f:α→Int}:∀ {l m:List α},(∀ a∈l,∀ b∈m,f a=f b→a=b)→l.map f=m.map f→l=m
 | [],[],_,_=>rfl
 | [],_::_,_,e=>by simp at e
 | _::_,[],_,e=>by simp at e
 | a::l,b::m,h,e=>by
  simp only [List.map_cons,List.cons.injEq] at e
  rw [h a (by simp) b (by simp) e.1,map_on (fun a ha b hb=>h a (by simp [ha]) b (by simp [hb])) e.2]
def dueP (ps:List Pipe) (ms:List (Int×Int)):List Pipe:=ms.map fun q=>⟨q.1,q.2,(1/ez ps q.1 q.2).num,((1/ez ps q.1 q.2).den:Int)⟩
theorem slim_due {n:Nat} {ps:List Pipe} {ms:List (Int×Int)} (nc:Nice n ps) (h8:n≤8) (pw:ms.Pairwise fun a b=>pcd a<pcd b) (hm:∀ q,q∈ms↔∃ p∈ps,mm p=q):mesh (ez ps) (prs n)=dueP ps ms:=by
 have memF:∀ q:Int×Int,q∈((prs n).filter fun q=>!decide (ez ps q.1 q.2=0)).map (fun q=>((q.1:Int),(q.2:Int)))↔q∈ms:=fun q=>by
  rw [hm,List.mem_map]
  constructor
  ·rintro ⟨r,hr,rfl⟩
   obtain ⟨h1,h2⟩:=List.mem_filter.mp hr
   obtain ⟨l1,l2⟩:=prs_mem h1
   have hne:ez ps r.1 r.2≠0:=by simpa using h2
   obtain ⟨p,hp,hb⟩:=(ez_adj nc).mp hne
   exact ⟨p,hp,mm_of (betw_iff.mpr (hb.elim .inl fun z=>.inr ⟨z.2,z.1⟩)) (by omega)⟩
  ·rintro ⟨p,hp,rfl⟩
   obtain ⟨fu,fw⟩:=nc.fits p hp
   have lt:=mm_lt (nc.ne p hp)
   have b:=mm_betw (nc.ne p hp)
   have r1:0≤(mm p).1∧(mm p).2<n:=by unfold mm;dsimp only;constructor <;> split <;> omega
   refine ⟨((mm p).1.toNat,(mm p).2.toNat),List.mem_filter.mpr ⟨prs_has (by omega) (by omega),?_⟩,Prod.ext (by show (((mm p).1.toNat:Nat):Int)=_;omega) (by show (((mm p).2.toNat:Nat):Int)=_;omega)⟩
   have e1:(((mm p).1.toNat:Nat):Int)=(mm p).1:=by omega
   have e2:(((mm p).2.toNat:Nat):Int)=(mm p).2:=by omega
   have:ez ps (mm p).1 (mm p).2≠0:=(ez_adj nc).mpr ⟨p,hp,(betw_iff.mp b).elim .inl fun z=>.inr ⟨z.2,z.1⟩⟩
   show (!decide (ez ps (((mm p).1.toNat:Nat):Int) (((mm p).2.toNat:Nat):Int)=0))=true
   rw [e1,e2]
   simp [this]
 have bnd:∀ q∈ms,0≤q.2∧q.2<16:=fun q hq=>by
  obtain ⟨r,hr,rfl⟩:=List.mem_map.mp ((memF q).mpr hq)
  have:=(prs_mem (List.mem_filter.mp hr).1).2
  exact ⟨by show (0:Int)≤(r.2:Int);omega,by show (r.2:Int)<16;omega⟩
 have e:((prs n).filter fun q=>!decide (ez ps q.1 q.2=0)).map (fun q=>((q.1:Int),(q.2:Int)))=ms:=by
  refine map_on (f:=pcd) (fun a ha b hb e=>pcd_inj (bnd _ ((memF a).mp ha)) (bnd b hb) e) (rising_eq ?_ (List.Pairwise.map _ (fun {a b} h=>h) pw) fun x=>?_)
  ·rw [List.map_map]
   have pwl:((prs n).filter fun q=>!decide (ez ps q.1 q.2=0)).Pairwise fun q r=>(q.1<r.1∨(q.1=r.1∧q.2<r.2))∧q.2<16∧r.2<16:=by
    refine List.Pairwise.filter _ ?_
    refine List.Pairwise.imp_of_mem (fun {a b} ha hb h=>⟨h,?_,?_⟩) (prs_pw n)
    ·have:=(prs_mem ha).2;omega
    ·have:=(prs_mem hb).2;omega
   refine List.Pairwise.map _ (fun {a b} h=>?_) pwl
   show pcd ((a.1:Int),(a.2:Int))<pcd ((b.1:Int),(b.2:Int))
   unfold pcd
   dsimp only
   omega
  ·constructor
   ·intro h
    obtain ⟨q,hq,rfl⟩:=List.mem_map.mp h
    exact List.mem_map.mpr ⟨q,(memF q).mp hq,rfl⟩
   ·intro h
    obtain ⟨q,hq,rfl⟩:=List.mem_map.mp h
    exact List.mem_map.mpr ⟨q,(memF q).mpr hq,rfl⟩
 unfold mesh dueP
 rw [← e,List.map_map]
 rfl
end K2
namespace K2
open PySem L2 Mp St Bz
def spLSlim (K:PySem.W.Frag) (C:Addr):Sp:=fun vs H Q _=>∃ (x L t l:Addr) (n:Nat) (ps:List Pipe),vs=[.ref x,.ref t]∧NetAt K C H x L n ps∧Told K H t l n ps∧Sm8 n ps∧∀ H',Same H H'→Q (.bl true) H'
section
variable {P:Program} {w:World} {K:PySem.W.Frag} {mg:Str→Option Value} {base:Heap} {C CN f fa fb fc fo fp ft:Addr} {fd fda fdb fdc fdo fdp fdt:FuncData} {t1 t2 t3:Tok}
theorem ok_lslim (F:Fun K "_law_slim" "_law_slim" s__law_slim f fd) (T:Txt K mg C t1 t2 t3)
  (t_pipes:Meth K C "pipes" fp) (b_pipes:Binds K fdp ["self"] []) (G_pipes:FnOk P w K mg base CX0 1 fp fdp ["self"] (spPipes K C))
  (m_slim:mg "slim" = some (.ref fa)) (k_slim:PySem.W.keepIn K (.ref fa)=true) (b_slim:Binds K fda ["net"] []) (G_slim:FnOk P w K mg base CX0 10 fa fda ["net"] (spSlim K C))
  (m__law_thin:mg "_law_thin" = some (.ref fb)) (k__law_thin:PySem.W.keepIn K (.ref fb)=true) (b__law_thin:Binds K fdb ["_law_net"] []) (G__law_thin:FnOk P w K mg base CX0 2 fb fdb ["_law_net"] (spThin K C))
  (m_plus:mg "plus" = some (.ref ft)) (k_plus:PySem.W.keepIn K (.ref ft)=true) (b_plus:Binds K fdt ["one","other"] []) (G_plus:FnOk P w K mg base CX0 3 ft fdt ["one","other"] (spBin K (·+·) fun _=>True))
  (m_over:mg "over" = some (.ref fo)) (k_over:PySem.W.keepIn K (.ref fo)=true) (b_over:Binds K fdo ["one","other"] []) (G_over:FnOk P w K mg base CX0 3 fo fdo ["one","other"] (spBin K (· / ·) fun r=>r≠0)):FnOk P w K mg base CX0 11 f fd ["_law_net","_law_told_here"] (spLSlim K C):=by
 refine F.ok sc__law_slim (fun vs H Q E h=>?_) (fun cdv A outer s H vs Q E hr h=>?_)
 ·obtain ⟨x,L,t,l,n,ps,rfl,_⟩:=h
  rfl
 ·obtain ⟨x,L,t,l,n,ps,rfl,net,told,sm8,q⟩:=h
  have hu:=hu_of hr
  obtain ⟨ht,⟨us,hl,hp⟩,ok⟩:=id told
  have hle:=ok.le
  have n8:=ok.n8
  have sm:=sm8.sm ok
  have okS:=slim_ok sm8 ok
  have hus:us.length=ps.length:=Paired.length hp
  have l8:=sm8.2.1
  refine ⟨_,(pss_cons (ps_set (i:=2) sc__law_slim.nd rfl (Or.inl rfl) (pe_call G_slim (hr.mono (by decide)) rfl m_slim k_slim b_slim .nil pass0 (pa_cons (pv 0) pa_nil)))
   (pss_cons (ps_if (PW.pt (pw_or (pt_cmpR op_ne (pe_fld (pv 2) rfl) (pe_ix ix_tup (pv 1) pe_int (fun _ _=>rfl)) (nomark _)) (pw_or (pt_not (pt_val (pe_call G__law_thin (hr.mono (by decide)) rfl m__law_thin k__law_thin b__law_thin .nil pass0 (pa_cons (pv 2) pa_nil)))) (pw_or1 (pt_cmpR (op_neD hr.units) (pe_meth0 (pv 0) T.c_Net t_pipes G_pipes (hr.mono (by decide)) b_pipes .nil pass0) (pe_ix ix_tup (pv 1) pe_int (fun _ _=>rfl)) (nomark _)))))) (pss_one (ps_ret pe_bl)) pss_nil)
   (pss_cons (ps_set (i:=3) sc__law_slim.nd rfl (Or.inr rfl) pe_dnewT)
   (pss_cons (ps_for PassesOwn.never rfl (pi_list (pe_ix ix_tup (pv 1) pe_int (fun _ _=>rfl))) (pg_tup (n:=3) rfl (pgs_cons (pg_name (i:=4) sc__law_slim.nd rfl (Or.inl rfl)) (pgs_cons (pg_name (i:=5) sc__law_slim.nd rfl (Or.inl rfl)) (pgs_cons (pg_name (i:=6) sc__law_slim.nd rfl (Or.inl rfl)) pgs_nil)))) (pss_cons (ps_set (i:=7) sc__law_slim.nd rfl (Or.inl rfl) (pe_tup (pa_cons (pe_callB (call_min2 rfl) (by rfl) T.n_min bt_min (pa_cons (pv 4) (pa_cons (pv 5) pa_nil))) (pa_cons (pe_callB (call_max2 rfl) (by rfl) T.n_max bt_max (pa_cons (pv 4) (pa_cons (pv 5) pa_nil))) pa_nil))))
   (pss_one (ps_dput hu (pv 3) (pv 7) (pe_call G_plus (hr.mono (by decide)) rfl m_plus k_plus b_plus .nil pass0 (pa_cons (pe_dget2 hu (pv 3) (pv 7) (pe_tup (pa_cons pe_int (pa_cons pe_int pa_nil))) ⟨rfl,rfl,rfl,rfl⟩) (pa_cons (pe_call G_over (hr.mono (by decide)) rfl m_over k_over b_over .nil pass0 (pa_cons (pe_tup (pa_cons pe_int (pa_cons pe_int pa_nil))) (pa_cons (pv 6) pa_nil))) pa_nil))) rfl))))
   (pss_cons (ps_setC (i:=8) ["_law_pair"] [3] rfl rfl (by kernel_rfl) sc__law_slim.nd rfl rfl (pi_list (pe_callB (call_sortedT rfl) (by rfl) T.n_sorted bt_sorted (pa_cons (pv 3) pa_nil))) (fun _ _ _ _=>(pg_name (i:=0) (show (["_law_pair","_law_eases"]:List Str).Nodup by decide +kernel) rfl (Or.inl rfl))) (fun _ _ _ _=>gk_name) (fun _ _ _ _=>pf_nil) (fun _ _ _ _=>(pe_tup (pa_cons (pe_ix ix_tup (pv 0) pe_int (fun _ _=>rfl)) (pa_cons (pe_ix ix_tup (pv 0) pe_int (fun _ _=>rfl)) (pa_cons (pe_call G_over (hr.mono (by decide)) rfl m_over k_over b_over .nil pass0 (pa_cons (pe_tup (pa_cons pe_int (pa_cons pe_int pa_nil))) (pa_cons (pe_dget hu (pv 1) (pv 0) (fun _ _=>rfl)) pa_nil))) pa_nil))))))
   (pss_one (ps_ret (pe_cmpR (op_eqD hr.units) (pe_meth0 (pv 2) T.c_Net t_pipes G_pipes (hr.mono (by decide)) b_pipes .nil pass0) (pv 8) (nomark _))))))))),?_⟩
  refine ⟨_,rfl,x,L,n,ps,rfl,net,ok,sm,okS,fun H1 x' L' s1 net'=>?_⟩
  obtain ⟨⟨dx',h1'⟩,_⟩:=id net'
  obtain ⟨⟨dx,h1⟩,_⟩:=id net
  refine ⟨_,rfl,x',C,dx',_,_,rfl,h1',T.c_Net,T.a_size,flds_size _ _,_,rfl,t,_,_,_,rfl,rfl,SqT.of (s1 _ _ ht),rfl,rfl,_,rfl,?_⟩
  rw [decide_eq_true (show V.int (n:Int)=V.int (n:Int) from rfl)]
  refine iteF ?_
  refine ⟨_,rfl,x',L',n,_,rfl,net',okS.le,mesh_thin _ _,fun H2 s2=>⟨_,rfl,iteF ?_⟩⟩
  have s12:=s1.trans s2
  refine ⟨_,rfl,x,dx,_,rfl,s12 _ _ h1,flds_no _ _ (by decide +kernel) (by decide +kernel),x,L,n,ps,rfl,net.same s12,fun r ur hr1 pa=>?_⟩
  have s3:=same_upd (o:=.lst ur) hr1
  have hr3:(upd H2 r (.lst ur)) r=some (.lst ur):=upd_same
  have pa3:=PipesAt.same s3 pa
  have s03:=s12.trans s3
  generalize upd H2 r (.lst ur)=H3 at s3 hr3 pa3 s03 ⊢
  refine ⟨_,rfl,t,_,_,_,rfl,rfl,SqT.of (s03 _ _ ht),rfl,rNe_pipes hr3 (s03 _ _ hl) pa3 (PipesAt.same s03 hp) ⟨_,rfl,iteF ?_⟩⟩
  intro d hd
  have s4:=same_upd (o:=.dT []) hd
  have hd4:(upd H3 d (.dT [])) d=some (.dT []):=upd_same
  have s04:=s03.trans s4
  have net4:=(net'.same s2).same (s3.trans s4)
  generalize upd H3 d (.dT [])=H4 at s4 hd4 s04 net4 ⊢
  have hd0:∀ {b o},H3 b=some o→b≠d:=fun e=>ne_of_none e hd
  refine ⟨_,rfl,t,_,_,_,rfl,rfl,SqT.of (s04 _ _ ht),rfl,l,rfl,⟨_,SqL.of (s04 _ _ hl)⟩,for_list (K:=K) (a:=l) (xs:=us) (fun i σ H'=>∃ (v4 v5 v6 v7:Option V) (kvs:List (List Key×V)) (ks:List (Int×Int)),σ=[some (.ref x),some (.ref t),some (.ref x'),some (.ref d),v4,v5,v6,v7,none]∧Same H3 H'∧EzD K H' d (ps.take i) kvs ks)
   ⟨none,none,none,none,[],[],rfl,s4,⟨hd4,rfl,fun q=>⟨(fun h=>nomatch h),fun ⟨p,hp,_⟩=>by simp at hp⟩,(fun q v e=>nomatch e),Nat.le_refl _⟩⟩ (fun i σ H' _ ⟨_,_,_,_,_,_,_,z,_⟩=>SqL.of ((s03.trans z) _ _ hl)) ?_ ?_⟩
  ·rintro i v σ H' hv ⟨v4,v5,v6,v7,kvs,ks,rfl,sx,ed⟩
   obtain ⟨p,hpi,⟨x3,y3,rfl,hx3,hy3⟩⟩:=(PipesAt.same (s03.trans sx) hp).get hv
   have pm:=List.mem_of_getElem? hpi
   have pok:=ok.ok p pm
   have htk:ps.take (i+1)=ps.take i++[p]:=by rw [List.take_succ,hpi];rfl
   have hi:i<ps.length:=(List.getElem?_eq_some_iff.mp hpi).1
   obtain ⟨bh,be⟩:=pok.btq (k:=31) (by have:=pok.aM;omega) (by have:=pok.bM;omega)
   refine ⟨x3,_,rfl,hx3,rfl,_,_,rfl,_,_,rfl,_,_,rfl,rfl,?_⟩
   refine ⟨_,rfl,_,rfl,_,_,rfl,_,rfl,_,rfl,_,_,rfl,by show 2≤sizeLine;decide,fun tp htp=>?_⟩
   have sa:=same_upd (o:=.tup [.int (if p.w<p.u then p.w else p.u),.int (if p.w>p.u then p.w else p.u)]) htp
   have htpa:(upd H' tp (.tup [.int (if p.w<p.u then p.w else p.u),.int (if p.w>p.u then p.w else p.u)])) tp=some (.tup [.int (mm p).1,.int (mm p).2]):=upd_same
   have eda:=ed.same sa
   have hy3a:=Same.tup sa hy3
   have sxa:=sx.trans sa
   generalize upd H' tp (.tup [.int (if p.w<p.u then p.w else p.u),.int (if p.w>p.u then p.w else p.u)])=Ha at sa htpa eda hy3a sxa ⊢
   refine ⟨_,rfl,d,rfl,.inr ⟨kvs,.inl eda.at_⟩,_,rfl,by show 2≤sizeLine;decide,fun t0 ht0=>⟨valV kvs (kk (mm p)),DGet.t (k:=kk (mm p)) (same_upd ht0 _ _ eda.at_) (same_upd ht0 _ _ htpa),?_⟩⟩
   have sb:=same_upd (o:=.tup [.int 0,.int 1]) ht0
   have edb:=eda.same sb
   have htpb:=sb _ _ htpa
   have hy3b:=Same.tup sb hy3a
   have hz:Fq K (upd Ha t0 (.tup [.int 0,.int 1])) (.ref t0) 0:=zero_fq upd_same
   have sxb:=sxa.trans sb
   have f1:Fq K (upd Ha t0 (.tup [.int 0,.int 1])) ((valV kvs (kk (mm p))).getD (.ref t0)) (ez (ps.take i) (mm p).1 (mm p).2):=by
    cases e:valV kvs (kk (mm p)) with
    | some v=>exact edb.val _ _ e
    | none =>
     have no:mm p∉ks:=fun z=>val_none.mp e (ed.in_.mpr z)
     have:ez (ps.take i) (mm p).1 (mm p).2=0:=sp_zero fun r hr=>if_neg fun z=>no ((ed.mem _).mpr ⟨r,hr,mm_of z (mm_lt pok.ne)⟩)
     rw [this]
     exact hz
   generalize upd Ha t0 (.tup [.int 0,.int 1])=Hb at sb edb htpb hy3b hz sxb f1 ⊢
   refine ⟨by show 2≤sizeLine;decide,fun t1 ht1=>?_⟩
   have sc:=same_upd (o:=.tup [.int 1,.int 1]) ht1
   refine ⟨_,rfl,.ref t1,.ref y3,1,hard p,4000,rfl,one_fq upd_same,pok.fq (Same.tup sc hy3b),hard_ne pok.a1 pok.b1,by decide,btq1.mono (by decide),bh.mono (by decide),fun c hc=>?_⟩
   have sd:=same_upd (o:=.tup [.int (1/hard p:Rat).num,.int ((1/hard p:Rat).den:Int)]) hc
   have bez:BtQ 900 (ez (ps.take i) (mm p).1 (mm p).2):=by
    rw [← ez_sum]
    exact sm.sum hle (List.filter_sublist.trans (List.take_sublist _ _))
   refine ⟨(valV kvs (kk (mm p))).getD (.ref t0),.ref c,_,1/hard p,4000,rfl,(f1.same sc).same sd,Fq.new,trivial,by decide,bez.mono (by decide),by rw [ease_as pok.a1 pok.b1];exact be.mono (by decide),fun c2 hc2=>?_⟩
   have se:=same_upd (o:=.tup [.int (ez (ps.take i) (mm p).1 (mm p).2+1/hard p:Rat).num,.int ((ez (ps.take i) (mm p).1 (mm p).2+1/hard p:Rat).den:Int)]) hc2
   have sbe:=(sc.trans sd).trans se
   have fv:Fq K (upd (upd (upd Hb t1 (.tup [.int 1,.int 1])) c (.tup [.int (1/hard p:Rat).num,.int ((1/hard p:Rat).den:Int)])) c2 (.tup [.int (ez (ps.take i) (mm p).1 (mm p).2+1/hard p:Rat).num,.int ((ez (ps.take i) (mm p).1 (mm p).2+1/hard p:Rat).den:Int)])) (.ref c2) (ez (ps.take i) (mm p).1 (mm p).2+ease p):=by
    rw [← ease_as pok.a1 pok.b1]
    exact Fq.new
   have ede:=edb.same sbe
   have htpe:=sbe _ _ htpb
   have sxe:=sxb.trans sbe
   generalize upd (upd (upd Hb t1 (.tup [.int 1,.int 1])) c (.tup [.int (1/hard p:Rat).num,.int ((1/hard p:Rat).den:Int)])) c2 (.tup [.int (ez (ps.take i) (mm p).1 (mm p).2+1/hard p:Rat).num,.int ((ez (ps.take i) (mm p).1 (mm p).2+1/hard p:Rat).den:Int)])=He at sbe fv ede htpe sxe ⊢
   have hkl:kvs.length≤28:=by
    have h1:=ed.len
    have h2:=ed.len_eq
    rw [List.length_take] at h1
    omega
   refine ⟨_,rfl,_,rfl,d,_,rfl,DPut.t (k:=kk (mm p)) ede.at_ htpe (small1000 (by omega)),?_⟩
   obtain ⟨ks',ed'⟩:=ede.put (fun r hr=>(ok.ok r (List.mem_of_mem_take hr)).ne) pok.ne fv
   refine ⟨_,_,_,_,putK kvs (kk (mm p)) (.ref c2),ks',rfl,fun b o eb=>by rw [upd_ne (hd0 eb)];exact sxe _ _ eb,?_⟩
   rw [htk]
   exact ed'
  rintro σ H5 ⟨v4,v5,v6,v7,kvs,ks,rfl,s5,ed⟩
  rw [hus,List.take_length] at ed
  have hb16:∀ q∈ks,0≤q.2∧q.2<16:=fun q hq=>by
   obtain ⟨p,hp,rfl⟩:=(ed.mem q).mp hq
   have pok:=ok.ok p hp
   have h1:=pok.u0
   have h2:=pok.un
   have h3:=pok.w0
   have h4:=pok.wn
   unfold mm
   dsimp only
   constructor <;> split <;> omega
  have hkl:=ed.len
  refine ⟨_,rfl,d,ks,kvs,rfl,ed.at_,ed.keys,by omega,hb16,fun l2 as ms hl2 pm pw pr=>?_⟩
  have s6:=same_upd (o:=.lst as) hl2
  have hl6:(upd H5 l2 (.lst as)) l2=some (.lst as):=upd_same
  have ed6:=ed.same s6
  have pr6:Paired (PrT (upd H5 l2 (.lst as))) as ms:=Paired.mapP pr fun _ _ ⟨a,e,z⟩=>⟨a,e,s6 _ _ z⟩
  have s36:=s5.trans s6
  have hasl:as.length=ms.length:=Paired.length pr
  have hml:ms.length=ks.length:=pm.length_eq
  generalize upd H5 l2 (.lst as)=H6 at s6 hl6 ed6 pr6 s36 ⊢
  refine ⟨l2,rfl,⟨_,SqL.of hl6⟩,comp_list (K:=K) (a:=l2) (xs:=as) (fun i ys H'=>Same H6 H'∧PipesAt K H' ys (dueP ps (ms.take i))) ⟨Same.refl _,.nil⟩ (small1000 (by omega)) ?_ ?_ ?_⟩
  ·rintro i ys H' hi ⟨s7,hY⟩
   refine ⟨?_,SqL.of (s7 _ _ hl6)⟩
   rw [Paired.length hY]
   unfold dueP
   rw [List.length_map,List.length_take]
   exact Nat.min_le_left _ _
  ·rintro i v ys H' N hv ⟨s7,hY⟩ hN C' s₀ H₀ ex
   obtain ⟨qq,hqi,⟨a,rfl,ha⟩⟩:=Paired.get' pr6 hv
   have ha7:=s7 _ _ ha
   have ed7:=ed6.same s7
   have hin:qq∈ks:=pm.mem_iff.mp (List.mem_of_getElem? hqi)
   obtain ⟨p,hp,hmp⟩:=(ed.mem qq).mp hin
   have hez:ez ps qq.1 qq.2≠0:=(ez_adj ok.nice).mpr ⟨p,hp,by rw [← hmp];exact (betw_iff.mp (mm_betw (ok.ok p hp).ne)).elim .inl fun z=>.inr ⟨z.2,z.1⟩⟩
   obtain ⟨vv,hvv⟩:∃ vv,valV kvs (kk qq)=some vv:=by
    cases e:valV kvs (kk qq) with
    | some vv=>exact ⟨vv,rfl⟩
    | none=>exact absurd (ed.in_.mpr hin) (val_none.mp e)
   have htk:ms.take (i+1)=ms.take i++[qq]:=by rw [List.take_succ,hqi];rfl
   dsimp only [tNoTest,gName]
   refine iteT ?_
   refine ⟨_,rfl,a,_,_,_,rfl,rfl,SqT.of ha7,rfl,_,rfl,a,_,_,_,rfl,rfl,SqT.of ha7,rfl,by show 2≤sizeLine;decide,fun t1 ht1=>?_⟩
   have sa:=same_upd (o:=.tup [.int 1,.int 1]) ht1
   have fv:=(ed7.val _ _ hvv).same sa
   refine ⟨_,rfl,_,rfl,d,vv,rfl,by rw [← hvv];exact DGet.t (k:=kk qq) (sa _ _ ed7.at_) (sa _ _ ha7),?_⟩
   refine ⟨.ref t1,vv,1,_,4000,rfl,one_fq upd_same,fv,hez,by decide,btq1.mono (by decide),(sm.ez hle _ _).mono (by decide),fun c hc=>?_⟩
   have sb:=same_upd (o:=.tup [.int (1/ez ps qq.1 qq.2:Rat).num,.int ((1/ez ps qq.1 qq.2:Rat).den:Int)]) hc
   refine ⟨by show 3≤sizeLine;decide,fun t6 ht6=>?_⟩
   have sc:=same_upd (o:=.tup [.int qq.1,.int qq.2,.ref c]) ht6
   have sac:=(sa.trans sb).trans sc
   refine hN _ _ ⟨s7.trans sac,?_⟩
   rw [htk]
   unfold dueP
   rw [List.map_append]
   exact PipesAt.snoc (PipesAt.same sac hY) ⟨t6,c,rfl,SqT.of upd_same,SqT.of (sc _ _ upd_same)⟩
  rintro ys H7 ⟨s7,hY⟩ ld hld
  rw [hasl,List.take_length] at hY
  have s8:=same_upd (o:=.lst ys) hld
  have hl8:(upd H7 ld (.lst ys)) ld=some (.lst ys):=upd_same
  have hY8:=PipesAt.same s8 hY
  have s38:=(s36.trans s7).trans s8
  generalize upd H7 ld (.lst ys)=H8 at s8 hl8 hY8 s38 ⊢
  have nt8:=((net'.same s2).same s3).same s38
  have e:=slim_due ok.nice (by omega) pw fun q=>(pm.mem_iff).trans (ed.mem q)
  refine ⟨_,rfl,x',dx',_,rfl,(s2.trans (s3.trans s38)) _ _ h1',flds_no _ _ (by decide +kernel) (by decide +kernel),x',L',n,_,rfl,nt8,fun r9 u9 hr9 pa9=>?_⟩
  have s9:=same_upd (o:=.lst u9) hr9
  rw [← e] at hY8
  exact ⟨_,rfl,rEq_pipes upd_same (s9 _ _ hl8) (PipesAt.same s9 pa9) (PipesAt.same s9 hY8) (q _ ((s03.trans s38).trans s9))⟩
end
end K2
namespace K2
open PySem L2 Mp St Bz
section
structure Calls2 (P:Program) (w:World) (K:PySem.W.Frag) (mg:Str→Option Value) (base:Heap) (C CN fx0 fx1 fx2 fx3 fx4 fx5 fx6 fx7 fx8:Addr) (fdx0 fdx1 fdx2 fdx3 fdx4 fdx5 fdx6 fdx7 fdx8:FuncData):Prop where
 m__law_told:mg "_law_told" = some (.ref fx0)
 k__law_told:PySem.W.keepIn K (.ref fx0)=true
 b__law_told:Binds K fdx0 ["_law_script","_law_first","_law_most"] []
 G__law_told:FnOk P w K mg base CX0 2 fx0 fdx0 ["_law_script","_law_first","_law_most"] (spTold K)
 M_Net:Mk K C fx1
 m_Net:mg "Net" = some (.ref C)
 b_Net:Binds K fdx1 ["self","places","pipes"] []
 G_Net:FnOk P w K mg base CX0 6 fx1 fdx1 ["self","places","pipes"] (spInit K C)
 m__law_cell_at:mg "_law_cell_at" = some (.ref fx2)
 k__law_cell_at:PySem.W.keepIn K (.ref fx2)=true
 b__law_cell_at:Binds K fdx2 ["_law_script","_law_k"] []
 G__law_cell_at:FnOk P w K mg base CX0 1 fx2 fdx2 ["_law_script","_law_k"] (spCell K)
 m__law_slim:mg "_law_slim" = some (.ref fx3)
 k__law_slim:PySem.W.keepIn K (.ref fx3)=true
 b__law_slim:Binds K fdx3 ["_law_net","_law_told_here"] []
 G__law_slim:FnOk P w K mg base CX0 11 fx3 fdx3 ["_law_net","_law_told_here"] (spLSlim K C)
 m__law_refused:mg "_law_refused" = some (.ref fx4)
 k__law_refused:PySem.W.keepIn K (.ref fx4)=true
 b__law_refused:Binds K fdx4 ["_law_net","_law_at"] []
 G__law_refused:FnOk P w K mg base CX0 11 fx4 fdx4 ["_law_net","_law_at"] (spRefused K C)
 m_taken_out:mg "taken_out" = some (.ref fx5)
 k_taken_out:PySem.W.keepIn K (.ref fx5)=true
 b_taken_out:Binds K fdx5 ["net","at"] []
 G_taken_out:FnOk P w K mg base (CXX P w) 10 fx5 fdx5 ["net","at"] (spOut K C CN)
 m__law_thin:mg "_law_thin" = some (.ref fx6)
 k__law_thin:PySem.W.keepIn K (.ref fx6)=true
 b__law_thin:Binds K fdx6 ["_law_net"] []
 G__law_thin:FnOk P w K mg base CX0 2 fx6 fdx6 ["_law_net"] (spThin K C)
 t_pipes:Meth K C "pipes" fx7
 b_pipes:Binds K fdx7 ["self"] []
 G_pipes:FnOk P w K mg base CX0 1 fx7 fdx7 ["self"] (spPipes K C)
 m_hardness_of:mg "hardness_of" = some (.ref fx8)
 k_hardness_of:PySem.W.keepIn K (.ref fx8)=true
 b_hardness_of:Binds K fdx8 ["net","one","other"] []
 G_hardness_of:FnOk P w K mg base CX0 7 fx8 fdx8 ["net","one","other"] (spHardOf K C)
variable {P:Program} {w:World} {K:PySem.W.Frag} {mg:Str→Option Value} {base:Heap} {f C CN fx0 fx1 fx2 fx3 fx4 fx5 fx6 fx7 fx8:Addr} {fd fdx0 fdx1 fdx2 fdx3 fdx4 fdx5 fdx6 fdx7 fdx8:FuncData} {t1 t2 t3:Tok}
set_option maxHeartbeats 40000000 in
noncomputable def der_law {cdv:Value} {A:Around} {outer:List Env} {s:Shared} {H:Hp} {E:XK} (hr:Room 12 (A.deeper (PyProof.Rows.envOfC "law" (defScope s_law) s.heap.objs.size f cdv))) (T:Txt K mg C t1 t2 t3) (cs:Calls2 P w K mg base C CN fx0 fx1 fx2 fx3 fx4 fx5 fx6 fx7 fx8 fdx0 fdx1 fdx2 fdx3 fdx4 fdx5 fdx6 fdx7 fdx8) :
  (t:TS) ×' PSs (cxOf CX0 P w K mg base ["_law_script","_law_told_here","_law_net","_law_at","_law_found","_law_left","_law_first","_law_one","_law_other"] "law" (defScope s_law) f cdv A outer s H E).nox (defBody s_law) t:=by
 have m__law_told:=cs.m__law_told
 have k__law_told:=cs.k__law_told
 have b__law_told:=cs.b__law_told
 have G__law_told:=cs.G__law_told
 have M_Net:=cs.M_Net
 have m_Net:=cs.m_Net
 have b_Net:=cs.b_Net
 have G_Net:=cs.G_Net
 have m__law_cell_at:=cs.m__law_cell_at
 have k__law_cell_at:=cs.k__law_cell_at
 have b__law_cell_at:=cs.b__law_cell_at
 have G__law_cell_at:=cs.G__law_cell_at
 have m__law_slim:=cs.m__law_slim
 have k__law_slim:=cs.k__law_slim
 have b__law_slim:=cs.b__law_slim
 have G__law_slim:=cs.G__law_slim
 have m__law_refused:=cs.m__law_refused
 have k__law_refused:=cs.k__law_refused
 have b__law_refused:=cs.b__law_refused
 have G__law_refused:=cs.G__law_refused
 have m_taken_out:=cs.m_taken_out
 have k_taken_out:=cs.k_taken_out
 have b_taken_out:=cs.b_taken_out
 have G_taken_out:=cs.G_taken_out
 have m__law_thin:=cs.m__law_thin
 have k__law_thin:=cs.k__law_thin
 have b__law_thin:=cs.b__law_thin
 have G__law_thin:=cs.G__law_thin
 have t_pipes:=cs.t_pipes
 have b_pipes:=cs.b_pipes
 have G_pipes:=cs.G_pipes
 have m_hardness_of:=cs.m_hardness_of
 have k_hardness_of:=cs.k_hardness_of
 have b_hardness_of:=cs.b_hardness_of
 have G_hardness_of:=cs.G_hardness_of
 exact ⟨_,(pss_cons (ps_set (i:=1) sc_law.nd rfl (Or.inl rfl) (pe_call G__law_told (hr.mono (by decide)) rfl m__law_told k__law_told b__law_told .nil pass0 (pa_cons (pv 0) (pa_cons pe_int (pa_cons pe_int pa_nil)))))
   (pss_cons (ps_set (i:=2) sc_law.nd rfl (Or.inl rfl) (pe_make M_Net G_Net (hr.mono (by decide)) rfl m_Net b_Net .nil pass0 (pa_cons (pe_ix ix_tup (pv 1) pe_int (fun _ _=>rfl)) (pa_cons (pe_ix ix_tup (pv 1) pe_int (fun _ _=>rfl)) pa_nil))))
   (pss_cons (ps_set (i:=3) sc_law.nd rfl (Or.inr rfl) (pe_op op_mod (pe_call G__law_cell_at (hr.mono (by decide)) rfl m__law_cell_at k__law_cell_at b__law_cell_at .nil pass0 (pa_cons (pv 0) (pa_cons pe_int pa_nil))) (pe_ix ix_tup (pv 1) pe_int (fun _ _=>rfl))))
   (pss_cons (ps_if (PW.pt (pw_or (pt_not (pt_val (pe_call G__law_slim (hr.mono (by decide)) rfl m__law_slim k__law_slim b__law_slim .nil pass0 (pa_cons (pv 2) (pa_cons (pv 1) pa_nil))))) (pw_or1 (pt_not (pt_val (pe_call G__law_refused (hr.mono (by decide)) rfl m__law_refused k__law_refused b__law_refused .nil pass0 (pa_cons (pv 2) (pa_cons (pe_ix ix_tup (pv 1) pe_int (fun _ _=>rfl)) pa_nil)))))))) (pss_one (ps_ret pe_bl)) pss_nil)
   (pss_cons (ps_if (pt_cmpR op_eq (pe_ix ix_tup (pv 1) pe_int (fun _ _=>rfl)) pe_int (nomark _)) (pss_one (ps_ret (pe_call G__law_refused (hr.mono (by decide)) rfl m__law_refused k__law_refused b__law_refused .nil pass0 (pa_cons (pv 2) (pa_cons pe_int pa_nil))))) pss_nil)
   (pss_cons (ps_set (i:=4) sc_law.nd rfl (Or.inl rfl) (pe_call G_taken_out (hr.mono (by decide)) rfl m_taken_out k_taken_out b_taken_out .nil passF (pa_cons (pv 2) (pa_cons (pv 3) pa_nil))))
   (pss_cons (ps_if (PW.pt (pw_or (pt_cmpR op_ne (pe_fld (pv 4) rfl) (pe_op op_sub (pe_ix ix_tup (pv 1) pe_int (fun _ _=>rfl)) pe_int) (nomark _)) (pw_or (pt_not (pt_val (pe_call G__law_thin (hr.mono (by decide)) rfl m__law_thin k__law_thin b__law_thin .nil pass0 (pa_cons (pv 4) pa_nil)))) (pw_or1 (pt_cmpR (op_neD hr.units) (pe_meth0 (pv 2) T.c_Net t_pipes G_pipes (hr.mono (by decide)) b_pipes .nil pass0) (pe_ix ix_tup (pv 1) pe_int (fun _ _=>rfl)) (nomark _)))))) (pss_one (ps_ret pe_bl)) pss_nil)
   (pss_cons (ps_setC (i:=5) ["_law_place"] [3] rfl rfl (by kernel_rfl) sc_law.nd rfl rfl (pi_range1 rfl T.n_range (pa_cons (pe_ix ix_tup (pv 1) pe_int (fun _ _=>rfl)) pa_nil)) (fun _ _ _ _=>(pg_name (i:=0) (show (["_law_place","_law_at"]:List Str).Nodup by decide +kernel) rfl (Or.inl rfl))) (fun _ _ _ _=>gk_name) (fun _ _ _ _=>(pf_one (pt_cmpR op_ne (pv 0) (pv 1) (nomark _)))) (fun _ _ _ _=>(pv 0)))
   (pss_cons (ps_for PassesOwn.never rfl (pi_list (pe_lst (pa_cons pe_int (pa_cons pe_int pa_nil)))) (pg_name (i:=6) sc_law.nd rfl (Or.inl rfl)) (pss_cons (ps_set (i:=7) sc_law.nd rfl (Or.inl rfl) (pe_op op_mod (pe_call G__law_cell_at (hr.mono (by decide)) rfl m__law_cell_at k__law_cell_at b__law_cell_at .nil pass0 (pa_cons (pv 0) (pa_cons (pv 6) pa_nil))) (pe_callB call_len_seq (by rfl) T.n_len bt_len (pa_cons (pv 5) pa_nil))))
   (pss_cons (ps_set (i:=8) sc_law.nd rfl (Or.inl rfl) (pe_op op_mod (pe_op op_add (pv 7) (pe_call G__law_cell_at (hr.mono (by decide)) rfl m__law_cell_at k__law_cell_at b__law_cell_at .nil pass0 (pa_cons (pv 0) (pa_cons (pe_op op_add (pv 6) pe_int) pa_nil)))) (pe_callB call_len_seq (by rfl) T.n_len bt_len (pa_cons (pv 5) pa_nil))))
   (pss_one (ps_if (pt_cmpR (op_neD hr.units) (pe_call G_hardness_of (hr.mono (by decide)) rfl m_hardness_of k_hardness_of b_hardness_of .nil pass0 (pa_cons (pv 4) (pa_cons (pv 7) (pa_cons (pv 8) pa_nil)))) (pe_call G_hardness_of (hr.mono (by decide)) rfl m_hardness_of k_hardness_of b_hardness_of .nil pass0 (pa_cons (pv 2) (pa_cons (pe_ix ix_list (pv 5) (pv 7) (fun _ _=>rfl)) (pa_cons (pe_ix ix_list (pv 5) (pv 8) (fun _ _=>rfl)) pa_nil)))) (nomark _)) (pss_one (ps_ret pe_bl)) pss_nil)))))
   (pss_one (ps_ret pe_bl)))))))))))⟩
end
end K2
namespace K2
open PySem L2 Mp St Bz
def spLaw (K:PySem.W.Frag):Sp:=fun vs H Q _=>∃ (a:Addr) (ns:List Int),vs=[.ref a]∧SqL K H a (ns.map V.int)∧ns.length≤63∧∀ H',Q (.bl true) H'
section
variable {P:Program} {w:World} {K:PySem.W.Frag} {mg:Str→Option Value} {base:Heap} {f C CN fx0 fx1 fx2 fx3 fx4 fx5 fx6 fx7 fx8:Addr} {fd fdx0 fdx1 fdx2 fdx3 fdx4 fdx5 fdx6 fdx7 fdx8:FuncData} {t1 t2 t3:Tok}
theorem ok_law (F:Fun K "law" "law" s_law f fd) (T:Txt K mg C t1 t2 t3) (cs:Calls2 P w K mg base C CN fx0 fx1 fx2 fx3 fx4 fx5 fx6 fx7 fx8 fdx0 fdx1 fdx2 fdx3 fdx4 fdx5 fdx6 fdx7 fdx8):FnOk P w K mg base CX0 13 f fd ["_law_script"] (spLaw K):=by
 refine F.ok sc_law (fun vs H Q E h=>?_) (fun cdv A outer s H vs Q E hr h=>?_)
 ·obtain ⟨a,ns,rfl,_⟩:=h
  rfl
 ·obtain ⟨a,ns,rfl,sq,hlen,k⟩:=h
  refine ⟨_,(der_law hr T cs).2,?_⟩
  refine ⟨_,rfl,a,ns,0,8,rfl,by decide,by decide,by decide,sq,fun H1 t l n ps s1 hlH le8 n5 smp told=>?_⟩
  obtain ⟨ht,⟨us,hl,hp⟩,ok⟩:=id told
  have n8:=ok.n8
  have n1:=ok.n1
  have sm8:Sm8 n ps:=⟨n5,by omega,smp⟩
  refine ⟨_,rfl,t,_,_,_,rfl,rfl,SqT.of ht,rfl,_,rfl,t,_,_,_,rfl,rfl,SqT.of ht,rfl,?_⟩
  intro x dx nx ndx nex
  have s0:=made_s0 (C:=C) nx ndx
  refine ⟨x,dx,l,n,us,ps,rfl,upd_same,SqL.of (s0 _ _ hl),PipesAt.same s0 hp,ok,fun H2 L hL net kp=>⟨rfl,?_⟩⟩
  have s2:=made_same (n:=(n:Int)) nx ndx kp
  have s12:=s1.trans s2
  have told2:=told.same s2
  have ht2:=s2 _ _ ht
  refine ⟨_,rfl,a,ns,3,rfl,by decide,s12.seq sq,fun c3=>⟨_,rfl,t,_,_,_,rfl,rfl,SqT.of ht2,rfl,_,_,rfl,rfl,(by show (0:Int)<(n:Int);omega),?_⟩⟩
  have k0:=Int.emod_nonneg c3 (show (n:Int)≠0 by omega)
  have kn:=Int.emod_lt_of_pos c3 (show (0:Int)<(n:Int) by omega)
  dsimp only
  generalize c3 % (n:Int)=tt at *
  refine ⟨_,rfl,_,rfl,x,L,t,l,n,ps,rfl,net,told2,sm8,fun H3 s3=>⟨_,rfl,iteF ?_⟩⟩
  refine ⟨_,rfl,_,rfl,t,_,_,_,rfl,rfl,SqT.of (s3 _ _ ht2),rfl,x,L,n,ps,n,rfl,net.same s3,ok,by omega,.inl rfl,fun H4 s4=>⟨_,rfl,iteF ?_⟩⟩
  have s24:=s3.trans s4
  refine ⟨_,rfl,t,_,_,_,rfl,rfl,SqT.of (s24 _ _ ht2),rfl,rfl,_,rfl,?_⟩
  by_cases e1:n=1
  ·rw [decide_eq_true (show V.int (n:Int)=V.int 1 by rw [e1];rfl)]
   exact iteT ⟨_,rfl,x,L,n,ps,0,rfl,net.same s24,ok,by decide,.inr e1,fun H5 s5=>k _⟩
  rw [decide_eq_false (show ¬ V.int (n:Int)=V.int 1 from fun z=>e1 (by injection z with z;omega))]
  refine iteF ?_
  obtain ⟨m,rfl⟩:∃ m,n=m+1:=⟨n-1,by omega⟩
  have m1:1≤m:=by omega
  have okM:=out_ok (t:=tt) sm8 ok m1
  refine ⟨_,rfl,_,rfl,x,L,m+1,ps,tt,rfl,net.same s24,ok,k0,.inl ⟨m,rfl,m1,kn,sm8.sm ok,okM,fun H5 x' L' s5 net'=>?_⟩⟩
  have s25:=s24.trans s5
  obtain ⟨⟨dx',h1'⟩,_⟩:=id net'
  refine ⟨_,rfl,x',C,dx',_,_,rfl,h1',T.c_Net,T.a_size,flds_size _ _,_,rfl,t,_,_,_,rfl,rfl,SqT.of (s25 _ _ ht2),rfl,_,_,rfl,rfl,rfl,_,rfl,?_⟩
  rw [decide_eq_true (show V.int (m:Int)=V.int (((m+1:Nat):Int)-1) by congr 1;omega)]
  refine iteF ?_
  refine ⟨_,rfl,x',L',m,_,rfl,net',okM.le,mesh_thin _ _,fun H6 s6=>⟨_,rfl,iteF ?_⟩⟩
  have s26:=s25.trans s6
  obtain ⟨⟨dxn,h1⟩,_⟩:=id net
  refine ⟨_,rfl,x,dxn,_,rfl,s26 _ _ h1,flds_no _ _ (by decide +kernel) (by decide +kernel),x,L,(m+1:Nat),ps,rfl,net.same s26,fun r ur hr1 pa=>?_⟩
  have s7:=same_upd (o:=.lst ur) hr1
  have hr7:(upd H6 r (.lst ur)) r=some (.lst ur):=upd_same
  have pa7:=PipesAt.same s7 pa
  have s27:=s26.trans s7
  have nt7:=(net'.same s6).same s7
  generalize upd H6 r (.lst ur)=H7 at s7 hr7 pa7 s27 nt7 ⊢
  have told7:=told2.same s27
  obtain ⟨ht7,⟨us7,hl7,hp7⟩,_⟩:=id told7
  refine ⟨_,rfl,t,_,_,_,rfl,rfl,SqT.of ht7,rfl,rNe_pipes hr7 hl7 pa7 hp7 ⟨_,rfl,iteF ?_⟩⟩
  refine ⟨_,rfl,t,_,_,_,rfl,rfl,SqT.of ht7,rfl,((m+1:Nat):Int),rfl,by omega,by omega,?_⟩
  rw [Int.toNat_natCast]
  obtain ⟨kq,rfl⟩:=Int.eq_ofNat_of_zero_le k0
  refine comp_range (fun i ys H'=>H'=H7∧ys=(List.range (if i≤kq then i else i-1)).map fun j:Nat=>V.int (lft (kq:Int) (j:Int))) ⟨rfl,rfl⟩ (small1000 (by omega)) ?_ ?_ ?_
  ·rintro i ys H' hi ⟨_,rfl⟩
   rw [List.length_map,List.length_range]
   split <;> omega
  ·rintro i ys H' N hi ⟨rfl,rfl⟩ hN C' s₀ H₀ ex
   dsimp only [gName]
   rw [Int.zero_add]
   refine ⟨_,rfl,_,rfl,rfl,_,rfl,?_⟩
   by_cases e:i=kq
   ·rw [decide_eq_true (show V.int (i:Int)=V.int (kq:Int) by rw [e])]
    refine iteF (hN _ _ ⟨rfl,?_⟩)
    rw [if_pos (by omega),if_neg (by omega),Nat.add_sub_cancel]
   ·rw [decide_eq_false (show ¬ V.int (i:Int)=V.int (kq:Int) from fun z=>e (by injection z with z;omega))]
    refine iteT ⟨_,rfl,hN _ _ ⟨rfl,?_⟩⟩
    by_cases e2:i<kq
    ·rw [if_pos (by omega),if_pos (by omega),List.range_succ,List.map_append]
     congr 1
     show [V.int (i:Int)]=[V.int (lft (kq:Int) (i:Int))]
     unfold lft
     rw [if_pos (by omega)]
    ·obtain ⟨j,rfl⟩:∃ j,i=j+1:=⟨i-1,by omega⟩
     rw [if_neg (by omega),if_neg (by omega),Nat.add_sub_cancel,Nat.add_sub_cancel,List.range_succ,List.map_append]
     congr 1
     show [V.int ((j+1:Nat):Int)]=[V.int (lft (kq:Int) (j:Int))]
     unfold lft
     rw [if_neg (by omega)]
     congr 2
  rintro ys H8 ⟨rfl,rfl⟩ ll hll
  rw [if_neg (show ¬ m+1≤kq by omega),Nat.add_sub_cancel]
  have s8:=same_upd (o:=.lst ((List.range m).map fun j:Nat=>V.int (lft (kq:Int) (j:Int)))) hll
  have hl8:(upd H8 ll (.lst ((List.range m).map fun j:Nat=>V.int (lft (kq:Int) (j:Int))))) ll=some (.lst ((List.range m).map fun j:Nat=>V.int (lft (kq:Int) (j:Int)))):=upd_same
  have nt8:=nt7.same s8
  have s28:=s27.trans s8
  generalize upd H8 ll (.lst ((List.range m).map fun j:Nat=>V.int (lft (kq:Int) (j:Int))))=H9 at s8 hl8 nt8 s28 ⊢
  have hll3:((List.range m).map fun j:Nat=>V.int (lft (kq:Int) (j:Int))).length=m:=by rw [List.length_map,List.length_range]
  have atl:∀ z:Int,0≤z→z<m→atI ((List.range m).map fun j:Nat=>V.int (lft (kq:Int) (j:Int))) z=some (V.int (lft (kq:Int) z)):=fun z h0 h1=>by
   obtain ⟨j,rfl⟩:=Int.eq_ofNat_of_zero_le h0
   exact atI_nat (j:=j) (by rw [List.getElem?_map,List.getElem?_range (by omega)];rfl)
  refine ⟨by show 2≤sizeLine;decide,fun lz hlz=>?_⟩
  have s9:=same_upd (o:=.lst [.int 4,.int 6]) hlz
  have hlz9:(upd H9 lz (.lst [.int 4,.int 6])) lz=some (.lst [.int 4,.int 6]):=upd_same
  have hl9:=s9 _ _ hl8
  have nt9:=nt8.same s9
  have s29:=s28.trans s9
  generalize upd H9 lz (.lst [.int 4,.int 6])=HA at s9 hlz9 hl9 nt9 s29 ⊢
  have netA:=net.same s29
  have sqA:=(s12.trans s29).seq sq
  refine ⟨lz,rfl,⟨_,SqL.of hlz9⟩,for_list (K:=K) (a:=lz) (xs:=[.int 4,.int 6]) (fun i σ H'=>∃ v6 v7 v8:Option V,σ=[some (.ref a),some (.ref t),some (.ref x),some (.int (kq:Int)),some (.ref x'),some (.ref ll),v6,v7,v8]∧Same HA H')
   ⟨none,none,none,rfl,Same.refl _⟩ (fun i σ H' _ ⟨_,_,_,_,z⟩=>SqL.of (z _ _ hlz9)) ?_ ?_⟩
  ·rintro i v σ H' hv ⟨v6,v7,v8,rfl,sx⟩
   obtain ⟨kk,rfl,hkk⟩:∃ kk:Int,v=.int kk∧0≤kk:=by
    match i,hv with
    | 0,hv=>cases hv;exact ⟨4,rfl,by decide⟩
    | 1,hv=>cases hv;exact ⟨6,rfl,by decide⟩
    | i+2,hv=>simp at hv
   have hlx:=sx _ _ hl9
   refine ⟨_,rfl,_,rfl,a,ns,kk,rfl,hkk,sx.seq sqA,fun c4=>⟨_,rfl,ll,_,rfl,.inl (SqL.of hlx),_,_,rfl,rfl,(by rw [hll3];omega),?_⟩⟩
   dsimp only
   rw [hll3]
   have o0:=Int.emod_nonneg c4 (show (m:Int)≠0 by omega)
   have on:=Int.emod_lt_of_pos c4 (show (0:Int)<(m:Int) by omega)
   generalize c4 % (m:Int)=one at *
   refine ⟨_,rfl,_,rfl,_,rfl,_,_,rfl,rfl,a,ns,kk+1,rfl,by omega,sx.seq sqA,fun c5=>⟨_,_,rfl,rfl,_,rfl,ll,_,rfl,.inl (SqL.of hlx),_,_,rfl,rfl,(by rw [hll3];omega),?_⟩⟩
   dsimp only
   rw [hll3]
   have v0:=Int.emod_nonneg (one+c5) (show (m:Int)≠0 by omega)
   have vn:=Int.emod_lt_of_pos (one+c5) (show (0:Int)<(m:Int) by omega)
   generalize (one+c5) % (m:Int)=other at *
   refine ⟨_,rfl,_,rfl,_,rfl,x',L',m,_,one,other,rfl,nt9.same sx,okM,⟨o0,on⟩,⟨v0,vn⟩,fun HB vb sB oB=>?_⟩
   have hlB:=sB _ _ hlx
   refine ⟨_,rfl,_,rfl,_,rfl,ll,_,_,_,rfl,rfl,SqL.of hlB,atl one o0 on,_,rfl,_,rfl,ll,_,_,_,rfl,rfl,SqL.of hlB,atl other v0 vn,?_⟩
   refine ⟨x,L,m+1,ps,lft kq one,lft kq other,rfl,netA.same (sx.trans sB),ok,lft_fits ⟨o0,on⟩,lft_fits ⟨v0,vn⟩,fun HC vc sC oC=>rNe_opt (oB.same sC) oC ⟨_,rfl,?_⟩⟩
   rw [decide_eq_true (out_hd ok okM ⟨by omega,by omega⟩ ⟨o0,on⟩ ⟨v0,vn⟩)]
   exact iteF ⟨_,_,_,rfl,(sx.trans sB).trans sC⟩
  ·rintro σ H' ⟨v6,v7,v8,rfl,sx⟩
   exact k _
end
end K2
namespace K2
open PySem L2 PyProof.Rows Mp St Bz
theorem all_mk {l:PySem.W.OpenLaw} {w:World} {K:PySem.W.Frag} {h:Heap} {mg:Str→Option Value} {fa C CE CN c3 c4 c5 c6 c7 g0 g1 g2 g3 g4 g5 g6 g7 g8 g9 g10 g11 g12 g13 g14 g15 g16 g17 g18 g19 g20 g21 g22 g23 g24 g25 g26 g27 g28 g29 g30 g31 g32 g33 g34 g35 g36 g37 g38 g39 g40 g41 g42 g43 g44 g45:Addr} {t1 t2 t3:Tok} (X:K.In h) (G:h.Ns mainGlobals mg) (hfa:mg "law" = some (.ref fa))
  {od0 an0 od1 an1 od2 an2 od3 an3 od4 an4 od5 an5 od6 an6 od7 an7 od8 an8 od9 an9 od10 an10 od11 an11 od12 an12 od13 an13 od14 an14 od15 an15 od16 an16 od17 an17 od18 an18 od19 an19 od20 an20 od21 an21 od22 an22 od23 an23 od24 an24 od25 an25 od26 an26 od27 an27 od28 an28 od29 an29 od30 an30 od31 an31 od32 an32 od33 an33 od34 an34 od35 an35 od36 an36 od37 an37 od38 an38 od39 an39 od40 an40 od41 an41 od42 an42 od43 an43 od44 an44 od45 an45:Option Addr} {sl0 sl1 sl2 sl3 sl4 sl5 sl6 sl7 sl8 sl9 sl10 sl11 sl12 sl13 sl14 sl15 sl16 sl17 sl18 sl19 sl20 sl21 sl22 sl23 sl24 sl25 sl26 sl27 sl28 sl29 sl30 sl31 sl32 sl33 sl34 sl35 sl36 sl37 sl38 sl39 sl40 sl41 sl42 sl43 sl44 sl45:Array (Option Value)} {oc0 kV0 dc0 pm0 cd0 ct0 oc1 kV1 dc1 pm1 cd1 ct1 oc2 kV2 dc2 pm2 cd2 ct2 oc3 kV3 dc3 pm3 cd3 ct3 oc4 kV4 dc4 pm4 cd4 ct4 oc5 kV5 dc5 pm5 cd5 ct5 oc6 kV6 dc6 pm6 cd6 ct6 oc7 kV7 dc7 pm7 cd7 ct7 oc8 kV8 dc8 pm8 cd8 ct8 oc9 kV9 dc9 pm9 cd9 ct9 oc10 kV10 dc10 pm10 cd10 ct10 oc11 kV11 dc11 pm11 cd11 ct11 oc12 kV12 dc12 pm12 cd12 ct12 oc13 kV13 dc13 pm13 cd13 ct13 oc14 kV14 dc14 pm14 cd14 ct14 oc15 kV15 dc15 pm15 cd15 ct15 oc16 kV16 dc16 pm16 cd16 ct16 oc17 kV17 dc17 pm17 cd17 ct17 oc18 kV18 dc18 pm18 cd18 ct18 oc19 kV19 dc19 pm19 cd19 ct19 oc20 kV20 dc20 pm20 cd20 ct20 oc21 kV21 dc21 pm21 cd21 ct21 oc22 kV22 dc22 pm22 cd22 ct22 oc23 kV23 dc23 pm23 cd23 ct23 oc24 kV24 dc24 pm24 cd24 ct24 oc25 kV25 dc25 pm25 cd25 ct25 oc26 kV26 dc26 pm26 cd26 ct26 oc27 kV27 dc27 pm27 cd27 ct27 oc28 kV28 dc28 pm28 cd28 ct28 oc29 kV29 dc29 pm29 cd29 ct29 oc30 kV30 dc30 pm30 cd30 ct30 oc31 kV31 dc31 pm31 cd31 ct31 oc32 kV32 dc32 pm32 cd32 ct32 oc33 kV33 dc33 pm33 cd33 ct33 oc34 kV34 dc34 pm34 cd34 ct34 oc35 kV35 dc35 pm35 cd35 ct35 oc36 kV36 dc36 pm36 cd36 ct36 oc37 kV37 dc37 pm37 cd37 ct37 oc38 kV38 dc38 pm38 cd38 ct38 oc39 kV39 dc39 pm39 cd39 ct39 oc40 kV40 dc40 pm40 cd40 ct40 oc41 kV41 dc41 pm41 cd41 ct41 oc42 kV42 dc42 pm42 cd42 ct42 oc43 kV43 dc43 pm43 cd43 ct43 oc44 kV44 dc44 pm44 cd44 ct44 oc45 kV45 dc45 pm45 cd45 ct45:Value}
  (z216_Net:PySem.W.nsIn K mainGlobals "Net" = some (some (.ref C)))
  (z218_NoPlace:PySem.W.nsIn K mainGlobals "NoPlace" = some (some (.ref CN)))
  (z227_NetError:PySem.W.nsIn K mainGlobals "NetError" = some (some (.ref CE)))
  (z229_BadNet:PySem.W.nsIn K mainGlobals "BadNet" = some (some (.ref c3)))
  (z231_BadFraction:PySem.W.nsIn K mainGlobals "BadFraction" = some (some (.ref c4)))
  (z233_NoPipe:PySem.W.nsIn K mainGlobals "NoPipe" = some (some (.ref c5)))
  (z235_BadFlows:PySem.W.nsIn K mainGlobals "BadFlows" = some (some (.ref c6)))
  (z237_BadRow:PySem.W.nsIn K mainGlobals "BadRow" = some (some (.ref c7)))
  (z0_a:PySem.W.nsIn K mainGlobals "is_whole" = some (some (.ref g0)))
  (z1_l:K.lookup g0=some ⟨oc0,od0,.func (PySem.W.fnOf "is_whole" "is_whole" (defArgs s_is_whole) (defBody s_is_whole) (defScope s_is_whole) .none kV0 dc0 pm0 an0 cd0 ct0),sl0⟩)
  (z2_o:PySem.W.codeIn K cd0 "is_whole" = true)
  (z3_k:PySem.W.keepIn K (.ref g0)=true)
  (z4_a:PySem.W.nsIn K mainGlobals "common_divisor" = some (some (.ref g1)))
  (z5_l:K.lookup g1=some ⟨oc1,od1,.func (PySem.W.fnOf "common_divisor" "common_divisor" (defArgs s_common_divisor) (defBody s_common_divisor) (defScope s_common_divisor) .none kV1 dc1 pm1 an1 cd1 ct1),sl1⟩)
  (z6_o:PySem.W.codeIn K cd1 "common_divisor" = true)
  (z7_k:PySem.W.keepIn K (.ref g1)=true)
  (z8_a:PySem.W.nsIn K mainGlobals "is_fraction" = some (some (.ref g2)))
  (z9_l:K.lookup g2=some ⟨oc2,od2,.func (PySem.W.fnOf "is_fraction" "is_fraction" (defArgs s_is_fraction) (defBody s_is_fraction) (defScope s_is_fraction) .none kV2 dc2 pm2 an2 cd2 ct2),sl2⟩)
  (z10_o:PySem.W.codeIn K cd2 "is_fraction" = true)
  (z11_k:PySem.W.keepIn K (.ref g2)=true)
  (z12_a:PySem.W.nsIn K mainGlobals "counts_one_of" = some (some (.ref g3)))
  (z13_l:K.lookup g3=some ⟨oc3,od3,.func (PySem.W.fnOf "counts_one_of" "counts_one_of" (defArgs s_counts_one_of) (defBody s_counts_one_of) (defScope s_counts_one_of) .none kV3 dc3 pm3 an3 cd3 ct3),sl3⟩)
  (z14_o:PySem.W.codeIn K cd3 "counts_one_of" = true)
  (z15_k:PySem.W.keepIn K (.ref g3)=true)
  (z16_a:PySem.W.nsIn K mainGlobals "is_hardness" = some (some (.ref g4)))
  (z17_l:K.lookup g4=some ⟨oc4,od4,.func (PySem.W.fnOf "is_hardness" "is_hardness" (defArgs s_is_hardness) (defBody s_is_hardness) (defScope s_is_hardness) .none kV4 dc4 pm4 an4 cd4 ct4),sl4⟩)
  (z18_o:PySem.W.codeIn K cd4 "is_hardness" = true)
  (z19_k:PySem.W.keepIn K (.ref g4)=true)
  (z20_a:PySem.W.nsIn K mainGlobals "is_pipe" = some (some (.ref g5)))
  (z21_l:K.lookup g5=some ⟨oc5,od5,.func (PySem.W.fnOf "is_pipe" "is_pipe" (defArgs s_is_pipe) (defBody s_is_pipe) (defScope s_is_pipe) .none kV5 dc5 pm5 an5 cd5 ct5),sl5⟩)
  (z22_o:PySem.W.codeIn K cd5 "is_pipe" = true)
  (z23_k:PySem.W.keepIn K (.ref g5)=true)
  (z24_a:PySem.W.nsIn K mainGlobals "is_net" = some (some (.ref g6)))
  (z25_l:K.lookup g6=some ⟨oc6,od6,.func (PySem.W.fnOf "is_net" "is_net" (defArgs s_is_net) (defBody s_is_net) (defScope s_is_net) .none kV6 dc6 pm6 an6 cd6 ct6),sl6⟩)
  (z26_o:PySem.W.codeIn K cd6 "is_net" = true)
  (z27_k:PySem.W.keepIn K (.ref g6)=true)
  (z28_a:PySem.W.nsIn K mainGlobals "neighbours" = some (some (.ref g7)))
  (z29_l:K.lookup g7=some ⟨oc7,od7,.func (PySem.W.fnOf "neighbours" "neighbours" (defArgs s_neighbours) (defBody s_neighbours) (defScope s_neighbours) .none kV7 dc7 pm7 an7 cd7 ct7),sl7⟩)
  (z30_o:PySem.W.codeIn K cd7 "neighbours" = true)
  (z31_k:PySem.W.keepIn K (.ref g7)=true)
  (z32_a:PySem.W.findIn K (.ref C) "__init__" = some (some (.ref g8)))
  (z33_i:PySem.W.isFn K (.ref g8)=true)
  (z34_l:K.lookup g8=some ⟨oc8,od8,.func (PySem.W.fnOf "__init__" "Net.__init__" (defArgs s_Net___init__) (defBody s_Net___init__) (defScope s_Net___init__) .none kV8 dc8 pm8 an8 cd8 ct8),sl8⟩)
  (z35_o:PySem.W.codeIn K cd8 "Net.__init__" = true)
  (z36_k:PySem.W.keepIn K (.ref g8)=true)
  (z37_a:PySem.W.findIn K (.ref C) "pipes" = some (some (.ref g9)))
  (z38_i:PySem.W.isFn K (.ref g9)=true)
  (z39_l:K.lookup g9=some ⟨oc9,od9,.func (PySem.W.fnOf "pipes" "Net.pipes" (defArgs s_Net_pipes) (defBody s_Net_pipes) (defScope s_Net_pipes) .none kV9 dc9 pm9 an9 cd9 ct9),sl9⟩)
  (z40_o:PySem.W.codeIn K cd9 "Net.pipes" = true)
  (z41_k:PySem.W.keepIn K (.ref g9)=true)
  (z42_a:PySem.W.findIn K (.ref C) "part" = some (some (.ref g10)))
  (z43_i:PySem.W.isFn K (.ref g10)=true)
  (z44_l:K.lookup g10=some ⟨oc10,od10,.func (PySem.W.fnOf "part" "Net.part" (defArgs s_Net_part) (defBody s_Net_part) (defScope s_Net_part) .none kV10 dc10 pm10 an10 cd10 ct10),sl10⟩)
  (z45_o:PySem.W.codeIn K cd10 "Net.part" = true)
  (z46_k:PySem.W.keepIn K (.ref g10)=true)
  (z47_a:PySem.W.nsIn K mainGlobals "made" = some (some (.ref g11)))
  (z48_l:K.lookup g11=some ⟨oc11,od11,.func (PySem.W.fnOf "made" "made" (defArgs s_made) (defBody s_made) (defScope s_made) .none kV11 dc11 pm11 an11 cd11 ct11),sl11⟩)
  (z49_o:PySem.W.codeIn K cd11 "made" = true)
  (z50_k:PySem.W.keepIn K (.ref g11)=true)
  (z51_a:PySem.W.nsIn K mainGlobals "plus" = some (some (.ref g12)))
  (z52_l:K.lookup g12=some ⟨oc12,od12,.func (PySem.W.fnOf "plus" "plus" (defArgs s_plus) (defBody s_plus) (defScope s_plus) .none kV12 dc12 pm12 an12 cd12 ct12),sl12⟩)
  (z53_o:PySem.W.codeIn K cd12 "plus" = true)
  (z54_k:PySem.W.keepIn K (.ref g12)=true)
  (z55_a:PySem.W.nsIn K mainGlobals "times" = some (some (.ref g13)))
  (z56_l:K.lookup g13=some ⟨oc13,od13,.func (PySem.W.fnOf "times" "times" (defArgs s_times) (defBody s_times) (defScope s_times) .none kV13 dc13 pm13 an13 cd13 ct13),sl13⟩)
  (z57_o:PySem.W.codeIn K cd13 "times" = true)
  (z58_k:PySem.W.keepIn K (.ref g13)=true)
  (z59_a:PySem.W.nsIn K mainGlobals "over" = some (some (.ref g14)))
  (z60_l:K.lookup g14=some ⟨oc14,od14,.func (PySem.W.fnOf "over" "over" (defArgs s_over) (defBody s_over) (defScope s_over) .none kV14 dc14 pm14 an14 cd14 ct14),sl14⟩)
  (z61_o:PySem.W.codeIn K cd14 "over" = true)
  (z62_k:PySem.W.keepIn K (.ref g14)=true)
  (z63_a:PySem.W.nsIn K mainGlobals "total" = some (some (.ref g15)))
  (z64_l:K.lookup g15=some ⟨oc15,od15,.func (PySem.W.fnOf "total" "total" (defArgs s_total) (defBody s_total) (defScope s_total) .none kV15 dc15 pm15 an15 cd15 ct15),sl15⟩)
  (z65_o:PySem.W.codeIn K cd15 "total" = true)
  (z66_k:PySem.W.keepIn K (.ref g15)=true)
  (z67_a:PySem.W.nsIn K mainGlobals "scale_of" = some (some (.ref g16)))
  (z68_l:K.lookup g16=some ⟨oc16,od16,.func (PySem.W.fnOf "scale_of" "scale_of" (defArgs s_scale_of) (defBody s_scale_of) (defScope s_scale_of) .none kV16 dc16 pm16 an16 cd16 ct16),sl16⟩)
  (z69_o:PySem.W.codeIn K cd16 "scale_of" = true)
  (z70_k:PySem.W.keepIn K (.ref g16)=true)
  (z71_a:PySem.W.nsIn K mainGlobals "scaled_ease" = some (some (.ref g17)))
  (z72_l:K.lookup g17=some ⟨oc17,od17,.func (PySem.W.fnOf "scaled_ease" "scaled_ease" (defArgs s_scaled_ease) (defBody s_scaled_ease) (defScope s_scaled_ease) .none kV17 dc17 pm17 an17 cd17 ct17),sl17⟩)
  (z73_o:PySem.W.codeIn K cd17 "scaled_ease" = true)
  (z74_k:PySem.W.keepIn K (.ref g17)=true)
  (z75_a:PySem.W.nsIn K mainGlobals "entry" = some (some (.ref g18)))
  (z76_l:K.lookup g18=some ⟨oc18,od18,.func (PySem.W.fnOf "entry" "entry" (defArgs s_entry) (defBody s_entry) (defScope s_entry) .none kV18 dc18 pm18 an18 cd18 ct18),sl18⟩)
  (z77_o:PySem.W.codeIn K cd18 "entry" = true)
  (z78_k:PySem.W.keepIn K (.ref g18)=true)
  (z79_a:PySem.W.nsIn K mainGlobals "sheet_row" = some (some (.ref g19)))
  (z80_l:K.lookup g19=some ⟨oc19,od19,.func (PySem.W.fnOf "sheet_row" "sheet_row" (defArgs s_sheet_row) (defBody s_sheet_row) (defScope s_sheet_row) .none kV19 dc19 pm19 an19 cd19 ct19),sl19⟩)
  (z81_o:PySem.W.codeIn K cd19 "sheet_row" = true)
  (z82_k:PySem.W.keepIn K (.ref g19)=true)
  (z83_a:PySem.W.nsIn K mainGlobals "sheet_of" = some (some (.ref g20)))
  (z84_l:K.lookup g20=some ⟨oc20,od20,.func (PySem.W.fnOf "sheet_of" "sheet_of" (defArgs s_sheet_of) (defBody s_sheet_of) (defScope s_sheet_of) .none kV20 dc20 pm20 an20 cd20 ct20),sl20⟩)
  (z85_o:PySem.W.codeIn K cd20 "sheet_of" = true)
  (z86_k:PySem.W.keepIn K (.ref g20)=true)
  (z87_a:PySem.W.nsIn K mainGlobals "row_without" = some (some (.ref g21)))
  (z88_l:K.lookup g21=some ⟨oc21,od21,.func (PySem.W.fnOf "row_without" "row_without" (defArgs s_row_without) (defBody s_row_without) (defScope s_row_without) .none kV21 dc21 pm21 an21 cd21 ct21),sl21⟩)
  (z89_o:PySem.W.codeIn K cd21 "row_without" = true)
  (z90_k:PySem.W.keepIn K (.ref g21)=true)
  (z91_a:PySem.W.nsIn K mainGlobals "cleared" = some (some (.ref g22)))
  (z92_l:K.lookup g22=some ⟨oc22,od22,.func (PySem.W.fnOf "cleared" "cleared" (defArgs s_cleared) (defBody s_cleared) (defScope s_cleared) .none kV22 dc22 pm22 an22 cd22 ct22),sl22⟩)
  (z93_o:PySem.W.codeIn K cd22 "cleared" = true)
  (z94_k:PySem.W.keepIn K (.ref g22)=true)
  (z95_a:PySem.W.nsIn K mainGlobals "solved" = some (some (.ref g23)))
  (z96_l:K.lookup g23=some ⟨oc23,od23,.func (PySem.W.fnOf "solved" "solved" (defArgs s_solved) (defBody s_solved) (defScope s_solved) .none kV23 dc23 pm23 an23 cd23 ct23),sl23⟩)
  (z97_o:PySem.W.codeIn K cd23 "solved" = true)
  (z98_k:PySem.W.keepIn K (.ref g23)=true)
  (z99_a:PySem.W.nsIn K mainGlobals "asked_sum" = some (some (.ref g24)))
  (z100_l:K.lookup g24=some ⟨oc24,od24,.func (PySem.W.fnOf "asked_sum" "asked_sum" (defArgs s_asked_sum) (defBody s_asked_sum) (defScope s_asked_sum) .none kV24 dc24 pm24 an24 cd24 ct24),sl24⟩)
  (z101_o:PySem.W.codeIn K cd24 "asked_sum" = true)
  (z102_k:PySem.W.keepIn K (.ref g24)=true)
  (z103_a:PySem.W.nsIn K mainGlobals "heights_between" = some (some (.ref g25)))
  (z104_l:K.lookup g25=some ⟨oc25,od25,.func (PySem.W.fnOf "heights_between" "heights_between" (defArgs s_heights_between) (defBody s_heights_between) (defScope s_heights_between) .none kV25 dc25 pm25 an25 cd25 ct25),sl25⟩)
  (z105_o:PySem.W.codeIn K cd25 "heights_between" = true)
  (z106_k:PySem.W.keepIn K (.ref g25)=true)
  (z107_a:PySem.W.nsIn K mainGlobals "are_places" = some (some (.ref g26)))
  (z108_l:K.lookup g26=some ⟨oc26,od26,.func (PySem.W.fnOf "are_places" "are_places" (defArgs s_are_places) (defBody s_are_places) (defScope s_are_places) .none kV26 dc26 pm26 an26 cd26 ct26),sl26⟩)
  (z109_o:PySem.W.codeIn K cd26 "are_places" = true)
  (z110_k:PySem.W.keepIn K (.ref g26)=true)
  (z111_a:PySem.W.nsIn K mainGlobals "check_places" = some (some (.ref g27)))
  (z112_l:K.lookup g27=some ⟨oc27,od27,.func (PySem.W.fnOf "check_places" "check_places" (defArgs s_check_places) (defBody s_check_places) (defScope s_check_places) .none kV27 dc27 pm27 an27 cd27 ct27),sl27⟩)
  (z113_o:PySem.W.codeIn K cd27 "check_places" = true)
  (z114_k:PySem.W.keepIn K (.ref g27)=true)
  (z115_a:PySem.W.nsIn K mainGlobals "_law_cell_at" = some (some (.ref g28)))
  (z116_l:K.lookup g28=some ⟨oc28,od28,.func (PySem.W.fnOf "_law_cell_at" "_law_cell_at" (defArgs s__law_cell_at) (defBody s__law_cell_at) (defScope s__law_cell_at) .none kV28 dc28 pm28 an28 cd28 ct28),sl28⟩)
  (z117_o:PySem.W.codeIn K cd28 "_law_cell_at" = true)
  (z118_k:PySem.W.keepIn K (.ref g28)=true)
  (z119_a:PySem.W.nsIn K mainGlobals "_law_draw" = some (some (.ref g29)))
  (z120_l:K.lookup g29=some ⟨oc29,od29,.func (PySem.W.fnOf "_law_draw" "_law_draw" (defArgs s__law_draw) (defBody s__law_draw) (defScope s__law_draw) .none kV29 dc29 pm29 an29 cd29 ct29),sl29⟩)
  (z121_o:PySem.W.codeIn K cd29 "_law_draw" = true)
  (z122_k:PySem.W.keepIn K (.ref g29)=true)
  (z123_a:PySem.W.nsIn K mainGlobals "_law_least" = some (some (.ref g30)))
  (z124_l:K.lookup g30=some ⟨oc30,od30,.func (PySem.W.fnOf "_law_least" "_law_least" (defArgs s__law_least) (defBody s__law_least) (defScope s__law_least) .none kV30 dc30 pm30 an30 cd30 ct30),sl30⟩)
  (z125_o:PySem.W.codeIn K cd30 "_law_least" = true)
  (z126_k:PySem.W.keepIn K (.ref g30)=true)
  (z127_a:PySem.W.nsIn K mainGlobals "_law_told" = some (some (.ref g31)))
  (z128_l:K.lookup g31=some ⟨oc31,od31,.func (PySem.W.fnOf "_law_told" "_law_told" (defArgs s__law_told) (defBody s__law_told) (defScope s__law_told) .none kV31 dc31 pm31 an31 cd31 ct31),sl31⟩)
  (z129_o:PySem.W.codeIn K cd31 "_law_told" = true)
  (z130_k:PySem.W.keepIn K (.ref g31)=true)
  (z131_a:PySem.W.nsIn K mainGlobals "hardness_of" = some (some (.ref g32)))
  (z132_l:K.lookup g32=some ⟨oc32,od32,.func (PySem.W.fnOf "hardness_of" "hardness_of" (defArgs s_hardness_of) (defBody s_hardness_of) (defScope s_hardness_of) .none kV32 dc32 pm32 an32 cd32 ct32),sl32⟩)
  (z133_o:PySem.W.codeIn K cd32 "hardness_of" = true)
  (z134_k:PySem.W.keepIn K (.ref g32)=true)
  (z135_a:PySem.W.nsIn K mainGlobals "ease_between" = some (some (.ref g33)))
  (z136_l:K.lookup g33=some ⟨oc33,od33,.func (PySem.W.fnOf "ease_between" "ease_between" (defArgs s_ease_between) (defBody s_ease_between) (defScope s_ease_between) .none kV33 dc33 pm33 an33 cd33 ct33),sl33⟩)
  (z137_o:PySem.W.codeIn K cd33 "ease_between" = true)
  (z138_k:PySem.W.keepIn K (.ref g33)=true)
  (z139_a:PySem.W.nsIn K mainGlobals "ease_at" = some (some (.ref g34)))
  (z140_l:K.lookup g34=some ⟨oc34,od34,.func (PySem.W.fnOf "ease_at" "ease_at" (defArgs s_ease_at) (defBody s_ease_at) (defScope s_ease_at) .none kV34 dc34 pm34 an34 cd34 ct34),sl34⟩)
  (z141_o:PySem.W.codeIn K cd34 "ease_at" = true)
  (z142_k:PySem.W.keepIn K (.ref g34)=true)
  (z143_a:PySem.W.nsIn K mainGlobals "ease_by_way_of" = some (some (.ref g35)))
  (z144_l:K.lookup g35=some ⟨oc35,od35,.func (PySem.W.fnOf "ease_by_way_of" "ease_by_way_of" (defArgs s_ease_by_way_of) (defBody s_ease_by_way_of) (defScope s_ease_by_way_of) .none kV35 dc35 pm35 an35 cd35 ct35),sl35⟩)
  (z145_o:PySem.W.codeIn K cd35 "ease_by_way_of" = true)
  (z146_k:PySem.W.keepIn K (.ref g35)=true)
  (z147_a:PySem.W.nsIn K mainGlobals "ease_without" = some (some (.ref g36)))
  (z148_l:K.lookup g36=some ⟨oc36,od36,.func (PySem.W.fnOf "ease_without" "ease_without" (defArgs s_ease_without) (defBody s_ease_without) (defScope s_ease_without) .none kV36 dc36 pm36 an36 cd36 ct36),sl36⟩)
  (z149_o:PySem.W.codeIn K cd36 "ease_without" = true)
  (z150_k:PySem.W.keepIn K (.ref g36)=true)
  (z151_a:PySem.W.nsIn K mainGlobals "pairs" = some (some (.ref g37)))
  (z152_l:K.lookup g37=some ⟨oc37,od37,.func (PySem.W.fnOf "pairs" "pairs" (defArgs s_pairs) (defBody s_pairs) (defScope s_pairs) .none kV37 dc37 pm37 an37 cd37 ct37),sl37⟩)
  (z153_o:PySem.W.codeIn K cd37 "pairs" = true)
  (z154_k:PySem.W.keepIn K (.ref g37)=true)
  (z155_a:PySem.W.nsIn K mainGlobals "net_of_eases" = some (some (.ref g38)))
  (z156_l:K.lookup g38=some ⟨oc38,od38,.func (PySem.W.fnOf "net_of_eases" "net_of_eases" (defArgs s_net_of_eases) (defBody s_net_of_eases) (defScope s_net_of_eases) .none kV38 dc38 pm38 an38 cd38 ct38),sl38⟩)
  (z157_o:PySem.W.codeIn K cd38 "net_of_eases" = true)
  (z158_k:PySem.W.keepIn K (.ref g38)=true)
  (z159_a:PySem.W.nsIn K mainGlobals "slim" = some (some (.ref g39)))
  (z160_l:K.lookup g39=some ⟨oc39,od39,.func (PySem.W.fnOf "slim" "slim" (defArgs s_slim) (defBody s_slim) (defScope s_slim) .none kV39 dc39 pm39 an39 cd39 ct39),sl39⟩)
  (z161_o:PySem.W.codeIn K cd39 "slim" = true)
  (z162_k:PySem.W.keepIn K (.ref g39)=true)
  (z163_a:PySem.W.nsIn K mainGlobals "counts_one_of" = some (some (.ref g40)))
  (z164_l:K.lookup g40=some ⟨oc40,od40,.func (PySem.W.fnOf "counts_one_of" "counts_one_of" (defArgs s_counts_one_of) (defBody s_counts_one_of) (defScope s_counts_one_of) .none kV40 dc40 pm40 an40 cd40 ct40),sl40⟩)
  (z165_o:PySem.W.codeIn K cd40 "counts_one_of" = true)
  (z166_k:PySem.W.keepIn K (.ref g40)=true)
  (z167_a:PySem.W.nsIn K mainGlobals "taken_out" = some (some (.ref g41)))
  (z168_l:K.lookup g41=some ⟨oc41,od41,.func (PySem.W.fnOf "taken_out" "taken_out" (defArgs s_taken_out) (defBody s_taken_out) (defScope s_taken_out) .none kV41 dc41 pm41 an41 cd41 ct41),sl41⟩)
  (z169_o:PySem.W.codeIn K cd41 "taken_out" = true)
  (z170_k:PySem.W.keepIn K (.ref g41)=true)
  (z171_a:PySem.W.nsIn K mainGlobals "_law_refused" = some (some (.ref g42)))
  (z172_l:K.lookup g42=some ⟨oc42,od42,.func (PySem.W.fnOf "_law_refused" "_law_refused" (defArgs s__law_refused) (defBody s__law_refused) (defScope s__law_refused) .none kV42 dc42 pm42 an42 cd42 ct42),sl42⟩)
  (z173_o:PySem.W.codeIn K cd42 "_law_refused" = true)
  (z174_k:PySem.W.keepIn K (.ref g42)=true)
  (z175_a:PySem.W.nsIn K mainGlobals "_law_thin" = some (some (.ref g43)))
  (z176_l:K.lookup g43=some ⟨oc43,od43,.func (PySem.W.fnOf "_law_thin" "_law_thin" (defArgs s__law_thin) (defBody s__law_thin) (defScope s__law_thin) .none kV43 dc43 pm43 an43 cd43 ct43),sl43⟩)
  (z177_o:PySem.W.codeIn K cd43 "_law_thin" = true)
  (z178_k:PySem.W.keepIn K (.ref g43)=true)
  (z179_a:PySem.W.nsIn K mainGlobals "_law_slim" = some (some (.ref g44)))
  (z180_l:K.lookup g44=some ⟨oc44,od44,.func (PySem.W.fnOf "_law_slim" "_law_slim" (defArgs s__law_slim) (defBody s__law_slim) (defScope s__law_slim) .none kV44 dc44 pm44 an44 cd44 ct44),sl44⟩)
  (z181_o:PySem.W.codeIn K cd44 "_law_slim" = true)
  (z182_k:PySem.W.keepIn K (.ref g44)=true)
  (z183_a:PySem.W.nsIn K mainGlobals "law" = some (some (.ref g45)))
  (z184_l:K.lookup g45=some ⟨oc45,od45,.func (PySem.W.fnOf "law" "law" (defArgs s_law) (defBody s_law) (defScope s_law) .none kV45 dc45 pm45 an45 cd45 ct45),sl45⟩)
  (z185_o:PySem.W.codeIn K cd45 "law" = true)
  (z186_k:PySem.W.keepIn K (.ref g45)=true)
  (z187_isinstance:PySem.W.nsIn K mainGlobals "isinstance" = some none)
  (z188_int:PySem.W.nsIn K mainGlobals "int" = some none)
  (z189_bool:PySem.W.nsIn K mainGlobals "bool" = some none)
  (z190_abs:PySem.W.nsIn K mainGlobals "abs" = some none)
  (z191_len:PySem.W.nsIn K mainGlobals "len" = some none)
  (z192_tuple:PySem.W.nsIn K mainGlobals "tuple" = some none)
  (z193_list:PySem.W.nsIn K mainGlobals "list" = some none)
  (z194_min:PySem.W.nsIn K mainGlobals "min" = some none)
  (z195_max:PySem.W.nsIn K mainGlobals "max" = some none)
  (z196_range:PySem.W.nsIn K mainGlobals "range" = some none)
  (z197_all:PySem.W.nsIn K mainGlobals "all" = some none)
  (z198_sorted:PySem.W.nsIn K mainGlobals "sorted" = some none)
  (z199_enumerate:PySem.W.nsIn K mainGlobals "enumerate" = some none)
  (z200_reversed:PySem.W.nsIn K mainGlobals "reversed" = some none)
  (z201_zip:PySem.W.nsIn K mainGlobals "zip" = some none)
  (z202_sum:PySem.W.nsIn K mainGlobals "sum" = some none)
  (z203_any:PySem.W.nsIn K mainGlobals "any" = some none)
  (z204_ValueError:PySem.W.nsIn K mainGlobals "ValueError" = some none)
  (z205_MOST_PLACES:PySem.W.nsIn K mainGlobals "MOST_PLACES" = some (some (.int 8 t1)))
  (z206_MOST_PIPES:PySem.W.nsIn K mainGlobals "MOST_PIPES" = some (some (.int 28 t2)))
  (z207_MOST_IN_HARDNESS:PySem.W.nsIn K mainGlobals "MOST_IN_HARDNESS" = some (some (.int 1000000000 t3)))
  (z208_pg:PySem.W.plainGet K C Str.empty=true)
  (z209_hd:PySem.W.hasDictIn K C=true)
  (z210_po:PySem.W.plainOver K C=true)
  (z211_sa:PySem.W.findIn K (.ref C) "__setattr__" = some (some (.builtin "object.__setattr__")))
  (z212_nsize:PySem.W.findIn K (.ref C) "size" = some none)
  (z213_nlaid:PySem.W.findIn K (.ref C) "laid" = some none)
  (z214_mk:PySem.W.makesIn K C=true)
  (z215_kc:PySem.W.keepIn K (.ref C)=true)
  (z217_exc:PySem.W.excIn K CN veMro "ValueError.__new__" = true)
  (z219_e1:(PySem.W.clsIn K CN).isSome=true)
  (z220_e2:PySem.W.findIn K (.ref CN) "__getattribute__" = some (some (.builtin "BaseException.__getattribute__")))
  (z221_e3:PySem.W.findIn K (.ref CN) "__getattr__" = some none)
  (z222_e4:PySem.W.findIn K (.ref CN) "__class__" = some (some (.builtin "object.__class__")))
  (z223_e5:PySem.W.specialIn K (.builtin "object.__class__") "__get__" = some (some (.builtin "getset_descriptor.__get__")))
  (z224_e6:PySem.W.takesIn K (.builtin "object.__class__")=some true)
  (z225_e7:PySem.W.mroIn K CN (.type "object")=some true)
  (z226_e8:PySem.W.mroIn K CN (.type "BaseException")=some true)
  (z228_x:PySem.W.exmOne K (.ref CN) (.ref CE)=some true)
  (z230_i:PySem.W.kitOne K (.ref CN) (.ref c3)=some false)
  (z232_i:PySem.W.kitOne K (.ref CN) (.ref c4)=some false)
  (z234_i:PySem.W.kitOne K (.ref CN) (.ref c5)=some false)
  (z236_i:PySem.W.kitOne K (.ref CN) (.ref c6)=some false)
  (z238_i:PySem.W.kitOne K (.ref CN) (.ref c7)=some false)
  (z239_i:PySem.W.kitOne K (.ref CN) (.ref CN)=some true)
  (z240_i:PySem.W.kitOne K (.ref CN) (.type "ValueError")=some true) :
  ∃ fd:FuncData,(∀ (s:Shared) (v:Value),BindsTo s fd ⟨[v],[]⟩ [("_law_script",v)])∧∀ base:Heap,K.In base→base.Ns mainGlobals mg→FnOk l.prog w K mg base CX0 13 fa fd ["_law_script"] (spLaw K):=by
 have e:=hfa.symm.trans (PySem.W.mg_of X G z183_a)
 cases e
 have F0:=fun_mk (st:=s_is_whole) z1_l z2_o z3_k
 have b0:=F0.binds (ps:=["value"]) fun _ _ _ _ _ _ us hl=>match us,hl with | [_],_=>rfl
 have m0:=PySem.W.mg_of X G z0_a
 have F1:=fun_mk (st:=s_common_divisor) z5_l z6_o z7_k
 have b1:=F1.binds (ps:=["a","b"]) fun _ _ _ _ _ _ us hl=>match us,hl with | [_,_],_=>rfl
 have m1:=PySem.W.mg_of X G z4_a
 have F2:=fun_mk (st:=s_is_fraction) z9_l z10_o z11_k
 have b2:=F2.binds (ps:=["value"]) fun _ _ _ _ _ _ us hl=>match us,hl with | [_],_=>rfl
 have m2:=PySem.W.mg_of X G z8_a
 have F3:=fun_mk (st:=s_counts_one_of) z13_l z14_o z15_k
 have b3:=F3.binds (ps:=["value","many"]) fun _ _ _ _ _ _ us hl=>match us,hl with | [_,_],_=>rfl
 have m3:=PySem.W.mg_of X G z12_a
 have F4:=fun_mk (st:=s_is_hardness) z17_l z18_o z19_k
 have b4:=F4.binds (ps:=["value"]) fun _ _ _ _ _ _ us hl=>match us,hl with | [_],_=>rfl
 have m4:=PySem.W.mg_of X G z16_a
 have F5:=fun_mk (st:=s_is_pipe) z21_l z22_o z23_k
 have b5:=F5.binds (ps:=["value","places"]) fun _ _ _ _ _ _ us hl=>match us,hl with | [_,_],_=>rfl
 have m5:=PySem.W.mg_of X G z20_a
 have F6:=fun_mk (st:=s_is_net) z25_l z26_o z27_k
 have b6:=F6.binds (ps:=["places","pipes"]) fun _ _ _ _ _ _ us hl=>match us,hl with | [_,_],_=>rfl
 have m6:=PySem.W.mg_of X G z24_a
 have F7:=fun_mk (st:=s_neighbours) z29_l z30_o z31_k
 have b7:=F7.binds (ps:=["pipes","at"]) fun _ _ _ _ _ _ us hl=>match us,hl with | [_,_],_=>rfl
 have m7:=PySem.W.mg_of X G z28_a
 have F8:=fun_mk (st:=s_Net___init__) z34_l z35_o z36_k
 have b8:=F8.binds (ps:=["self","places","pipes"]) fun _ _ _ _ _ _ us hl=>match us,hl with | [_,_,_],_=>rfl
 have F9:=fun_mk (st:=s_Net_pipes) z39_l z40_o z41_k
 have b9:=F9.binds (ps:=["self"]) fun _ _ _ _ _ _ us hl=>match us,hl with | [_],_=>rfl
 have Tm9:Meth K C "pipes" g9:=⟨z37_a,z38_i,z41_k⟩
 have F10:=fun_mk (st:=s_Net_part) z44_l z45_o z46_k
 have b10:=F10.binds (ps:=["self","at"]) fun _ _ _ _ _ _ us hl=>match us,hl with | [_,_],_=>rfl
 have Tm10:Meth K C "part" g10:=⟨z42_a,z43_i,z46_k⟩
 have F11:=fun_mk (st:=s_made) z48_l z49_o z50_k
 have b11:=F11.binds (ps:=["a","b"]) fun _ _ _ _ _ _ us hl=>match us,hl with | [_,_],_=>rfl
 have m11:=PySem.W.mg_of X G z47_a
 have F12:=fun_mk (st:=s_plus) z52_l z53_o z54_k
 have b12:=F12.binds (ps:=["one","other"]) fun _ _ _ _ _ _ us hl=>match us,hl with | [_,_],_=>rfl
 have m12:=PySem.W.mg_of X G z51_a
 have F13:=fun_mk (st:=s_times) z56_l z57_o z58_k
 have b13:=F13.binds (ps:=["one","other"]) fun _ _ _ _ _ _ us hl=>match us,hl with | [_,_],_=>rfl
 have m13:=PySem.W.mg_of X G z55_a
 have F14:=fun_mk (st:=s_over) z60_l z61_o z62_k
 have b14:=F14.binds (ps:=["one","other"]) fun _ _ _ _ _ _ us hl=>match us,hl with | [_,_],_=>rfl
 have m14:=PySem.W.mg_of X G z59_a
 have F15:=fun_mk (st:=s_total) z64_l z65_o z66_k
 have b15:=F15.binds (ps:=["fractions"]) fun _ _ _ _ _ _ us hl=>match us,hl with | [_],_=>rfl
 have m15:=PySem.W.mg_of X G z63_a
 have F16:=fun_mk (st:=s_scale_of) z68_l z69_o z70_k
 have b16:=F16.binds (ps:=["pipes"]) fun _ _ _ _ _ _ us hl=>match us,hl with | [_],_=>rfl
 have m16:=PySem.W.mg_of X G z67_a
 have F17:=fun_mk (st:=s_scaled_ease) z72_l z73_o z74_k
 have b17:=F17.binds (ps:=["hardness","scale"]) fun _ _ _ _ _ _ us hl=>match us,hl with | [_,_],_=>rfl
 have m17:=PySem.W.mg_of X G z71_a
 have F18:=fun_mk (st:=s_entry) z76_l z77_o z78_k
 have b18:=F18.binds (ps:=["pipes","scale","one","other"]) fun _ _ _ _ _ _ us hl=>match us,hl with | [_,_,_,_],_=>rfl
 have m18:=PySem.W.mg_of X G z75_a
 have F19:=fun_mk (st:=s_sheet_row) z80_l z81_o z82_k
 have b19:=F19.binds (ps:=["pipes","scale","one","places"]) fun _ _ _ _ _ _ us hl=>match us,hl with | [_,_,_,_],_=>rfl
 have m19:=PySem.W.mg_of X G z79_a
 have F20:=fun_mk (st:=s_sheet_of) z84_l z85_o z86_k
 have b20:=F20.binds (ps:=["pipes","scale","places"]) fun _ _ _ _ _ _ us hl=>match us,hl with | [_,_,_],_=>rfl
 have m20:=PySem.W.mg_of X G z83_a
 have F21:=fun_mk (st:=s_row_without) z88_l z89_o z90_k
 have b21:=F21.binds (ps:=["row","by","at","divisor"]) fun _ _ _ _ _ _ us hl=>match us,hl with | [_,_,_,_],_=>rfl
 have m21:=PySem.W.mg_of X G z87_a
 have F22:=fun_mk (st:=s_cleared) z92_l z93_o z94_k
 have b22:=F22.binds (ps:=["rows"]) fun _ _ _ _ _ _ us hl=>match us,hl with | [_],_=>rfl
 have m22:=PySem.W.mg_of X G z91_a
 have F23:=fun_mk (st:=s_solved) z96_l z97_o z98_k
 have b23:=F23.binds (ps:=["rows","amounts"]) fun _ _ _ _ _ _ us hl=>match us,hl with | [_,_],_=>rfl
 have m23:=PySem.W.mg_of X G z95_a
 have F24:=fun_mk (st:=s_asked_sum) z100_l z101_o z102_k
 have b24:=F24.binds (ps:=["place","one","other"]) fun _ _ _ _ _ _ us hl=>match us,hl with | [_,_,_],_=>rfl
 have m24:=PySem.W.mg_of X G z99_a
 have F25:=fun_mk (st:=s_heights_between) z104_l z105_o z106_k
 have b25:=F25.binds (ps:=["net","one","other"]) fun _ _ _ _ _ _ us hl=>match us,hl with | [_,_,_],_=>rfl
 have m25:=PySem.W.mg_of X G z103_a
 have F26:=fun_mk (st:=s_are_places) z108_l z109_o z110_k
 have b26:=F26.binds (ps:=["net","places"]) fun _ _ _ _ _ _ us hl=>match us,hl with | [_,_],_=>rfl
 have m26:=PySem.W.mg_of X G z107_a
 have F27:=fun_mk (st:=s_check_places) z112_l z113_o z114_k
 have b27:=F27.binds (ps:=["net","places"]) fun _ _ _ _ _ _ us hl=>match us,hl with | [_,_],_=>rfl
 have m27:=PySem.W.mg_of X G z111_a
 have F28:=fun_mk (st:=s__law_cell_at) z116_l z117_o z118_k
 have b28:=F28.binds (ps:=["_law_script","_law_k"]) fun _ _ _ _ _ _ us hl=>match us,hl with | [_,_],_=>rfl
 have m28:=PySem.W.mg_of X G z115_a
 have F29:=fun_mk (st:=s__law_draw) z120_l z121_o z122_k
 have b29:=F29.binds (ps:=["_law_cell","_law_k","_law_many"]) fun _ _ _ _ _ _ us hl=>match us,hl with | [_,_,_],_=>rfl
 have m29:=PySem.W.mg_of X G z119_a
 have F30:=fun_mk (st:=s__law_least) z124_l z125_o z126_k
 have b30:=F30.binds (ps:=["_law_a","_law_b"]) fun _ _ _ _ _ _ us hl=>match us,hl with | [_,_],_=>rfl
 have m30:=PySem.W.mg_of X G z123_a
 have F31:=fun_mk (st:=s__law_told) z128_l z129_o z130_k
 have b31:=F31.binds (ps:=["_law_script","_law_first","_law_most"]) fun _ _ _ _ _ _ us hl=>match us,hl with | [_,_,_],_=>rfl
 have m31:=PySem.W.mg_of X G z127_a
 have F32:=fun_mk (st:=s_hardness_of) z132_l z133_o z134_k
 have b32:=F32.binds (ps:=["net","one","other"]) fun _ _ _ _ _ _ us hl=>match us,hl with | [_,_,_],_=>rfl
 have m32:=PySem.W.mg_of X G z131_a
 have F33:=fun_mk (st:=s_ease_between) z136_l z137_o z138_k
 have b33:=F33.binds (ps:=["pipes","one","other"]) fun _ _ _ _ _ _ us hl=>match us,hl with | [_,_,_],_=>rfl
 have m33:=PySem.W.mg_of X G z135_a
 have F34:=fun_mk (st:=s_ease_at) z140_l z141_o z142_k
 have b34:=F34.binds (ps:=["pipes","at"]) fun _ _ _ _ _ _ us hl=>match us,hl with | [_,_],_=>rfl
 have m34:=PySem.W.mg_of X G z139_a
 have F35:=fun_mk (st:=s_ease_by_way_of) z144_l z145_o z146_k
 have b35:=F35.binds (ps:=["pipes","one","at","other"]) fun _ _ _ _ _ _ us hl=>match us,hl with | [_,_,_,_],_=>rfl
 have m35:=PySem.W.mg_of X G z143_a
 have F36:=fun_mk (st:=s_ease_without) z148_l z149_o z150_k
 have b36:=F36.binds (ps:=["pipes","one","at","other"]) fun _ _ _ _ _ _ us hl=>match us,hl with | [_,_,_,_],_=>rfl
 have m36:=PySem.W.mg_of X G z147_a
 have F37:=fun_mk (st:=s_pairs) z152_l z153_o z154_k
 have b37:=F37.binds (ps:=["many"]) fun _ _ _ _ _ _ us hl=>match us,hl with | [_],_=>rfl
 have m37:=PySem.W.mg_of X G z151_a
 have F38:=fun_mk (st:=s_net_of_eases) z156_l z157_o z158_k
 have b38:=F38.binds (ps:=["places","eases"]) fun _ _ _ _ _ _ us hl=>match us,hl with | [_,_],_=>rfl
 have m38:=PySem.W.mg_of X G z155_a
 have F39:=fun_mk (st:=s_slim) z160_l z161_o z162_k
 have b39:=F39.binds (ps:=["net"]) fun _ _ _ _ _ _ us hl=>match us,hl with | [_],_=>rfl
 have m39:=PySem.W.mg_of X G z159_a
 have F40:=fun_mk (st:=s_counts_one_of) z164_l z165_o z166_k
 have b40:=F40.binds (ps:=["value","many"]) fun _ _ _ _ _ _ us hl=>match us,hl with | [_,_],_=>rfl
 have m40:=PySem.W.mg_of X G z163_a
 have F41:=fun_mk (st:=s_taken_out) z168_l z169_o z170_k
 have b41:=F41.binds (ps:=["net","at"]) fun _ _ _ _ _ _ us hl=>match us,hl with | [_,_],_=>rfl
 have m41:=PySem.W.mg_of X G z167_a
 have F42:=fun_mk (st:=s__law_refused) z172_l z173_o z174_k
 have b42:=F42.binds (ps:=["_law_net","_law_at"]) fun _ _ _ _ _ _ us hl=>match us,hl with | [_,_],_=>rfl
 have m42:=PySem.W.mg_of X G z171_a
 have F43:=fun_mk (st:=s__law_thin) z176_l z177_o z178_k
 have b43:=F43.binds (ps:=["_law_net"]) fun _ _ _ _ _ _ us hl=>match us,hl with | [_],_=>rfl
 have m43:=PySem.W.mg_of X G z175_a
 have F44:=fun_mk (st:=s__law_slim) z180_l z181_o z182_k
 have b44:=F44.binds (ps:=["_law_net","_law_told_here"]) fun _ _ _ _ _ _ us hl=>match us,hl with | [_,_],_=>rfl
 have m44:=PySem.W.mg_of X G z179_a
 have F45:=fun_mk (st:=s_law) z184_l z185_o z186_k
 have m45:=PySem.W.mg_of X G z183_a
 have T0:Txt K mg C t1 t2 t3:=⟨PySem.W.mg_none_of X G z187_isinstance,PySem.W.mg_none_of X G z188_int,PySem.W.mg_none_of X G z189_bool,PySem.W.mg_none_of X G z190_abs,PySem.W.mg_none_of X G z191_len,PySem.W.mg_none_of X G z192_tuple,PySem.W.mg_none_of X G z193_list,PySem.W.mg_none_of X G z194_min,PySem.W.mg_none_of X G z195_max,PySem.W.mg_none_of X G z196_range,PySem.W.mg_none_of X G z197_all,PySem.W.mg_none_of X G z198_sorted,PySem.W.mg_none_of X G z199_enumerate,PySem.W.mg_none_of X G z200_reversed,PySem.W.mg_none_of X G z201_zip,PySem.W.mg_none_of X G z202_sum,PySem.W.mg_none_of X G z203_any,PySem.W.mg_none_of X G z204_ValueError,PySem.W.mg_of X G z205_MOST_PLACES,PySem.W.mg_of X G z206_MOST_PIPES,PySem.W.mg_of X G z207_MOST_IN_HARDNESS,⟨z208_pg,z209_hd,z210_po,z211_sa⟩,z212_nsize,z213_nlaid⟩
 have M_Net:Mk K C g8:=⟨z214_mk,z32_a,z33_i,z215_kc⟩
 have m_Net:mg "Net" = some (.ref C):=PySem.W.mg_of X G z216_Net
 have T1:TxtO K mg C CN:=⟨PySem.W.mg_none_of X G z196_range,PySem.W.mg_none_of X G z191_len,⟨z208_pg,z209_hd,z210_po,z211_sa⟩,z212_nsize,z217_exc,PySem.W.mg_of X G z218_NoPlace⟩
 have T2:Others K mg CN CE c3 c4 c5 c6 c7:=⟨⟨z219_e1,z220_e2,z221_e3,z222_e4,z223_e5,z224_e6,z225_e7,z226_e8⟩,PySem.W.mg_of X G z227_NetError,z228_x,PySem.W.mg_of X G z229_BadNet,z230_i,PySem.W.mg_of X G z231_BadFraction,z232_i,PySem.W.mg_of X G z233_NoPipe,z234_i,PySem.W.mg_of X G z235_BadFlows,z236_i,PySem.W.mg_of X G z237_BadRow,z238_i,PySem.W.mg_of X G z218_NoPlace,z239_i,z240_i,PySem.W.mg_none_of X G z187_isinstance,PySem.W.mg_none_of X G z204_ValueError,PySem.W.mg_none_of X G z203_any⟩
 refine ⟨PySem.W.fnOf "law" "law" (defArgs s_law) (defBody s_law) (defScope s_law) .none kV45 dc45 pm45 an45 cd45 ct45,fun s v=>.of_eq rfl,fun base _ _=>?_⟩
 have G0:=ok_whole (P:=l.prog) (w:=w) (mg:=mg) (base:=base) F0 T0
 have G1:=ok_gcd (P:=l.prog) (w:=w) (mg:=mg) (base:=base) F1 T0
 have G2:=ok_fraction (P:=l.prog) (w:=w) (mg:=mg) (base:=base) F2 T0 m0 z3_k b0 G0 m1 z7_k b1 G1
 have G3:=ok_counts (P:=l.prog) (w:=w) (mg:=mg) (base:=base) F3 T0 m0 z3_k b0 G0
 have G4:=ok_hard (P:=l.prog) (w:=w) (mg:=mg) (base:=base) F4 T0 m2 z11_k b2 G2
 have G5:=ok_pipe (P:=l.prog) (w:=w) (mg:=mg) (base:=base) F5 T0 m3 z15_k b3 G3 m4 z19_k b4 G4
 have G6:=ok_net (P:=l.prog) (w:=w) (mg:=mg) (base:=base) F6 T0 m0 z3_k b0 G0 m5 z23_k b5 G5
 have G7:=ok_nb (P:=l.prog) (w:=w) (mg:=mg) (base:=base) F7
 have G8:=ok_init (P:=l.prog) (w:=w) (mg:=mg) (base:=base) F8 T0 m6 z27_k b6 G6
 have G9:=ok_pipes (P:=l.prog) (w:=w) (mg:=mg) (base:=base) F9 T0
 have G10:=ok_part (P:=l.prog) (w:=w) (mg:=mg) (base:=base) F10 T0 m3 z15_k b3 G3 m7 z31_k b7 G7
 have G11:=ok_made (P:=l.prog) (w:=w) (mg:=mg) (base:=base) F11 T0 m0 z3_k b0 G0 m1 z7_k b1 G1
 have G12:=ok_plus (P:=l.prog) (w:=w) (mg:=mg) (base:=base) F12 m11 z50_k b11 G11
 have G13:=ok_times (P:=l.prog) (w:=w) (mg:=mg) (base:=base) F13 m11 z50_k b11 G11
 have G14:=ok_over (P:=l.prog) (w:=w) (mg:=mg) (base:=base) F14 m11 z50_k b11 G11
 have G15:=ok_total (P:=l.prog) (w:=w) (mg:=mg) (base:=base) F15 m12 z54_k b12 G12
 have G16:=ok_scale (P:=l.prog) (w:=w) (mg:=mg) (base:=base) F16 m1 z7_k b1 G1
 have G17:=ok_ease (P:=l.prog) (w:=w) (mg:=mg) (base:=base) F17
 have G18:=ok_entry (P:=l.prog) (w:=w) (mg:=mg) (base:=base) F18 T0 m17 z74_k b17 G17
 have G19:=ok_row (P:=l.prog) (w:=w) (mg:=mg) (base:=base) F19 m18 z78_k b18 G18
 have G20:=ok_sheet (P:=l.prog) (w:=w) (mg:=mg) (base:=base) F20 m19 z82_k b19 G19
 have G21:=ok_rowwo (P:=l.prog) (w:=w) (mg:=mg) (base:=base) F21 T0
 have G22:=ok_cleared (P:=l.prog) (w:=w) (mg:=mg) (base:=base) F22 T0 m21 z90_k b21 G21
 have G23:=ok_solved (P:=l.prog) (w:=w) (mg:=mg) (base:=base) F23 T0 m22 z94_k b22 G22 m11 z50_k b11 G11
 have G24:=ok_asked (P:=l.prog) (w:=w) (mg:=mg) (base:=base) F24
 have G25:=ok_hb (P:=l.prog) (w:=w) (mg:=mg) (base:=base) F25 T0 Tm9 b9 G9 Tm10 b10 G10 m16 z70_k b16 G16 m24 z102_k b24 G24 m20 z86_k b20 G20 m23 z98_k b23 G23
 have G26:=ok_arepl (P:=l.prog) (w:=w) (mg:=mg) (base:=base) F26 T0 m3 z15_k b3 G3
 have G27:=ok_checkpl (P:=l.prog) (w:=w) (mg:=mg) (base:=base) F27 m26 z110_k b26 G26
 have G28:=ok_cell (P:=l.prog) (w:=w) (mg:=mg) (base:=base) F28 T0
 have G29:=ok_draw (P:=l.prog) (w:=w) (mg:=mg) (base:=base) F29
 have G30:=ok_least (P:=l.prog) (w:=w) (mg:=mg) (base:=base) F30
 have G31:=ok_told (P:=l.prog) (w:=w) (mg:=mg) (base:=base) F31 T0 m28 z118_k b28 G28 m29 z122_k b29 G29 m30 z126_k b30 G30
 have G32:=ok_hardof (P:=l.prog) (w:=w) (mg:=mg) (base:=base) F32 T0 Tm10 b10 G10 m27 z114_k b27 G27 m25 z106_k b25 G25
 have G33:=ok_ezb (P:=l.prog) (w:=w) (mg:=mg) (base:=base) F33 m15 z66_k b15 G15 m14 z62_k b14 G14
 have G34:=ok_eza (P:=l.prog) (w:=w) (mg:=mg) (base:=base) F34 m15 z66_k b15 G15 m14 z62_k b14 G14
 have G35:=ok_ezw (P:=l.prog) (w:=w) (mg:=mg) (base:=base) F35 m33 z138_k b33 G33 m34 z142_k b34 G34 m13 z58_k b13 G13 m14 z62_k b14 G14
 have G36:=ok_ezo (P:=l.prog) (w:=w) (mg:=mg) (base:=base) F36 m33 z138_k b33 G33 m35 z146_k b35 G35 m12 z54_k b12 G12
 have G37:=ok_pairs (P:=l.prog) (w:=w) (mg:=mg) (base:=base) F37 T0
 have G38:=ok_noe (P:=l.prog) (w:=w) (mg:=mg) (base:=base) F38 M_Net m_Net b8 G8 m14 z62_k b14 G14
 have G39:=ok_slim (P:=l.prog) (w:=w) (mg:=mg) (base:=base) F39 T0 Tm9 b9 G9 m38 z158_k b38 G38 m37 z154_k b37 G37 m33 z138_k b33 G33
 have G40:=ok_counts2 (P:=l.prog) (w:=w) (mg:=mg) (base:=base) F40 T0 m0 z3_k b0 G0
 have G41:=ok_out (P:=l.prog) (w:=w) (mg:=mg) (base:=base) F41 T1 Tm9 b9 G9 m40 z166_k b40 G40 m38 z158_k b38 G38 m37 z154_k b37 G37 m36 z150_k b36 G36
 have G42:=ok_refused (P:=l.prog) (w:=w) (mg:=mg) (base:=base) F42 T2 m41 z170_k b41 G41
 have G43:=ok_thin (P:=l.prog) (w:=w) (mg:=mg) (base:=base) F43 T0 Tm9 b9 G9
 have G44:=ok_lslim (P:=l.prog) (w:=w) (mg:=mg) (base:=base) F44 T0 Tm9 b9 G9 m39 z162_k b39 G39 m43 z178_k b43 G43 m12 z54_k b12 G12 m14 z62_k b14 G14
 exact ok_law F45 T0 ⟨m31,z130_k,b31,G31,M_Net,m_Net,b8,G8,m28,z118_k,b28,G28,m44,z182_k,b44,G44,m42,z174_k,b42,G42,m41,z170_k,b41,G41,m43,z178_k,b43,G43,Tm9,b9,G9,m32,z134_k,b32,G32⟩
theorem walk {l:PySem.W.OpenLaw} {q:Program} {loose:List Str} {XP:(Str→Option Value)→Heap→Prop} {YP:World→Heap→Prop} {d:DefRec} {K:Params→PySem.W.Frag} (hn:l.most=some 63) (hdf:d.params.defaults=[])
  (hY:∀ (w:World) (h:Heap),YP w h→(K w.params).In h)
  (F:∀ (w:World) (mg:Str→Option Value) (fa:Addr) (h:Heap),(K w.params).In h→h.Ns mainGlobals mg→mg d.name=some (.ref fa) →
   ∃ fd:FuncData,(∀ (s:Shared) (u:Value),BindsTo s fd ⟨[u],[]⟩ [("_law_script",u)])∧∀ base:Heap,(K w.params).In base→base.Ns mainGlobals mg→FnOk l.prog w (K w.params) mg base CX0 13 fa fd ["_law_script"] (spLaw (K w.params))) :
  PySem.W.WalkO q loose XP YP l.row.toRowW d [] (fun f vs=>PySem.call f vs) :=
 L2.walk_of (n:=63) (k:=13) (x:="_law_script") (CX:=fun _=>CX0) (sp:=fun w=>spLaw (K w.params)) hn (by decide) hdf ⟨rfl,by decide,by decide⟩ hY F (fun _ _ a ns hl _ hS=>⟨a,ns,rfl,hS,hl,fun _=>rfl⟩) fun _ _ _ _ _ z=>z
end K2
namespace Hd
open PySem PySem.W PySem.Calls PyProof.Rows L2
section
lay_quick PySem.Challenge.pw_splitstream_k08_whole_taken_out
noncomputable abbrev Q:Program:=PySem.W.Fast.tw6291202442586911191
theorem Q_eq:PySem.Challenge.pw_splitstream_k08_whole_taken_out=Q:=PySem.W.Fast.te6291202442586911191
def nth:List Stmt→Nat→Stmt
 | [],_=>.Pass ⟨0,0,0,0⟩
 | s::_,0=>s
 | _::l,n+1=>nth l n
noncomputable abbrev q (i:Nat):Stmt:=nth Q.main.body i
noncomputable def S0:Str:=⟨#[60,109,111,100,117,108,101,62]⟩
noncomputable def S1:Str:=⟨#[47,99,108,97,105,109,47,99,117,116,46,112,121]⟩
noncomputable def S2:Str:=⟨#[95,95,109,97,105,110,95,95]⟩
noncomputable def S3:Str:=⟨#[95,95,110,97,109,101,95,95]⟩
noncomputable def S4:Str:=⟨#[115,112,108,105,116,115,116,114,101,97,109,46,101,114,114,111,114,115]⟩
noncomputable def S5:Str:=⟨#[95,95,100,111,99,95,95]⟩
noncomputable def S6:Str:=⟨#[95,95,112,97,99,107,97,103,101,95,95]⟩
noncomputable def S7:Str:=⟨#[95,95,108,111,97,100,101,114,95,95]⟩
noncomputable def S8:Str:=⟨#[95,95,115,112,101,99,95,95]⟩
noncomputable def S9:Str:=⟨#[95,95,97,110,110,111,116,97,116,105,111,110,115,95,95]⟩
noncomputable def S10:Str:=⟨#[95,95,98,117,105,108,116,105,110,115,95,95]⟩
noncomputable def S11:Str:=⟨#[95,95,102,105,108,101,95,95]⟩
noncomputable def S12:Str:=⟨#[95,95,99,97,99,104,101,100,95,95]⟩
noncomputable def S13:Str:=⟨#[95,119,97,108,108]⟩
noncomputable def S14:Str:=⟨#[78,101,116,69,114,114,111,114]⟩
noncomputable def S15:Str:=⟨#[66,97,100,70,114,97,99,116,105,111,110]⟩
noncomputable def S16:Str:=⟨#[66,97,100,78,101,116]⟩
noncomputable def S17:Str:=⟨#[107]⟩
noncomputable def S18:Str:=⟨#[95,95,109,111,100,117,108,101,95,95]⟩
noncomputable def S19:Str:=⟨#[95,95,113,117,97,108,110,97,109,101,95,95]⟩
noncomputable def S20:Str:=⟨#[95,95,102,105,114,115,116,108,105,110,101,110,111,95,95]⟩
noncomputable def S21:Str:=⟨#[95,95,115,116,97,116,105,99,95,97,116,116,114,105,98,117,116,101,115,95,95]⟩
noncomputable def S22:Str:=⟨#[95,95,119,101,97,107,114,101,102,95,95]⟩
noncomputable def S23:Str:=⟨#[78,111,80,108,97,99,101]⟩
noncomputable def S24:Str:=⟨#[78,111,80,105,112,101]⟩
noncomputable def S25:Str:=⟨#[66,97,100,70,108,111,119,115]⟩
noncomputable def S26:Str:=⟨#[115,112,108,105,116,115,116,114,101,97,109,46,110,101,116,115]⟩
noncomputable def S27:Str:=⟨#[66,97,100,82,111,119]⟩
noncomputable def S28:Str:=⟨#[105,115,95,119,104,111,108,101]⟩
noncomputable def S29:Str:=⟨#[105,115,95,102,114,97,99,116,105,111,110]⟩
noncomputable def S30:Str:=⟨#[99,111,109,109,111,110,95,100,105,118,105,115,111,114]⟩
noncomputable def S31:Str:=⟨#[109,97,100,101]⟩
noncomputable def S32:Str:=⟨#[112,108,117,115]⟩
noncomputable def S33:Str:=⟨#[116,105,109,101,115]⟩
noncomputable def S34:Str:=⟨#[111,118,101,114]⟩
noncomputable def S35:Str:=⟨#[116,111,116,97,108]⟩
noncomputable def S36:Str:=⟨#[77,79,83,84,95,80,76,65,67,69,83]⟩
noncomputable def S37:Str:=⟨#[77,79,83,84,95,80,73,80,69,83]⟩
noncomputable def S38:Str:=⟨#[77,79,83,84,95,73,78,95,72,65,82,68,78,69,83,83]⟩
noncomputable def S39:Str:=⟨#[99,111,117,110,116,115,95,111,110,101,95,111,102]⟩
noncomputable def S40:Str:=⟨#[105,115,95,104,97,114,100,110,101,115,115]⟩
noncomputable def S41:Str:=⟨#[105,115,95,112,105,112,101]⟩
noncomputable def S42:Str:=⟨#[105,115,95,110,101,116]⟩
noncomputable def S43:Str:=⟨#[110,101,105,103,104,98,111,117,114,115]⟩
noncomputable def S44:Str:=⟨#[95,95,105,110,105,116,95,95]⟩
noncomputable def S45:Str:=⟨#[115,101,108,102]⟩
noncomputable def S46:Str:=⟨#[114,111,119]⟩
noncomputable def S47:Str:=⟨#[66,97,100,82,111,119,46,95,95,105,110,105,116,95,95]⟩
noncomputable def S48:Str:=⟨#[118,97,108,117,101]⟩
noncomputable def S49:Str:=⟨#[115,112,108,105,116,115,116,114,101,97,109,46,102,114,97,99,116,105,111,110,115]⟩
noncomputable def S50:Str:=⟨#[97]⟩
noncomputable def S51:Str:=⟨#[98]⟩
noncomputable def S52:Str:=⟨#[111,110,101]⟩
noncomputable def S53:Str:=⟨#[111,116,104,101,114]⟩
noncomputable def S54:Str:=⟨#[114,101,115,116]⟩
noncomputable def S55:Str:=⟨#[100,105,118,105,115,111,114]⟩
noncomputable def S56:Str:=⟨#[102,114,97,99,116,105,111,110,115]⟩
noncomputable def S57:Str:=⟨#[114,101,115,117,108,116]⟩
noncomputable def S58:Str:=⟨#[102,114,97,99,116,105,111,110]⟩
noncomputable def S59:Str:=⟨#[109,97,110,121]⟩
noncomputable def S60:Str:=⟨#[112,108,97,99,101,115]⟩
noncomputable def S61:Str:=⟨#[115,112,108,105,116,115,116,114,101,97,109,46,115,116,114,101,97,109,115]⟩
noncomputable def S62:Str:=⟨#[78,101,116]⟩
noncomputable def S63:Str:=⟨#[101,97,115,101,95,98,101,116,119,101,101,110]⟩
noncomputable def S64:Str:=⟨#[101,97,115,101,95,97,116]⟩
noncomputable def S65:Str:=⟨#[101,97,115,101,95,98,121,95,119,97,121,95,111,102]⟩
noncomputable def S66:Str:=⟨#[112,97,105,114,115]⟩
noncomputable def S67:Str:=⟨#[110,101,116,95,111,102,95,101,97,115,101,115]⟩
noncomputable def S68:Str:=⟨#[115,108,105,109]⟩
noncomputable def S69:Str:=⟨#[101,97,115,101,95,119,105,116,104,111,117,116]⟩
noncomputable def S70:Str:=⟨#[116,97,107,101,110,95,111,117,116]⟩
noncomputable def S71:Str:=⟨#[115,99,97,108,101,95,111,102]⟩
noncomputable def S72:Str:=⟨#[115,99,97,108,101,100,95,101,97,115,101]⟩
noncomputable def S73:Str:=⟨#[101,110,116,114,121]⟩
noncomputable def S74:Str:=⟨#[115,104,101,101,116,95,114,111,119]⟩
noncomputable def S75:Str:=⟨#[115,104,101,101,116,95,111,102]⟩
noncomputable def S76:Str:=⟨#[114,111,119,95,119,105,116,104,111,117,116]⟩
noncomputable def S77:Str:=⟨#[99,108,101,97,114,101,100]⟩
noncomputable def S78:Str:=⟨#[115,111,108,118,101,100]⟩
noncomputable def S79:Str:=⟨#[112,105,112,101,115]⟩
noncomputable def S80:Str:=⟨#[112,97,114,116]⟩
noncomputable def S81:Str:=⟨#[112,97,114,116,115]⟩
noncomputable def S82:Str:=⟨#[78,101,116,46,95,95,105,110,105,116,95,95]⟩
noncomputable def S83:Str:=⟨#[78,101,116,46,112,105,112,101,115]⟩
noncomputable def S84:Str:=⟨#[97,116]⟩
noncomputable def S85:Str:=⟨#[114,101,97,99,104,101,100]⟩
noncomputable def S86:Str:=⟨#[119,97,105,116,105,110,103]⟩
noncomputable def S87:Str:=⟨#[112,108,97,99,101]⟩
noncomputable def S88:Str:=⟨#[110,101,105,103,104,98,111,117,114]⟩
noncomputable def S89:Str:=⟨#[78,101,116,46,112,97,114,116]⟩
noncomputable def S90:Str:=⟨#[78,101,116,46,112,97,114,116,115]⟩
noncomputable def S91:Str:=⟨#[108,97,105,100]⟩
noncomputable def S92:Str:=⟨#[115,105,122,101]⟩
noncomputable def S93:Str:=⟨#[95,95,100,105,99,116,95,95]⟩
noncomputable def S94:Str:=⟨#[115,112,108,105,116,115,116,114,101,97,109,46,115,108,105,109,115]⟩
noncomputable def S95:Str:=⟨#[112,114,111,100,117,99,116]⟩
noncomputable def S96:Str:=⟨#[115,99,97,108,101]⟩
noncomputable def S97:Str:=⟨#[115,116,97,114,116]⟩
noncomputable def S98:Str:=⟨#[101,110,100]⟩
noncomputable def S99:Str:=⟨#[104,97,114,100,110,101,115,115]⟩
noncomputable def S100:Str:=⟨#[115,112,108,105,116,115,116,114,101,97,109,46,115,104,101,101,116,115]⟩
noncomputable def S101:Str:=⟨#[108,97,119,95,115,112,108,105,116,115,116,114,101,97,109,95,107,48,56,95,119,104,111,108,101,95,116,97,107,101,110,95,111,117,116]⟩
noncomputable def S102:Str:=⟨#[97,114,101,95,112,108,97,99,101,115]⟩
noncomputable def S103:Str:=⟨#[99,104,101,99,107,95,112,108,97,99,101,115]⟩
noncomputable def S104:Str:=⟨#[97,115,107,101,100,95,115,117,109]⟩
noncomputable def S105:Str:=⟨#[104,101,105,103,104,116,115,95,98,101,116,119,101,101,110]⟩
noncomputable def S106:Str:=⟨#[104,97,114,100,110,101,115,115,95,111,102]⟩
noncomputable def S107:Str:=⟨#[95,108,97,119,95,99,101,108,108,95,97,116]⟩
noncomputable def S108:Str:=⟨#[95,108,97,119,95,100,114,97,119]⟩
noncomputable def S109:Str:=⟨#[95,108,97,119,95,108,101,97,115,116]⟩
noncomputable def S110:Str:=⟨#[95,108,97,119,95,116,111,108,100]⟩
noncomputable def S111:Str:=⟨#[95,108,97,119,95,112,97,114,116]⟩
noncomputable def S112:Str:=⟨#[95,108,97,119,95,116,104,105,110]⟩
noncomputable def S113:Str:=⟨#[95,108,97,119,95,115,108,105,109]⟩
noncomputable def S114:Str:=⟨#[95,108,97,119,95,114,101,102,117,115,101,100]⟩
noncomputable def S115:Str:=⟨#[108,97,119]⟩
noncomputable def S116:Str:=⟨#[110,101,116]⟩
noncomputable def S117:Str:=⟨#[95,108,97,119,95,115,99,114,105,112,116]⟩
noncomputable def S118:Str:=⟨#[95,108,97,119,95,107]⟩
noncomputable def S119:Str:=⟨#[95,108,97,119,95,99,101,108,108]⟩
noncomputable def S120:Str:=⟨#[95,108,97,119,95,109,97,110,121]⟩
noncomputable def S121:Str:=⟨#[95,108,97,119,95,112,114,105,109,101,115]⟩
noncomputable def S122:Str:=⟨#[95,108,97,119,95,98,108,101,110,100]⟩
noncomputable def S123:Str:=⟨#[95,108,97,119,95,97]⟩
noncomputable def S124:Str:=⟨#[95,108,97,119,95,98]⟩
noncomputable def S125:Str:=⟨#[95,108,97,119,95,111,110,101]⟩
noncomputable def S126:Str:=⟨#[95,108,97,119,95,111,116,104,101,114]⟩
noncomputable def S127:Str:=⟨#[95,108,97,119,95,102,105,114,115,116]⟩
noncomputable def S128:Str:=⟨#[95,108,97,119,95,109,111,115,116]⟩
noncomputable def S129:Str:=⟨#[95,108,97,119,95,116,104,105,114,100]⟩
noncomputable def S130:Str:=⟨#[95,108,97,119,95,112,108,97,99,101,115]⟩
noncomputable def S131:Str:=⟨#[95,108,97,119,95,112,105,112,101,115]⟩
noncomputable def S132:Str:=⟨#[95,108,97,119,95,104,101,114,101]⟩
noncomputable def S133:Str:=⟨#[95,108,97,119,95,116,104,101,114,101]⟩
noncomputable def S134:Str:=⟨#[95,108,97,119,95,116,111,108,100,95,104,101,114,101]⟩
noncomputable def S135:Str:=⟨#[95,108,97,119,95,97,116]⟩
noncomputable def S136:Str:=⟨#[95,108,97,119,95,102,111,117,110,100]⟩
noncomputable def S137:Str:=⟨#[95,108,97,119,95,116,117,114,110]⟩
noncomputable def S138:Str:=⟨#[95,108,97,119,95,104,97,114,100,110,101,115,115]⟩
noncomputable def S139:Str:=⟨#[95,108,97,119,95,110,101,116]⟩
noncomputable def S140:Str:=⟨#[101,114,114,111,114]⟩
noncomputable def S141:Str:=⟨#[95,108,97,119,95,111,116,104,101,114,115]⟩
noncomputable abbrev e (P:Params) (s:Str) (n:Nat) (v:Value):DictEntry:=.mk (PyData.keyHash P s) (.str s n) v
noncomputable abbrev Z (_:Params):BT:=.nil
noncomputable abbrev L (o:Params→Obj) (P:Params):BT:=.node (o P) .nil .nil
noncomputable abbrev N (o:Params→Obj) (a b:Params→BT) (P:Params):BT:=.node (o P) (a P) (b P)
noncomputable abbrev x0:String:=SL.s2766695959194262286x5
noncomputable abbrev x1:String:=SL.s5856160107412720595x4
noncomputable abbrev x2:String:=SL.s658472552662922059x5
noncomputable abbrev x3:String:=SL.s14018661285674007319x4
noncomputable abbrev x4:String:=SL.s7097527257260152453x26
noncomputable abbrev x5:String:=SL.s7174869446012820540x8
noncomputable abbrev x6:String:=SL.s6070975301684473832x10
noncomputable abbrev x7:String:=SL.s11030030927630378310x26
noncomputable abbrev x8:String:=SL.s10062305145149207511x16
noncomputable abbrev x9:String:=SL.s17162191345867700912x4
noncomputable abbrev x10:String:=SL.s5946037652744460706x9
noncomputable abbrev x11:String:=SL.s4278001404047624695x13
noncomputable abbrev x12:String:=SL.s2742458400755230247x6
noncomputable abbrev x13:String:=SL.s4209523147560561109x18
noncomputable abbrev x14:String:=SL.s14755015743595814543x17
noncomputable abbrev x15:String:=SL.s10220274742760427390x26
noncomputable abbrev x16:String:=SL.s4290257624100764138x5
noncomputable abbrev x17:String:=SL.s4860613602091757760x24
noncomputable abbrev x18:String:=SL.s11443829558043349243x14
noncomputable abbrev x19:String:=SL.s6511155373996960695x17
noncomputable abbrev x20:String:=SL.s12411053484034534018x21
noncomputable abbrev yc (a:Str) (i:Nat) (b:Str) (j k l m n r:Nat) (c:Bool) (s:Nat) (v:Value) (x y z:Nat):Obj:=.mk (.type x1) none (.fields #[.str a i,.str b j,.str S1 k,.int l 0,.int m 0,.int 0 0,.int 0 0,.int n 0,.ref r,.bool c,.int 181 0,.ref s,.none,.none,.none,v,.int x 0,.int y 0,.str S1 z]) #[]
noncomputable abbrev yf (a b:Str) (s:Stmt) (k:Nat) (m:Value) (r:Nat):Obj:=.mk (.type x5) none (.func (.mk a b (defArgs s) (.stmts (defBody s)) (defScope s) k [] .none .none .none m none (.ref r) .none 0)) #[]
noncomputable abbrev yg (a b:Str) (s:Stmt):Obj:=.mk .none none (.func (.mk a b (defArgs s) (.stmts (defBody s)) (defScope s) 0 [] .none .none .none .none none .none .none 0)) #[]
noncomputable abbrev ys (x:String) (a:Array Value):Obj:=.mk (.type x) none (.seq a 0) #[]
noncomputable abbrev yv (a:Array Value):Obj:=.mk .none none (.fields a) #[]
noncomputable abbrev J:=Params→Obj
noncomputable def o0:J:=fun P=>(ys x0 #[])
noncomputable def o1:J:=fun P=>(yv #[])
noncomputable def o2:J:=fun P=>(yc S0 182 S0 183 184 1 0 0 11 .false 12 .none 185 1 186)
noncomputable def o3:J:=fun P=>(.mk (.type x2) none .plain #[(some (.ref 13)),(some (.ref 3)),(some (.ref 3)),none,(some (.str S2 164)),none,(some (.ref 0))])
noncomputable def h_a (P:Params):Heap:=⟨#[boot_o_0 P,boot_o_1 P,boot_o_2 P,boot_o_3 P,boot_o_4 P,boot_o_5 P,boot_o_6 P,boot_o_7 P,boot_o_8 P,boot_o_9 P,boot_o_10 P,o0 P,o1 P,o2 P,o3 P],{}⟩
noncomputable def t_b:Params→BT:=(N boot_o_0 (N boot_o_1 (N boot_o_3 (L boot_o_7) (L o0)) (N boot_o_5 (L boot_o_9) (L o2))) (N boot_o_2 (N boot_o_4 (L boot_o_8) (L o1)) (N boot_o_6 (L boot_o_10) (L o3))))
noncomputable def o4:J:=fun P=>(.mk (.type x3) none (.dict #[(e P S3 165 (.str S4 194)),(e P S5 166 .none),(e P S6 167 .none),(e P S7 168 (.builtin x4)),(e P S8 169 .none),(e P S9 170 (.ref 6)),(e P S10 171 (.ref 4)),(e P S11 173 (.str S1 172)),(e P S12 174 .none),(e P S13 193 (.ref 21)),(e P S14 213 (.ref 31)),(e P S15 229 (.ref 44)),(e P S16 245 (.ref 56))] 13) #[])
noncomputable def o5:J:=fun P=>(yv #[(.int 1 0),(.int 0 0),(.ref 20),(.int 5 0),(.int 0 0),(.ref 27),(.int 7 0),(.int 0 0),(.ref 40),(.int 9 0),(.int 0 0),(.ref 52)])
noncomputable def o6:J:=fun P=>(ys x0 #[(.str S17 190)])
noncomputable def o7:J:=fun P=>(yg S13 S13 (q 0))
noncomputable def o8:J:=fun P=>(.mk (.type x1) none (.fields #[(.str S13 187),(.str S13 188),(.str S1 189),(.int 1 0),(.int 1 0),(.int 0 0),(.int 0 0),(.int 3 0),(.ref 15),(.bool .true),(.int 181 0),(.ref 16),.none,(.ref 17),(.ref 18),(.ref 19),(.int 191 0),(.int 1 0),(.str S1 192)]) #[])
noncomputable def o9:J:=fun P=>(yf S13 S13 (q 0) 3 (.str S2 164) 20)
noncomputable def o10:J:=fun P=>(ys x0 #[(.type x6)])
noncomputable def o11:J:=fun P=>(.mk (.type x7) none (.fields #[(.builtin x8),(.type x9)]) #[])
noncomputable def o12:J:=fun P=>(.mk (.type x3) none (.dict #[(e P S18 203 (.str S4 194)),(e P S19 205 (.str S14 204)),(e P S20 207 (.int 5 206)),(e P S21 208 (.ref 29))] 4) #[])
noncomputable def o13:J:=fun P=>(yc S14 198 S14 199 200 5 0 0 25 .false 26 .none 201 5 202)
noncomputable def o14:J:=fun P=>(.mk (.type x2) none .plain #[(some (.ref 27)),(some (.ref 3)),(some (.ref 24)),none,(some (.str S4 194)),none,(some (.ref 0))])
noncomputable def o15:J:=fun P=>(.mk (.type x3) none (.dict #[(e P S18 203 (.str S4 194)),(e P S20 207 (.int 5 206)),(e P S21 208 (.ref 29)),(e P S22 210 (.ref 32)),(e P S5 211 .none)] 3) #[])
noncomputable def o16:J:=fun P=>(.mk (.type x9) none (.cls (.mk S14 [(.type x6)] [(.ref 31),(.type x6),(.type x10),(.type x11),(.type x12)] 30 S14 .true [] [(.ref 44),(.ref 56)] .false none .false)) #[(some (.ref 22)),none,(some (.str S14 196)),(some (.str S14 204)),(some (.builtin x13)),(some (.bool .true))])
noncomputable def o17:J:=fun P=>(.mk (.type x14) none (.fields #[(.str S22 209),(.ref 31),(.builtin x15),.none]) #[])
noncomputable def o18:J:=fun P=>(.mk (.type x16) none (.fields #[(.ref 31),(.ref 31),(.ref 31)]) #[])
noncomputable def o19:J:=fun P=>(.mk (.type x7) none (.fields #[(.builtin x17),(.ref 31)]) #[])
noncomputable def o20:J:=fun P=>(ys x0 #[(.ref 31)])
noncomputable def o21:J:=fun P=>(.mk (.type x3) none (.dict #[(e P S18 221 (.str S4 194)),(e P S19 223 (.str S15 222)),(e P S20 225 (.int 7 224)),(e P S21 226 (.ref 42))] 4) #[])
noncomputable def o22:J:=fun P=>(yc S15 216 S15 217 218 7 0 0 38 .false 39 .none 219 7 220)
noncomputable def o23:J:=fun P=>(.mk (.type x2) none .plain #[(some (.ref 40)),(some (.ref 3)),(some (.ref 37)),none,(some (.str S4 194)),none,(some (.ref 0))])
noncomputable def o24:J:=fun P=>(.mk (.type x3) none (.dict #[(e P S18 221 (.str S4 194)),(e P S20 225 (.int 7 224)),(e P S21 226 (.ref 42)),(e P S5 227 .none)] 2) #[])
noncomputable def o25:J:=fun P=>(.mk (.type x9) none (.cls (.mk S15 [(.ref 31)] [(.ref 44),(.ref 31),(.type x6),(.type x10),(.type x11),(.type x12)] 43 S15 .true [] [] .false none .false)) #[(some (.ref 35)),none,(some (.str S15 214)),(some (.str S15 222)),(some (.builtin x13)),(some (.bool .true))])
noncomputable def o26:J:=fun P=>(.mk (.type x16) none (.fields #[(.ref 44),(.ref 44),(.ref 44)]) #[])
noncomputable def o27:J:=fun P=>(.mk (.type x7) none (.fields #[(.builtin x17),(.ref 44)]) #[])
noncomputable def o28:J:=fun P=>(.mk (.type x3) none (.dict #[(e P S18 237 (.str S4 194)),(e P S19 239 (.str S16 238)),(e P S20 241 (.int 9 240)),(e P S21 242 (.ref 54))] 4) #[])
noncomputable def o29:J:=fun P=>(yc S16 232 S16 233 234 9 0 0 50 .false 51 .none 235 9 236)
noncomputable def o30:J:=fun P=>(.mk (.type x2) none .plain #[(some (.ref 52)),(some (.ref 3)),(some (.ref 49)),none,(some (.str S4 194)),none,(some (.ref 0))])
noncomputable def o31:J:=fun P=>(.mk (.type x3) none (.dict #[(e P S18 237 (.str S4 194)),(e P S20 241 (.int 9 240)),(e P S21 242 (.ref 54)),(e P S5 243 .none)] 2) #[])
noncomputable def o32:J:=fun P=>(.mk (.type x9) none (.cls (.mk S16 [(.ref 31)] [(.ref 56),(.ref 31),(.type x6),(.type x10),(.type x11),(.type x12)] 55 S16 .true [] [] .false none .false)) #[(some (.ref 47)),none,(some (.str S16 230)),(some (.str S16 238)),(some (.builtin x13)),(some (.bool .true))])
noncomputable def o33:J:=fun P=>(.mk (.type x16) none (.fields #[(.ref 56),(.ref 56),(.ref 56)]) #[])
noncomputable def o34:J:=fun P=>(.mk (.type x7) none (.fields #[(.builtin x17),(.ref 56)]) #[])
noncomputable def t_0:Params→BT:=(N boot_o_0 (N boot_o_1 (N o4 (N boot_o_7 (N o0 (L o16) (L o20)) (N o11 (L o1) (L o31))) (N o0 (N o7 (L o20) (L o1)) (N o13 (L o24) Z))) (N boot_o_5 (N boot_o_9 (N o6 (L o18) (L o28)) (N o0 (L o23) (L o33))) (N o2 (N o9 (L o21) (L o30)) (N o0 (L o26) Z)))) (N boot_o_2 (N boot_o_4 (N boot_o_8 (N o1 (L o17) (L o11)) (N o12 (L o22) (L o32))) (N o5 (N o8 (L o11) (L o29)) (N o14 (L o25) Z))) (N boot_o_6 (N boot_o_10 (N o0 (L o19) (L o0)) (N o1 (L o0) (L o34))) (N o3 (N o10 (L o0) (L o0)) (N o15 (L o27) Z)))))
noncomputable def o35:J:=fun P=>(.mk (.type x3) none (.dict #[(e P S3 165 (.str S4 194)),(e P S5 166 .none),(e P S6 167 .none),(e P S7 168 (.builtin x4)),(e P S8 169 .none),(e P S9 170 (.ref 6)),(e P S10 171 (.ref 4)),(e P S11 173 (.str S1 172)),(e P S12 174 .none),(e P S13 193 (.ref 21)),(e P S14 213 (.ref 31)),(e P S15 229 (.ref 44)),(e P S16 245 (.ref 56)),(e P S23 261 (.ref 68)),(e P S24 277 (.ref 80)),(e P S25 293 (.ref 92))] 16) #[])
noncomputable def o36:J:=fun P=>(yv #[(.int 1 0),(.int 0 0),(.ref 20),(.int 5 0),(.int 0 0),(.ref 27),(.int 7 0),(.int 0 0),(.ref 40),(.int 9 0),(.int 0 0),(.ref 52),(.int 11 0),(.int 0 0),(.ref 64),(.int 13 0),(.int 0 0),(.ref 76),(.int 15 0),(.int 0 0),(.ref 88)])
noncomputable def o37:J:=fun P=>(.mk (.type x9) none (.cls (.mk S14 [(.type x6)] [(.ref 31),(.type x6),(.type x10),(.type x11),(.type x12)] 30 S14 .true [] [(.ref 44),(.ref 56),(.ref 68),(.ref 80),(.ref 92)] .false none .false)) #[(some (.ref 22)),none,(some (.str S14 196)),(some (.str S14 204)),(some (.builtin x13)),(some (.bool .true))])
noncomputable def o38:J:=fun P=>(.mk (.type x3) none (.dict #[(e P S18 253 (.str S4 194)),(e P S19 255 (.str S23 254)),(e P S20 257 (.int 11 256)),(e P S21 258 (.ref 66))] 4) #[])
noncomputable def o39:J:=fun P=>(yc S23 248 S23 249 250 11 0 0 62 .false 63 .none 251 11 252)
noncomputable def o40:J:=fun P=>(.mk (.type x2) none .plain #[(some (.ref 64)),(some (.ref 3)),(some (.ref 61)),none,(some (.str S4 194)),none,(some (.ref 0))])
noncomputable def o41:J:=fun P=>(.mk (.type x3) none (.dict #[(e P S18 253 (.str S4 194)),(e P S20 257 (.int 11 256)),(e P S21 258 (.ref 66)),(e P S5 259 .none)] 2) #[])
noncomputable def o42:J:=fun P=>(.mk (.type x9) none (.cls (.mk S23 [(.ref 31)] [(.ref 68),(.ref 31),(.type x6),(.type x10),(.type x11),(.type x12)] 67 S23 .true [] [] .false none .false)) #[(some (.ref 59)),none,(some (.str S23 246)),(some (.str S23 254)),(some (.builtin x13)),(some (.bool .true))])
noncomputable def o43:J:=fun P=>(.mk (.type x16) none (.fields #[(.ref 68),(.ref 68),(.ref 68)]) #[])
noncomputable def o44:J:=fun P=>(.mk (.type x7) none (.fields #[(.builtin x17),(.ref 68)]) #[])
noncomputable def o45:J:=fun P=>(.mk (.type x3) none (.dict #[(e P S18 269 (.str S4 194)),(e P S19 271 (.str S24 270)),(e P S20 273 (.int 13 272)),(e P S21 274 (.ref 78))] 4) #[])
noncomputable def o46:J:=fun P=>(yc S24 264 S24 265 266 13 0 0 74 .false 75 .none 267 13 268)
noncomputable def o47:J:=fun P=>(.mk (.type x2) none .plain #[(some (.ref 76)),(some (.ref 3)),(some (.ref 73)),none,(some (.str S4 194)),none,(some (.ref 0))])
noncomputable def o48:J:=fun P=>(.mk (.type x3) none (.dict #[(e P S18 269 (.str S4 194)),(e P S20 273 (.int 13 272)),(e P S21 274 (.ref 78)),(e P S5 275 .none)] 2) #[])
noncomputable def o49:J:=fun P=>(.mk (.type x9) none (.cls (.mk S24 [(.ref 31)] [(.ref 80),(.ref 31),(.type x6),(.type x10),(.type x11),(.type x12)] 79 S24 .true [] [] .false none .false)) #[(some (.ref 71)),none,(some (.str S24 262)),(some (.str S24 270)),(some (.builtin x13)),(some (.bool .true))])
noncomputable def o50:J:=fun P=>(.mk (.type x16) none (.fields #[(.ref 80),(.ref 80),(.ref 80)]) #[])
noncomputable def o51:J:=fun P=>(.mk (.type x7) none (.fields #[(.builtin x17),(.ref 80)]) #[])
noncomputable def o52:J:=fun P=>(.mk (.type x3) none (.dict #[(e P S18 285 (.str S4 194)),(e P S19 287 (.str S25 286)),(e P S20 289 (.int 15 288)),(e P S21 290 (.ref 90))] 4) #[])
noncomputable def o53:J:=fun P=>(yc S25 280 S25 281 282 15 0 0 86 .false 87 .none 283 15 284)
noncomputable def o54:J:=fun P=>(.mk (.type x2) none .plain #[(some (.ref 88)),(some (.ref 3)),(some (.ref 85)),none,(some (.str S4 194)),none,(some (.ref 0))])
noncomputable def o55:J:=fun P=>(.mk (.type x3) none (.dict #[(e P S18 285 (.str S4 194)),(e P S20 289 (.int 15 288)),(e P S21 290 (.ref 90)),(e P S5 291 .none)] 2) #[])
noncomputable def o56:J:=fun P=>(.mk (.type x9) none (.cls (.mk S25 [(.ref 31)] [(.ref 92),(.ref 31),(.type x6),(.type x10),(.type x11),(.type x12)] 91 S25 .true [] [] .false none .false)) #[(some (.ref 83)),none,(some (.str S25 278)),(some (.str S25 286)),(some (.builtin x13)),(some (.bool .true))])
noncomputable def o57:J:=fun P=>(.mk (.type x16) none (.fields #[(.ref 92),(.ref 92),(.ref 92)]) #[])
noncomputable def o58:J:=fun P=>(.mk (.type x7) none (.fields #[(.builtin x17),(.ref 92)]) #[])
noncomputable def t_1:Params→BT:=(N boot_o_0 (N boot_o_1 (N o35 (N boot_o_7 (N o0 (N o37 (L o1) Z) (N o20 (L o48) Z)) (N o11 (N o1 (L o20) Z) (N o31 (L o1) Z))) (N o0 (N o7 (N o20 (L o41) Z) (N o1 (L o20) Z)) (N o13 (N o24 (L o1) Z) (N o20 (L o55) Z)))) (N boot_o_5 (N boot_o_9 (N o6 (N o18 (L o40) Z) (N o28 (L o50) Z)) (N o0 (N o23 (L o45) Z) (N o33 (L o54) Z))) (N o2 (N o9 (N o21 (L o43) Z) (N o30 (L o52) Z)) (N o0 (N o26 (L o47) Z) (N o38 (L o57) Z))))) (N boot_o_2 (N boot_o_4 (N boot_o_8 (N o1 (N o17 (L o39) Z) (N o11 (L o49) Z)) (N o12 (N o22 (L o11) Z) (N o32 (L o53) Z))) (N o36 (N o8 (N o11 (L o42) Z) (N o29 (L o11) Z)) (N o14 (N o25 (L o46) Z) (N o11 (L o56) Z)))) (N boot_o_6 (N boot_o_10 (N o0 (N o19 (L o0) Z) (N o0 (L o51) Z)) (N o1 (N o0 (L o0) Z) (N o34 (L o0) Z))) (N o3 (N o10 (N o0 (L o44) Z) (N o0 (L o0) Z)) (N o15 (N o27 (L o0) Z) (N o0 (L o58) Z))))))
noncomputable def o59:J:=fun P=>(.mk (.type x3) none (.dict #[(e P S3 165 (.str S26 388)),(e P S5 166 .none),(e P S6 167 .none),(e P S7 168 (.builtin x4)),(e P S8 169 .none),(e P S9 170 (.ref 6)),(e P S10 171 (.ref 4)),(e P S11 173 (.str S1 172)),(e P S12 174 .none),(e P S13 193 (.ref 21)),(e P S14 213 (.ref 31)),(e P S15 229 (.ref 44)),(e P S16 245 (.ref 56)),(e P S23 261 (.ref 68)),(e P S24 277 (.ref 80)),(e P S25 293 (.ref 92)),(e P S27 318 (.ref 111)),(e P S28 327 (.ref 120)),(e P S29 334 (.ref 127)),(e P S30 345 (.ref 134)),(e P S31 354 (.ref 141)),(e P S32 362 (.ref 148)),(e P S33 370 (.ref 155)),(e P S34 378 (.ref 162)),(e P S35 387 (.ref 169)),(e P S36 391 (.int 8 390)),(e P S37 393 (.int 28 392)),(e P S38 395 (.int 1000000000 394)),(e P S39 403 (.ref 176)),(e P S40 410 (.ref 183)),(e P S41 418 (.ref 190)),(e P S42 424 (.ref 195)),(e P S43 430 (.ref 200))] 33) #[])
noncomputable def o60:J:=fun P=>(yv #[(.int 1 0),(.int 0 0),(.ref 20),(.int 5 0),(.int 0 0),(.ref 27),(.int 7 0),(.int 0 0),(.ref 40),(.int 9 0),(.int 0 0),(.ref 52),(.int 11 0),(.int 0 0),(.ref 64),(.int 13 0),(.int 0 0),(.ref 76),(.int 15 0),(.int 0 0),(.ref 88),(.int 17 0),(.int 0 0),(.ref 100),(.int 23 0),(.int 0 0),(.ref 119),(.int 25 0),(.int 0 0),(.ref 126),(.int 31 0),(.int 0 0),(.ref 133),(.int 39 0),(.int 0 0),(.ref 140),(.int 46 0),(.int 0 0),(.ref 147),(.int 48 0),(.int 0 0),(.ref 154),(.int 50 0),(.int 0 0),(.ref 161),(.int 52 0),(.int 0 0),(.ref 168),(.int 61 0),(.int 0 0),(.ref 175),(.int 63 0),(.int 0 0),(.ref 182),(.int 65 0),(.int 0 0),(.ref 189),(.int 71 0),(.int 0 0),(.ref 194),(.int 77 0),(.int 0 0),(.ref 199)])
noncomputable def o61:J:=fun P=>(.mk (.type x9) none (.cls (.mk S14 [(.type x6)] [(.ref 31),(.type x6),(.type x10),(.type x11),(.type x12)] 30 S14 .true [] [(.ref 44),(.ref 56),(.ref 68),(.ref 80),(.ref 92),(.ref 111)] .false none .false)) #[(some (.ref 22)),none,(some (.str S14 196)),(some (.str S14 204)),(some (.builtin x13)),(some (.bool .true))])
noncomputable def o62:J:=fun P=>(.mk (.type x3) none (.dict #[(e P S18 301 (.str S4 194)),(e P S19 303 (.str S27 302)),(e P S20 305 (.int 17 304)),(e P S44 313 (.ref 108)),(e P S21 315 (.ref 109))] 5) #[])
noncomputable def o63:J:=fun P=>(yv #[(.int 19 0),(.int 4 0),(.ref 107)])
noncomputable def o64:J:=fun P=>(yc S27 296 S27 297 298 17 0 0 98 .false 99 .none 299 17 300)
noncomputable def o65:J:=fun P=>(.mk (.type x2) none .plain #[(some (.ref 100)),(some (.ref 3)),(some (.ref 97)),none,(some (.str S4 194)),none,(some (.ref 0))])
noncomputable def o66:J:=fun P=>(ys x0 #[(.str S45 309),(.str S46 310)])
noncomputable def o67:J:=fun P=>(yg S44 S47 (inClass (q 8) 0))
noncomputable def o68:J:=fun P=>(.mk (.type x1) none (.fields #[(.str S44 306),(.str S47 307),(.str S1 308),(.int 19 0),(.int 2 0),(.int 0 0),(.int 0 0),(.int 3 0),(.ref 102),(.bool .true),(.int 181 0),(.ref 103),.none,(.ref 104),(.ref 105),(.ref 106),(.int 311 0),(.int 19 0),(.str S1 312)]) #[])
noncomputable def o69:J:=fun P=>(yf S44 S47 (inClass (q 8) 0) 3 (.str S4 194) 107)
noncomputable def o70:J:=fun P=>(ys x0 #[(.str S46 314)])
noncomputable def o71:J:=fun P=>(.mk (.type x3) none (.dict #[(e P S18 301 (.str S4 194)),(e P S20 305 (.int 17 304)),(e P S44 313 (.ref 108)),(e P S21 315 (.ref 109)),(e P S5 316 .none)] 2) #[])
noncomputable def o72:J:=fun P=>(.mk (.type x9) none (.cls (.mk S27 [(.ref 31)] [(.ref 111),(.ref 31),(.type x6),(.type x10),(.type x11),(.type x12)] 110 S27 .true [] [] .false none .false)) #[(some (.ref 95)),none,(some (.str S27 294)),(some (.str S27 302)),(some (.builtin x13)),(some (.bool .true))])
noncomputable def o73:J:=fun P=>(.mk (.type x16) none (.fields #[(.ref 111),(.ref 111),(.ref 111)]) #[])
noncomputable def o74:J:=fun P=>(.mk (.type x7) none (.fields #[(.builtin x17),(.ref 111)]) #[])
noncomputable def o75:J:=fun P=>(ys x0 #[(.str S48 324)])
noncomputable def o76:J:=fun P=>(yg S28 S28 (q 10))
noncomputable def o77:J:=fun P=>(.mk (.type x1) none (.fields #[(.str S28 321),(.str S28 322),(.str S1 323),(.int 23 0),(.int 1 0),(.int 0 0),(.int 0 0),(.int 3 0),(.ref 114),(.bool .true),(.int 181 0),(.ref 115),.none,(.ref 116),(.ref 117),(.ref 118),(.int 325 0),(.int 23 0),(.str S1 326)]) #[])
noncomputable def o78:J:=fun P=>(yf S28 S28 (q 10) 3 (.str S49 319) 119)
noncomputable def o79:J:=fun P=>(ys x0 #[(.str S48 331)])
noncomputable def o80:J:=fun P=>(yg S29 S29 (q 11))
noncomputable def o81:J:=fun P=>(.mk (.type x1) none (.fields #[(.str S29 328),(.str S29 329),(.str S1 330),(.int 25 0),(.int 1 0),(.int 0 0),(.int 0 0),(.int 3 0),(.ref 121),(.bool .true),(.int 181 0),(.ref 122),.none,(.ref 123),(.ref 124),(.ref 125),(.int 332 0),(.int 25 0),(.str S1 333)]) #[])
noncomputable def o82:J:=fun P=>(yf S29 S29 (q 11) 3 (.str S49 319) 126)
noncomputable def o83:J:=fun P=>(ys x0 #[(.str S50 338),(.str S51 339),(.str S52 340),(.str S53 341),(.str S54 342)])
noncomputable def o84:J:=fun P=>(yg S30 S30 (q 12))
noncomputable def o85:J:=fun P=>(.mk (.type x1) none (.fields #[(.str S30 335),(.str S30 336),(.str S1 337),(.int 31 0),(.int 2 0),(.int 0 0),(.int 0 0),(.int 3 0),(.ref 128),(.bool .true),(.int 181 0),(.ref 129),.none,(.ref 130),(.ref 131),(.ref 132),(.int 343 0),(.int 31 0),(.str S1 344)]) #[])
noncomputable def o86:J:=fun P=>(yf S30 S30 (q 12) 3 (.str S49 319) 133)
noncomputable def o87:J:=fun P=>(ys x0 #[(.str S50 349),(.str S51 350),(.str S55 351)])
noncomputable def o88:J:=fun P=>(yg S31 S31 (q 13))
noncomputable def o89:J:=fun P=>(.mk (.type x1) none (.fields #[(.str S31 346),(.str S31 347),(.str S1 348),(.int 39 0),(.int 2 0),(.int 0 0),(.int 0 0),(.int 3 0),(.ref 135),(.bool .true),(.int 181 0),(.ref 136),.none,(.ref 137),(.ref 138),(.ref 139),(.int 352 0),(.int 39 0),(.str S1 353)]) #[])
noncomputable def o90:J:=fun P=>(yf S31 S31 (q 13) 3 (.str S49 319) 140)
noncomputable def o91:J:=fun P=>(ys x0 #[(.str S52 358),(.str S53 359)])
noncomputable def o92:J:=fun P=>(.mk .none none (.func (.mk S32 S32 (defArgs (q 14)) (.stmts (defBody (q 14))) (defScope (q 16)) 0 [] .none .none .none .none none .none .none 0)) #[])
noncomputable def o93:J:=fun P=>(.mk (.type x1) none (.fields #[(.str S32 355),(.str S32 356),(.str S1 357),(.int 46 0),(.int 2 0),(.int 0 0),(.int 0 0),(.int 3 0),(.ref 142),(.bool .true),(.int 181 0),(.ref 143),.none,(.ref 144),(.ref 145),(.ref 146),(.int 360 0),(.int 46 0),(.str S1 361)]) #[])
noncomputable def o94:J:=fun P=>(.mk (.type x5) none (.func (.mk S32 S32 (defArgs (q 14)) (.stmts (defBody (q 14))) (defScope (q 16)) 3 [] .none .none .none (.str S49 319) none (.ref 147) .none 0)) #[])
noncomputable def o95:J:=fun P=>(ys x0 #[(.str S52 366),(.str S53 367)])
noncomputable def o96:J:=fun P=>(.mk .none none (.func (.mk S33 S33 (defArgs (q 15)) (.stmts (defBody (q 15))) (defScope (q 16)) 0 [] .none .none .none .none none .none .none 0)) #[])
noncomputable def o97:J:=fun P=>(.mk (.type x1) none (.fields #[(.str S33 363),(.str S33 364),(.str S1 365),(.int 48 0),(.int 2 0),(.int 0 0),(.int 0 0),(.int 3 0),(.ref 149),(.bool .true),(.int 181 0),(.ref 150),.none,(.ref 151),(.ref 152),(.ref 153),(.int 368 0),(.int 48 0),(.str S1 369)]) #[])
noncomputable def o98:J:=fun P=>(.mk (.type x5) none (.func (.mk S33 S33 (defArgs (q 15)) (.stmts (defBody (q 15))) (defScope (q 16)) 3 [] .none .none .none (.str S49 319) none (.ref 154) .none 0)) #[])
noncomputable def o99:J:=fun P=>(ys x0 #[(.str S52 374),(.str S53 375)])
noncomputable def o100:J:=fun P=>(yg S34 S34 (q 16))
noncomputable def o101:J:=fun P=>(.mk (.type x1) none (.fields #[(.str S34 371),(.str S34 372),(.str S1 373),(.int 50 0),(.int 2 0),(.int 0 0),(.int 0 0),(.int 3 0),(.ref 156),(.bool .true),(.int 181 0),(.ref 157),.none,(.ref 158),(.ref 159),(.ref 160),(.int 376 0),(.int 50 0),(.str S1 377)]) #[])
noncomputable def o102:J:=fun P=>(yf S34 S34 (q 16) 3 (.str S49 319) 161)
noncomputable def o103:J:=fun P=>(ys x0 #[(.str S56 382),(.str S57 383),(.str S58 384)])
noncomputable def o104:J:=fun P=>(yg S35 S35 (q 17))
noncomputable def o105:J:=fun P=>(.mk (.type x1) none (.fields #[(.str S35 379),(.str S35 380),(.str S1 381),(.int 52 0),(.int 1 0),(.int 0 0),(.int 0 0),(.int 3 0),(.ref 163),(.bool .true),(.int 181 0),(.ref 164),.none,(.ref 165),(.ref 166),(.ref 167),(.int 385 0),(.int 52 0),(.str S1 386)]) #[])
noncomputable def o106:J:=fun P=>(yf S35 S35 (q 17) 3 (.str S49 319) 168)
noncomputable def o107:J:=fun P=>(ys x0 #[(.str S48 399),(.str S59 400)])
noncomputable def o108:J:=fun P=>(yg S39 S39 (q 22))
noncomputable def o109:J:=fun P=>(.mk (.type x1) none (.fields #[(.str S39 396),(.str S39 397),(.str S1 398),(.int 61 0),(.int 2 0),(.int 0 0),(.int 0 0),(.int 3 0),(.ref 170),(.bool .true),(.int 181 0),(.ref 171),.none,(.ref 172),(.ref 173),(.ref 174),(.int 401 0),(.int 61 0),(.str S1 402)]) #[])
noncomputable def o110:J:=fun P=>(yf S39 S39 (q 22) 3 (.str S26 388) 175)
noncomputable def o111:J:=fun P=>(ys x0 #[(.str S48 407)])
noncomputable def o112:J:=fun P=>(yg S40 S40 (q 23))
noncomputable def o113:J:=fun P=>(.mk (.type x1) none (.fields #[(.str S40 404),(.str S40 405),(.str S1 406),(.int 63 0),(.int 1 0),(.int 0 0),(.int 0 0),(.int 3 0),(.ref 177),(.bool .true),(.int 181 0),(.ref 178),.none,(.ref 179),(.ref 180),(.ref 181),(.int 408 0),(.int 63 0),(.str S1 409)]) #[])
noncomputable def o114:J:=fun P=>(yf S40 S40 (q 23) 3 (.str S26 388) 182)
noncomputable def o115:J:=fun P=>(ys x0 #[(.str S48 414),(.str S60 415)])
noncomputable def o116:J:=fun P=>(yg S41 S41 (q 24))
noncomputable def o117:J:=fun P=>(.mk (.type x1) none (.fields #[(.str S41 411),(.str S41 412),(.str S1 413),(.int 65 0),(.int 2 0),(.int 0 0),(.int 0 0),(.int 3 0),(.ref 184),(.bool .true),(.int 181 0),(.ref 185),.none,(.ref 186),(.ref 187),(.ref 188),(.int 416 0),(.int 65 0),(.str S1 417)]) #[])
noncomputable def o118:J:=fun P=>(yf S41 S41 (q 24) 3 (.str S26 388) 189)
noncomputable def o119:J:=fun P=>(yg S42 S42 (q 25))
noncomputable def o120:J:=fun P=>(yc S42 419 S42 420 421 71 2 3 191 .true 192 (.ref 193) 422 71 423)
noncomputable def o121:J:=fun P=>(yf S42 S42 (q 25) 3 (.str S26 388) 194)
noncomputable def o122:J:=fun P=>(yg S43 S43 (q 26))
noncomputable def o123:J:=fun P=>(yc S43 425 S43 426 427 77 2 3 196 .true 197 (.ref 198) 428 77 429)
noncomputable def o124:J:=fun P=>(yf S43 S43 (q 26) 3 (.str S26 388) 199)
noncomputable def t_2:Params→BT:=(N boot_o_0 (N boot_o_1 (N o59 (N boot_o_7 (N o0 (N o61 (N o1 (L o82) (L o0)) (N o20 (L o0) Z)) (N o20 (N o48 (L o1) Z) (N o72 (L o109) Z))) (N o11 (N o1 (N o20 (L o0) (L o123)) (N o1 (L o104) Z)) (N o31 (N o1 (L o95) Z) (N o77 (L o114) Z)))) (N o0 (N o7 (N o20 (N o41 (L o0) (L o121)) (N o63 (L o0) Z)) (N o1 (N o20 (L o93) Z) (N o1 (L o111) Z))) (N o13 (N o24 (N o1 (L o88) Z) (N o68 (L o1) Z)) (N o20 (N o55 (L o98) Z) (N o79 (L o0) Z))))) (N boot_o_5 (N boot_o_9 (N o6 (N o18 (N o40 (L o1) (L o119)) (N o62 (L o101) Z)) (N o28 (N o50 (L o0) Z) (N o74 (L o0) Z))) (N o0 (N o23 (N o45 (L o87) Z) (N o0 (L o106) Z)) (N o33 (N o54 (L o96) Z) (N o0 (L o1) Z)))) (N o2 (N o9 (N o21 (N o43 (L o85) (L o1)) (N o65 (L o103) Z)) (N o30 (N o52 (L o0) Z) (N o0 (L o112) Z))) (N o0 (N o26 (N o47 (L o90) Z) (N o70 (L o0) Z)) (N o38 (N o57 (L o1) Z) (N o80 (L o117) Z)))))) (N boot_o_2 (N boot_o_4 (N boot_o_8 (N o1 (N o17 (N o39 (L o0) (L o1)) (N o11 (L o100) Z)) (N o11 (N o49 (L o91) Z) (N o73 (L o110) Z))) (N o12 (N o22 (N o11 (L o1) (L o124)) (N o66 (L o105) Z)) (N o32 (N o53 (L o0) Z) (N o78 (L o0) Z)))) (N o60 (N o8 (N o11 (N o42 (L o84) (L o0)) (N o64 (L o1) Z)) (N o29 (N o11 (L o94) Z) (N o75 (L o0) Z))) (N o14 (N o25 (N o46 (L o89) Z) (N o69 (L o107) Z)) (N o11 (N o56 (L o0) Z) (N o0 (L o116) Z))))) (N boot_o_6 (N boot_o_10 (N o0 (N o19 (N o0 (L o83) (L o120)) (N o0 (L o102) Z)) (N o0 (N o51 (L o92) Z) (N o0 (L o1) Z))) (N o1 (N o0 (N o0 (L o0) Z) (N o67 (L o0) Z)) (N o34 (N o0 (L o97) Z) (N o1 (L o115) Z)))) (N o3 (N o10 (N o0 (N o44 (L o86) (L o122)) (N o0 (L o0) Z)) (N o0 (N o0 (L o1) Z) (N o76 (L o113) Z))) (N o15 (N o27 (N o0 (L o0) Z) (N o71 (L o108) Z)) (N o0 (N o58 (L o99) Z) (N o81 (L o118) Z)))))))
noncomputable def o125:J:=fun P=>(.mk (.type x3) none (.dict #[(e P S3 165 (.str S61 605)),(e P S5 166 .none),(e P S6 167 .none),(e P S7 168 (.builtin x4)),(e P S8 169 .none),(e P S9 170 (.ref 6)),(e P S10 171 (.ref 4)),(e P S11 173 (.str S1 172)),(e P S12 174 .none),(e P S13 193 (.ref 21)),(e P S14 213 (.ref 31)),(e P S15 229 (.ref 44)),(e P S16 245 (.ref 56)),(e P S23 261 (.ref 68)),(e P S24 277 (.ref 80)),(e P S25 293 (.ref 92)),(e P S27 318 (.ref 111)),(e P S28 327 (.ref 120)),(e P S29 334 (.ref 127)),(e P S30 345 (.ref 134)),(e P S31 354 (.ref 141)),(e P S32 362 (.ref 148)),(e P S33 370 (.ref 155)),(e P S34 378 (.ref 162)),(e P S35 387 (.ref 169)),(e P S36 391 (.int 8 390)),(e P S37 393 (.int 28 392)),(e P S38 395 (.int 1000000000 394)),(e P S39 403 (.ref 176)),(e P S40 410 (.ref 183)),(e P S41 418 (.ref 190)),(e P S42 424 (.ref 195)),(e P S43 430 (.ref 200)),(e P S62 484 (.ref 236)),(e P S63 492 (.ref 245)),(e P S64 498 (.ref 250)),(e P S65 509 (.ref 257)),(e P S66 519 (.ref 264)),(e P S67 525 (.ref 269)),(e P S68 531 (.ref 274)),(e P S69 541 (.ref 281)),(e P S70 547 (.ref 286)),(e P S71 560 (.ref 293)),(e P S72 568 (.ref 300)),(e P S73 574 (.ref 305)),(e P S74 580 (.ref 310)),(e P S75 586 (.ref 315)),(e P S76 592 (.ref 320)),(e P S77 598 (.ref 325)),(e P S78 604 (.ref 330))] 50) #[])
noncomputable def o126:J:=fun P=>(yv #[(.int 1 0),(.int 0 0),(.ref 20),(.int 5 0),(.int 0 0),(.ref 27),(.int 7 0),(.int 0 0),(.ref 40),(.int 9 0),(.int 0 0),(.ref 52),(.int 11 0),(.int 0 0),(.ref 64),(.int 13 0),(.int 0 0),(.ref 76),(.int 15 0),(.int 0 0),(.ref 88),(.int 17 0),(.int 0 0),(.ref 100),(.int 23 0),(.int 0 0),(.ref 119),(.int 25 0),(.int 0 0),(.ref 126),(.int 31 0),(.int 0 0),(.ref 133),(.int 39 0),(.int 0 0),(.ref 140),(.int 46 0),(.int 0 0),(.ref 147),(.int 48 0),(.int 0 0),(.ref 154),(.int 50 0),(.int 0 0),(.ref 161),(.int 52 0),(.int 0 0),(.ref 168),(.int 61 0),(.int 0 0),(.ref 175),(.int 63 0),(.int 0 0),(.ref 182),(.int 65 0),(.int 0 0),(.ref 189),(.int 71 0),(.int 0 0),(.ref 194),(.int 77 0),(.int 0 0),(.ref 199),(.int 81 0),(.int 0 0),(.ref 206),(.int 108 0),(.int 0 0),(.ref 244),(.int 111 0),(.int 0 0),(.ref 249),(.int 113 0),(.int 0 0),(.ref 256),(.int 118 0),(.int 0 0),(.ref 263),(.int 124 0),(.int 0 0),(.ref 268),(.int 126 0),(.int 0 0),(.ref 273),(.int 129 0),(.int 0 0),(.ref 280),(.int 131 0),(.int 0 0),(.ref 285),(.int 138 0),(.int 0 0),(.ref 292),(.int 143 0),(.int 0 0),(.ref 299),(.int 145 0),(.int 0 0),(.ref 304),(.int 150 0),(.int 0 0),(.ref 309),(.int 152 0),(.int 0 0),(.ref 314),(.int 154 0),(.int 0 0),(.ref 319),(.int 156 0),(.int 0 0),(.ref 324),(.int 164 0),(.int 0 0),(.ref 329)])
noncomputable def o127:J:=fun P=>(.mk (.type x3) none (.dict #[(e P S18 438 (.str S26 388)),(e P S19 440 (.str S62 439)),(e P S20 442 (.int 81 441)),(e P S44 448 (.ref 212)),(e P S79 455 (.ref 219)),(e P S80 467 (.ref 226)),(e P S81 474 (.ref 233)),(e P S21 477 (.ref 234))] 8) #[])
noncomputable def o128:J:=fun P=>(yv #[(.int 83 0),(.int 4 0),(.ref 211),(.int 89 0),(.int 4 0),(.ref 218),(.int 92 0),(.int 4 0),(.ref 225),(.int 105 0),(.int 4 0),(.ref 232)])
noncomputable def o129:J:=fun P=>(yc S62 433 S62 434 435 81 0 0 204 .false 205 .none 436 81 437)
noncomputable def o130:J:=fun P=>(.mk (.type x2) none .plain #[(some (.ref 206)),(some (.ref 3)),(some (.ref 203)),none,(some (.str S26 388)),none,(some (.ref 0))])
noncomputable def o131:J:=fun P=>(yg S44 S82 (inClass (q 27) 0))
noncomputable def o132:J:=fun P=>(yc S44 443 S82 444 445 83 3 3 208 .true 209 (.ref 210) 446 83 447)
noncomputable def o133:J:=fun P=>(yf S44 S82 (inClass (q 27) 0) 3 (.str S26 388) 211)
noncomputable def o134:J:=fun P=>(ys x0 #[(.str S45 452)])
noncomputable def o135:J:=fun P=>(yg S79 S83 (inClass (q 27) 1))
noncomputable def o136:J:=fun P=>(.mk (.type x1) none (.fields #[(.str S79 449),(.str S83 450),(.str S1 451),(.int 89 0),(.int 1 0),(.int 0 0),(.int 0 0),(.int 3 0),(.ref 213),(.bool .true),(.int 181 0),(.ref 214),.none,(.ref 215),(.ref 216),(.ref 217),(.int 453 0),(.int 89 0),(.str S1 454)]) #[])
noncomputable def o137:J:=fun P=>(yf S79 S83 (inClass (q 27) 1) 3 (.str S26 388) 218)
noncomputable def o138:J:=fun P=>(ys x0 #[(.str S45 459),(.str S84 460),(.str S85 461),(.str S86 462),(.str S87 463),(.str S88 464)])
noncomputable def o139:J:=fun P=>(yg S80 S89 (inClass (q 27) 2))
noncomputable def o140:J:=fun P=>(.mk (.type x1) none (.fields #[(.str S80 456),(.str S89 457),(.str S1 458),(.int 92 0),(.int 2 0),(.int 0 0),(.int 0 0),(.int 3 0),(.ref 220),(.bool .true),(.int 181 0),(.ref 221),.none,(.ref 222),(.ref 223),(.ref 224),(.int 465 0),(.int 92 0),(.str S1 466)]) #[])
noncomputable def o141:J:=fun P=>(yf S80 S89 (inClass (q 27) 2) 3 (.str S26 388) 225)
noncomputable def o142:J:=fun P=>(ys x0 #[(.str S45 471)])
noncomputable def o143:J:=fun P=>(yg S81 S90 (inClass (q 27) 3))
noncomputable def o144:J:=fun P=>(.mk (.type x1) none (.fields #[(.str S81 468),(.str S90 469),(.str S1 470),(.int 105 0),(.int 1 0),(.int 0 0),(.int 0 0),(.int 3 0),(.ref 227),(.bool .true),(.int 181 0),(.ref 228),.none,(.ref 229),(.ref 230),(.ref 231),(.int 472 0),(.int 105 0),(.str S1 473)]) #[])
noncomputable def o145:J:=fun P=>(yf S81 S90 (inClass (q 27) 3) 3 (.str S26 388) 232)
noncomputable def o146:J:=fun P=>(ys x0 #[(.str S91 475),(.str S92 476)])
noncomputable def o147:J:=fun P=>(.mk (.type x3) none (.dict #[(e P S18 438 (.str S26 388)),(e P S20 442 (.int 81 441)),(e P S44 448 (.ref 212)),(e P S79 455 (.ref 219)),(e P S80 467 (.ref 226)),(e P S81 474 (.ref 233)),(e P S21 477 (.ref 234)),(e P S93 479 (.ref 237)),(e P S22 481 (.ref 238)),(e P S5 482 .none)] 4) #[])
noncomputable def o148:J:=fun P=>(.mk (.type x9) none (.cls (.mk S62 [(.type x12)] [(.ref 236),(.type x12)] 235 S62 .true [] [] .false none .false)) #[none,none,(some (.str S62 431)),(some (.str S62 439)),(some (.builtin x18)),(some (.bool .true))])
noncomputable def o149:J:=fun P=>(.mk (.type x14) none (.fields #[(.str S93 478),(.ref 236),(.builtin x19),(.builtin x20)]) #[])
noncomputable def o150:J:=fun P=>(.mk (.type x14) none (.fields #[(.str S22 480),(.ref 236),(.builtin x15),.none]) #[])
noncomputable def o151:J:=fun P=>(.mk (.type x16) none (.fields #[(.ref 236),(.ref 236),(.ref 236)]) #[])
noncomputable def o152:J:=fun P=>(.mk (.type x7) none (.fields #[(.builtin x17),(.ref 236)]) #[])
noncomputable def o153:J:=fun P=>(yg S63 S63 (q 29))
noncomputable def o154:J:=fun P=>(yc S63 487 S63 488 489 108 3 3 241 .true 242 (.ref 243) 490 108 491)
noncomputable def o155:J:=fun P=>(yf S63 S63 (q 29) 3 (.str S94 485) 244)
noncomputable def o156:J:=fun P=>(yg S64 S64 (q 30))
noncomputable def o157:J:=fun P=>(yc S64 493 S64 494 495 111 2 3 246 .true 247 (.ref 248) 496 111 497)
noncomputable def o158:J:=fun P=>(yf S64 S64 (q 30) 3 (.str S94 485) 249)
noncomputable def o159:J:=fun P=>(ys x0 #[(.str S79 502),(.str S52 503),(.str S84 504),(.str S53 505),(.str S95 506)])
noncomputable def o160:J:=fun P=>(yg S65 S65 (q 31))
noncomputable def o161:J:=fun P=>(.mk (.type x1) none (.fields #[(.str S65 499),(.str S65 500),(.str S1 501),(.int 113 0),(.int 4 0),(.int 0 0),(.int 0 0),(.int 3 0),(.ref 251),(.bool .true),(.int 181 0),(.ref 252),.none,(.ref 253),(.ref 254),(.ref 255),(.int 507 0),(.int 113 0),(.str S1 508)]) #[])
noncomputable def o162:J:=fun P=>(yf S65 S65 (q 31) 3 (.str S94 485) 256)
noncomputable def o163:J:=fun P=>(ys x0 #[(.str S59 513),(.str S57 514),(.str S52 515),(.str S53 516)])
noncomputable def o164:J:=fun P=>(yg S66 S66 (q 32))
noncomputable def o165:J:=fun P=>(.mk (.type x1) none (.fields #[(.str S66 510),(.str S66 511),(.str S1 512),(.int 118 0),(.int 1 0),(.int 0 0),(.int 0 0),(.int 3 0),(.ref 258),(.bool .true),(.int 181 0),(.ref 259),.none,(.ref 260),(.ref 261),(.ref 262),(.int 517 0),(.int 118 0),(.str S1 518)]) #[])
noncomputable def o166:J:=fun P=>(yf S66 S66 (q 32) 3 (.str S94 485) 263)
noncomputable def o167:J:=fun P=>(yg S67 S67 (q 33))
noncomputable def o168:J:=fun P=>(yc S67 520 S67 521 522 124 2 3 265 .true 266 (.ref 267) 523 124 524)
noncomputable def o169:J:=fun P=>(yf S67 S67 (q 33) 3 (.str S94 485) 268)
noncomputable def o170:J:=fun P=>(yg S68 S68 (q 34))
noncomputable def o171:J:=fun P=>(yc S68 526 S68 527 528 126 1 3 270 .true 271 (.ref 272) 529 126 530)
noncomputable def o172:J:=fun P=>(yf S68 S68 (q 34) 3 (.str S94 485) 273)
noncomputable def o173:J:=fun P=>(ys x0 #[(.str S79 535),(.str S52 536),(.str S84 537),(.str S53 538)])
noncomputable def o174:J:=fun P=>(yg S69 S69 (q 35))
noncomputable def o175:J:=fun P=>(.mk (.type x1) none (.fields #[(.str S69 532),(.str S69 533),(.str S1 534),(.int 129 0),(.int 4 0),(.int 0 0),(.int 0 0),(.int 3 0),(.ref 275),(.bool .true),(.int 181 0),(.ref 276),.none,(.ref 277),(.ref 278),(.ref 279),(.int 539 0),(.int 129 0),(.str S1 540)]) #[])
noncomputable def o176:J:=fun P=>(yf S69 S69 (q 35) 3 (.str S94 485) 280)
noncomputable def o177:J:=fun P=>(yg S70 S70 (q 36))
noncomputable def o178:J:=fun P=>(yc S70 542 S70 543 544 131 2 3 282 .true 283 (.ref 284) 545 131 546)
noncomputable def o179:J:=fun P=>(yf S70 S70 (q 36) 3 (.str S94 485) 285)
noncomputable def o180:J:=fun P=>(ys x0 #[(.str S79 553),(.str S96 554),(.str S97 555),(.str S98 556),(.str S99 557)])
noncomputable def o181:J:=fun P=>(yg S71 S71 (q 38))
noncomputable def o182:J:=fun P=>(.mk (.type x1) none (.fields #[(.str S71 550),(.str S71 551),(.str S1 552),(.int 138 0),(.int 1 0),(.int 0 0),(.int 0 0),(.int 3 0),(.ref 287),(.bool .true),(.int 181 0),(.ref 288),.none,(.ref 289),(.ref 290),(.ref 291),(.int 558 0),(.int 138 0),(.str S1 559)]) #[])
noncomputable def o183:J:=fun P=>(yf S71 S71 (q 38) 3 (.str S100 548) 292)
noncomputable def o184:J:=fun P=>(ys x0 #[(.str S99 564),(.str S96 565)])
noncomputable def o185:J:=fun P=>(yg S72 S72 (q 39))
noncomputable def o186:J:=fun P=>(.mk (.type x1) none (.fields #[(.str S72 561),(.str S72 562),(.str S1 563),(.int 143 0),(.int 2 0),(.int 0 0),(.int 0 0),(.int 3 0),(.ref 294),(.bool .true),(.int 181 0),(.ref 295),.none,(.ref 296),(.ref 297),(.ref 298),(.int 566 0),(.int 143 0),(.str S1 567)]) #[])
noncomputable def o187:J:=fun P=>(yf S72 S72 (q 39) 3 (.str S100 548) 299)
noncomputable def o188:J:=fun P=>(yg S73 S73 (q 40))
noncomputable def o189:J:=fun P=>(yc S73 569 S73 570 571 145 4 3 301 .true 302 (.ref 303) 572 145 573)
noncomputable def o190:J:=fun P=>(yf S73 S73 (q 40) 3 (.str S100 548) 304)
noncomputable def o191:J:=fun P=>(yg S74 S74 (q 41))
noncomputable def o192:J:=fun P=>(yc S74 575 S74 576 577 150 4 3 306 .true 307 (.ref 308) 578 150 579)
noncomputable def o193:J:=fun P=>(yf S74 S74 (q 41) 3 (.str S100 548) 309)
noncomputable def o194:J:=fun P=>(yg S75 S75 (q 42))
noncomputable def o195:J:=fun P=>(yc S75 581 S75 582 583 152 3 3 311 .true 312 (.ref 313) 584 152 585)
noncomputable def o196:J:=fun P=>(yf S75 S75 (q 42) 3 (.str S100 548) 314)
noncomputable def o197:J:=fun P=>(yg S76 S76 (q 43))
noncomputable def o198:J:=fun P=>(yc S76 587 S76 588 589 154 4 3 316 .true 317 (.ref 318) 590 154 591)
noncomputable def o199:J:=fun P=>(yf S76 S76 (q 43) 3 (.str S100 548) 319)
noncomputable def o200:J:=fun P=>(yg S77 S77 (q 44))
noncomputable def o201:J:=fun P=>(yc S77 593 S77 594 595 156 1 3 321 .true 322 (.ref 323) 596 156 597)
noncomputable def o202:J:=fun P=>(yf S77 S77 (q 44) 3 (.str S100 548) 324)
noncomputable def o203:J:=fun P=>(yg S78 S78 (q 45))
noncomputable def o204:J:=fun P=>(yc S78 599 S78 600 601 164 2 3 326 .true 327 (.ref 328) 602 164 603)
noncomputable def o205:J:=fun P=>(yf S78 S78 (q 45) 3 (.str S100 548) 329)
noncomputable def t_3:Params→BT:=(N boot_o_0 (N boot_o_1 (N o125 (N boot_o_7 (N o0 (N o61 (N o1 (N o82 (L o160) Z) (N o0 (L o198) Z)) (N o20 (N o0 (L o0) Z) (L o0))) (N o20 (N o48 (N o1 (L o1) Z) (L o130)) (N o72 (N o109 (L o188) Z) (L o151)))) (N o11 (N o1 (N o20 (N o0 (L o165) Z) (N o123 (L o1) Z)) (N o1 (N o104 (L o1) Z) (L o143))) (N o31 (N o1 (N o95 (L o174) Z) (L o134)) (N o77 (N o114 (L o0) Z) (L o1))))) (N o0 (N o7 (N o20 (N o41 (N o0 (L o1) Z) (N o121 (L o200) Z)) (N o63 (N o0 (L o181) Z) (L o0))) (N o1 (N o20 (N o93 (L o0) Z) (L o132)) (N o1 (N o111 (L o1) Z) (L o153)))) (N o13 (N o24 (N o1 (N o88 (L o167) Z) (L o127)) (N o68 (N o1 (L o186) Z) (L o147))) (N o20 (N o55 (N o98 (L o1) Z) (L o137)) (N o79 (N o0 (L o196) Z) (L o0)))))) (N boot_o_5 (N boot_o_9 (N o6 (N o18 (N o40 (N o1 (L o162) Z) (N o119 (L o0) Z)) (N o62 (N o101 (L o180) Z) (L o140))) (N o28 (N o50 (N o0 (L o171) Z) (L o1)) (N o74 (N o0 (L o190) Z) (L o0)))) (N o0 (N o23 (N o45 (N o87 (L o0) Z) (N o0 (L o204) Z)) (N o0 (N o106 (L o0) Z) (L o145))) (N o33 (N o54 (N o96 (L o176) Z) (L o135)) (N o0 (N o1 (L o194) Z) (L o157))))) (N o2 (N o9 (N o21 (N o43 (N o85 (L o0) Z) (N o1 (L o202) Z)) (N o65 (N o103 (L o183) Z) (L o142))) (N o30 (N o52 (N o0 (L o173) Z) (L o0)) (N o0 (N o112 (L o192) Z) (L o155)))) (N o0 (N o26 (N o47 (N o90 (L o169) Z) (L o128)) (N o70 (N o0 (L o0) Z) (L o149))) (N o38 (N o57 (N o1 (L o178) Z) (L o1)) (N o80 (N o117 (L o1) Z) (L o159))))))) (N boot_o_2 (N boot_o_4 (N boot_o_8 (N o1 (N o17 (N o39 (N o0 (L o161) Z) (N o1 (L o199) Z)) (N o11 (N o100 (L o1) Z) (L o139))) (N o11 (N o49 (N o91 (L o170) Z) (L o0)) (N o73 (N o110 (L o189) Z) (L o152)))) (N o12 (N o22 (N o11 (N o1 (L o166) Z) (N o124 (L o203) Z)) (N o66 (N o105 (L o184) Z) (L o144))) (N o32 (N o53 (N o0 (L o175) Z) (L o0)) (N o78 (N o0 (L o1) Z) (L o156))))) (N o126 (N o8 (N o11 (N o42 (N o84 (L o163) Z) (N o0 (L o201) Z)) (N o64 (N o1 (L o182) Z) (L o1))) (N o29 (N o11 (N o94 (L o1) Z) (L o133)) (N o75 (N o0 (L o191) Z) (L o154)))) (N o14 (N o25 (N o46 (N o89 (L o168) Z) (L o0)) (N o69 (N o107 (L o187) Z) (L o148))) (N o11 (N o56 (N o0 (L o177) Z) (L o0)) (N o0 (N o116 (L o0) Z) (L o1)))))) (N boot_o_6 (N boot_o_10 (N o0 (N o19 (N o0 (N o83 (L o0) Z) (N o120 (L o1) Z)) (N o0 (N o102 (L o0) Z) (L o141))) (N o0 (N o51 (N o92 (L o172) Z) (L o131)) (N o0 (N o1 (L o0) Z) (L o1)))) (N o1 (N o0 (N o0 (N o0 (L o1) Z) (N o11 (L o205) Z)) (N o67 (N o0 (L o185) Z) (L o146))) (N o34 (N o0 (N o97 (L o0) Z) (L o136)) (N o1 (N o115 (L o195) Z) (L o158))))) (N o3 (N o10 (N o0 (N o44 (N o86 (L o164) Z) (N o122 (L o0) Z)) (N o0 (N o0 (L o0) Z) (L o0))) (N o0 (N o0 (N o1 (L o0) Z) (L o1)) (N o76 (N o113 (L o193) Z) (L o0)))) (N o15 (N o27 (N o0 (N o0 (L o0) Z) (L o129)) (N o71 (N o108 (L o1) Z) (L o150))) (N o0 (N o58 (N o99 (L o179) Z) (L o138)) (N o81 (N o118 (L o197) Z) (L o0))))))))
noncomputable def o206:J:=fun P=>(.mk (.type x3) none (.dict #[(e P S3 165 (.str S101 645)),(e P S5 166 .none),(e P S6 167 .none),(e P S7 168 (.builtin x4)),(e P S8 169 .none),(e P S9 170 (.ref 6)),(e P S10 171 (.ref 4)),(e P S11 173 (.str S1 172)),(e P S12 174 .none),(e P S13 193 (.ref 21)),(e P S14 213 (.ref 31)),(e P S15 229 (.ref 44)),(e P S16 245 (.ref 56)),(e P S23 261 (.ref 68)),(e P S24 277 (.ref 80)),(e P S25 293 (.ref 92)),(e P S27 318 (.ref 111)),(e P S28 327 (.ref 120)),(e P S29 334 (.ref 127)),(e P S30 345 (.ref 134)),(e P S31 354 (.ref 141)),(e P S32 362 (.ref 148)),(e P S33 370 (.ref 155)),(e P S34 378 (.ref 162)),(e P S35 387 (.ref 169)),(e P S36 391 (.int 8 390)),(e P S37 393 (.int 28 392)),(e P S38 395 (.int 1000000000 394)),(e P S39 403 (.ref 176)),(e P S40 410 (.ref 183)),(e P S41 418 (.ref 190)),(e P S42 424 (.ref 195)),(e P S43 430 (.ref 200)),(e P S62 484 (.ref 236)),(e P S63 492 (.ref 245)),(e P S64 498 (.ref 250)),(e P S65 509 (.ref 257)),(e P S66 519 (.ref 264)),(e P S67 525 (.ref 269)),(e P S68 531 (.ref 274)),(e P S69 541 (.ref 281)),(e P S70 547 (.ref 286)),(e P S71 560 (.ref 293)),(e P S72 568 (.ref 300)),(e P S73 574 (.ref 305)),(e P S74 580 (.ref 310)),(e P S75 586 (.ref 315)),(e P S76 592 (.ref 320)),(e P S77 598 (.ref 325)),(e P S78 604 (.ref 330)),(e P S102 612 (.ref 335)),(e P S103 620 (.ref 342)),(e P S104 629 (.ref 349)),(e P S105 635 (.ref 354)),(e P S106 644 (.ref 361)),(e P S107 654 (.ref 368)),(e P S108 665 (.ref 375)),(e P S109 675 (.ref 382)),(e P S110 692 (.ref 389)),(e P S111 705 (.ref 396)),(e P S112 711 (.ref 401)),(e P S113 717 (.ref 406)),(e P S114 727 (.ref 413)),(e P S115 733 (.ref 418))] 64) #[])
noncomputable def o207:J:=fun P=>(yv #[(.int 1 0),(.int 0 0),(.ref 20),(.int 5 0),(.int 0 0),(.ref 27),(.int 7 0),(.int 0 0),(.ref 40),(.int 9 0),(.int 0 0),(.ref 52),(.int 11 0),(.int 0 0),(.ref 64),(.int 13 0),(.int 0 0),(.ref 76),(.int 15 0),(.int 0 0),(.ref 88),(.int 17 0),(.int 0 0),(.ref 100),(.int 23 0),(.int 0 0),(.ref 119),(.int 25 0),(.int 0 0),(.ref 126),(.int 31 0),(.int 0 0),(.ref 133),(.int 39 0),(.int 0 0),(.ref 140),(.int 46 0),(.int 0 0),(.ref 147),(.int 48 0),(.int 0 0),(.ref 154),(.int 50 0),(.int 0 0),(.ref 161),(.int 52 0),(.int 0 0),(.ref 168),(.int 61 0),(.int 0 0),(.ref 175),(.int 63 0),(.int 0 0),(.ref 182),(.int 65 0),(.int 0 0),(.ref 189),(.int 71 0),(.int 0 0),(.ref 194),(.int 77 0),(.int 0 0),(.ref 199),(.int 81 0),(.int 0 0),(.ref 206),(.int 108 0),(.int 0 0),(.ref 244),(.int 111 0),(.int 0 0),(.ref 249),(.int 113 0),(.int 0 0),(.ref 256),(.int 118 0),(.int 0 0),(.ref 263),(.int 124 0),(.int 0 0),(.ref 268),(.int 126 0),(.int 0 0),(.ref 273),(.int 129 0),(.int 0 0),(.ref 280),(.int 131 0),(.int 0 0),(.ref 285),(.int 138 0),(.int 0 0),(.ref 292),(.int 143 0),(.int 0 0),(.ref 299),(.int 145 0),(.int 0 0),(.ref 304),(.int 150 0),(.int 0 0),(.ref 309),(.int 152 0),(.int 0 0),(.ref 314),(.int 154 0),(.int 0 0),(.ref 319),(.int 156 0),(.int 0 0),(.ref 324),(.int 164 0),(.int 0 0),(.ref 329),(.int 168 0),(.int 0 0),(.ref 334),(.int 170 0),(.int 0 0),(.ref 341),(.int 173 0),(.int 0 0),(.ref 348),(.int 177 0),(.int 0 0),(.ref 353),(.int 186 0),(.int 0 0),(.ref 360),(.int 192 0),(.int 0 0),(.ref 367),(.int 196 0),(.int 0 0),(.ref 374),(.int 200 0),(.int 0 0),(.ref 381),(.int 205 0),(.int 0 0),(.ref 388),(.int 217 0),(.int 0 0),(.ref 395),(.int 224 0),(.int 0 0),(.ref 400),(.int 230 0),(.int 0 0),(.ref 405),(.int 240 0),(.int 0 0),(.ref 412),(.int 248 0),(.int 0 0),(.ref 417)])
noncomputable def o208:J:=fun P=>(yg S102 S102 (q 47))
noncomputable def o209:J:=fun P=>(yc S102 607 S102 608 609 168 2 3 331 .true 332 (.ref 333) 610 168 611)
noncomputable def o210:J:=fun P=>(yf S102 S102 (q 47) 3 (.str S61 605) 334)
noncomputable def o211:J:=fun P=>(ys x0 #[(.str S116 616),(.str S60 617)])
noncomputable def o212:J:=fun P=>(yg S103 S103 (q 48))
noncomputable def o213:J:=fun P=>(.mk (.type x1) none (.fields #[(.str S103 613),(.str S103 614),(.str S1 615),(.int 170 0),(.int 2 0),(.int 0 0),(.int 0 0),(.int 3 0),(.ref 336),(.bool .true),(.int 181 0),(.ref 337),.none,(.ref 338),(.ref 339),(.ref 340),(.int 618 0),(.int 170 0),(.str S1 619)]) #[])
noncomputable def o214:J:=fun P=>(yf S103 S103 (q 48) 3 (.str S61 605) 341)
noncomputable def o215:J:=fun P=>(ys x0 #[(.str S87 624),(.str S52 625),(.str S53 626)])
noncomputable def o216:J:=fun P=>(yg S104 S104 (q 49))
noncomputable def o217:J:=fun P=>(.mk (.type x1) none (.fields #[(.str S104 621),(.str S104 622),(.str S1 623),(.int 173 0),(.int 3 0),(.int 0 0),(.int 0 0),(.int 3 0),(.ref 343),(.bool .true),(.int 181 0),(.ref 344),.none,(.ref 345),(.ref 346),(.ref 347),(.int 627 0),(.int 173 0),(.str S1 628)]) #[])
noncomputable def o218:J:=fun P=>(yf S104 S104 (q 49) 3 (.str S61 605) 348)
noncomputable def o219:J:=fun P=>(yg S105 S105 (q 50))
noncomputable def o220:J:=fun P=>(yc S105 630 S105 631 632 177 3 3 350 .true 351 (.ref 352) 633 177 634)
noncomputable def o221:J:=fun P=>(yf S105 S105 (q 50) 3 (.str S61 605) 353)
noncomputable def o222:J:=fun P=>(ys x0 #[(.str S116 639),(.str S52 640),(.str S53 641)])
noncomputable def o223:J:=fun P=>(yg S106 S106 (q 51))
noncomputable def o224:J:=fun P=>(.mk (.type x1) none (.fields #[(.str S106 636),(.str S106 637),(.str S1 638),(.int 186 0),(.int 3 0),(.int 0 0),(.int 0 0),(.int 3 0),(.ref 355),(.bool .true),(.int 181 0),(.ref 356),.none,(.ref 357),(.ref 358),(.ref 359),(.int 642 0),(.int 186 0),(.str S1 643)]) #[])
noncomputable def o225:J:=fun P=>(yf S106 S106 (q 51) 3 (.str S61 605) 360)
noncomputable def o226:J:=fun P=>(ys x0 #[(.str S117 650),(.str S118 651)])
noncomputable def o227:J:=fun P=>(yg S107 S107 (q 53))
noncomputable def o228:J:=fun P=>(.mk (.type x1) none (.fields #[(.str S107 647),(.str S107 648),(.str S1 649),(.int 192 0),(.int 2 0),(.int 0 0),(.int 0 0),(.int 3 0),(.ref 362),(.bool .true),(.int 181 0),(.ref 363),.none,(.ref 364),(.ref 365),(.ref 366),(.int 652 0),(.int 192 0),(.str S1 653)]) #[])
noncomputable def o229:J:=fun P=>(yf S107 S107 (q 53) 3 (.str S101 645) 367)
noncomputable def o230:J:=fun P=>(ys x0 #[(.str S119 658),(.str S118 659),(.str S120 660),(.str S121 661),(.str S122 662)])
noncomputable def o231:J:=fun P=>(yg S108 S108 (q 54))
noncomputable def o232:J:=fun P=>(.mk (.type x1) none (.fields #[(.str S108 655),(.str S108 656),(.str S1 657),(.int 196 0),(.int 3 0),(.int 0 0),(.int 0 0),(.int 3 0),(.ref 369),(.bool .true),(.int 181 0),(.ref 370),.none,(.ref 371),(.ref 372),(.ref 373),(.int 663 0),(.int 196 0),(.str S1 664)]) #[])
noncomputable def o233:J:=fun P=>(yf S108 S108 (q 54) 3 (.str S101 645) 374)
noncomputable def o234:J:=fun P=>(ys x0 #[(.str S123 669),(.str S124 670),(.str S125 671),(.str S126 672)])
noncomputable def o235:J:=fun P=>(yg S109 S109 (q 55))
noncomputable def o236:J:=fun P=>(.mk (.type x1) none (.fields #[(.str S109 666),(.str S109 667),(.str S1 668),(.int 200 0),(.int 2 0),(.int 0 0),(.int 0 0),(.int 3 0),(.ref 376),(.bool .true),(.int 181 0),(.ref 377),.none,(.ref 378),(.ref 379),(.ref 380),(.int 673 0),(.int 200 0),(.str S1 674)]) #[])
noncomputable def o237:J:=fun P=>(yf S109 S109 (q 55) 3 (.str S101 645) 381)
noncomputable def o238:J:=fun P=>(ys x0 #[(.str S117 679),(.str S127 680),(.str S128 681),(.str S119 682),(.str S126 683),(.str S129 684),(.str S130 685),(.str S131 686),(.str S118 687),(.str S132 688),(.str S133 689)])
noncomputable def o239:J:=fun P=>(yg S110 S110 (q 56))
noncomputable def o240:J:=fun P=>(.mk (.type x1) none (.fields #[(.str S110 676),(.str S110 677),(.str S1 678),(.int 205 0),(.int 3 0),(.int 0 0),(.int 0 0),(.int 3 0),(.ref 383),(.bool .true),(.int 181 0),(.ref 384),.none,(.ref 385),(.ref 386),(.ref 387),(.int 690 0),(.int 205 0),(.str S1 691)]) #[])
noncomputable def o241:J:=fun P=>(yf S110 S110 (q 56) 3 (.str S101 645) 388)
noncomputable def o242:J:=fun P=>(ys x0 #[(.str S134 696),(.str S135 697),(.str S136 698),(.str S137 699),(.str S132 700),(.str S133 701),(.str S138 702)])
noncomputable def o243:J:=fun P=>(yg S111 S111 (q 57))
noncomputable def o244:J:=fun P=>(.mk (.type x1) none (.fields #[(.str S111 693),(.str S111 694),(.str S1 695),(.int 217 0),(.int 2 0),(.int 0 0),(.int 0 0),(.int 3 0),(.ref 390),(.bool .true),(.int 181 0),(.ref 391),.none,(.ref 392),(.ref 393),(.ref 394),(.int 703 0),(.int 217 0),(.str S1 704)]) #[])
noncomputable def o245:J:=fun P=>(yf S111 S111 (q 57) 3 (.str S101 645) 395)
noncomputable def o246:J:=fun P=>(yg S112 S112 (q 58))
noncomputable def o247:J:=fun P=>(yc S112 706 S112 707 708 224 1 3 397 .true 398 (.ref 399) 709 224 710)
noncomputable def o248:J:=fun P=>(yf S112 S112 (q 58) 3 (.str S101 645) 400)
noncomputable def o249:J:=fun P=>(yg S113 S113 (q 59))
noncomputable def o250:J:=fun P=>(yc S113 712 S113 713 714 230 2 3 402 .true 403 (.ref 404) 715 230 716)
noncomputable def o251:J:=fun P=>(yf S113 S113 (q 59) 3 (.str S101 645) 405)
noncomputable def o252:J:=fun P=>(ys x0 #[(.str S139 721),(.str S135 722),(.str S140 723),(.str S141 724)])
noncomputable def o253:J:=fun P=>(yg S114 S114 (q 60))
noncomputable def o254:J:=fun P=>(.mk (.type x1) none (.fields #[(.str S114 718),(.str S114 719),(.str S1 720),(.int 240 0),(.int 2 0),(.int 0 0),(.int 0 0),(.int 3 0),(.ref 407),(.bool .true),(.int 181 0),(.ref 408),.none,(.ref 409),(.ref 410),(.ref 411),(.int 725 0),(.int 240 0),(.str S1 726)]) #[])
noncomputable def o255:J:=fun P=>(yf S114 S114 (q 60) 3 (.str S101 645) 412)
noncomputable def o256:J:=fun P=>(yg S115 S115 (q 61))
noncomputable def o257:J:=fun P=>(yc S115 728 S115 729 730 248 1 3 414 .true 415 (.ref 416) 731 248 732)
noncomputable def o258:J:=fun P=>(yf S115 S115 (q 61) 3 (.str S101 645) 417)
noncomputable def t_4:Params→BT:=(N boot_o_0 (N boot_o_1 (N o206 (N boot_o_7 (N o0 (N o61 (N o1 (N o82 (L o160) (L o0)) (N o0 (L o198) Z)) (N o20 (N o0 (L o0) (L o1)) (N o0 (L o1) Z))) (N o20 (N o48 (N o1 (L o1) (L o246)) (N o130 (L o210) Z)) (N o72 (N o109 (L o188) Z) (N o151 (L o228) Z)))) (N o11 (N o1 (N o20 (N o0 (L o165) (L o1)) (N o123 (L o1) Z)) (N o1 (N o104 (L o1) Z) (N o143 (L o223) Z))) (N o31 (N o1 (N o95 (L o174) (L o0)) (N o134 (L o0) Z)) (N o77 (N o114 (L o0) Z) (N o1 (L o233) Z))))) (N o0 (N o7 (N o20 (N o41 (N o0 (L o1) (L o239)) (N o121 (L o200) Z)) (N o63 (N o0 (L o181) Z) (N o0 (L o0) Z))) (N o1 (N o20 (N o93 (L o0) (L o1)) (N o132 (L o0) Z)) (N o1 (N o111 (L o1) Z) (N o153 (L o230) Z)))) (N o13 (N o24 (N o1 (N o88 (L o167) (L o244)) (N o127 (L o0) Z)) (N o68 (N o1 (L o186) Z) (N o147 (L o1) Z))) (N o20 (N o55 (N o98 (L o1) (L o253)) (N o137 (L o216) Z)) (N o79 (N o0 (L o196) Z) (N o0 (L o0) Z)))))) (N boot_o_5 (N boot_o_9 (N o6 (N o18 (N o40 (N o1 (L o162) (L o238)) (N o119 (L o0) Z)) (N o62 (N o101 (L o180) (L o257)) (N o140 (L o220) Z))) (N o28 (N o50 (N o0 (L o171) (L o248)) (N o1 (L o1) Z)) (N o74 (N o0 (L o190) Z) (N o0 (L o0) Z)))) (N o0 (N o23 (N o45 (N o87 (L o0) (L o0)) (N o0 (L o204) Z)) (N o0 (N o106 (L o0) Z) (N o145 (L o225) Z))) (N o33 (N o54 (N o96 (L o176) (L o252)) (N o135 (L o215) Z)) (N o0 (N o1 (L o194) Z) (N o157 (L o1) Z))))) (N o2 (N o9 (N o21 (N o43 (N o85 (L o0) (L o241)) (N o1 (L o202) Z)) (N o65 (N o103 (L o183) Z) (N o142 (L o222) Z))) (N o30 (N o52 (N o0 (L o173) (L o250)) (N o0 (L o213) Z)) (N o0 (N o112 (L o192) Z) (N o155 (L o231) Z)))) (N o0 (N o26 (N o47 (N o90 (L o169) (L o0)) (N o128 (L o208) Z)) (N o70 (N o0 (L o0) Z) (N o149 (L o0) Z))) (N o38 (N o57 (N o1 (L o178) (L o255)) (N o1 (L o218) Z)) (N o80 (N o117 (L o1) Z) (N o159 (L o236) Z))))))) (N boot_o_2 (N boot_o_4 (N boot_o_8 (N o1 (N o17 (N o39 (N o0 (L o161) (L o1)) (N o1 (L o199) Z)) (N o11 (N o100 (L o1) (L o256)) (N o139 (L o219) Z))) (N o11 (N o49 (N o91 (L o170) (L o247)) (N o0 (L o0) Z)) (N o73 (N o110 (L o189) Z) (N o152 (L o229) Z)))) (N o12 (N o22 (N o11 (N o1 (L o166) (L o242)) (N o124 (L o203) Z)) (N o66 (N o105 (L o184) Z) (N o144 (L o224) Z))) (N o32 (N o53 (N o0 (L o175) (L o1)) (N o0 (L o1) Z)) (N o78 (N o0 (L o1) Z) (N o156 (L o0) Z))))) (N o207 (N o8 (N o11 (N o42 (N o84 (L o163) (L o240)) (N o0 (L o201) Z)) (N o64 (N o1 (L o182) Z) (N o1 (L o1) Z))) (N o29 (N o11 (N o94 (L o1) (L o249)) (N o133 (L o212) Z)) (N o75 (N o0 (L o191) Z) (N o154 (L o0) Z)))) (N o14 (N o25 (N o46 (N o89 (L o168) (L o245)) (N o0 (L o1) Z)) (N o69 (N o107 (L o187) Z) (N o148 (L o226) Z))) (N o11 (N o56 (N o0 (L o177) (L o254)) (N o0 (L o217) Z)) (N o0 (N o116 (L o0) Z) (N o1 (L o235) Z)))))) (N boot_o_6 (N boot_o_10 (N o0 (N o19 (N o0 (N o83 (L o0) (L o0)) (N o120 (L o1) Z)) (N o0 (N o102 (L o0) (L o258)) (N o141 (L o221) Z))) (N o0 (N o51 (N o92 (L o172) (L o0)) (N o131 (L o211) Z)) (N o0 (N o1 (L o0) Z) (N o1 (L o1) Z)))) (N o1 (N o0 (N o0 (N o0 (L o1) (L o243)) (N o11 (L o205) Z)) (N o67 (N o0 (L o185) Z) (N o146 (L o0) Z))) (N o34 (N o0 (N o97 (L o0) (L o0)) (N o136 (L o0) Z)) (N o1 (N o115 (L o195) Z) (N o158 (L o234) Z))))) (N o3 (N o10 (N o0 (N o44 (N o86 (L o164) (L o0)) (N o122 (L o0) Z)) (N o0 (N o0 (L o0) Z) (N o0 (L o0) Z))) (N o0 (N o0 (N o1 (L o0) (L o251)) (N o1 (L o214) Z)) (N o76 (N o113 (L o193) Z) (N o0 (L o232) Z)))) (N o15 (N o27 (N o0 (N o0 (L o0) (L o1)) (N o129 (L o209) Z)) (N o71 (N o108 (L o1) Z) (N o150 (L o227) Z))) (N o0 (N o58 (N o99 (L o179) (L o0)) (N o138 (L o0) Z)) (N o81 (N o118 (L o197) Z) (N o0 (L o237) Z))))))))
noncomputable def h_z (P:Params):Heap:=⟨#[boot_o_0 P,boot_o_1 P,boot_o_2 P,o206 P,boot_o_4 P,boot_o_5 P,boot_o_6 P,boot_o_7 P,boot_o_8 P,boot_o_9 P,boot_o_10 P,o0 P,o207 P,o2 P,o3 P,o0 P,o1 P,o6 P,o0 P,o7 P,o8 P,o9 P,o10 P,o11 P,o12 P,o0 P,o1 P,o13 P,o14 P,o0 P,o15 P,o61 P,o17 P,o18 P,o19 P,o20 P,o11 P,o21 P,o0 P,o1 P,o22 P,o23 P,o0 P,o24 P,o25 P,o26 P,o27 P,o20 P,o11 P,o28 P,o0 P,o1 P,o29 P,o30 P,o0 P,o31 P,o32 P,o33 P,o34 P,o20 P,o11 P,o38 P,o0 P,o1 P,o39 P,o40 P,o0 P,o41 P,o42 P,o43 P,o44 P,o20 P,o11 P,o45 P,o0 P,o1 P,o46 P,o47 P,o0 P,o48 P,o49 P,o50 P,o51 P,o20 P,o11 P,o52 P,o0 P,o1 P,o53 P,o54 P,o0 P,o55 P,o56 P,o57 P,o58 P,o20 P,o11 P,o62 P,o0 P,o63 P,o64 P,o65 P,o0 P,o1 P,o66 P,o0 P,o67 P,o68 P,o69 P,o70 P,o71 P,o72 P,o73 P,o74 P,o0 P,o1 P,o75 P,o0 P,o76 P,o77 P,o78 P,o0 P,o1 P,o79 P,o0 P,o80 P,o81 P,o82 P,o0 P,o1 P,o83 P,o0 P,o84 P,o85 P,o86 P,o0 P,o1 P,o87 P,o0 P,o88 P,o89 P,o90 P,o0 P,o1 P,o91 P,o0 P,o92 P,o93 P,o94 P,o0 P,o1 P,o95 P,o0 P,o96 P,o97 P,o98 P,o0 P,o1 P,o99 P,o0 P,o100 P,o101 P,o102 P,o0 P,o1 P,o103 P,o0 P,o104 P,o105 P,o106 P,o0 P,o1 P,o107 P,o0 P,o108 P,o109 P,o110 P,o0 P,o1 P,o111 P,o0 P,o112 P,o113 P,o114 P,o0 P,o1 P,o115 P,o0 P,o116 P,o117 P,o118 P,o0 P,o1 P,o119 P,o120 P,o121 P,o0 P,o1 P,o122 P,o123 P,o124 P,o0 P,o11 P,o127 P,o0 P,o128 P,o129 P,o130 P,o0 P,o1 P,o131 P,o132 P,o133 P,o0 P,o1 P,o134 P,o0 P,o135 P,o136 P,o137 P,o0 P,o1 P,o138 P,o0 P,o139 P,o140 P,o141 P,o0 P,o1 P,o142 P,o0 P,o143 P,o144 P,o145 P,o146 P,o147 P,o148 P,o149 P,o150 P,o151 P,o152 P,o0 P,o1 P,o153 P,o154 P,o155 P,o0 P,o1 P,o156 P,o157 P,o158 P,o0 P,o1 P,o159 P,o0 P,o160 P,o161 P,o162 P,o0 P,o1 P,o163 P,o0 P,o164 P,o165 P,o166 P,o0 P,o1 P,o167 P,o168 P,o169 P,o0 P,o1 P,o170 P,o171 P,o172 P,o0 P,o1 P,o173 P,o0 P,o174 P,o175 P,o176 P,o0 P,o1 P,o177 P,o178 P,o179 P,o0 P,o1 P,o180 P,o0 P,o181 P,o182 P,o183 P,o0 P,o1 P,o184 P,o0 P,o185 P,o186 P,o187 P,o0 P,o1 P,o188 P,o189 P,o190 P,o0 P,o1 P,o191 P,o192 P,o193 P,o0 P,o1 P,o194 P,o195 P,o196 P,o0 P,o1 P,o197 P,o198 P,o199 P,o0 P,o1 P,o200 P,o201 P,o202 P,o0 P,o1 P,o203 P,o204 P,o205 P,o0 P,o1 P,o208 P,o209 P,o210 P,o0 P,o1 P,o211 P,o0 P,o212 P,o213 P,o214 P,o0 P,o1 P,o215 P,o0 P,o216 P,o217 P,o218 P,o0 P,o1 P,o219 P,o220 P,o221 P,o0 P,o1 P,o222 P,o0 P,o223 P,o224 P,o225 P,o0 P,o1 P,o226 P,o0 P,o227 P,o228 P,o229 P,o0 P,o1 P,o230 P,o0 P,o231 P,o232 P,o233 P,o0 P,o1 P,o234 P,o0 P,o235 P,o236 P,o237 P,o0 P,o1 P,o238 P,o0 P,o239 P,o240 P,o241 P,o0 P,o1 P,o242 P,o0 P,o243 P,o244 P,o245 P,o0 P,o1 P,o246 P,o247 P,o248 P,o0 P,o1 P,o249 P,o250 P,o251 P,o0 P,o1 P,o252 P,o0 P,o253 P,o254 P,o255 P,o0 P,o1 P,o256 P,o257 P,o258 P],{}⟩
noncomputable abbrev env:Env:={ scope:=Q.main.scope,locals:=mainNs,globals:=mainNs,cells:=[],code:=(.ref 13),frame:=some 14 }
noncomputable abbrev bd:List Stmt:=behindTheImports Q
noncomputable abbrev cE:Code:=.body bd env
noncomputable abbrev fr:Frame:=topFrame ⟨0,0,0,0⟩
noncomputable abbrev ann:Option Value:=(some (.ref 6))
noncomputable abbrev at_ (T:BT) (n k:Nat) (os:OsState):SharedT:=⟨T,n,{},#[],{},k,os⟩
theorem l_pre (w:World):(fun os=>topGo treeTable Q w 11 ann 12 ⟨boot_heap w.params,#[],boot_drawn,boot_toks,os⟩ (topStub Q))=fun os=>some (⟨h_a w.params,#[],{},187,os⟩,(⟨denote treeTable cE,cE,⟨0,0,0,0⟩,[fr]⟩:Thread)):=by
 rw [PySem.W.Fast.te14364793385576792824,PySem.W.Fast.te15667345088766844465,PySem.W.Fast.te11892475500146522536];kernel_rfl
theorem l_block (w:World):(fun os=>segRun treeTable Q w 11 ann 1 1 ⟨h_a w.params,#[],{},187,os⟩ (blockOf bd env cE ⟨0,0,0,0⟩ [fr]))=fun os=>some (Flow.next,(at_ (t_b w.params) 15 187 os).abs,cE,⟨0,0,0,0⟩):=by
 rw [PySem.W.Fast.te14364793385576792824,PySem.W.Fast.te14374325043358763698];kernel_rfl
noncomputable abbrev sts_0:List Stmt:=q 0::q 1::q 2::q 3::q 4::[]
theorem l_0 (w:World):(fun os=>segRunT treeTable Q w 11 ann 1 651 (at_ (t_b w.params) 15 187 os) (piecesOf sts_0 env cE ⟨0,0,0,0⟩ [fr]))=fun os=>some (Flow.next,at_ (t_0 w.params) 59 246 os,cE,⟨9,0,10,8⟩):=by
 rw [PySem.W.Fast.te14364793385576792824,PySem.W.Fast.te10110043849684766642];kernel_rfl
noncomputable abbrev sts_1:List Stmt:=q 5::q 6::q 7::[]
theorem l_1 (w:World):(fun os=>segRunT treeTable Q w 11 ann 1 640 (at_ (t_0 w.params) 59 246 os) (piecesOf sts_1 env cE ⟨9,0,10,8⟩ [fr]))=fun os=>some (Flow.next,at_ (t_1 w.params) 95 294 os,cE,⟨15,0,16,8⟩):=by
 rw [PySem.W.Fast.te14364793385576792824,PySem.W.Fast.te10110043849684766642];kernel_rfl
noncomputable abbrev sts_2:List Stmt:=q 8::q 9::q 10::q 11::q 12::q 13::q 14::q 15::q 16::q 17::q 18::q 19::q 20::q 21::q 22::q 23::q 24::q 25::q 26::[]
theorem l_2 (w:World):(fun os=>segRunT treeTable Q w 11 ann 1 675 (at_ (t_1 w.params) 95 294 os) (piecesOf sts_2 env cE ⟨15,0,16,8⟩ [fr]))=fun os=>some (Flow.next,at_ (t_2 w.params) 201 431 os,cE,⟨77,0,80,25⟩):=by
 rw [PySem.W.Fast.te14364793385576792824,PySem.W.Fast.te10110043849684766642];kernel_rfl
noncomputable abbrev sts_3:List Stmt:=q 27::q 28::q 29::q 30::q 31::q 32::q 33::q 34::q 35::q 36::q 37::q 38::q 39::q 40::q 41::q 42::q 43::q 44::q 45::q 46::[]
theorem l_3 (w:World):(fun os=>segRunT treeTable Q w 11 ann 1 791 (at_ (t_2 w.params) 201 431 os) (piecesOf sts_3 env cE ⟨77,0,80,25⟩ [fr]))=fun os=>some (Flow.next,at_ (t_3 w.params) 331 607 os,cE,⟨167,0,167,8⟩):=by
 rw [PySem.W.Fast.te14364793385576792824,PySem.W.Fast.te10110043849684766642];kernel_rfl
noncomputable abbrev sts_4:List Stmt:=q 47::q 48::q 49::q 50::q 51::q 52::q 53::q 54::q 55::q 56::q 57::q 58::q 59::q 60::q 61::[]
theorem l_4 (w:World):(fun os=>segRunT treeTable Q w 11 ann 1 433 (at_ (t_3 w.params) 331 607 os) (piecesOf sts_4 env cE ⟨167,0,167,8⟩ [fr]))=fun os=>some (Flow.next,at_ (t_4 w.params) 419 734 os,cE,⟨248,0,265,15⟩):=by
 rw [PySem.W.Fast.te14364793385576792824,PySem.W.Fast.te10110043849684766642];kernel_rfl
theorem l_fin (w:World):(fun os=>topRun treeTable Q w 11 ann 2 (at_ (t_4 w.params) 419 734 os).abs (⟨doneF .next,cE,⟨248,0,265,15⟩,[fr]⟩:Thread))=fun os=>some ⟨h_z w.params,#[],{},734,os⟩:=by
 rw [PySem.W.Fast.te14364793385576792824,PySem.W.Fast.te14082659384304107361];kernel_rfl
end
end Hd
namespace Hd
open PySem PySem.W PySem.Calls PyProof.Rows L2
section
theorem bd_eq:bd=(sts_0++(sts_1++(sts_2++(sts_3++(sts_4++[]))))):=by kernel_rfl
theorem run1 (w:World) (os:OsState):topRun treeTable Q w 11 ann (651+(640+(675+(791+(433+2))))) (at_ (t_b w.params) 15 187 os).abs (restOf (sts_0++(sts_1++(sts_2++(sts_3++(sts_4++[]))))) env cE ⟨0,0,0,0⟩ [fr])=some ⟨h_z w.params,#[],{},734,os⟩ :=
 (piece_app (segRun_of (congrFun (l_0 w) os)) (piece_app (segRun_of (congrFun (l_1 w) os)) (piece_app (segRun_of (congrFun (l_2 w) os)) (piece_app (segRun_of (congrFun (l_3 w) os)) (piece_app (segRun_of (congrFun (l_4 w) os)) (piece_nil (congrFun (l_fin w) os)))))))
theorem run (w:World) (os:OsState):topRun treeTable Q w 11 ann (12+(1+(651+(640+(675+(791+(433+2))))))) ⟨boot_heap w.params,#[],boot_drawn,boot_toks,os⟩ (topStub Q)=some ⟨h_z w.params,#[],{},734,os⟩ :=
 go_top (congrFun (l_pre w) os) (piece_block (congrFun (l_block w) os) ((congrArg (fun b=>topRun treeTable Q w 11 ann (651+(640+(675+(791+(433+2))))) (at_ (t_b w.params) 15 187 os).abs (restOf b env cE ⟨0,0,0,0⟩ [fr])) bd_eq).trans (run1 w os)))
theorem S_an:Str.ofString "__annotations__" = ⟨#[95,95,97,110,110,111,116,97,116,105,111,110,115,95,95]⟩:=PySem.W.Fast.ofString_ofList ['_','_','a','n','n','o','t','a','t','i','o','n','s','_','_']
theorem size (w:World):((boot_heap w.params).isNs mainGlobals&&(#[]:Array GenState).size==0,(boot_heap w.params).objs.size,(boot_heap w.params).nsMap mainGlobals "__annotations__")=(true,11,ann):=by
 rw [PySem.W.Fast.te8920871248978507458,S_an];kernel_rfl
noncomputable abbrev vw (R:Program):Program:={ R with main:={ R.main with body:=[nth R.main.body 0,nth R.main.body 2,nth R.main.body 3,nth R.main.body 4,nth R.main.body 5,nth R.main.body 6,nth R.main.body 7,nth R.main.body 8,nth R.main.body 10,nth R.main.body 11,nth R.main.body 12,nth R.main.body 13,nth R.main.body 14,nth R.main.body 15,nth R.main.body 16,nth R.main.body 17,nth R.main.body 19,nth R.main.body 20,nth R.main.body 21,nth R.main.body 22,nth R.main.body 23,nth R.main.body 24,nth R.main.body 25,nth R.main.body 26,nth R.main.body 27,nth R.main.body 29,nth R.main.body 30,nth R.main.body 31,nth R.main.body 32,nth R.main.body 33,nth R.main.body 34,nth R.main.body 35,nth R.main.body 36,nth R.main.body 38,nth R.main.body 39,nth R.main.body 40,nth R.main.body 41,nth R.main.body 42,nth R.main.body 43,nth R.main.body 44,nth R.main.body 45,nth R.main.body 47,nth R.main.body 48,nth R.main.body 49,nth R.main.body 50,nth R.main.body 51,nth R.main.body 53,nth R.main.body 54,nth R.main.body 55,nth R.main.body 56,nth R.main.body 57,nth R.main.body 58,nth R.main.body 59,nth R.main.body 60,nth R.main.body 61] } }
noncomputable def K (P:Params):Frag:=(nat_lit 2,boot_o_2 P)::(nat_lit 3,o206 P)::(nat_lit 15,o0 P)::(nat_lit 17,o6 P)::(nat_lit 18,o0 P)::(nat_lit 20,o8 P)::(nat_lit 21,o9 P)::(nat_lit 22,o10 P)::(nat_lit 29,o0 P)::(nat_lit 30,o15 P)::(nat_lit 31,o61 P)::(nat_lit 32,o17 P)::(nat_lit 35,o20 P)::(nat_lit 42,o0 P)::(nat_lit 43,o24 P)::(nat_lit 44,o25 P)::(nat_lit 47,o20 P)::(nat_lit 54,o0 P)::(nat_lit 55,o31 P)::(nat_lit 56,o32 P)::(nat_lit 59,o20 P)::(nat_lit 66,o0 P)::(nat_lit 67,o41 P)::(nat_lit 68,o42 P)::(nat_lit 71,o20 P)::(nat_lit 78,o0 P)::(nat_lit 79,o48 P)::(nat_lit 80,o49 P)::(nat_lit 83,o20 P)::(nat_lit 90,o0 P)::(nat_lit 91,o55 P)::(nat_lit 92,o56 P)::(nat_lit 95,o20 P)::(nat_lit 102,o0 P)::(nat_lit 104,o66 P)::(nat_lit 105,o0 P)::(nat_lit 107,o68 P)::(nat_lit 108,o69 P)::(nat_lit 109,o70 P)::(nat_lit 110,o71 P)::(nat_lit 111,o72 P)::(nat_lit 114,o0 P)::(nat_lit 116,o75 P)::(nat_lit 117,o0 P)::(nat_lit 119,o77 P)::(nat_lit 120,o78 P)::(nat_lit 121,o0 P)::(nat_lit 123,o79 P)::(nat_lit 124,o0 P)::(nat_lit 126,o81 P)::(nat_lit 127,o82 P)::(nat_lit 128,o0 P)::(nat_lit 130,o83 P)::(nat_lit 131,o0 P)::(nat_lit 133,o85 P)::(nat_lit 134,o86 P)::(nat_lit 135,o0 P)::(nat_lit 137,o87 P)::(nat_lit 138,o0 P)::(nat_lit 140,o89 P)::(nat_lit 141,o90 P)::(nat_lit 142,o0 P)::(nat_lit 144,o91 P)::(nat_lit 145,o0 P)::(nat_lit 147,o93 P)::(nat_lit 148,o94 P)::(nat_lit 149,o0 P)::(nat_lit 151,o95 P)::(nat_lit 152,o0 P)::(nat_lit 154,o97 P)::(nat_lit 155,o98 P)::(nat_lit 156,o0 P)::(nat_lit 158,o99 P)::(nat_lit 159,o0 P)::(nat_lit 161,o101 P)::(nat_lit 162,o102 P)::(nat_lit 163,o0 P)::(nat_lit 165,o103 P)::(nat_lit 166,o0 P)::(nat_lit 168,o105 P)::(nat_lit 169,o106 P)::(nat_lit 170,o0 P)::(nat_lit 172,o107 P)::(nat_lit 173,o0 P)::(nat_lit 175,o109 P)::(nat_lit 176,o110 P)::(nat_lit 177,o0 P)::(nat_lit 179,o111 P)::(nat_lit 180,o0 P)::(nat_lit 182,o113 P)::(nat_lit 183,o114 P)::(nat_lit 184,o0 P)::(nat_lit 186,o115 P)::(nat_lit 187,o0 P)::(nat_lit 189,o117 P)::(nat_lit 190,o118 P)::(nat_lit 191,o0 P)::(nat_lit 194,o120 P)::(nat_lit 195,o121 P)::(nat_lit 196,o0 P)::(nat_lit 199,o123 P)::(nat_lit 200,o124 P)::(nat_lit 208,o0 P)::(nat_lit 211,o132 P)::(nat_lit 212,o133 P)::(nat_lit 213,o0 P)::(nat_lit 215,o134 P)::(nat_lit 216,o0 P)::(nat_lit 218,o136 P)::(nat_lit 219,o137 P)::(nat_lit 220,o0 P)::(nat_lit 222,o138 P)::(nat_lit 223,o0 P)::(nat_lit 225,o140 P)::(nat_lit 226,o141 P)::(nat_lit 227,o0 P)::(nat_lit 229,o142 P)::(nat_lit 230,o0 P)::(nat_lit 232,o144 P)::(nat_lit 233,o145 P)::(nat_lit 234,o146 P)::(nat_lit 235,o147 P)::(nat_lit 236,o148 P)::(nat_lit 237,o149 P)::(nat_lit 238,o150 P)::(nat_lit 241,o0 P)::(nat_lit 244,o154 P)::(nat_lit 245,o155 P)::(nat_lit 246,o0 P)::(nat_lit 249,o157 P)::(nat_lit 250,o158 P)::(nat_lit 251,o0 P)::(nat_lit 253,o159 P)::(nat_lit 254,o0 P)::(nat_lit 256,o161 P)::(nat_lit 257,o162 P)::(nat_lit 258,o0 P)::(nat_lit 260,o163 P)::(nat_lit 261,o0 P)::(nat_lit 263,o165 P)::(nat_lit 264,o166 P)::(nat_lit 265,o0 P)::(nat_lit 268,o168 P)::(nat_lit 269,o169 P)::(nat_lit 270,o0 P)::(nat_lit 273,o171 P)::(nat_lit 274,o172 P)::(nat_lit 275,o0 P)::(nat_lit 277,o173 P)::(nat_lit 278,o0 P)::(nat_lit 280,o175 P)::(nat_lit 281,o176 P)::(nat_lit 282,o0 P)::(nat_lit 285,o178 P)::(nat_lit 286,o179 P)::(nat_lit 287,o0 P)::(nat_lit 289,o180 P)::(nat_lit 290,o0 P)::(nat_lit 292,o182 P)::(nat_lit 293,o183 P)::(nat_lit 294,o0 P)::(nat_lit 296,o184 P)::(nat_lit 297,o0 P)::(nat_lit 299,o186 P)::(nat_lit 300,o187 P)::(nat_lit 301,o0 P)::(nat_lit 304,o189 P)::(nat_lit 305,o190 P)::(nat_lit 306,o0 P)::(nat_lit 309,o192 P)::(nat_lit 310,o193 P)::(nat_lit 311,o0 P)::(nat_lit 314,o195 P)::(nat_lit 315,o196 P)::(nat_lit 316,o0 P)::(nat_lit 319,o198 P)::(nat_lit 320,o199 P)::(nat_lit 321,o0 P)::(nat_lit 324,o201 P)::(nat_lit 325,o202 P)::(nat_lit 326,o0 P)::(nat_lit 329,o204 P)::(nat_lit 330,o205 P)::(nat_lit 331,o0 P)::(nat_lit 334,o209 P)::(nat_lit 335,o210 P)::(nat_lit 336,o0 P)::(nat_lit 338,o211 P)::(nat_lit 339,o0 P)::(nat_lit 341,o213 P)::(nat_lit 342,o214 P)::(nat_lit 343,o0 P)::(nat_lit 345,o215 P)::(nat_lit 346,o0 P)::(nat_lit 348,o217 P)::(nat_lit 349,o218 P)::(nat_lit 350,o0 P)::(nat_lit 353,o220 P)::(nat_lit 354,o221 P)::(nat_lit 355,o0 P)::(nat_lit 357,o222 P)::(nat_lit 358,o0 P)::(nat_lit 360,o224 P)::(nat_lit 361,o225 P)::(nat_lit 362,o0 P)::(nat_lit 364,o226 P)::(nat_lit 365,o0 P)::(nat_lit 367,o228 P)::(nat_lit 368,o229 P)::(nat_lit 369,o0 P)::(nat_lit 371,o230 P)::(nat_lit 372,o0 P)::(nat_lit 374,o232 P)::(nat_lit 375,o233 P)::(nat_lit 376,o0 P)::(nat_lit 378,o234 P)::(nat_lit 379,o0 P)::(nat_lit 381,o236 P)::(nat_lit 382,o237 P)::(nat_lit 383,o0 P)::(nat_lit 385,o238 P)::(nat_lit 386,o0 P)::(nat_lit 388,o240 P)::(nat_lit 389,o241 P)::(nat_lit 397,o0 P)::(nat_lit 400,o247 P)::(nat_lit 401,o248 P)::(nat_lit 402,o0 P)::(nat_lit 405,o250 P)::(nat_lit 406,o251 P)::(nat_lit 407,o0 P)::(nat_lit 409,o252 P)::(nat_lit 410,o0 P)::(nat_lit 412,o254 P)::(nat_lit 413,o255 P)::(nat_lit 414,o0 P)::(nat_lit 417,o257 P)::(nat_lit 418,o258 P)::[]
noncomputable abbrev as:List Addr:=[2,3,15,17,18,20,21,22,29,30,31,32,35,42,43,44,47,54,55,56,59,66,67,68,71,78,79,80,83,90,91,92,95,102,104,105,107,108,109,110,111,114,116,117,119,120,121,123,124,126,127,128,130,131,133,134,135,137,138,140,141,142,144,145,147,148,149,151,152,154,155,156,158,159,161,162,163,165,166,168,169,170,172,173,175,176,177,179,180,182,183,184,186,187,189,190,191,194,195,196,199,200,208,211,212,213,215,216,218,219,220,222,223,225,226,227,229,230,232,233,234,235,236,237,238,241,244,245,246,249,250,251,253,254,256,257,258,260,261,263,264,265,268,269,270,273,274,275,277,278,280,281,282,285,286,287,289,290,292,293,294,296,297,299,300,301,304,305,306,309,310,311,314,315,316,319,320,321,324,325,326,329,330,331,334,335,336,338,339,341,342,343,345,346,348,349,350,353,354,355,357,358,360,361,362,364,365,367,368,369,371,372,374,375,376,378,379,381,382,383,385,386,388,389,397,400,401,402,405,406,407,409,410,412,413,414,417,418]
theorem as_eq (P:Params):as=(K P).map (·.1):=by kernel_rfl
noncomputable abbrev sz (w:World) (os:OsState):Shared:=⟨h_z w.params,#[],{},734,os⟩
noncomputable abbrev Xt (R:Program) (s:Shared):Bool:=xlAt (vw R) [] s&&recOk (RowW.records (OpenRow.toRowW PySem.Challenge.rw_splitstream_k08_whole_taken_out.row)) s
theorem k0 (w:World) (os:OsState):(staticsOk (importedModules Q.main.body) (boot_heap w.params) (h_z w.params)&&namesBound Q (h_z w.params)&&gensDone (sz w os)&&laidKept (boot_heap w.params) (h_z w.params))=true:=by
 rw [PySem.W.Fast.te5923862056798008813];kernel_rfl
theorem k1 (w:World) (os:OsState):(seen ((recsOf (vw Q)).map (·.name)) (ownsOf (vw Q)) [] { (sz w os) with gens:=#[] })=expectedOf (vw Q):=by
 rw [PySem.W.Fast.te5160383126252970620,PySem.W.Fast.te3399658132070893891,PySem.W.Fast.te5991557255702980513];kernel_rfl
theorem k2 (w:World) (os:OsState):((sz w os).heap.bltView)=bltViewBooted:=by
 kernel_rfl
theorem k3 (w:World) (os:OsState):((sz w os).heap.keysOk (looseW (vw Q) []) ((recsOf (vw Q)).map (·.name)) ((litsOf (vw Q)).map (·.1)) ((clssOf (vw Q) (looseW (vw Q) [])).map (·.name))&&(sz w os).heap.accountedOkI (importedModules Q.main.body)&&(sz w os).heap.isNs mainGlobals&&(sz w os).heap.isNs builtinsNs&&tablesOk (vw Q) (sz w os).heap&&Xt Q (sz w os)&&(if true then (sz w os).gens.size==0 else !leftWithCleanup (sz w os).gens))=true:=by
 rw [PySem.W.Fast.te10880121769531294198,PySem.W.Fast.te821141287760084731,PySem.W.Fast.te3399658132070893891,PySem.W.Fast.te7409074990110511671,PySem.W.Fast.te13664370479719496447,PySem.W.Fast.te14722251495701143533,PySem.W.Fast.te5923862056798008813,PySem.W.Fast.te10994771534591457954];kernel_rfl
theorem k4 (w:World) (os:OsState):(tabsOk (vw Q) (sz w os))=true:=by
 rw [PySem.W.Fast.te479339242167458305];kernel_rfl
theorem k5 (w:World) (os:OsState):(pinSeenD (vw Q) (drecsOf (vw Q)) (sz w os))=pinGoodD (drecsOf (vw Q)):=by
 rw [PySem.W.Fast.te16090120013241838585,PySem.W.Fast.te3247288618530077131];kernel_rfl
theorem k6 (w:World) (os:OsState):(plainSeenE (vw Q) (looseW (vw Q) []) (sz w os))=plainGoodE (vw Q) (looseW (vw Q) []):=by
 rw [PySem.W.Fast.te2386780881361962483,PySem.W.Fast.te821141287760084731];kernel_rfl
theorem k7 (w:World) (os:OsState):(plainSeenD (vw Q) [] (sz w os))=plainGoodD (vw Q) []:=by
 rw [PySem.W.Fast.te11698064438423848299];kernel_rfl
theorem k8 (w:World) (os:OsState):(wideSeen (vw Q) (sz w os))=wideGood (vw Q):=by
 rw [PySem.W.Fast.te7317090234206586261];kernel_rfl
theorem k9 (w:World) (os:OsState):(clsSeenW (vw Q) [] (sz w os))=clsGoodW (vw Q) []:=by
 rw [PySem.W.Fast.te7369524293546568484];kernel_rfl
theorem kY (w:World) (os:OsState):as.map (sz w os).heap.get? = (K w.params).map fun p=>some p.2:=by kernel_rfl
noncomputable abbrev Yf (s:Shared):List (Option Obj):=as.map s.heap.get?
noncomputable abbrev Ya (w:World):List (Option Obj):=(K w.params).map fun p=>some p.2
theorem kS (w:World) (os:OsState):openSeen (vw Q) [] (importedModules Q.main.body) (Xt Q) true (sz w os)=openGood (vw Q) [] :=
 looks_pair (k1 w os) (looks_pair (k2 w os) (looks_pair (k3 w os) (looks_pair (k4 w os) (looks_pair (k5 w os) (looks_pair (k6 w os) (looks_pair (k7 w os) (looks_pair (k8 w os) (k9 w os))))))))
theorem left_Q:LeftO Q (vw Q) [] (Xt Q) Yf Ya 6496 :=
 LeftO.of_pieces (boot_open (by kernel_rfl) (by decide) fun s=>by kernel_rfl) size run (by decide) fun w=>funext fun os=>looks_pair (k0 w os) (looks_pair (kS w os) (kY w os))
theorem left:LeftO PySem.Challenge.rw_splitstream_k08_whole_taken_out.row.prog (vw PySem.Challenge.pw_splitstream_k08_whole_taken_out) [] (Xt PySem.Challenge.pw_splitstream_k08_whole_taken_out) Yf Ya 6496:=by
 show LeftO PySem.Challenge.pw_splitstream_k08_whole_taken_out (vw PySem.Challenge.pw_splitstream_k08_whole_taken_out) [] (Xt PySem.Challenge.pw_splitstream_k08_whole_taken_out) Yf Ya 6496
 rw [Q_eq];exact left_Q
end
end Hd
namespace Hd
open PySem PySem.W PySem.Calls PyProof.Rows L2
section
theorem nth_getD:∀ (l:List Stmt) (i:Nat),l.getD i (.Pass ⟨0,0,0,0⟩)=nth l i
 | [],_=>rfl
 | _::_,0=>rfl
 | _::l,i+1=>nth_getD l i
theorem top_q (i:Nat):K2.top i=q i:=by
 unfold K2.top;rw [Q_eq];exact nth_getD _ i
theorem ES13:Str.ofString "_wall" = S13:=PySem.W.Fast.ofString_ofList ['_','w','a','l','l']
theorem lk__wall (P:Params):(K P).lookup 21=some ⟨(.type x5),none,.func (fnOf "_wall" "_wall" (defArgs (K2.top 0)) (defBody (K2.top 0)) (defScope (K2.top 0)) .none .none .none (.str S2 164) none (.ref 20) .none),#[]⟩:=by
 rw [top_q,ES13];kernel_rfl
theorem ES44:Str.ofString "__init__" = S44:=PySem.W.Fast.ofString_ofList ['_','_','i','n','i','t','_','_']
theorem ES47:Str.ofString "BadRow.__init__" = S47:=PySem.W.Fast.ofString_ofList ['B','a','d','R','o','w','.','_','_','i','n','i','t','_','_']
theorem lk_BadRow___init__ (P:Params):(K P).lookup 108=some ⟨(.type x5),none,.func (fnOf "__init__" "BadRow.__init__" (defArgs (inClass (K2.top 8) 0)) (defBody (inClass (K2.top 8) 0)) (defScope (inClass (K2.top 8) 0)) .none .none .none (.str S4 194) none (.ref 107) .none),#[]⟩:=by
 rw [top_q,ES44,ES47];kernel_rfl
theorem ES28:Str.ofString "is_whole" = S28:=PySem.W.Fast.ofString_ofList ['i','s','_','w','h','o','l','e']
theorem lk_is_whole (P:Params):(K P).lookup 120=some ⟨(.type x5),none,.func (fnOf "is_whole" "is_whole" (defArgs (K2.top 10)) (defBody (K2.top 10)) (defScope (K2.top 10)) .none .none .none (.str S49 319) none (.ref 119) .none),#[]⟩:=by
 rw [top_q,ES28];kernel_rfl
theorem ES29:Str.ofString "is_fraction" = S29:=PySem.W.Fast.ofString_ofList ['i','s','_','f','r','a','c','t','i','o','n']
theorem lk_is_fraction (P:Params):(K P).lookup 127=some ⟨(.type x5),none,.func (fnOf "is_fraction" "is_fraction" (defArgs (K2.top 11)) (defBody (K2.top 11)) (defScope (K2.top 11)) .none .none .none (.str S49 319) none (.ref 126) .none),#[]⟩:=by
 rw [top_q,ES29];kernel_rfl
theorem ES30:Str.ofString "common_divisor" = S30:=PySem.W.Fast.ofString_ofList ['c','o','m','m','o','n','_','d','i','v','i','s','o','r']
theorem lk_common_divisor (P:Params):(K P).lookup 134=some ⟨(.type x5),none,.func (fnOf "common_divisor" "common_divisor" (defArgs (K2.top 12)) (defBody (K2.top 12)) (defScope (K2.top 12)) .none .none .none (.str S49 319) none (.ref 133) .none),#[]⟩:=by
 rw [top_q,ES30];kernel_rfl
theorem ES31:Str.ofString "made" = S31:=PySem.W.Fast.ofString_ofList ['m','a','d','e']
theorem lk_made (P:Params):(K P).lookup 141=some ⟨(.type x5),none,.func (fnOf "made" "made" (defArgs (K2.top 13)) (defBody (K2.top 13)) (defScope (K2.top 13)) .none .none .none (.str S49 319) none (.ref 140) .none),#[]⟩:=by
 rw [top_q,ES31];kernel_rfl
theorem ES32:Str.ofString "plus" = S32:=PySem.W.Fast.ofString_ofList ['p','l','u','s']
theorem lk_plus (P:Params):(K P).lookup 148=some ⟨(.type x5),none,.func (fnOf "plus" "plus" (defArgs (K2.top 14)) (defBody (K2.top 14)) (defScope (K2.top 14)) .none .none .none (.str S49 319) none (.ref 147) .none),#[]⟩:=by
 rw [top_q,ES32];kernel_rfl
theorem ES33:Str.ofString "times" = S33:=PySem.W.Fast.ofString_ofList ['t','i','m','e','s']
theorem lk_times (P:Params):(K P).lookup 155=some ⟨(.type x5),none,.func (fnOf "times" "times" (defArgs (K2.top 15)) (defBody (K2.top 15)) (defScope (K2.top 15)) .none .none .none (.str S49 319) none (.ref 154) .none),#[]⟩:=by
 rw [top_q,ES33];kernel_rfl
theorem ES34:Str.ofString "over" = S34:=PySem.W.Fast.ofString_ofList ['o','v','e','r']
theorem lk_over (P:Params):(K P).lookup 162=some ⟨(.type x5),none,.func (fnOf "over" "over" (defArgs (K2.top 16)) (defBody (K2.top 16)) (defScope (K2.top 16)) .none .none .none (.str S49 319) none (.ref 161) .none),#[]⟩:=by
 rw [top_q,ES34];kernel_rfl
theorem ES35:Str.ofString "total" = S35:=PySem.W.Fast.ofString_ofList ['t','o','t','a','l']
theorem lk_total (P:Params):(K P).lookup 169=some ⟨(.type x5),none,.func (fnOf "total" "total" (defArgs (K2.top 17)) (defBody (K2.top 17)) (defScope (K2.top 17)) .none .none .none (.str S49 319) none (.ref 168) .none),#[]⟩:=by
 rw [top_q,ES35];kernel_rfl
theorem ES39:Str.ofString "counts_one_of" = S39:=PySem.W.Fast.ofString_ofList ['c','o','u','n','t','s','_','o','n','e','_','o','f']
theorem lk_counts_one_of (P:Params):(K P).lookup 176=some ⟨(.type x5),none,.func (fnOf "counts_one_of" "counts_one_of" (defArgs (K2.top 22)) (defBody (K2.top 22)) (defScope (K2.top 22)) .none .none .none (.str S26 388) none (.ref 175) .none),#[]⟩:=by
 rw [top_q,ES39];kernel_rfl
theorem ES40:Str.ofString "is_hardness" = S40:=PySem.W.Fast.ofString_ofList ['i','s','_','h','a','r','d','n','e','s','s']
theorem lk_is_hardness (P:Params):(K P).lookup 183=some ⟨(.type x5),none,.func (fnOf "is_hardness" "is_hardness" (defArgs (K2.top 23)) (defBody (K2.top 23)) (defScope (K2.top 23)) .none .none .none (.str S26 388) none (.ref 182) .none),#[]⟩:=by
 rw [top_q,ES40];kernel_rfl
theorem ES41:Str.ofString "is_pipe" = S41:=PySem.W.Fast.ofString_ofList ['i','s','_','p','i','p','e']
theorem lk_is_pipe (P:Params):(K P).lookup 190=some ⟨(.type x5),none,.func (fnOf "is_pipe" "is_pipe" (defArgs (K2.top 24)) (defBody (K2.top 24)) (defScope (K2.top 24)) .none .none .none (.str S26 388) none (.ref 189) .none),#[]⟩:=by
 rw [top_q,ES41];kernel_rfl
theorem ES42:Str.ofString "is_net" = S42:=PySem.W.Fast.ofString_ofList ['i','s','_','n','e','t']
theorem lk_is_net (P:Params):(K P).lookup 195=some ⟨(.type x5),none,.func (fnOf "is_net" "is_net" (defArgs (K2.top 25)) (defBody (K2.top 25)) (defScope (K2.top 25)) .none .none .none (.str S26 388) none (.ref 194) .none),#[]⟩:=by
 rw [top_q,ES42];kernel_rfl
theorem ES43:Str.ofString "neighbours" = S43:=PySem.W.Fast.ofString_ofList ['n','e','i','g','h','b','o','u','r','s']
theorem lk_neighbours (P:Params):(K P).lookup 200=some ⟨(.type x5),none,.func (fnOf "neighbours" "neighbours" (defArgs (K2.top 26)) (defBody (K2.top 26)) (defScope (K2.top 26)) .none .none .none (.str S26 388) none (.ref 199) .none),#[]⟩:=by
 rw [top_q,ES43];kernel_rfl
theorem ES82:Str.ofString "Net.__init__" = S82:=PySem.W.Fast.ofString_ofList ['N','e','t','.','_','_','i','n','i','t','_','_']
theorem lk_Net___init__ (P:Params):(K P).lookup 212=some ⟨(.type x5),none,.func (fnOf "__init__" "Net.__init__" (defArgs (inClass (K2.top 27) 0)) (defBody (inClass (K2.top 27) 0)) (defScope (inClass (K2.top 27) 0)) .none .none .none (.str S26 388) none (.ref 211) .none),#[]⟩:=by
 rw [top_q,ES44,ES82];kernel_rfl
theorem ES79:Str.ofString "pipes" = S79:=PySem.W.Fast.ofString_ofList ['p','i','p','e','s']
theorem ES83:Str.ofString "Net.pipes" = S83:=PySem.W.Fast.ofString_ofList ['N','e','t','.','p','i','p','e','s']
theorem lk_Net_pipes (P:Params):(K P).lookup 219=some ⟨(.type x5),none,.func (fnOf "pipes" "Net.pipes" (defArgs (inClass (K2.top 27) 1)) (defBody (inClass (K2.top 27) 1)) (defScope (inClass (K2.top 27) 1)) .none .none .none (.str S26 388) none (.ref 218) .none),#[]⟩:=by
 rw [top_q,ES79,ES83];kernel_rfl
theorem ES80:Str.ofString "part" = S80:=PySem.W.Fast.ofString_ofList ['p','a','r','t']
theorem ES89:Str.ofString "Net.part" = S89:=PySem.W.Fast.ofString_ofList ['N','e','t','.','p','a','r','t']
theorem lk_Net_part (P:Params):(K P).lookup 226=some ⟨(.type x5),none,.func (fnOf "part" "Net.part" (defArgs (inClass (K2.top 27) 2)) (defBody (inClass (K2.top 27) 2)) (defScope (inClass (K2.top 27) 2)) .none .none .none (.str S26 388) none (.ref 225) .none),#[]⟩:=by
 rw [top_q,ES80,ES89];kernel_rfl
theorem ES81:Str.ofString "parts" = S81:=PySem.W.Fast.ofString_ofList ['p','a','r','t','s']
theorem ES90:Str.ofString "Net.parts" = S90:=PySem.W.Fast.ofString_ofList ['N','e','t','.','p','a','r','t','s']
theorem lk_Net_parts (P:Params):(K P).lookup 233=some ⟨(.type x5),none,.func (fnOf "parts" "Net.parts" (defArgs (inClass (K2.top 27) 3)) (defBody (inClass (K2.top 27) 3)) (defScope (inClass (K2.top 27) 3)) .none .none .none (.str S26 388) none (.ref 232) .none),#[]⟩:=by
 rw [top_q,ES81,ES90];kernel_rfl
theorem ES63:Str.ofString "ease_between" = S63:=PySem.W.Fast.ofString_ofList ['e','a','s','e','_','b','e','t','w','e','e','n']
theorem lk_ease_between (P:Params):(K P).lookup 245=some ⟨(.type x5),none,.func (fnOf "ease_between" "ease_between" (defArgs (K2.top 29)) (defBody (K2.top 29)) (defScope (K2.top 29)) .none .none .none (.str S94 485) none (.ref 244) .none),#[]⟩:=by
 rw [top_q,ES63];kernel_rfl
theorem ES64:Str.ofString "ease_at" = S64:=PySem.W.Fast.ofString_ofList ['e','a','s','e','_','a','t']
theorem lk_ease_at (P:Params):(K P).lookup 250=some ⟨(.type x5),none,.func (fnOf "ease_at" "ease_at" (defArgs (K2.top 30)) (defBody (K2.top 30)) (defScope (K2.top 30)) .none .none .none (.str S94 485) none (.ref 249) .none),#[]⟩:=by
 rw [top_q,ES64];kernel_rfl
theorem ES65:Str.ofString "ease_by_way_of" = S65:=PySem.W.Fast.ofString_ofList ['e','a','s','e','_','b','y','_','w','a','y','_','o','f']
theorem lk_ease_by_way_of (P:Params):(K P).lookup 257=some ⟨(.type x5),none,.func (fnOf "ease_by_way_of" "ease_by_way_of" (defArgs (K2.top 31)) (defBody (K2.top 31)) (defScope (K2.top 31)) .none .none .none (.str S94 485) none (.ref 256) .none),#[]⟩:=by
 rw [top_q,ES65];kernel_rfl
theorem ES66:Str.ofString "pairs" = S66:=PySem.W.Fast.ofString_ofList ['p','a','i','r','s']
theorem lk_pairs (P:Params):(K P).lookup 264=some ⟨(.type x5),none,.func (fnOf "pairs" "pairs" (defArgs (K2.top 32)) (defBody (K2.top 32)) (defScope (K2.top 32)) .none .none .none (.str S94 485) none (.ref 263) .none),#[]⟩:=by
 rw [top_q,ES66];kernel_rfl
theorem ES67:Str.ofString "net_of_eases" = S67:=PySem.W.Fast.ofString_ofList ['n','e','t','_','o','f','_','e','a','s','e','s']
theorem lk_net_of_eases (P:Params):(K P).lookup 269=some ⟨(.type x5),none,.func (fnOf "net_of_eases" "net_of_eases" (defArgs (K2.top 33)) (defBody (K2.top 33)) (defScope (K2.top 33)) .none .none .none (.str S94 485) none (.ref 268) .none),#[]⟩:=by
 rw [top_q,ES67];kernel_rfl
theorem ES68:Str.ofString "slim" = S68:=PySem.W.Fast.ofString_ofList ['s','l','i','m']
theorem lk_slim (P:Params):(K P).lookup 274=some ⟨(.type x5),none,.func (fnOf "slim" "slim" (defArgs (K2.top 34)) (defBody (K2.top 34)) (defScope (K2.top 34)) .none .none .none (.str S94 485) none (.ref 273) .none),#[]⟩:=by
 rw [top_q,ES68];kernel_rfl
theorem ES69:Str.ofString "ease_without" = S69:=PySem.W.Fast.ofString_ofList ['e','a','s','e','_','w','i','t','h','o','u','t']
theorem lk_ease_without (P:Params):(K P).lookup 281=some ⟨(.type x5),none,.func (fnOf "ease_without" "ease_without" (defArgs (K2.top 35)) (defBody (K2.top 35)) (defScope (K2.top 35)) .none .none .none (.str S94 485) none (.ref 280) .none),#[]⟩:=by
 rw [top_q,ES69];kernel_rfl
theorem ES70:Str.ofString "taken_out" = S70:=PySem.W.Fast.ofString_ofList ['t','a','k','e','n','_','o','u','t']
theorem lk_taken_out (P:Params):(K P).lookup 286=some ⟨(.type x5),none,.func (fnOf "taken_out" "taken_out" (defArgs (K2.top 36)) (defBody (K2.top 36)) (defScope (K2.top 36)) .none .none .none (.str S94 485) none (.ref 285) .none),#[]⟩:=by
 rw [top_q,ES70];kernel_rfl
theorem ES71:Str.ofString "scale_of" = S71:=PySem.W.Fast.ofString_ofList ['s','c','a','l','e','_','o','f']
theorem lk_scale_of (P:Params):(K P).lookup 293=some ⟨(.type x5),none,.func (fnOf "scale_of" "scale_of" (defArgs (K2.top 38)) (defBody (K2.top 38)) (defScope (K2.top 38)) .none .none .none (.str S100 548) none (.ref 292) .none),#[]⟩:=by
 rw [top_q,ES71];kernel_rfl
theorem ES72:Str.ofString "scaled_ease" = S72:=PySem.W.Fast.ofString_ofList ['s','c','a','l','e','d','_','e','a','s','e']
theorem lk_scaled_ease (P:Params):(K P).lookup 300=some ⟨(.type x5),none,.func (fnOf "scaled_ease" "scaled_ease" (defArgs (K2.top 39)) (defBody (K2.top 39)) (defScope (K2.top 39)) .none .none .none (.str S100 548) none (.ref 299) .none),#[]⟩:=by
 rw [top_q,ES72];kernel_rfl
theorem ES73:Str.ofString "entry" = S73:=PySem.W.Fast.ofString_ofList ['e','n','t','r','y']
theorem lk_entry (P:Params):(K P).lookup 305=some ⟨(.type x5),none,.func (fnOf "entry" "entry" (defArgs (K2.top 40)) (defBody (K2.top 40)) (defScope (K2.top 40)) .none .none .none (.str S100 548) none (.ref 304) .none),#[]⟩:=by
 rw [top_q,ES73];kernel_rfl
theorem ES74:Str.ofString "sheet_row" = S74:=PySem.W.Fast.ofString_ofList ['s','h','e','e','t','_','r','o','w']
theorem lk_sheet_row (P:Params):(K P).lookup 310=some ⟨(.type x5),none,.func (fnOf "sheet_row" "sheet_row" (defArgs (K2.top 41)) (defBody (K2.top 41)) (defScope (K2.top 41)) .none .none .none (.str S100 548) none (.ref 309) .none),#[]⟩:=by
 rw [top_q,ES74];kernel_rfl
theorem ES75:Str.ofString "sheet_of" = S75:=PySem.W.Fast.ofString_ofList ['s','h','e','e','t','_','o','f']
theorem lk_sheet_of (P:Params):(K P).lookup 315=some ⟨(.type x5),none,.func (fnOf "sheet_of" "sheet_of" (defArgs (K2.top 42)) (defBody (K2.top 42)) (defScope (K2.top 42)) .none .none .none (.str S100 548) none (.ref 314) .none),#[]⟩:=by
 rw [top_q,ES75];kernel_rfl
theorem ES76:Str.ofString "row_without" = S76:=PySem.W.Fast.ofString_ofList ['r','o','w','_','w','i','t','h','o','u','t']
theorem lk_row_without (P:Params):(K P).lookup 320=some ⟨(.type x5),none,.func (fnOf "row_without" "row_without" (defArgs (K2.top 43)) (defBody (K2.top 43)) (defScope (K2.top 43)) .none .none .none (.str S100 548) none (.ref 319) .none),#[]⟩:=by
 rw [top_q,ES76];kernel_rfl
theorem ES77:Str.ofString "cleared" = S77:=PySem.W.Fast.ofString_ofList ['c','l','e','a','r','e','d']
theorem lk_cleared (P:Params):(K P).lookup 325=some ⟨(.type x5),none,.func (fnOf "cleared" "cleared" (defArgs (K2.top 44)) (defBody (K2.top 44)) (defScope (K2.top 44)) .none .none .none (.str S100 548) none (.ref 324) .none),#[]⟩:=by
 rw [top_q,ES77];kernel_rfl
theorem ES78:Str.ofString "solved" = S78:=PySem.W.Fast.ofString_ofList ['s','o','l','v','e','d']
theorem lk_solved (P:Params):(K P).lookup 330=some ⟨(.type x5),none,.func (fnOf "solved" "solved" (defArgs (K2.top 45)) (defBody (K2.top 45)) (defScope (K2.top 45)) .none .none .none (.str S100 548) none (.ref 329) .none),#[]⟩:=by
 rw [top_q,ES78];kernel_rfl
theorem ES102:Str.ofString "are_places" = S102:=PySem.W.Fast.ofString_ofList ['a','r','e','_','p','l','a','c','e','s']
theorem lk_are_places (P:Params):(K P).lookup 335=some ⟨(.type x5),none,.func (fnOf "are_places" "are_places" (defArgs (K2.top 47)) (defBody (K2.top 47)) (defScope (K2.top 47)) .none .none .none (.str S61 605) none (.ref 334) .none),#[]⟩:=by
 rw [top_q,ES102];kernel_rfl
theorem ES103:Str.ofString "check_places" = S103:=PySem.W.Fast.ofString_ofList ['c','h','e','c','k','_','p','l','a','c','e','s']
theorem lk_check_places (P:Params):(K P).lookup 342=some ⟨(.type x5),none,.func (fnOf "check_places" "check_places" (defArgs (K2.top 48)) (defBody (K2.top 48)) (defScope (K2.top 48)) .none .none .none (.str S61 605) none (.ref 341) .none),#[]⟩:=by
 rw [top_q,ES103];kernel_rfl
theorem ES104:Str.ofString "asked_sum" = S104:=PySem.W.Fast.ofString_ofList ['a','s','k','e','d','_','s','u','m']
theorem lk_asked_sum (P:Params):(K P).lookup 349=some ⟨(.type x5),none,.func (fnOf "asked_sum" "asked_sum" (defArgs (K2.top 49)) (defBody (K2.top 49)) (defScope (K2.top 49)) .none .none .none (.str S61 605) none (.ref 348) .none),#[]⟩:=by
 rw [top_q,ES104];kernel_rfl
theorem ES105:Str.ofString "heights_between" = S105:=PySem.W.Fast.ofString_ofList ['h','e','i','g','h','t','s','_','b','e','t','w','e','e','n']
theorem lk_heights_between (P:Params):(K P).lookup 354=some ⟨(.type x5),none,.func (fnOf "heights_between" "heights_between" (defArgs (K2.top 50)) (defBody (K2.top 50)) (defScope (K2.top 50)) .none .none .none (.str S61 605) none (.ref 353) .none),#[]⟩:=by
 rw [top_q,ES105];kernel_rfl
theorem ES106:Str.ofString "hardness_of" = S106:=PySem.W.Fast.ofString_ofList ['h','a','r','d','n','e','s','s','_','o','f']
theorem lk_hardness_of (P:Params):(K P).lookup 361=some ⟨(.type x5),none,.func (fnOf "hardness_of" "hardness_of" (defArgs (K2.top 51)) (defBody (K2.top 51)) (defScope (K2.top 51)) .none .none .none (.str S61 605) none (.ref 360) .none),#[]⟩:=by
 rw [top_q,ES106];kernel_rfl
theorem ES107:Str.ofString "_law_cell_at" = S107:=PySem.W.Fast.ofString_ofList ['_','l','a','w','_','c','e','l','l','_','a','t']
theorem lk__law_cell_at (P:Params):(K P).lookup 368=some ⟨(.type x5),none,.func (fnOf "_law_cell_at" "_law_cell_at" (defArgs (K2.top 53)) (defBody (K2.top 53)) (defScope (K2.top 53)) .none .none .none (.str S101 645) none (.ref 367) .none),#[]⟩:=by
 rw [top_q,ES107];kernel_rfl
theorem ES108:Str.ofString "_law_draw" = S108:=PySem.W.Fast.ofString_ofList ['_','l','a','w','_','d','r','a','w']
theorem lk__law_draw (P:Params):(K P).lookup 375=some ⟨(.type x5),none,.func (fnOf "_law_draw" "_law_draw" (defArgs (K2.top 54)) (defBody (K2.top 54)) (defScope (K2.top 54)) .none .none .none (.str S101 645) none (.ref 374) .none),#[]⟩:=by
 rw [top_q,ES108];kernel_rfl
theorem ES109:Str.ofString "_law_least" = S109:=PySem.W.Fast.ofString_ofList ['_','l','a','w','_','l','e','a','s','t']
theorem lk__law_least (P:Params):(K P).lookup 382=some ⟨(.type x5),none,.func (fnOf "_law_least" "_law_least" (defArgs (K2.top 55)) (defBody (K2.top 55)) (defScope (K2.top 55)) .none .none .none (.str S101 645) none (.ref 381) .none),#[]⟩:=by
 rw [top_q,ES109];kernel_rfl
theorem ES110:Str.ofString "_law_told" = S110:=PySem.W.Fast.ofString_ofList ['_','l','a','w','_','t','o','l','d']
theorem lk__law_told (P:Params):(K P).lookup 389=some ⟨(.type x5),none,.func (fnOf "_law_told" "_law_told" (defArgs (K2.top 56)) (defBody (K2.top 56)) (defScope (K2.top 56)) .none .none .none (.str S101 645) none (.ref 388) .none),#[]⟩:=by
 rw [top_q,ES110];kernel_rfl
theorem ES112:Str.ofString "_law_thin" = S112:=PySem.W.Fast.ofString_ofList ['_','l','a','w','_','t','h','i','n']
theorem lk__law_thin (P:Params):(K P).lookup 401=some ⟨(.type x5),none,.func (fnOf "_law_thin" "_law_thin" (defArgs (K2.top 58)) (defBody (K2.top 58)) (defScope (K2.top 58)) .none .none .none (.str S101 645) none (.ref 400) .none),#[]⟩:=by
 rw [top_q,ES112];kernel_rfl
theorem ES113:Str.ofString "_law_slim" = S113:=PySem.W.Fast.ofString_ofList ['_','l','a','w','_','s','l','i','m']
theorem lk__law_slim (P:Params):(K P).lookup 406=some ⟨(.type x5),none,.func (fnOf "_law_slim" "_law_slim" (defArgs (K2.top 59)) (defBody (K2.top 59)) (defScope (K2.top 59)) .none .none .none (.str S101 645) none (.ref 405) .none),#[]⟩:=by
 rw [top_q,ES113];kernel_rfl
theorem ES114:Str.ofString "_law_refused" = S114:=PySem.W.Fast.ofString_ofList ['_','l','a','w','_','r','e','f','u','s','e','d']
theorem lk__law_refused (P:Params):(K P).lookup 413=some ⟨(.type x5),none,.func (fnOf "_law_refused" "_law_refused" (defArgs (K2.top 60)) (defBody (K2.top 60)) (defScope (K2.top 60)) .none .none .none (.str S101 645) none (.ref 412) .none),#[]⟩:=by
 rw [top_q,ES114];kernel_rfl
theorem ES115:Str.ofString "law" = S115:=PySem.W.Fast.ofString_ofList ['l','a','w']
theorem lk_law (P:Params):(K P).lookup 418=some ⟨(.type x5),none,.func (fnOf "law" "law" (defArgs (K2.top 61)) (defBody (K2.top 61)) (defScope (K2.top 61)) .none .none .none (.str S101 645) none (.ref 417) .none),#[]⟩:=by
 rw [top_q,ES115];kernel_rfl
end
end Hd
open PySem PySem.W PyProof.Rows
set_option maxRecDepth 100000 in
set_option maxHeartbeats 0 in
theorem PySem.Challenge.cw_splitstream_k08_whole_taken_out_holds : PySem.Challenge.rw_splitstream_k08_whole_taken_out.Holds := by
 w_on;o_law
 refine PySem.W.holds_open (q:=Hd.vw PySem.Challenge.pw_splitstream_k08_whole_taken_out) (loose:=[]) (Xt:=Hd.Xt PySem.Challenge.pw_splitstream_k08_whole_taken_out) (XP:=XL (Hd.vw PySem.Challenge.pw_splitstream_k08_whole_taken_out) []) (Yf:=Hd.Yf) (Ya:=Hd.Ya) (YP:=InK Hd.K) (N:=6496) Hd.left (InK.of Hd.as_eq) InK.keeps (fun s e=>xl_of s (Bool.and_eq_true_iff.mp e).1) XL.keeps (by rfl) (by rfl) (by rfl) (fun s e=>recFacts_of (Bool.and_eq_true_iff.mp e).2) (by rfl) (by first | assumption | decide +kernel) (by decide +kernel) ⟨rfl,rfl,rfl,rfl,rfl,by decide +kernel⟩ ?hw ?hc
 (case hw=>w_witness2)
 k_fill
 refine K2.walk (l:=PySem.Challenge.rw_splitstream_k08_whole_taken_out) rfl rfl (fun w h Y=>Y) ?F
 case F =>
  intro w mg fa h KX G hmg
  refine' K2.all_mk KX G hmg ?z216_Net ?z218_NoPlace ?z227_NetError ?z229_BadNet ?z231_BadFraction ?z233_NoPipe ?z235_BadFlows ?z237_BadRow ?z0_a ?z1_l ?z2_o ?z3_k ?z4_a ?z5_l ?z6_o ?z7_k ?z8_a ?z9_l ?z10_o ?z11_k ?z12_a ?z13_l ?z14_o ?z15_k ?z16_a ?z17_l ?z18_o ?z19_k ?z20_a ?z21_l ?z22_o ?z23_k ?z24_a ?z25_l ?z26_o ?z27_k ?z28_a ?z29_l ?z30_o ?z31_k ?z32_a ?z33_i ?z34_l ?z35_o ?z36_k ?z37_a ?z38_i ?z39_l ?z40_o ?z41_k ?z42_a ?z43_i ?z44_l ?z45_o ?z46_k ?z47_a ?z48_l ?z49_o ?z50_k ?z51_a ?z52_l ?z53_o ?z54_k ?z55_a ?z56_l ?z57_o ?z58_k ?z59_a ?z60_l ?z61_o ?z62_k ?z63_a ?z64_l ?z65_o ?z66_k ?z67_a ?z68_l ?z69_o ?z70_k ?z71_a ?z72_l ?z73_o ?z74_k ?z75_a ?z76_l ?z77_o ?z78_k ?z79_a ?z80_l ?z81_o ?z82_k ?z83_a ?z84_l ?z85_o ?z86_k ?z87_a ?z88_l ?z89_o ?z90_k ?z91_a ?z92_l ?z93_o ?z94_k ?z95_a ?z96_l ?z97_o ?z98_k ?z99_a ?z100_l ?z101_o ?z102_k ?z103_a ?z104_l ?z105_o ?z106_k ?z107_a ?z108_l ?z109_o ?z110_k ?z111_a ?z112_l ?z113_o ?z114_k ?z115_a ?z116_l ?z117_o ?z118_k ?z119_a ?z120_l ?z121_o ?z122_k ?z123_a ?z124_l ?z125_o ?z126_k ?z127_a ?z128_l ?z129_o ?z130_k ?z131_a ?z132_l ?z133_o ?z134_k ?z135_a ?z136_l ?z137_o ?z138_k ?z139_a ?z140_l ?z141_o ?z142_k ?z143_a ?z144_l ?z145_o ?z146_k ?z147_a ?z148_l ?z149_o ?z150_k ?z151_a ?z152_l ?z153_o ?z154_k ?z155_a ?z156_l ?z157_o ?z158_k ?z159_a ?z160_l ?z161_o ?z162_k ?z163_a ?z164_l ?z165_o ?z166_k ?z167_a ?z168_l ?z169_o ?z170_k ?z171_a ?z172_l ?z173_o ?z174_k ?z175_a ?z176_l ?z177_o ?z178_k ?z179_a ?z180_l ?z181_o ?z182_k ?z183_a ?z184_l ?z185_o ?z186_k ?z187_isinstance ?z188_int ?z189_bool ?z190_abs ?z191_len ?z192_tuple ?z193_list ?z194_min ?z195_max ?z196_range ?z197_all ?z198_sorted ?z199_enumerate ?z200_reversed ?z201_zip ?z202_sum ?z203_any ?z204_ValueError ?z205_MOST_PLACES ?z206_MOST_PIPES ?z207_MOST_IN_HARDNESS ?z208_pg ?z209_hd ?z210_po ?z211_sa ?z212_nsize ?z213_nlaid ?z214_mk ?z215_kc ?z217_exc ?z219_e1 ?z220_e2 ?z221_e3 ?z222_e4 ?z223_e5 ?z224_e6 ?z225_e7 ?z226_e8 ?z228_x ?z230_i ?z232_i ?z234_i ?z236_i ?z238_i ?z239_i ?z240_i
  (case z216_Net=>k_is)
  (case z218_NoPlace=>k_is)
  (case z227_NetError=>k_is)
  (case z229_BadNet=>k_is)
  (case z231_BadFraction=>k_is)
  (case z233_NoPipe=>k_is)
  (case z235_BadFlows=>k_is)
  (case z237_BadRow=>k_is)
  (case z0_a=>k_is)
  (case z1_l=>exact Hd.lk_is_whole _)
  (case z2_o=>k_is)
  (case z3_k=>k_is)
  (case z4_a=>k_is)
  (case z5_l=>exact Hd.lk_common_divisor _)
  (case z6_o=>k_is)
  (case z7_k=>k_is)
  (case z8_a=>k_is)
  (case z9_l=>exact Hd.lk_is_fraction _)
  (case z10_o=>k_is)
  (case z11_k=>k_is)
  (case z12_a=>k_is)
  (case z13_l=>exact Hd.lk_counts_one_of _)
  (case z14_o=>k_is)
  (case z15_k=>k_is)
  (case z16_a=>k_is)
  (case z17_l=>exact Hd.lk_is_hardness _)
  (case z18_o=>k_is)
  (case z19_k=>k_is)
  (case z20_a=>k_is)
  (case z21_l=>exact Hd.lk_is_pipe _)
  (case z22_o=>k_is)
  (case z23_k=>k_is)
  (case z24_a=>k_is)
  (case z25_l=>exact Hd.lk_is_net _)
  (case z26_o=>k_is)
  (case z27_k=>k_is)
  (case z28_a=>k_is)
  (case z29_l=>exact Hd.lk_neighbours _)
  (case z30_o=>k_is)
  (case z31_k=>k_is)
  (case z32_a=>k_is)
  (case z33_i=>k_is)
  (case z34_l=>exact Hd.lk_Net___init__ _)
  (case z35_o=>k_is)
  (case z36_k=>k_is)
  (case z37_a=>k_is)
  (case z38_i=>k_is)
  (case z39_l=>exact Hd.lk_Net_pipes _)
  (case z40_o=>k_is)
  (case z41_k=>k_is)
  (case z42_a=>k_is)
  (case z43_i=>k_is)
  (case z44_l=>exact Hd.lk_Net_part _)
  (case z45_o=>k_is)
  (case z46_k=>k_is)
  (case z47_a=>k_is)
  (case z48_l=>exact Hd.lk_made _)
  (case z49_o=>k_is)
  (case z50_k=>k_is)
  (case z51_a=>k_is)
  (case z52_l=>exact Hd.lk_plus _)
  (case z53_o=>k_is)
  (case z54_k=>k_is)
  (case z55_a=>k_is)
  (case z56_l=>exact Hd.lk_times _)
  (case z57_o=>k_is)
  (case z58_k=>k_is)
  (case z59_a=>k_is)
  (case z60_l=>exact Hd.lk_over _)
  (case z61_o=>k_is)
  (case z62_k=>k_is)
  (case z63_a=>k_is)
  (case z64_l=>exact Hd.lk_total _)
  (case z65_o=>k_is)
  (case z66_k=>k_is)
  (case z67_a=>k_is)
  (case z68_l=>exact Hd.lk_scale_of _)
  (case z69_o=>k_is)
  (case z70_k=>k_is)
  (case z71_a=>k_is)
  (case z72_l=>exact Hd.lk_scaled_ease _)
  (case z73_o=>k_is)
  (case z74_k=>k_is)
  (case z75_a=>k_is)
  (case z76_l=>exact Hd.lk_entry _)
  (case z77_o=>k_is)
  (case z78_k=>k_is)
  (case z79_a=>k_is)
  (case z80_l=>exact Hd.lk_sheet_row _)
  (case z81_o=>k_is)
  (case z82_k=>k_is)
  (case z83_a=>k_is)
  (case z84_l=>exact Hd.lk_sheet_of _)
  (case z85_o=>k_is)
  (case z86_k=>k_is)
  (case z87_a=>k_is)
  (case z88_l=>exact Hd.lk_row_without _)
  (case z89_o=>k_is)
  (case z90_k=>k_is)
  (case z91_a=>k_is)
  (case z92_l=>exact Hd.lk_cleared _)
  (case z93_o=>k_is)
  (case z94_k=>k_is)
  (case z95_a=>k_is)
  (case z96_l=>exact Hd.lk_solved _)
  (case z97_o=>k_is)
  (case z98_k=>k_is)
  (case z99_a=>k_is)
  (case z100_l=>exact Hd.lk_asked_sum _)
  (case z101_o=>k_is)
  (case z102_k=>k_is)
  (case z103_a=>k_is)
  (case z104_l=>exact Hd.lk_heights_between _)
  (case z105_o=>k_is)
  (case z106_k=>k_is)
  (case z107_a=>k_is)
  (case z108_l=>exact Hd.lk_are_places _)
  (case z109_o=>k_is)
  (case z110_k=>k_is)
  (case z111_a=>k_is)
  (case z112_l=>exact Hd.lk_check_places _)
  (case z113_o=>k_is)
  (case z114_k=>k_is)
  (case z115_a=>k_is)
  (case z116_l=>exact Hd.lk__law_cell_at _)
  (case z117_o=>k_is)
  (case z118_k=>k_is)
  (case z119_a=>k_is)
  (case z120_l=>exact Hd.lk__law_draw _)
  (case z121_o=>k_is)
  (case z122_k=>k_is)
  (case z123_a=>k_is)
  (case z124_l=>exact Hd.lk__law_least _)
  (case z125_o=>k_is)
  (case z126_k=>k_is)
  (case z127_a=>k_is)
  (case z128_l=>exact Hd.lk__law_told _)
  (case z129_o=>k_is)
  (case z130_k=>k_is)
  (case z131_a=>k_is)
  (case z132_l=>exact Hd.lk_hardness_of _)
  (case z133_o=>k_is)
  (case z134_k=>k_is)
  (case z135_a=>k_is)
  (case z136_l=>exact Hd.lk_ease_between _)
  (case z137_o=>k_is)
  (case z138_k=>k_is)
  (case z139_a=>k_is)
  (case z140_l=>exact Hd.lk_ease_at _)
  (case z141_o=>k_is)
  (case z142_k=>k_is)
  (case z143_a=>k_is)
  (case z144_l=>exact Hd.lk_ease_by_way_of _)
  (case z145_o=>k_is)
  (case z146_k=>k_is)
  (case z147_a=>k_is)
  (case z148_l=>exact Hd.lk_ease_without _)
  (case z149_o=>k_is)
  (case z150_k=>k_is)
  (case z151_a=>k_is)
  (case z152_l=>exact Hd.lk_pairs _)
  (case z153_o=>k_is)
  (case z154_k=>k_is)
  (case z155_a=>k_is)
  (case z156_l=>exact Hd.lk_net_of_eases _)
  (case z157_o=>k_is)
  (case z158_k=>k_is)
  (case z159_a=>k_is)
  (case z160_l=>exact Hd.lk_slim _)
  (case z161_o=>k_is)
  (case z162_k=>k_is)
  (case z163_a=>k_is)
  (case z164_l=>exact Hd.lk_counts_one_of _)
  (case z165_o=>k_is)
  (case z166_k=>k_is)
  (case z167_a=>k_is)
  (case z168_l=>exact Hd.lk_taken_out _)
  (case z169_o=>k_is)
  (case z170_k=>k_is)
  (case z171_a=>k_is)
  (case z172_l=>exact Hd.lk__law_refused _)
  (case z173_o=>k_is)
  (case z174_k=>k_is)
  (case z175_a=>k_is)
  (case z176_l=>exact Hd.lk__law_thin _)
  (case z177_o=>k_is)
  (case z178_k=>k_is)
  (case z179_a=>k_is)
  (case z180_l=>exact Hd.lk__law_slim _)
  (case z181_o=>k_is)
  (case z182_k=>k_is)
  (case z183_a=>k_is)
  (case z184_l=>exact Hd.lk_law _)
  (case z185_o=>k_is)
  (case z186_k=>k_is)
  (case z187_isinstance=>k_is)
  (case z188_int=>k_is)
  (case z189_bool=>k_is)
  (case z190_abs=>k_is)
  (case z191_len=>k_is)
  (case z192_tuple=>k_is)
  (case z193_list=>k_is)
  (case z194_min=>k_is)
  (case z195_max=>k_is)
  (case z196_range=>k_is)
  (case z197_all=>k_is)
  (case z198_sorted=>k_is)
  (case z199_enumerate=>k_is)
  (case z200_reversed=>k_is)
  (case z201_zip=>k_is)
  (case z202_sum=>k_is)
  (case z203_any=>k_is)
  (case z204_ValueError=>k_is)
  (case z205_MOST_PLACES=>k_is)
  (case z206_MOST_PIPES=>k_is)
  (case z207_MOST_IN_HARDNESS=>k_is)
  (case z208_pg=>k_is)
  (case z209_hd=>k_is)
  (case z210_po=>k_is)
  (case z211_sa=>k_is)
  (case z212_nsize=>k_is)
  (case z213_nlaid=>k_is)
  (case z214_mk=>k_is)
  (case z215_kc=>k_is)
  (case z217_exc=>k_exc)
  (case z219_e1=>kernel_rfl)
  (case z220_e2=>k_is)
  (case z221_e3=>k_is)
  (case z222_e4=>k_is)
  (case z223_e5=>k_is)
  (case z224_e6=>k_is)
  (case z225_e7=>k_is)
  (case z226_e8=>k_is)
  (case z228_x=>kts_exm)
  (case z230_i=>kit_is)
  (case z232_i=>kit_is)
  (case z234_i=>kit_is)
  (case z236_i=>kit_is)
  (case z238_i=>kit_is)
  (case z239_i=>kit_is)
  (case z240_i=>kit_is)
