import PyProof.Rows.All
import Wide.All
import OpenK.AllK
import Wide.FinOn
import Lean
import PyProof.EqAt
import PyProof.EqKinds
import PyProof.TupleCall
import PySem.Challenge.RW_splitstream_k03_whole_stream
set_option Elab.async false
set_option linter.all false
set_option maxRecDepth 100000
set_option maxHeartbeats 4000000
set_option exponentiation.threshold 10000
namespace L2
open PySem PySem.Spec PyProof.Rows
abbrev Key:=Sum Int Str
def zld:Key→Value→Bool
 | .inl k,v=>Value.isInt k v
 | .inr x,v=>Value.isStrOf x v
def keyH (w:World):Key→Int
 | .inl k=>hashInt k
 | .inr x=>hashStr w x
theorem zby:∀ {k:Key} {v:Value},zld k v=true→(∃ i t,k=Sum.inl i∧v=Value.int i t)∨(∃ x t,k=Sum.inr x∧v=Value.str x t)
 | .inl i,v,h=>by
  obtain ⟨t,e⟩:=Value.isInt_shape (k:=i) (v:=v) h
  exact .inl ⟨i,t,rfl,e⟩
 | .inr x,v,h=>by
  obtain ⟨t,e⟩:=Value.isStrOf_shape (x:=x) (v:=v) h
  exact .inr ⟨x,t,rfl,e⟩
theorem zms (i:Int) (t:Tok):zld (.inl i) (.int i t)=true:=by simp [zld,Value.isInt]
theorem zmr (x:Str) (t:Tok):zld (.inr x) (.str x t)=true:=by simp [zld,Value.isStrOf]
theorem zqC (a b:Int):decide ((Sum.inl a:Key)=Sum.inl b)=(a==b):=by
 by_cases e:a=b
 ·subst e;simp
 ·have h:¬ (Sum.inl a:Key)=Sum.inl b:=fun q=>e (Sum.inl.inj q)
  rw [decide_eq_false h]
  exact (beq_eq_false_iff_ne.mpr e).symm
theorem zq9 (a b:Str):decide ((Sum.inr a:Key)=Sum.inr b)=decide (a=b):=by
 by_cases e:a=b
 ·subst e;simp
 ·have h:¬ (Sum.inr a:Key)=Sum.inr b:=fun q=>e (Sum.inr.inj q)
  rw [decide_eq_false h,decide_eq_false e]
theorem zqB (a:Int) (b:Str):decide ((Sum.inl a:Key)=Sum.inr b)=false:=decide_eq_false (fun q=>nomatch q)
theorem zqA (a:Str) (b:Int):decide ((Sum.inr a:Key)=Sum.inl b)=false:=decide_eq_false (fun q=>nomatch q)
def zbX (prog:Program) (w:World):PySem.KeyKind prog w Key where
 is:=zld
 hash:=keyH w
 inj:=fun v a b ha hb=>by
  rcases zby ha with ⟨i,t,rfl,rfl⟩ | ⟨x,t,rfl,rfl⟩
  ·rcases zby hb with ⟨j,u,rfl,e⟩ | ⟨y,u,rfl,e⟩
   ·injection e with e1 _;rw [e1]
   ·exact nomatch e
  ·rcases zby hb with ⟨j,u,rfl,e⟩ | ⟨y,u,rfl,e⟩
   ·exact nomatch e
   ·injection e with e1 _;rw [e1]
 byValue:=fun k v h=>by
  rcases zby h with ⟨i,t,rfl,rfl⟩ | ⟨x,t,rfl,rfl⟩ <;> rfl
 pyHash:=fun hv h=>by
  rcases zby hv with ⟨i,t,rfl,rfl⟩ | ⟨x,t,rfl,rfl⟩
  ·exact wpAny_pyHash_int h
  ·exact wpAny_pyHash_str h
 eqBool:=fun hu hv h=>by
  rcases zby hu with ⟨i,t,rfl,rfl⟩ | ⟨x,t,rfl,rfl⟩
  ·rcases zby hv with ⟨j,u,rfl,rfl⟩ | ⟨y,u,rfl,rfl⟩
   ·rw [zqC] at h;exact wpAny_eqBool_int h
   ·rw [zqB] at h;exact SeqAt.EqAt.int_str i t y u _ _ _ _ h
  ·rcases zby hv with ⟨j,u,rfl,rfl⟩ | ⟨y,u,rfl,rfl⟩
   ·rw [zqA] at h;exact SeqAt.EqAt.str_int x t j u _ _ _ _ h
   ·rw [zq9] at h;exact wpAny_eqBool_str h
 «strs»:=fun k x t v h=>by
  rcases zby h with ⟨i,u,rfl,e⟩ | ⟨y,u,rfl,e⟩
  ·exact nomatch e
  ·injection e with e1 _
   subst e1
   cases v <;> rfl
theorem zjH (prog:Program) (w:World) (i:Int) (t:Tok):(zbX prog w).is (.inl i) (.int i t)=true:=zms i t
theorem zjG (prog:Program) (w:World) (x:Str) (t:Tok):(zbX prog w).is (.inr x) (.str x t)=true:=zmr x t
end L2
namespace L2
open PySem PySem.Spec PyProof.Rows
inductive V where
 | non | bl (b:Bool) | int (i:Int) | str (x:Str) | byt (b:Array UInt8) | flt (b:UInt64) | ref (a:Addr) | ty (n:String)
 deriving DecidableEq
def RelV:V→Value→Prop
 | .non,u=>u=Value.none
 | .bl b,u=>u=Value.bool b
 | .int i,u=>∃ t,u=Value.int i t
 | .str x,u=>∃ t,u=Value.str x t
 | .byt b,u=>∃ t,u=Value.bytes b t
 | .flt b,u=>∃ t,u=Value.float b t
 | .ref a,u=>u=Value.ref a
 | .ty n,u=>u=Value.type n
abbrev Vals:List V→List Value→Prop:=Paired RelV
theorem Vals.length {xs:List V} {us:List Value} (r:Vals xs us):xs.length=us.length:=Paired.length r
theorem Vals.get:∀ {xs:List V} {us:List Value} {i:Nat} {x:V},Vals xs us→xs[i]? = some x→∃ u,us[i]? = some u∧RelV x u
 | _,_,_,_,.nil,e=>by simp at e
 | _,_,0,_,.cons r _,e=>by simp at e;subst e;exact ⟨_,rfl,r⟩
 | _,_,i+1,x,.cons _ t,e=>by
  obtain ⟨u,h1,h2⟩:=Vals.get (i:=i) (x:=x) t (by simpa using e)
  exact ⟨u,by simpa using h1,h2⟩
theorem Vals.set {x:V} {u:Value} (r:RelV x u):∀ {xs:List V} {us:List Value} (i:Nat),Vals xs us→Vals (xs.set i x) (us.set i u)
 | _,_,_,.nil=>.nil
 | _,_,0,.cons _ t=>.cons r t
 | _,_,i+1,.cons q t=>.cons q (Vals.set r i t)
theorem Vals.append:∀ {xs ys:List V} {us ws:List Value},Vals xs us→Vals ys ws→Vals (xs++ys) (us++ws)
 | _,_,_,_,.nil,s=>s
 | _,_,_,_,.cons r t,s=>.cons r (Vals.append t s)
def RelO:Option V→Option Value→Prop
 | some v,some u=>RelV v u
 | none,none=>True
 | _,_=>False
def KV {κ:Type}:List (κ×V)→List (κ×Value)→Prop:=Paired fun (p:κ×V) (q:κ×Value)=>p.1=q.1∧RelV p.2 q.2
def kV:Key→V
 | .inl i=>.int i
 | .inr x=>.str x
inductive HO where
  | lst (xs:List V)
  | tup (xs:List V)
  | dK (kvs:List (Key×V)) | dT (kvs:List (List Key×V))
  | set (S:Int→Bool) (n:Nat)
  | ins (C dx:Addr) (fs:List (Str×V))
  | own (x:Addr)
  | xd (fs:List (Str×V))
  | met (f x:Addr)
  | rng (lo hi:Int)
  | frz (o:Obj) (u:HO)
  | tbl (ps:Array Value)
  | ext (φ:Heap→Prop)
abbrev Hp:=Addr→Option HO
def upd (H:Hp) (a:Addr) (o:HO):Hp:=fun b=>if b=a then some o else H b
theorem zae {H:Hp} {a:Addr} {o:HO}:upd H a o a=some o:=by unfold upd;rw [if_pos rfl]
theorem zar {H:Hp} {a b:Addr} {o:HO} (h:b≠a):upd H a o b=H b:=by unfold upd;rw [if_neg h]
theorem zjF {H:Hp} {a b:Addr} {o u:HO} (h:H a=some o) (h':H b=some u) (d:o≠u):a≠b:=by
 intro e;subst e;rw [h] at h';exact d (Option.some.inj h')
theorem zal {H:Hp} {a b:Addr} {o:HO} (h:H a=some o) (h':H b=none):a≠b:=by
 intro e;subst e;rw [h] at h';cases h'
section
variable (P:Program) (w:World)
def zbY (H:Hp) (h:Heap) (a:Addr):HO→Prop
 | .lst xs=>xs.length≤sizeLine∧∃ (its:List Value) (n:Nat),Vals xs its∧h.get? a=some { cls:=.type "list",data:=.seq its.toArray n }
 | .tup xs=>xs.length≤sizeLine∧∃ its:List Value,Vals xs its∧IsTup h a its.toArray
 | .dK kvs=>kvs.length≤sizeLine∧(a==sysModules)=false∧∃ vs,KV kvs vs∧h.DictOf (zbX P w) a vs
 | .dT kvs=>kvs.length≤sizeLine∧(a==sysModules)=false∧∃ xs:List (List Key×Addr×Value),
   Paired (fun (p:List Key×V) (q:List Key×Addr×Value)=>p.1=q.1∧H q.2.1=some (.tup (p.1.map kV))∧RelV p.2 q.2.2) kvs xs ∧
   ∃ o es ep,h.get? a=some o∧o.ExactDict∧o.data=.dict es ep∧es.toList=xs.map (entryOfKey (tupleKind (zbX P w)))∧(xs.map (·.1)).Nodup
 | .set S n=>h.SetOf (intKind P w) a S n
 | .ins C dx fs=>H dx=some (.own a)∧fs.length≤1000∧dx≠a∧h.get? a=some (PySem.W.instObj C dx) ∧
   ∃ mA,h.Ns1 dx mA∧(∀ f,RelO (fs.lookup f) (mA f))∧PySem.Within mA (fs.map (·.1))
 | .own _=>∃ o,h.get? a=some o
 | .xd fs=>∃ mA,h.Ns1 a mA∧∀ f,RelO (fs.lookup f) (mA f)
 | .rng lo hi=>∃ t u v,h.get? a=some { cls:=.type "range",data:=.fields #[.int lo t,.int hi u,.int 1 v] }
 | .frz o u=>h.get? a=some o∧zbY H h a u
 | .tbl ps=>h.get? a=some { cls:=.none,data:=.fields ps }
 | .met f x=>h.get? a=some (PySem.W.methodObj (.ref f) (.ref x))
 | .ext φ=>φ h∧(∃ o,h.get? a=some o)∧∀ h1 h2:Heap,φ h1→(∀ o,h1.get? a=some o→h2.get? a=some o)→φ h2
def HOk (H:Hp) (h:Heap):Prop:=∀ a o,H a=some o→zbY P w H h a o
end
section
variable {P:Program} {w:World} {H H':Hp} {h h':Heap} {a:Addr} {o:HO}
theorem zbY.lt (x:zbY P w H h a o):a<h.objs.size:=by
 cases o with
 | lst xs=>obtain ⟨_,_,_,_,e⟩:=x;exact Heap.lt_size e
 | tup xs=>obtain ⟨_,_,_,p⟩:=x;exact p.lt
 | dK kvs=>obtain ⟨_,_,_,_,o,_,_,e,_⟩:=x;exact Heap.lt_size e
 | dT kvs=>obtain ⟨_,_,_,_,o,_,_,e,_⟩:=x;exact Heap.lt_size e
 | set S n=>obtain ⟨o,_,_,_,e,_⟩:=x;exact Heap.lt_size e
 | ins C dx fs=>obtain ⟨_,_,_,e,_⟩:=x;exact Heap.lt_size e
 | own y=>obtain ⟨_,e⟩:=x;exact Heap.lt_size e
 | xd fs=>obtain ⟨_,⟨_,_,_,e,_⟩,_⟩:=x;exact Heap.lt_size e
 | rng lo hi=>obtain ⟨_,_,_,e⟩:=x;exact Heap.lt_size e
 | frz ob u=>obtain ⟨e,_⟩:=x;exact Heap.lt_size e
 | tbl ps=>exact Heap.lt_size (show h.get? a=some _ from x)
 | met f y=>exact Heap.lt_size (show h.get? a=some _ from x)
 | ext φ=>obtain ⟨_,⟨_,e⟩,_⟩:=x;exact Heap.lt_size e
theorem Paired.mapP {α β:Type} {F G:α→β→Prop}:∀ {l₁:List α} {l₂:List β},Paired F l₁ l₂→(∀ a b,F a b→G a b)→Paired G l₁ l₂
 | _,_,.nil,_=>.nil
 | _,_,.cons r t,f=>.cons (f _ _ r) (Paired.mapP t f)
theorem zbY.stay (x:zbY P w H h a o) (k:∀ b u,(b=a∨H b=some (.own a))→h.get? b=some u→h'.get? b=some u)
  (ho:∀ b,H b=some (.own a)→H' b=some (.own a)) (ht:∀ b xs,H b=some (.tup xs)→H' b=some (.tup xs)):zbY P w H' h' a o:=by
 induction o with
 | lst xs=>obtain ⟨z,its,n,r,e⟩:=x;exact ⟨z,its,n,r,k _ _ (.inl rfl) e⟩
 | tup xs=>obtain ⟨z,its,r,ob,e,c⟩:=x;exact ⟨z,its,r,ob,k _ _ (.inl rfl) e,c⟩
 | dK kvs=>obtain ⟨z,y,vs,r,ob,es,ep,e,c⟩:=x;exact ⟨z,y,vs,r,ob,es,ep,k _ _ (.inl rfl) e,c⟩
 | dT kvs =>
  obtain ⟨z,y,xs,r,ob,es,ep,e,c⟩:=x
  exact ⟨z,y,xs,Paired.mapP r fun p q z=>⟨z.1,ht _ _ z.2.1,z.2.2⟩,ob,es,ep,k _ _ (.inl rfl) e,c⟩
 | set S n=>obtain ⟨ob,es,ep,t,e,c⟩:=x;exact ⟨ob,es,ep,t,k _ _ (.inl rfl) e,c⟩
 | ins C dx fs =>
  obtain ⟨d,z,ne,e,mA,⟨od,es,ep,e2,c⟩,r⟩:=x
  exact ⟨ho _ d,z,ne,k _ _ (.inl rfl) e,mA,⟨od,es,ep,k _ _ (.inr d) e2,c⟩,r⟩
 | own y=>obtain ⟨ob,e⟩:=x;exact ⟨ob,k _ _ (.inl rfl) e⟩
 | xd fs=>obtain ⟨mA,⟨od,es,ep,e,c⟩,r⟩:=x;exact ⟨mA,⟨od,es,ep,k _ _ (.inl rfl) e,c⟩,r⟩
 | rng lo hi=>obtain ⟨t,u,v,e⟩:=x;exact ⟨t,u,v,k _ _ (.inl rfl) e⟩
 | frz ob u ih=>obtain ⟨e,q⟩:=x;exact ⟨k _ _ (.inl rfl) e,ih q⟩
 | tbl ps =>
  have e:h.get? a=some { cls:=.none,data:=.fields ps }:=x
  show h'.get? a=some { cls:=.none,data:=.fields ps }
  exact k a _ (.inl rfl) e
 | met f y =>
  have e:h.get? a=some (PySem.W.methodObj (.ref f) (.ref y)):=x
  show h'.get? a=some (PySem.W.methodObj (.ref f) (.ref y))
  exact k a _ (.inl rfl) e
 | ext φ=>obtain ⟨p,⟨o,e⟩,st⟩:=x;exact ⟨st _ _ p fun o q=>k _ _ (.inl rfl) q,⟨o,k _ _ (.inl rfl) e⟩,st⟩
theorem HOk.lt (x:HOk P w H h) (e:H a=some o):a<h.objs.size:=(x a o e).lt
theorem HOk.fresh (x:HOk P w H h) (e:h.objs.size≤a):H a=none:=by
 cases q:H a with
 | none=>rfl
 | some u=>exact absurd (Nat.lt_of_lt_of_le (x.lt q) e) (Nat.lt_irrefl _)
theorem HOk.kept (x:HOk P w H h) (k:∀ b u,h.get? b=some u→h'.get? b=some u):HOk P w H h':=fun a o e =>
 (x a o e).stay (fun b u _ q=>k b u q) (fun _ q=>q) fun _ _ q=>q
theorem HOk.laid (x:HOk P w H h) (k:∀ b u,h.get? b=some u→h'.get? b=some u) (hp:h.objs.size≤a) (new:zbY P w (upd H a o) h' a o):HOk P w (upd H a o) h':=fun b u e=>by
 have hn:=x.fresh hp
 by_cases hb:b=a
 ·subst hb;rw [zae] at e;cases e;exact new
 ·rw [zar hb] at e
  exact (x b u e).stay (fun c v _ q=>k c v q) (fun c q=>by rw [zar (zal q hn)];exact q) fun c xs q=>by rw [zar (zal q hn)];exact q
end
def Rd (H:Hp) (a:Addr) (u:HO):Prop:=H a=some u∨∃ o,H a=some (.frz o u)
theorem Rd.ok {P:Program} {w:World} {H:Hp} {h:Heap} {a:Addr} {u:HO} (r:Rd H a u) (x:HOk P w H h):zbY P w H h a u:=by
 rcases r with r | ⟨o,r⟩
 ·exact x a u r
 ·obtain ⟨_,q⟩:=x a _ r
  exact q
def Mut:Option HO→Prop
 | some (.lst _)=>True
 | some (.dK _)=>True
 | some (.dT _)=>True
 | some (.set _ _)=>True
 | some (.ins _ _ _)=>True
 | some (.ext _)=>True
 | _=>False
section
variable {P:Program} {w:World} {H:Hp} {h h':Heap} {x e:Addr} {o':HO}
theorem HOk.write (ok:HOk P w H h) (mu:Mut (H x)) (he:e=x∨H e=some (.own x)) (k:∀ b u,b≠e→h.get? b=some u→h'.get? b=some u) (heo:∃ u,h'.get? e=some u)
  (new:zbY P w (upd H x o') h' x o'):HOk P w (upd H x o') h':=fun b u q=>by
 have nown:∀ c y,H c=some (.own y)→c≠x:=fun c y r z=>by subst z;rw [r] at mu;exact mu
 have ntup:∀ c xs,H c=some (.tup xs)→c≠x:=fun c xs r z=>by subst z;rw [r] at mu;exact mu
 by_cases hb:b=x
 ·subst hb;rw [zae] at q;cases q;exact new
 ·rw [zar hb] at q
  by_cases hbe:b=e
  ·have q':H b=some (.own x):=by
    rcases he with z | z
    ·exact absurd (hbe.trans z) hb
    ·rw [hbe];exact z
   rw [q] at q';cases q'
   obtain ⟨v,hv⟩:=heo
   exact ⟨v,by rw [hbe];exact hv⟩
  ·refine (ok b u q).stay (fun c v hc r=>k c v ?_ r) (fun c r=>by rw [zar (nown c b r)];exact r) fun c xs r=>by rw [zar (ntup c xs r)];exact r
   rcases hc with rfl | hc
   ·exact hbe
   ·rintro rfl
    rcases he with z | z
    ·exact nown c b hc z
    ·rw [hc] at z;cases z;exact hb rfl
end
structure Un (fs ex:List Addr) (H H':Hp) (h h':Heap):Prop where
 keep:∀ b o,h.get? b=some o→H b=none→b∉fs→b∉ex→h'.get? b=some o
 slot:∀ b o,h.get? b=some o→H b=none→b∈fs→b∉ex→∃ sl,h'.get? b=some { o with slots:=sl }
 free:∀ b o,h.get? b=some o→H b=none→b∉ex→H' b=none
 there:∀ b o,h.get? b=some o→b∉ex→∃ o',h'.get? b=some o'
 tups:∀ b xs,H b=some (.tup xs)→H' b=some (.tup xs)
 frzs:∀ b o u,H b=some (.frz o u)→H' b=some (.frz o u)
 tbls:∀ b ps,H b=some (.tbl ps)→∃ more,H' b=some (.tbl (ps++more))
section
variable {fs fs' ex ex':List Addr} {H H1 H2:Hp} {h h1 h2 h':Heap} {a x e:Addr} {o:HO}
theorem Un.any (u:Un fs ex H H1 h h1) {b:Addr} {ob:Obj} (q:h.get? b=some ob) (n:H b=none) (hx:b∉ex):∃ sl,h1.get? b=some { ob with slots:=sl }:=by
 by_cases hb:b∈fs
 ·exact u.slot b ob q n hb hx
 ·exact ⟨ob.slots,u.keep b ob q n hb hx⟩
theorem Un.kept (k:∀ b u,h.get? b=some u→h'.get? b=some u):Un fs ex H H h h' :=
 ⟨fun b ob q _ _ _=>k b ob q,fun b ob q _ _ _=>⟨ob.slots,k b ob q⟩,fun _ _ _ n _=>n,fun b ob q _=>⟨ob,k b ob q⟩,fun _ _ q=>q,fun _ _ _ q=>q,fun _ ps q=>⟨#[],by rw [q];simp⟩⟩
theorem Un.refl:Un fs ex H H h h:=Un.kept fun _ _ q=>q
theorem Un.laid (k:∀ b u,h.get? b=some u→h'.get? b=some u) (hp:h.objs.size≤a) (hn:H a=none):Un fs ex H (upd H a o) h h' where
 keep:=fun b u q _ _ _=>k b u q
 slot:=fun b u q _ _ _=>⟨u.slots,k b u q⟩
 free:=fun b u q n _=>by rw [zar (Nat.ne_of_lt (Nat.lt_of_lt_of_le (Heap.lt_size q) hp))];exact n
 there:=fun b u q _=>⟨u,k b u q⟩
 tups:=fun b xs q=>by rw [zar (zal q hn)];exact q
 frzs:=fun b u xs q=>by rw [zar (zal q hn)];exact q
 tbls:=fun b ps q=>⟨#[],by rw [zar (zal q hn),q];simp⟩
theorem Un.write (mu:Mut (H x)) (he:e=x∨H e=some (.own x)) (k:∀ b u,b≠e→h.get? b=some u→h'.get? b=some u) (heo:∃ u,h'.get? e=some u):Un fs ex H (upd H x o) h h':=by
 have hx:∀ b,H b=none→b≠x:=fun b n z=>by subst z;rw [n] at mu;exact mu
 have hb:∀ b,H b=none→b≠e:=fun b n z=>by
  subst z
  rcases he with r | r
  ·exact hx b n r
  ·rw [n] at r;cases r
 have hm:∀ b u,H b=some u→¬ Mut (some u)→b≠x:=fun b u q nm z=>by subst z;rw [q] at mu;exact nm mu
 refine ⟨fun b u q n _ _=>k b u (hb b n) q,fun b u q n _ _=>⟨u.slots,k b u (hb b n) q⟩,fun b u q n _=>by rw [zar (hx b n)];exact n,fun b u q _=>?_,
  fun b xs q=>by rw [zar (hm b _ q fun z=>z)];exact q,fun b u xs q=>by rw [zar (hm b _ q fun z=>z)];exact q,fun b ps q=>⟨#[],by rw [zar (hm b _ q fun z=>z),q];simp⟩⟩
 by_cases hbe:b=e
 ·subst hbe;exact heo
 ·exact ⟨u,k b u hbe q⟩
end
def trk (h:Heap) (H:Hp):List Addr:=(List.range h.objs.size).filter fun a=>(H a).isSome
def hidT (h:Heap) (H:Hp):Heap:=PySem.W.hideAll h (trk h H)
theorem zmz (h:Heap) (H:Hp):(hidT h H).objs.size=h.objs.size:=PySem.W.hideAll_size _ _
theorem zof {h:Heap} {H:Hp} {b:Addr} {o:Obj} (e:h.get? b=some o) (n:H b=none):(hidT h H).get? b=some o :=
 PySem.W.hideAll_get _ e fun hm=>by
  have q:(H b).isSome=true:=(List.mem_filter.mp hm).2
  rw [n] at q;simp at q
theorem zp1 {h:Heap} {H:Hp} {b:Addr} {o:Obj} (e:(hidT h H).get? b=some o):h.get? b=some o∧H b=none:=by
 have e':h.get? b=some o:=PySem.W.of_hideAll (trk h H) e
 refine ⟨e',?_⟩
 cases q:H b with
 | none=>rfl
 | some x =>
  have hm:b∈trk h H:=List.mem_filter.mpr ⟨List.mem_range.mpr (Heap.lt_size e'),by simp [q]⟩
  have z:(hidT h H).get? b=none:=PySem.W.hideAll_none (trk h H) hm
  rw [z] at e;cases e
end L2
namespace L2
open PySem PySem.Spec PyProof.Rows
structure Mod (K:PySem.W.Frag) (mg:Str→Option Value) (base:Heap):Prop where
 kin:K.In base
 glob:base.Ns mainGlobals mg
 blt:∃ mb,base.Ns builtinsNs mb∧∀ x:Str,x≠"__name__"→mb x=bootBuiltins x
 nolimit:base.NoLimit
structure Cx where
 prog:Program
 w:World
 K:PySem.W.Frag
 mg:Str→Option Value
 base:Heap
 A:Around
 N:List Str
 s₀:Shared
 H₀:Hp
 env:Env
 outer:List Env
 stack:List Env
 ex:List Addr
 fn:Str→Bool
 calm:Bool
 pn:List (Addr×Obj)
 xe:Value→Shared→Prop
def frs (l:List Env):List Addr:=l.filterMap (·.frame)
abbrev Cx.fs (X:Cx):List Addr:=frs X.outer
def Vis (sc:Scope) (x:Str):Prop:=sc.names.lookup x=some .local∨sc.names.lookup x=some .cell∨sc.names.lookup x=some .free
def Loc (sc:Scope) (x:Str):Prop:=sc.names.lookup x=some .local∨sc.names.lookup x=some .cell
def Look (env:Env) (h:Heap) (m:Str→Option Value) (x:Str) (u:Value):Prop :=
 (env.kindOf x=some .local∧m x=some u)∨((env.kindOf x=some .cell∨env.kindOf x=some .free)∧∃ c,env.cells.lookup x=some c∧h.IsCell c (some u))
structure Cx.Ok (X:Cx):Prop where
 mod:Mod X.K X.mg X.base
 kind:X.env.scope.kind=.function
 glob:X.env.globals=mainGlobals
 blt:X.env.builtins=builtinsNs
 above:X.s₀.heap.objs.size≤X.env.locals
 inj:∀ x y c,X.env.cells.lookup x=some c→X.env.cells.lookup y=some c→x=y
 has:∀ x,(X.env.kindOf x=some .cell∨X.env.kindOf x=some .free)→∃ c,X.env.cells.lookup x=some c
 cab:∀ x c,X.fn x=true→X.env.cells.lookup x=some c→X.s₀.heap.objs.size≤c
 hd:X.calm=true→X.A.handled=none
 frames:X.A.frames=some X.stack
 stk:X.stack=X.outer∨(X.stack=X.env::X.outer∧X.env.frame=some X.env.locals)
 exf:∀ b∈X.ex,b≠X.env.locals∧∀ x c,X.env.cells.lookup x=some c→c≠b
 bs:∀ b o,X.base.get? b=some o→X.s₀.heap.get? b=some o∧X.H₀ b=none
 bsz:X.base.objs.size≤X.s₀.heap.objs.size
 noex:∀ b o,X.base.get? b=some o→b∉X.ex
 exfs:∀ b∈X.ex,b∉X.fs
 funs:X.s₀.heap.FunFrames X.base X.outer
 frf:∀ b∈X.fs,X.H₀ b=none
structure Inv (X:Cx) (pins:List (Addr×Obj)) (σ:List (Option V)) (H:Hp) (s:Shared):Prop where
 ok:X.Ok
 os:s.os=X.s₀.os
 bare:AllBare s.gens
 base:Un X.fs X.ex X.H₀ H X.s₀.heap s.heap
 loc:∃ m,s.heap.Ns X.env.locals m∧∀ (i:Nat) (x:Str) (v:V),X.N[i]? = some x→σ[i]? = some (some v)→Vis X.env.scope x→∃ u,RelV v u∧Look X.env s.heap m x u
 cell:∀ x c,X.env.cells.lookup x=some c→∃ v,s.heap.IsCell c v
 free:H X.env.locals=none
 freeC:∀ x c,X.env.cells.lookup x=some c→H c=none
 pin:∀ p∈X.pn++pins,s.heap.get? p.1=some p.2∧H p.1=none∧p.1≠X.env.locals∧p.1∉X.fs∧∀ v,p.2.data≠.cell v
 hok:HOk X.prog X.w H s.heap
 len:σ.length=X.N.length
section
variable {X:Cx} {pins:List (Addr×Obj)} {σ:List (Option V)} {H H':Hp} {s:Shared} {h':Heap}
theorem Cx.Ok.nofr (ok:X.Ok) {b:Addr} {o:Obj} (e:X.base.get? b=some o):b∉X.fs:=fun hb=>by
 have:=(ok.funs.mem hb).1
 rw [e] at this;cases this
theorem Inv.bs (I:Inv X pins σ H s):∀ b o,X.base.get? b=some o→s.heap.get? b=some o∧H b=none:=fun b o e =>
 ⟨I.base.keep b o (I.ok.bs b o e).1 (I.ok.bs b o e).2 (I.ok.nofr e) (I.ok.noex b o e),I.base.free b o (I.ok.bs b o e).1 (I.ok.bs b o e).2 (I.ok.noex b o e)⟩
theorem Inv.bk (I:Inv X pins σ H s):∀ b o,X.base.get? b=some o→s.heap.get? b=some o:=fun b o e=>(I.bs b o e).1
theorem Inv.mod (I:Inv X pins σ H s):Mod X.K X.mg X.base:=I.ok.mod
theorem Inv.kIn (I:Inv X pins σ H s):X.K.In s.heap:=I.ok.mod.kin.keeps I.bk
theorem Inv.lt (I:Inv X pins σ H s):X.env.locals<s.heap.objs.size:=let ⟨_,hn,_⟩:=I.loc;hn.lt
theorem Inv.sz (I:Inv X pins σ H s):X.s₀.heap.objs.size≤s.heap.objs.size:=Nat.le_trans I.ok.above (Nat.le_of_lt I.lt)
theorem Inv.nofs (I:Inv X pins σ H s) {a:Addr} (h:s.heap.objs.size≤a):a∉X.fs:=fun hb=>by
 obtain ⟨_,o,ho,_⟩:=I.ok.funs.mem hb
 exact absurd (Nat.lt_of_lt_of_le (Heap.lt_size ho) (Nat.le_trans I.sz h)) (Nat.lt_irrefl _)
theorem Inv.cne (I:Inv X pins σ H s):∀ x c,X.env.cells.lookup x=some c→c≠X.env.locals:=fun x c e z=>by
 obtain ⟨v,o,ho,hd⟩:=I.cell x c e
 obtain ⟨m,⟨o',es,ep,ho',hd',_⟩,_⟩:=I.loc
 rw [z,ho'] at ho;cases ho;rw [hd'] at hd;cases hd
theorem Inv.funs (I:Inv X pins σ H s):s.heap.FunFrames X.base X.outer:=by
 have all:∀ (l:List Env),(∀ b∈frs l,b∈X.fs)→X.s₀.heap.FunFrames X.base l→s.heap.FunFrames X.base l:=by
  intro l
  induction l with
  | nil=>intro _ _;trivial
  | cons env r ih =>
   intro hs hl
   obtain ⟨hk,⟨L,o,hf,hn,ho,hd⟩,hr⟩:=hl
   have hL:L∈X.fs:=hs L (by unfold frs;rw [List.filterMap_cons,hf];exact List.mem_cons_self)
   obtain ⟨sl,e⟩:=I.base.slot L o ho (I.ok.frf L hL) hL fun z=>I.ok.exfs L z hL
   exact ⟨hk,⟨L,_,hf,hn,e,hd⟩,ih (fun b hb=>hs b (by unfold frs;rw [List.filterMap_cons,hf];exact List.mem_cons_of_mem _ hb)) hr⟩
 exact all X.outer (fun _ hb=>hb) I.ok.funs
theorem Inv.stack (I:Inv X pins σ H s):s.heap.FunFrames X.base X.stack:=by
 rcases I.ok.stk with e | ⟨e,hf⟩
 ·rw [e];exact I.funs
 ·rw [e]
  obtain ⟨m,hn,_⟩:=I.loc
  refine .cons (by rw [I.ok.kind];decide) hf hn ?_ I.funs
  exact Heap.get?_none_of_le (Nat.le_trans I.ok.bsz I.ok.above)
theorem Inv.zkn (I:Inv X pins σ H s):∀ b∈frs X.stack,b∈X.env.locals::X.fs:=fun b hb=>by
 rcases I.ok.stk with e | ⟨e,hf⟩
 ·rw [e] at hb;exact List.mem_cons_of_mem _ hb
 ·rw [e] at hb
  unfold frs at hb
  rw [List.filterMap_cons,hf] at hb
  exact hb
theorem Inv.zl4 (I:Inv X pins σ H s):∀ b∈frs X.stack,H b=none:=fun b hb=>by
 rcases List.mem_cons.mp (I.zkn b hb) with e | hb
 ·rw [e];exact I.free
 ·obtain ⟨_,o,ho,_⟩:=I.ok.funs.mem hb
  exact I.base.free b o ho (I.ok.frf b hb) fun z=>I.ok.exfs b z hb
theorem Inv.step {g':Array GenState} {t':Nat} {d':Drawn} {ch:List Addr} (I:Inv X pins σ H s)
  (hch:∀ b∈ch,(b∈X.ex∨X.s₀.heap.objs.size≤b)∧b≠X.env.locals∧(∀ x c,X.env.cells.lookup x=some c→c≠b)∧∀ p∈X.pn++pins,p.1≠b)
  (keep:∀ b o,b≠X.env.locals→b∉X.fs→b∉ch→s.heap.get? b=some o→H b=none→h'.get? b=some o)
  (slot:∀ b o,b≠X.env.locals→b∈X.fs→b∉ch→s.heap.get? b=some o→H b=none→∃ sl,h'.get? b=some { o with slots:=sl }) (free:∀ b o,b∉ch→s.heap.get? b=some o→H b=none→H' b=none)
  (there:∀ b o,b∉ch→s.heap.get? b=some o→∃ o',h'.get? b=some o')
  (tups:∀ b xs,H b=some (.tup xs)→H' b=some (.tup xs)) (frzs:∀ b o u,H b=some (.frz o u)→H' b=some (.frz o u)) (tbls:∀ b ps,H b=some (.tbl ps)→∃ more,H' b=some (.tbl (ps++more)))
  (ns:∀ m,s.heap.Ns X.env.locals m→h'.Ns X.env.locals m) (hok:HOk X.prog X.w H' h') (hg:AllBare g') :
  Inv X pins σ H' { s with heap:=h',gens:=g',drawn:=d',toks:=t' }:=by
 have neL:∀ b o,X.s₀.heap.get? b=some o→b≠X.env.locals:=fun b o e=>Nat.ne_of_lt (Nat.lt_of_lt_of_le (Heap.lt_size e) I.ok.above)
 have neC:∀ b o,X.s₀.heap.get? b=some o→b∉X.ex→b∉ch:=fun b o e hx hb=>by
  rcases (hch b hb).1 with z | z
  ·exact hx z
  ·exact absurd (Nat.lt_of_lt_of_le (Heap.lt_size e) z) (Nat.lt_irrefl _)
 have cellK:∀ x c,X.env.cells.lookup x=some c→∀ v,s.heap.IsCell c v→h'.IsCell c v:=fun x c e v ⟨o,ho,hd⟩=>by
  have nch:c∉ch:=fun z=>(hch c z).2.2.1 x c e rfl
  by_cases hc:c∈X.fs
  ·obtain ⟨sl,q⟩:=slot c o (I.cne x c e) hc nch ho (I.freeC x c e)
   exact ⟨_,q,hd⟩
  ·exact ⟨o,keep c o (I.cne x c e) hc nch ho (I.freeC x c e),hd⟩
 refine ⟨I.ok,I.os,hg,⟨fun b o e n hb hx=>?_,fun b o e n hb hx=>?_,fun b o e n hx=>?_,fun b o e hx=>?_,fun b xs e=>tups b xs (I.base.tups b xs e),fun b o xs e=>frzs b o xs (I.base.frzs b o xs e),fun b ps e=>?_⟩,?_,fun x c e=>?_,?_,fun x c e=>?_,fun p hp=>?_,hok,I.len⟩
 ·exact keep b o (neL b o e) hb (neC b o e hx) (I.base.keep b o e n hb hx) (I.base.free b o e n hx)
 ·obtain ⟨sl,e1⟩:=I.base.slot b o e n hb hx
  obtain ⟨sl',e2⟩:=slot b _ (neL b o e) hb (neC b o e hx) e1 (I.base.free b o e n hx)
  exact ⟨sl',e2⟩
 ·obtain ⟨o',e1⟩:=I.base.there b o e hx
  exact free b o' (neC b o e hx) e1 (I.base.free b o e n hx)
 ·obtain ⟨o',e1⟩:=I.base.there b o e hx
  exact there b o' (neC b o e hx) e1
 ·obtain ⟨m1,e1⟩:=I.base.tbls b ps e
  obtain ⟨m2,e2⟩:=tbls b _ e1
  exact ⟨m1++m2,by rw [e2,Array.append_assoc]⟩
 ·obtain ⟨m,hn,hl⟩:=I.loc
  refine ⟨m,ns m hn,fun i x v e1 e2 e3=>?_⟩
  obtain ⟨u,r,l⟩:=hl i x v e1 e2 e3
  refine ⟨u,r,?_⟩
  rcases l with l | ⟨k,c,e,z⟩
  ·exact .inl l
  ·exact .inr ⟨k,c,e,cellK x c e _ z⟩
 ·obtain ⟨v,z⟩:=I.cell x c e
  exact ⟨v,cellK x c e v z⟩
 ·obtain ⟨m,⟨o,_,_,ho,_⟩,_⟩:=I.loc
  exact free _ o (fun z=>(hch _ z).2.1 rfl) ho I.free
 ·obtain ⟨v,o,ho,hd⟩:=I.cell x c e
  exact free c o (fun z=>(hch c z).2.2.1 x c e rfl) ho (I.freeC x c e)
 ·obtain ⟨e,n,ne,nf,d⟩:=I.pin p hp
  have nch:p.1∉ch:=fun z=>(hch p.1 z).2.2.2 p hp rfl
  exact ⟨keep p.1 p.2 ne nf nch e n,free p.1 p.2 nch e n,ne,nf,d⟩
theorem Inv.un {t':Nat} (I:Inv X pins σ H s) (u:Un X.fs [] H H' s.heap h') (hok:HOk X.prog X.w H' h'):Inv X pins σ H' { s with heap:=h',toks:=t' }:=by
 obtain ⟨m,⟨o,es,ep,ho,r⟩,_⟩:=id I.loc
 obtain ⟨sl,hL⟩:=u.any ho I.free (by simp)
 exact I.step (g':=s.gens) (d':=s.drawn) (ch:=[]) (fun _ z=>nomatch z) (fun b o _ hb _ e n=>u.keep b o e n hb (by simp)) (fun b o _ hb _ e n=>u.slot b o e n hb (by simp)) (fun b o _ e n=>u.free b o e n (by simp)) (fun b o _ e=>u.there b o e (by simp)) u.tups u.frzs u.tbls (fun m' hm=>by
  obtain ⟨o',es',ep',ho',r'⟩:=hm
  rw [ho] at ho';cases ho'
  exact ⟨_,es',ep',hL,r'⟩) hok I.bare
theorem Inv.call {g':Array GenState} {t':Nat} {d':Drawn} {ch:List Addr} (I:Inv X pins σ H s) (u:Un (frs X.stack) ch H H' s.heap h') (hok:HOk X.prog X.w H' h') (hg:AllBare g')
  (hch:∀ b∈ch,(b∈X.ex∨X.s₀.heap.objs.size≤b)∧b≠X.env.locals∧(∀ x c,X.env.cells.lookup x=some c→c≠b)∧∀ p∈X.pn++pins,p.1≠b) :
  Inv X pins σ H' { s with heap:=h',gens:=g',drawn:=d',toks:=t' }:=by
 obtain ⟨m,⟨o,es,ep,ho,r⟩,_⟩:=id I.loc
 obtain ⟨sl,hL⟩:=u.any ho I.free fun z=>(hch _ z).2.1 rfl
 exact I.step (ch:=ch) hch (fun b o hL hb hc e n=>u.keep b o e n (fun z=>(List.mem_cons.mp (I.zkn b z)).elim hL hb) hc) (fun b o _ _ hc e n=>u.any e n hc) (fun b o hc e n=>u.free b o e n hc) (fun b o hc e=>u.there b o e hc) u.tups u.frzs u.tbls (fun m' hm=>by
  obtain ⟨o',es',ep',ho',r'⟩:=hm
  rw [ho] at ho';cases ho'
  exact ⟨_,es',ep',hL,r'⟩) hok hg
theorem Inv.turned {t':Nat} {it:Addr} (I:Inv X pins σ H s) (k:∀ b o,b≠it→s.heap.get? b=some o→h'.get? b=some o) (hn:H it=none) (hL:it≠X.env.locals)
  (h1:it∈X.ex∨X.s₀.heap.objs.size≤it) (h2:∀ x c,X.env.cells.lookup x=some c→c≠it) (h3:∀ p∈X.pn++pins,p.1≠it):Inv X pins σ H { s with heap:=h',toks:=t' }:=by
 have nit:∀ b u,H b=some u→b≠it:=fun b u e z=>by rw [z,hn] at e;cases e
 refine I.step (g':=s.gens) (d':=s.drawn) (ch:=[it]) (fun b hb=>?_) (fun b o _ _ hc e _=>k b o (fun z=>hc (by simp [z])) e) (fun b o _ _ hc e _=>⟨o.slots,k b o (fun z=>hc (by simp [z])) e⟩) (fun _ _ _ _ n=>n)
  (fun b o hc e=>⟨o,k b o (fun z=>hc (by simp [z])) e⟩) (fun _ _ e=>e) (fun _ _ _ e=>e) (fun b ps e=>⟨#[],by rw [e];simp⟩) (fun m hm=>?_) (fun b u e=>?_) I.bare
 ·have e:b=it:=by simpa using hb
  subst e
  exact ⟨h1,hL,h2,h3⟩
 ·obtain ⟨o,es,ep,ho,r⟩:=hm
  exact ⟨o,es,ep,k _ o (Ne.symm hL) ho,r⟩
 ·refine (I.hok b u e).stay (fun c v hc q=>k c v ?_ q) (fun _ q=>q) fun _ _ q=>q
  rcases hc with z | z
  ·rw [z];exact nit b u e
  ·exact nit c _ z
theorem Inv.tok (I:Inv X pins σ H s) (t:Nat):Inv X pins σ H { s with toks:=t }:=I.un (h':=s.heap) (t':=t) Un.refl I.hok
theorem Inv.kept {t':Nat} (I:Inv X pins σ H s) (k:∀ b u,s.heap.get? b=some u→h'.get? b=some u):Inv X pins σ H { s with heap:=h',toks:=t' }:=I.un (Un.kept k) (I.hok.kept k)
theorem Inv.laid {a:Addr} {o:HO} {t':Nat} (I:Inv X pins σ H s) (k:∀ b u,s.heap.get? b=some u→h'.get? b=some u) (hp:s.heap.objs.size≤a) (new:zbY X.prog X.w (upd H a o) h' a o) :
  Inv X pins σ (upd H a o) { s with heap:=h',toks:=t' }:=I.un (Un.laid k hp (I.hok.fresh hp)) (I.hok.laid k hp new)
theorem Inv.write {x e:Addr} {o:HO} {t':Nat} (I:Inv X pins σ H s) (mu:Mut (H x)) (he:e=x∨H e=some (.own x)) (k:∀ b u,b≠e→s.heap.get? b=some u→h'.get? b=some u) (heo:∃ u,h'.get? e=some u)
  (new:zbY X.prog X.w (upd H x o) h' x o):Inv X pins σ (upd H x o) { s with heap:=h',toks:=t' }:=I.un (Un.write mu he k heo) (I.hok.write mu he k heo new)
theorem Inv.weak {σ':List (Option V)} (I:Inv X pins σ H s) (hl:σ'.length=σ.length) (w:∀ (i:Nat) v,σ'[i]? = some (some v)→σ[i]? = some (some v)):Inv X pins σ' H s :=
 ⟨I.ok,I.os,I.bare,I.base,let ⟨m,hn,hl'⟩:=I.loc;⟨m,hn,fun i x v e1 e2 e3=>hl' i x v e1 (w i v e2) e3⟩,I.cell,I.free,I.freeC,I.pin,I.hok,hl.trans I.len⟩
theorem Inv.zg7 {pins':List (Addr×Obj)} (I:Inv X pins σ H s) (h:∀ p∈pins',s.heap.get? p.1=some p.2∧H p.1=none∧p.1≠X.env.locals∧p.1∉X.fs∧∀ v,p.2.data≠.cell v):Inv X pins' σ H s :=
 ⟨I.ok,I.os,I.bare,I.base,I.loc,I.cell,I.free,I.freeC,fun p hp=>(List.mem_append.mp hp).elim (fun z=>I.pin p (List.mem_append_left _ z)) (h p),I.hok,I.len⟩
theorem zky {N:List Str} (hN:N.Nodup) {i j:Nat} {x:Str} (a:N[i]? = some x) (b:N[j]? = some x):i=j:=by
 obtain ⟨h1,e1⟩:=List.getElem?_eq_some_iff.mp a
 obtain ⟨h2,e2⟩:=List.getElem?_eq_some_iff.mp b
 exact (List.getElem_inj hN).mp (e1.trans e2.symm)
theorem zl3 {M:Model} {A:Around} {E:Value→Shared→Prop} {i:Nat} {x:Str} {v:V} {u:Value} {Q:Unit→Shared→Prop} (I:Inv X pins σ H s) (hN:X.N.Nodup) (hi:X.N[i]? = some x) (hx:Loc X.env.scope x) (r:RelV v u)
  (h:∀ s',Inv X pins (σ.set i (some v)) H s'→(∃ a,Heap.SameBut a s.heap s'.heap∧(a=X.env.locals∨X.env.cells.lookup x=some a))→Q () s') (hf:X.fn x=true∨X.env.scope.names.lookup x=some .local:=by first | exact .inl rfl | exact .inr rfl | assumption):wpAny M A (storeName X.env x u) Q E s:=by
 obtain ⟨m,hn,hl⟩:=id I.loc
 have hcls:(X.env.scope.kind==.class||(X.env.scope.kind==.module&&X.env.locals != X.env.globals))=false:=by rw [I.ok.kind];rfl
 have hiσ:i<σ.length:=by rw [I.len];exact (List.getElem?_eq_some_iff.mp hi).1
 have cne:=I.cne
 have tracked:∀ {a:Addr} {h':Heap},(∃ o,s.heap.get? a=some o∧H a=none)→Heap.SameBut a s.heap h'→HOk X.prog X.w H h':=fun {a h'} ha hs b ob e=>by
  obtain ⟨_,_,hfree⟩:=ha
  refine (I.hok b ob e).stay (fun c w' hc q=>(hs.2 c ?_).trans q) (fun _ q=>q) fun _ _ q=>q
  rintro rfl
  rcases hc with rfl | hc
  ·rw [hfree] at e;cases e
  ·rw [hfree] at hc;cases hc
 rcases hx with hk | hk
 ·refine wpAny_storeName_local hk hn (fun h' hn' hs=>?_) hcls
  obtain ⟨oL,_,_,hoL,_⟩:=id hn
  refine h _ ⟨I.ok,I.os,I.bare,⟨fun b o e n hb hx=>?_,fun b o e n hb hx=>?_,I.base.free,fun b o e hx=>?_,I.base.tups,I.base.frzs,I.base.tbls⟩,⟨_,hn',fun j y v' e1 e2 e3=>?_⟩,fun y c e=>?_,I.free,I.freeC,fun p hp=>?_,tracked ⟨oL,hoL,I.free⟩ hs,by simpa using I.len⟩ ⟨_,hs,.inl rfl⟩
  ·exact (hs.2 b (Nat.ne_of_lt (Nat.lt_of_lt_of_le (Heap.lt_size e) I.ok.above))).trans (I.base.keep b o e n hb hx)
  ·obtain ⟨sl,e1⟩:=I.base.slot b o e n hb hx
   exact ⟨sl,(hs.2 b (Nat.ne_of_lt (Nat.lt_of_lt_of_le (Heap.lt_size e) I.ok.above))).trans e1⟩
  ·obtain ⟨o',e1⟩:=I.base.there b o e hx
   exact ⟨o',(hs.2 b (Nat.ne_of_lt (Nat.lt_of_lt_of_le (Heap.lt_size e) I.ok.above))).trans e1⟩
  ·by_cases hj:j=i
   ·subst hj
    rw [hi] at e1;cases e1
    rw [List.getElem?_set_self hiσ] at e2
    cases e2
    exact ⟨u,r,.inl ⟨hk,by simp⟩⟩
   ·rw [List.getElem?_set_ne (Ne.symm hj)] at e2
    obtain ⟨u',r',q⟩:=hl j y v' e1 e2 e3
    refine ⟨u',r',?_⟩
    rcases q with ⟨k,e⟩ | ⟨k,c,e,z⟩
    ·refine .inl ⟨k,?_⟩
     have:y≠x:=fun e=>hj (zky hN e1 (e▸hi))
     simp [this,e]
    ·exact .inr ⟨k,c,e,z.sameBut hs (cne y c e)⟩
  ·obtain ⟨w',z⟩:=I.cell y c e
   exact ⟨w',z.sameBut hs (cne y c e)⟩
  ·obtain ⟨e,n,ne,nf,d⟩:=I.pin p hp
   exact ⟨(hs.2 p.1 ne).trans e,n,ne,nf,d⟩
 ·have hfn:X.fn x=true:=by
   rcases hf with z | z
   ·exact z
   ·rw [z] at hk;cases hk
  obtain ⟨c,hc⟩:=I.ok.has x (.inl hk)
  obtain ⟨w',z⟩:=I.cell x c hc
  refine wpAny_storeName_cell I.ok.kind hk hc z (fun h' hc' hs=>?_)
  obtain ⟨oc,hoc,hocd⟩:=id z
  refine h { s with heap:=h' } ⟨I.ok,I.os,I.bare,⟨fun b o e n hb hx=>?_,fun b o e n hb hx=>?_,I.base.free,fun b o e hx=>?_,I.base.tups,I.base.frzs,I.base.tbls⟩,⟨m,hn.sameBut hs (Ne.symm (cne x c hc)),fun j y v' e1 e2 e3=>?_⟩,fun y c' e=>?_,I.free,I.freeC,fun p hp=>?_,tracked ⟨oc,hoc,I.freeC x c hc⟩ hs,by simpa using I.len⟩ ⟨c,hs,.inr hc⟩
  ·exact (hs.2 b (Nat.ne_of_lt (Nat.lt_of_lt_of_le (Heap.lt_size e) (I.ok.cab x c hfn hc)))).trans (I.base.keep b o e n hb hx)
  ·obtain ⟨sl,e1⟩:=I.base.slot b o e n hb hx
   exact ⟨sl,(hs.2 b (Nat.ne_of_lt (Nat.lt_of_lt_of_le (Heap.lt_size e) (I.ok.cab x c hfn hc)))).trans e1⟩
  ·obtain ⟨o',e1⟩:=I.base.there b o e hx
   exact ⟨o',(hs.2 b (Nat.ne_of_lt (Nat.lt_of_lt_of_le (Heap.lt_size e) (I.ok.cab x c hfn hc)))).trans e1⟩
  ·by_cases hj:j=i
   ·subst hj
    rw [hi] at e1;cases e1
    rw [List.getElem?_set_self hiσ] at e2
    cases e2
    exact ⟨u,r,.inr ⟨.inl hk,c,hc,hc'⟩⟩
   ·rw [List.getElem?_set_ne (Ne.symm hj)] at e2
    obtain ⟨u',r',q⟩:=hl j y v' e1 e2 e3
    refine ⟨u',r',?_⟩
    rcases q with q | ⟨k,c',e,z'⟩
    ·exact .inl q
    ·refine .inr ⟨k,c',e,z'.sameBut hs ?_⟩
     rintro rfl
     exact hj (zky hN e1 (I.ok.inj _ _ _ e hc▸hi))
  ·by_cases hcc:c'=c
   ·subst hcc;exact ⟨_,hc'⟩
   ·obtain ⟨w2,z2⟩:=I.cell y c' e
    exact ⟨w2,z2.sameBut hs hcc⟩
  ·obtain ⟨e,n,ne,nf,d⟩:=I.pin p hp
   refine ⟨(hs.2 p.1 ?_).trans e,n,ne,nf,d⟩
   intro q
   rw [q,hoc] at e
   have q':oc=p.2:=Option.some.inj e
   exact d w' (by rw [← q'];exact hocd)
theorem zeM {M:Model} {A:Around} {E:Value→Shared→Prop} {i:Nat} {x:Str} {v:V} {u:Value} {Q:Unit→Shared→Prop} (I:Inv X pins σ H s) (hN:X.N.Nodup) (hi:X.N[i]? = some x) (hx:Loc X.env.scope x) (r:RelV v u)
  (h:∀ s',Inv X pins (σ.set i (some v)) H s'→Q () s') (hf:X.fn x=true∨X.env.scope.names.lookup x=some .local:=by first | exact .inl rfl | exact .inr rfl | assumption):wpAny M A (storeName X.env x u) Q E s :=
 zl3 I hN hi hx r (fun s' I' _=>h s' I') hf
theorem Inv.call' {s':Shared} {ch:List Addr} (I:Inv X pins σ H s) (ho:s'.os=s.os) (u:Un (frs X.stack) ch H H' s.heap s'.heap) (hok:HOk X.prog X.w H' s'.heap) (hg:AllBare s'.gens)
  (hch:∀ b∈ch,(b∈X.ex∨X.s₀.heap.objs.size≤b)∧b≠X.env.locals∧(∀ x c,X.env.cells.lookup x=some c→c≠b)∧∀ p∈X.pn++pins,p.1≠b):Inv X pins σ H' s':=by
 obtain ⟨h',g',d',t',o'⟩:=s'
 have e:o'=s.os:=ho
 subst e
 exact I.call (g':=g') (t':=t') (d':=d') u hok hg hch
end
abbrev XK:=Value→Option Addr→Hp→Prop
abbrev St:=List (Option V)
abbrev VK:=V→Hp→Prop
abbrev TE:=St→Hp→VK→Prop
abbrev TT:=St→Hp→(Bool→Hp→Prop)→Prop
abbrev TA:=St→Hp→(List V→Hp→Prop)→Prop
structure Ends where
 nx:St→Hp→Prop
 rt:VK
 bk:St→Hp→Prop:=fun _ _=>False
 ct:St→Hp→Prop:=fun _ _=>False
abbrev TS:=Ends→St→Hp→Prop
def EP (X:Cx) (pins:List (Addr×Obj)) (σ:St) (Q:VK) (u:Value) (s':Shared):Prop:=∃ v H',Inv X pins σ H' s'∧RelV v u∧Q v H'
def TP (X:Cx) (pins:List (Addr×Obj)) (σ:St) (Q:Bool→Hp→Prop) (b:Bool) (s':Shared):Prop:=∃ H',Inv X pins σ H' s'∧Q b H'
def AP (X:Cx) (pins:List (Addr×Obj)) (σ:St) (Q:List V→Hp→Prop) (us:List Value) (s':Shared):Prop:=∃ vs H',Inv X pins σ H' s'∧Vals vs us∧Q vs H'
def SP (X:Cx) (pins:List (Addr×Obj)) (D:Ends) (f:Flow) (s':Shared):Prop :=
 match f with
 | .next=>∃ σ' H',Inv X pins σ' H' s'∧D.nx σ' H'
 | .brk=>∃ σ' H',Inv X pins σ' H' s'∧D.bk σ' H'
 | .cont=>∃ σ' H',Inv X pins σ' H' s'∧D.ct σ' H'
 | .ret u=>∃ v σ' H',Inv X pins σ' H' s'∧RelV v u∧D.rt v H'
def PE (X:Cx) (e:Expr) (t:TE):Prop :=
 ∀ (pins:List (Addr×Obj)) (s:Shared) (σ:St) (H:Hp) (Q:VK),Inv X pins σ H s→t σ H Q→wpAny (model X.prog X.w) X.A (eval e X.env) (EP X pins σ Q) X.xe s
def PT (X:Cx) (e:Expr) (t:TT):Prop :=
 ∀ (pins:List (Addr×Obj)) (s:Shared) (σ:St) (H:Hp) (Q:Bool→Hp→Prop),Inv X pins σ H s→t σ H Q→wpAny (model X.prog X.w) X.A (isTrue e X.env (eval e X.env)) (TP X pins σ Q) X.xe s
def PW (X:Cx) (e:Expr) (t:TT):Prop :=
 ∀ (whole:Sem Value) (pins:List (Addr×Obj)) (s:Shared) (σ:St) (H:Hp) (Q:Bool→Hp→Prop),Inv X pins σ H s→t σ H Q→wpAny (model X.prog X.w) X.A (isTrue e X.env whole) (TP X pins σ Q) X.xe s
theorem PW.pt {X:Cx} {e:Expr} {t:TT} (h:PW X e t):PT X e t:=h _
def PA (X:Cx) (es:List Expr) (t:TA):Prop :=
 ∀ (pos:Pos) (pins:List (Addr×Obj)) (s:Shared) (σ:St) (H:Hp) (Q:List V→Hp→Prop),Inv X pins σ H s→t σ H Q→wpAny (model X.prog X.w) X.A (spliced (backTo pos (starEach es X.env))) (AP X pins σ Q) X.xe s
def PS (X:Cx) (st:Stmt) (t:TS):Prop :=
 ∀ (pins:List (Addr×Obj)) (s:Shared) (σ:St) (H:Hp) (D:Ends),Inv X pins σ H s→t D σ H→wpAny (model X.prog X.w) X.A (exec st X.env) (SP X pins D) X.xe s
def PSs (X:Cx) (st:List Stmt) (t:TS):Prop :=
 ∀ (pins:List (Addr×Obj)) (s:Shared) (σ:St) (H:Hp) (D:Ends),Inv X pins σ H s→t D σ H→wpAny (model X.prog X.w) X.A (execs st X.env) (SP X pins D) X.xe s
theorem thn {α:Type} {t:Sem α} {Q Q':α→Shared→Prop} {M:Model} {A:Around} {E:Value→Shared→Prop} {s:Shared} (h:wpAny M A t Q E s) (hQ:∀ a s,Q a s→Q' a s):wpAny M A t Q' E s:=wpAny_mono h hQ fun _ _ x=>x
end L2
namespace L2
open PySem PySem.Spec PyProof.Rows
section
variable {X:Cx}
def tVar (i:Nat):TE:=fun σ H Q=>∃ v,σ[i]? = some (some v)∧Q v H
def tC (v:V):TE:=fun _ H Q=>Q v H
theorem zqs {i:Nat} {x:Str} {pos:Pos} (hN:X.N[i]? = some x) (hv:Vis X.env.scope x) (hd:(x==("__debug__" : Str))=false:=by decide) (hcd:(x==("__classdict__" : Str))=false:=by decide):PE X (.Name x pos) (tVar i):=by
 intro pins s σ H Q I h
 obtain ⟨v,e,h⟩:=h
 obtain ⟨m,hn,hl⟩:=I.loc
 obtain ⟨u,r,l⟩:=hl i x v hN e hv
 have fin:EP X pins σ Q u s:=⟨v,H,I,r,h⟩
 rcases l with ⟨hk,hm⟩ | ⟨hk,c,hc,hcell⟩
 ·exact wpAny_Name (wpAny_loadName_local I.ok.kind hk hn hm fin) hd
 ·rcases hk with hk | hk
  ·exact wpAny_Name (wpAny_loadName_cell I.ok.kind hk hc hcell fin) hd
  ·exact wpAny_Name (wpAny_loadName_free I.ok.kind hk hc hcell fin hcd) hd
theorem zag {i j pos}:PE X (.Constant (.int i) j pos) (tC (.int i)):=fun _ _ _ H _ I h=>wpAny_Constant_int ⟨.int i,H,I.tok _,⟨_,rfl⟩,h⟩
theorem zcs {b j pos}:PE X (.Constant (.bool b) j pos) (tC (.bl b)):=fun _ _ _ H _ I h=>Constant_bool ⟨.bl b,H,I,rfl,h⟩
theorem zoB {j pos}:PE X (.Constant .none j pos) (tC .non):=fun _ _ _ H _ I h=>Constant_none ⟨.non,H,I,rfl,h⟩
def Gl (X:Cx) (x:Str):Prop:=X.env.kindOf x=some .globalImplicit
theorem zjS {E:Value→Shared→Prop} {pins:List (Addr×Obj)} {s:Shared} {σ:St} {H:Hp} {x:Str} {u:Value} {pos:Pos} {Q:Value→Shared→Prop} (I:Inv X pins σ H s) (hg:Gl X x) (hm:X.mg x=some u) (h:Q u s)
  (hd:(x==("__debug__" : Str))=false:=by decide):wpAny (model X.prog X.w) X.A (eval (.Name x pos) X.env) Q E s :=
 Calls.Name_function_global I.ok.kind hg (Calls.loadGlobal_global (by rw [I.ok.glob];exact I.mod.glob.keeps I.bk) hm h) hd
theorem zfS {E:Value→Shared→Prop} {pins:List (Addr×Obj)} {s:Shared} {σ:St} {H:Hp} {x:Str} {u:Value} {pos:Pos} {Q:Value→Shared→Prop} (I:Inv X pins σ H s) (hg:Gl X x) (hm:X.mg x=none) (hv:bootBuiltins x=some u) (h:Q u s)
  (hn:x≠"__name__":=by decide) (hd:(x==("__debug__" : Str))=false:=by decide):wpAny (model X.prog X.w) X.A (eval (.Name x pos) X.env) Q E s:=by
 obtain ⟨mb,h1,h2⟩:=I.mod.blt
 exact Calls.Name_function_global I.ok.kind hg (Calls.loadGlobal_builtin (by rw [I.ok.glob];exact I.mod.glob.keeps I.bk) hm (by rw [I.ok.blt];exact h1.keeps I.bk) ((h2 x hn).trans hv) h) hd
theorem zhX {x:Str} {v:V} {u:Value} {pos:Pos} (hg:Gl X x) (hm:X.mg x=some u) (r:RelV v u) (hd:(x==("__debug__" : Str))=false:=by decide):PE X (.Name x pos) (tC v) :=
 fun _ _ _ H _ I h=>zjS I hg hm ⟨v,H,I,r,h⟩ hd
theorem zpk {x:Str} {v:V} {u:Value} {pos:Pos} (hg:Gl X x) (hm:X.mg x=none) (hv:bootBuiltins x=some u) (r:RelV v u) (hn:x≠"__name__":=by decide) (hd:(x==("__debug__" : Str))=false:=by decide):PE X (.Name x pos) (tC v) :=
 fun _ _ _ H _ I h=>zfS I hg hm hv ⟨v,H,I,r,h⟩ hn hd
variable {a b:Expr} {ta tb:TE} {pos:Pos}
def PC (X:Cx) (op:CmpOp) (a b:Expr) (t:TE):Prop :=
 ∀ (pins:List (Addr×Obj)) (s:Shared) (σ:St) (H:Hp) (Q:VK),Inv X pins σ H s→t σ H Q →
  wpAny (model X.prog X.w) X.A (eval a X.env) (fun v s₁=>wpAny (model X.prog X.w) X.A (eval b X.env) (fun u s₂=>wpAny (model X.prog X.w) X.A (compareOp op v u) (EP X pins σ Q) X.xe s₂) X.xe s₁) X.xe s
def tB (t:TE):TT:=fun σ H Q=>t σ H fun x H1=>∃ c,x=.bl c∧Q c H1
theorem zqo {op:CmpOp} {t:TE} (h:PC X op a b t) (h1:behindInMarks op b=false:=by first | exact nobehind _ (by decide) (by decide) | rfl):PT X (.Compare a [op] [b] pos) (tB t):=by
 intro pins s σ H Q I hw
 refine wpAny_isTrue_Compare1 (thn (h pins s σ H _ I hw) fun v s1 h1=>thn h1 fun u s2 h2=>thn h2 fun c s3 ⟨x,H1,I1,r1,q1⟩=>?_) h1
 obtain ⟨d,rfl,q⟩:=q1
 cases r1
 exact wpAny_truthy_bool ⟨H1,I1,q⟩
theorem zaX {e:Expr} {t:TE} (h:PE X e t) (he:∀ whole,isTrue e X.env whole=(do let v ← whole;standAt e.pos;holding [v] (truthy v)):=by intro _;rfl):PT X e (tB t):=by
 intro pins s σ H Q I hw
 refine isTrue_plain (thn (h pins s σ H _ I hw) fun v s1 ⟨x,H1,I1,r1,q1⟩=>?_) (he _)
 obtain ⟨d,rfl,q⟩:=q1
 cases r1
 exact wpAny_truthy_bool ⟨H1,I1,q⟩
variable {tA tB':TT} {rest:List Expr}
def tAnd (t u:TT):TT:=fun σ H Q=>t σ H fun c H1=>if c=true then u σ H1 Q else Q false H1
def tOr (t u:TT):TT:=fun σ H Q=>t σ H fun c H1=>if c=true then Q true H1 else u σ H1 Q
def tNot (t:TT):TT:=fun σ H Q=>t σ H fun c H1=>Q (!c) H1
theorem pw_and1 (ha:PT X a tA):PW X (.BoolOp .And [a] pos) tA:=by
 intro wh pins s σ H Q I h
 refine isTrue_and (thn (ha pins s σ H Q I h) fun c s1 e=>?_)
 cases c with
 | true=>exact isTrue_and_nil e
 | false=>exact e
theorem pw_or1 (ha:PT X a tA):PW X (.BoolOp .Or [a] pos) tA:=by
 intro wh pins s σ H Q I h
 refine isTrue_or (thn (ha pins s σ H Q I h) fun c s1 e=>?_)
 cases c with
 | false=>exact isTrue_or_nil e
 | true=>exact e
theorem pw_and (ha:PT X a tA) (hb:PW X (.BoolOp .And (b::rest) pos) tB'):PW X (.BoolOp .And (a::b::rest) pos) (tAnd tA tB'):=by
 intro wh pins s σ H Q I h
 refine isTrue_and (thn (ha pins s σ H _ I h) fun c s1 ⟨H1,I1,q1⟩=>?_)
 cases c with
 | true=>exact hb wh pins s1 σ H1 Q I1 q1
 | false=>exact ⟨H1,I1,q1⟩
theorem pw_or (ha:PT X a tA) (hb:PW X (.BoolOp .Or (b::rest) pos) tB'):PW X (.BoolOp .Or (a::b::rest) pos) (tOr tA tB'):=by
 intro wh pins s σ H Q I h
 refine isTrue_or (thn (ha pins s σ H _ I h) fun c s1 ⟨H1,I1,q1⟩=>?_)
 cases c with
 | true=>exact ⟨H1,I1,q1⟩
 | false=>exact hb wh pins s1 σ H1 Q I1 q1
theorem zbj (ha:PT X a tA):PT X (.UnaryOp .Not a pos) (tNot tA):=by
 intro pins s σ H Q I h
 exact isTrue_not (ha pins s σ H (fun c H1=>Q (!c) H1) I h)
def zrg (ta tb:TE):TE:=fun σ H Q=>ta σ H fun x H1=>∃ c,x=.bl c∧if c=true then tb σ H1 Q else Q (.bl false) H1
def zra (ta:TE):TE:=fun σ H Q=>ta σ H fun x H1=>∃ c,x=.bl c∧Q (.bl (!c)) H1
theorem zeb {op} {t:TE} (h:PE X a t):PE X (.BoolOp op [a] pos) t:=fun pins s σ H Q I hw=>BoolOp_one (h pins s σ H Q I hw)
theorem zds (ha:PE X a ta) (hb:PE X (.BoolOp .And (b::rest) pos) tb):PE X (.BoolOp .And (a::b::rest) pos) (zrg ta tb):=by
 intro pins s σ H Q I h
 refine BoolOp_and (thn (ha pins s σ H _ I h) fun v s1 ⟨x,H1,I1,r1,q1⟩=>?_)
 obtain ⟨c,rfl,q1⟩:=q1
 cases r1
 refine wpAny_truthy_bool ?_
 cases c with
 | true=>exact hb pins s1 σ H1 Q I1 q1
 | false=>exact ⟨.bl false,H1,I1,rfl,q1⟩
theorem zqt (ha:PE X a ta):PE X (.UnaryOp .Not a pos) (zra ta):=by
 intro pins s σ H Q I h
 refine UnaryOp_ (thn (ha pins s σ H _ I h) fun v s1 ⟨x,H1,I1,r1,q1⟩=>?_)
 obtain ⟨c,rfl,q1⟩:=q1
 cases r1
 exact not_of (wpAny_truthy_bool ⟨.bl (!c),H1,I1,rfl,q1⟩)
def tIf (t:TT) (ta tb:TE):TE:=fun σ H Q=>t σ H fun c H1=>if c=true then ta σ H1 Q else tb σ H1 Q
theorem zhW {c:Expr} (hc:PT X c tA) (ha:PE X a ta) (hb:PE X b tb):PE X (.IfExp c a b pos) (tIf tA ta tb):=by
 intro pins s σ H Q I h
 refine wpAny_IfExp (thn (hc pins s σ H _ I h) fun d s1 ⟨H1,I1,q1⟩=>?_)
 cases d with
 | true=>exact ha pins s1 σ H1 Q I1 q1
 | false=>exact hb pins s1 σ H1 Q I1 q1
end
end L2
namespace L2
open PySem PySem.Spec PyProof.Rows
def SqL (K:PySem.W.Frag) (H:Hp) (a:Addr) (xs:List V):Prop :=
 Rd H a (.lst xs) ∨
  ∃ (o:Obj) (its:Array Value) (n:Nat),K.lookup a=some o∧o.cls=.type "list"∧o.dict=none∧o.data=.seq its n∧its.size≤sizeLine∧Vals xs its.toList
def SqT (K:PySem.W.Frag) (H:Hp) (a:Addr) (xs:List V):Prop :=
 Rd H a (.tup xs) ∨
  ∃ (o:Obj) (its:Array Value) (n:Nat),K.lookup a=some o∧o.cls=.type "tuple"∧o.data=.seq its n∧its.size≤sizeLine∧Vals xs its.toList
def absV:Value→Option V
 | .none=>some .non
 | .bool b=>some (.bl b)
 | .int i _=>some (.int i)
 | .str x _=>some (.str x)
 | .bytes b _=>some (.byt b)
 | .float b _=>some (.flt b)
 | .ref a=>some (.ref a)
 | .type n=>some (.ty n)
 | _=>none
theorem RelV.abs {x:V} {u:Value} (r:RelV x u):absV u=some x:=by
 cases x with
 | non=>cases r;rfl
 | bl _=>cases r;rfl
 | int _=>obtain ⟨t,rfl⟩:=r;rfl
 | str _=>obtain ⟨t,rfl⟩:=r;rfl
 | byt _=>obtain ⟨t,rfl⟩:=r;rfl
 | flt _=>obtain ⟨t,rfl⟩:=r;rfl
 | ref _=>cases r;rfl
 | ty _=>cases r;rfl
theorem RelV.inj {x y:V} {u:Value} (r:RelV x u) (q:RelV y u):x=y:=Option.some.inj (r.abs.symm.trans q.abs)
theorem Vals.inj:∀ {xs ys:List V} {us:List Value},Vals xs us→Vals ys us→xs=ys
 | _,_,_,.nil,.nil=>rfl
 | _,_,_,.cons r t,.cons r' t'=>by rw [r.inj r',Vals.inj t t']
section
variable {X:Cx} {pins:List (Addr×Obj)} {σ:St} {H:Hp} {s:Shared} {a:Addr} {xs ys:List V}
theorem SqL.of {K:PySem.W.Frag} (h:H a=some (.lst xs)):SqL K H a xs:=.inl (.inl h)
theorem SqT.of {K:PySem.W.Frag} (h:H a=some (.tup xs)):SqT K H a xs:=.inl (.inl h)
theorem Inv.list (I:Inv X pins σ H s) (h:SqL X.K H a xs):∃ its:List Value,Vals xs its∧PlainL s.heap a its.toArray∧xs.length≤sizeLine:=by
 rcases h with h | ⟨o,its,n,hk,hc,hd,hs,hz,r⟩
 ·obtain ⟨z,its,n,r,e⟩:=h.ok I.hok
  exact ⟨its,r,⟨_,n,e,rfl,rfl,rfl⟩,z⟩
 ·refine ⟨its.toList,r,⟨o,n,I.kIn a o hk,hc,hd,by simpa using hs⟩,?_⟩
  have e:=r.length
  simp only [Array.length_toList] at e
  omega
theorem Inv.tuple (I:Inv X pins σ H s) (h:SqT X.K H a xs):∃ its:List Value,Vals xs its∧IsTup s.heap a its.toArray∧xs.length≤sizeLine:=by
 rcases h with h | ⟨o,its,n,hk,hc,hs,hz,r⟩
 ·obtain ⟨z,its,r,p⟩:=h.ok I.hok
  exact ⟨its,r,p,z⟩
 ·refine ⟨its.toList,r,⟨o,I.kIn a o hk,hc,n,by simpa using hs⟩,?_⟩
  have e:=r.length
  simp only [Array.length_toList] at e
  omega
theorem Inv.zgj (I:Inv X pins σ H s) (h:SqL X.K H a xs) (h':SqL X.K H a ys):xs=ys:=by
 obtain ⟨its,r,⟨o,n,e,_,_,d⟩,_⟩:=I.list h
 obtain ⟨its',r',⟨o',n',e',_,_,d'⟩,_⟩:=I.list h'
 rw [e] at e';cases e'
 rw [d] at d'
 injection d' with d1 _
 have:its=its':=by simpa using congrArg Array.toList d1
 subst this
 exact r.inj r'
end
abbrev Cx.wish (X:Cx) (E:Value→Shared→Prop):Cx:={ X with xe:=E }
abbrev Cx.nox (X:Cx):Cx:=X.wish fun _ _=>False
theorem Cx.Ok.wish {X:Cx} (ok:X.Ok) (E:Value→Shared→Prop):(X.wish E).Ok :=
 ⟨ok.mod,ok.kind,ok.glob,ok.blt,ok.above,ok.inj,ok.has,ok.cab,ok.hd,ok.frames,ok.stk,ok.exf,ok.bs,ok.bsz,ok.noex,ok.exfs,ok.funs,ok.frf⟩
theorem Cx.Ok.zfM {X:Cx} {E:Value→Shared→Prop} (ok:(X.wish E).Ok):X.Ok :=
 ⟨ok.mod,ok.kind,ok.glob,ok.blt,ok.above,ok.inj,ok.has,ok.cab,ok.hd,ok.frames,ok.stk,ok.exf,ok.bs,ok.bsz,ok.noex,ok.exfs,ok.funs,ok.frf⟩
section
variable {X:Cx} {pins:List (Addr×Obj)} {σ:St} {H:Hp} {s:Shared} {E:Value→Shared→Prop}
theorem Inv.wish (I:Inv X pins σ H s) (E:Value→Shared→Prop):Inv (X.wish E) pins σ H s:=⟨I.ok.wish E,I.os,I.bare,I.base,I.loc,I.cell,I.free,I.freeC,I.pin,I.hok,I.len⟩
theorem Inv.zfM (I:Inv (X.wish E) pins σ H s):Inv X pins σ H s:=⟨I.ok.zfM,I.os,I.bare,I.base,I.loc,I.cell,I.free,I.freeC,I.pin,I.hok,I.len⟩
theorem SP.zfM {D:Ends} {f:Flow} {s':Shared} (h:SP (X.wish E) pins D f s'):SP X pins D f s':=by
 cases f with
 | next=>obtain ⟨σ',H',I,q⟩:=h;exact ⟨σ',H',I.zfM,q⟩
 | brk=>obtain ⟨σ',H',I,q⟩:=h;exact ⟨σ',H',I.zfM,q⟩
 | cont=>obtain ⟨σ',H',I,q⟩:=h;exact ⟨σ',H',I.zfM,q⟩
 | ret u=>obtain ⟨v,σ',H',I,r,q⟩:=h;exact ⟨v,σ',H',I.zfM,r,q⟩
theorem PSs.nox {st:List Stmt} {t:TS} (h:PSs X.nox st t):PSs X st t:=fun pins s σ H D I hw =>
 wpAny_mono (h pins s σ H D (I.wish _) hw) (fun _ _ q=>q.zfM) fun _ _ z=>False.elim z
end
section
variable {X:Cx} {st:Stmt} {rest:List Stmt} {t u:TS} {e:Expr} {te:TE} {pos:Pos}
def zrb:TS:=fun D σ H=>D.nx σ H
def tSeq (t u:TS):TS:=fun D σ H=>t { D with nx:=u D } σ H
theorem zaz:PSs X [] zrb:=fun _ _ σ H _ I h=>wpAny_execs_nil ⟨σ,H,I,h⟩
theorem zaf (h1:PS X st t) (h2:PSs X rest u):PSs X (st::rest) (tSeq t u):=by
 intro pins s σ H D I h
 refine wpAny_execs_cons (thn (h1 pins s σ H { D with nx:=u D } I h) fun f s1 q=>?_)
 cases f with
 | next =>
  obtain ⟨σ',H',I',q⟩:=q
  exact h2 pins s1 σ' H' D I' q
 | ret v=>exact q
 | brk=>exact q
 | cont=>exact q
theorem zaj (h1:PS X st t):PSs X [st] t:=by
 intro pins s σ H D I h
 refine wpAny_execs_cons (thn (h1 pins s σ H D I h) fun f s1 q=>?_)
 cases f with
 | next=>exact wpAny_execs_nil q
 | ret v=>exact q
 | brk=>exact q
 | cont=>exact q
theorem Inv.quiet {pins:List (Addr×Obj)} {σ:St} {H:Hp} {s:Shared} (I:Inv X pins σ H s):interactive X.env=false:=by simp [interactive,I.ok.kind]
def zrd (te:TE):TS:=fun D σ H=>te σ H fun _ H1=>D.nx σ H1
theorem zcc (he:PE X e te) (hs:swapsWith e none pos.line X.env=pure false:=by rfl):PS X (.Expr e pos) (zrd te):=by
 intro pins s σ H D I h
 exact wpAny_Expr_any (thn (he pins s σ H _ I h) fun v s1 ⟨x,H1,I1,r1,q1⟩=>⟨σ,H1,I1,q1⟩) I.quiet hs
def tRet (te:TE):TS:=fun D σ H=>te σ H D.rt
theorem zas (he:PE X e te):PS X (.Return (some e) pos) (tRet te):=by
 intro pins s σ H D I h
 exact wpAny_Return_some (thn (he pins s σ H _ I h) fun v s1 ⟨x,H1,I1,r1,q1⟩=>⟨x,σ,H1,I1,r1,q1⟩)
def tIfS (c:TT) (t u:TS):TS:=fun D σ H=>c σ H fun b H1=>if b=true then t D σ H1 else u D σ H1
theorem zaP {c:Expr} {a b:List Stmt} {tc:TT} (hc:PT X c tc) (ha:PSs X a t) (hb:PSs X b u):PS X (.If c a b pos) (tIfS tc t u):=by
 intro pins s σ H D I h
 refine wpAny_If (thn (hc pins s σ H _ I h) fun d s1 ⟨H1,I1,q1⟩=>?_)
 cases d with
 | true=>exact ha pins s1 σ H1 D I1 q1
 | false=>exact hb pins s1 σ H1 D I1 q1
end
abbrev TG:=V→St→Hp→(St→Hp→Prop)→Prop
abbrev TGs:=List V→St→Hp→(St→Hp→Prop)→Prop
def PG (X:Cx) (target:Expr) (t:TG):Prop :=
 ∀ (pins:List (Addr×Obj)) (s:Shared) (σ:St) (H:Hp) (v:V) (u:Value) (Q:St→Hp→Prop),Inv X pins σ H s→RelV v u→t v σ H Q →
  wpAny (model X.prog X.w) X.A (assign target X.env u) (fun _ s'=>∃ σ' H',Inv X pins σ' H' s'∧Q σ' H') X.xe s
def PGs (X:Cx) (ts:List Expr) (t:TGs):Prop :=
 ∀ (pins:List (Addr×Obj)) (s:Shared) (σ:St) (H:Hp) (vs:List V) (us:List Value) (Q:St→Hp→Prop),Inv X pins σ H s→Vals vs us→t vs σ H Q →
  wpAny (model X.prog X.w) X.A (assignInOrder ((assignEach ts X.env).map (·.2)) us) (fun _ s'=>∃ σ' H',Inv X pins σ' H' s'∧Q σ' H') X.xe s
abbrev TSet:=V→V→V→Hp→(Hp→Prop)→Prop
def PSet (X:Cx) (t:TSet):Prop :=
 ∀ (pins:List (Addr×Obj)) (s:Shared) (σ:St) (H:Hp) (o i v:V) (ov iv u:Value) (Q:Hp→Prop),Inv X pins σ H s→RelV o ov→RelV i iv→RelV v u→t o i v H Q →
  wpAny (model X.prog X.w) X.A (setItem ov iv u) (fun _ s'=>∃ H',Inv X pins σ H' s'∧Q H') X.xe s
section
variable {X:Cx} {pos:Pos}
def zcy (i:Nat):TG:=fun v σ H Q=>Q (σ.set i (some v)) H
theorem zan {i:Nat} {x:Str} (hN:X.N.Nodup) (hi:X.N[i]? = some x) (hx:Loc X.env.scope x) (hf:X.fn x=true∨X.env.scope.names.lookup x=some .local:=by first | exact .inl rfl | exact .inr rfl | assumption):PG X (.Name x pos) (zcy i):=by
 intro pins s σ H v u Q I r h
 exact wpAny_assign_Name (zeM I hN hi hx r (fun s' I'=>⟨_,H,I',h⟩) hf)
def gNil:TGs:=fun vs σ H Q=>vs=[]∧Q σ H
def zqI (t:TG) (u:TGs):TGs:=fun vs σ H Q=>∃ v r,vs=v::r∧t v σ H fun σ' H'=>u r σ' H' Q
theorem zbg:PGs X [] gNil:=by
 intro pins s σ H vs us Q I r h
 obtain ⟨e,h⟩:=h
 subst e
 cases r
 exact assignInOrder_nil ⟨σ,H,I,h⟩
theorem zap {e:Expr} {es:List Expr} {t:TG} {u:TGs} (h1:PG X e t) (h2:PGs X es u)
  (hs:(assignEach (e::es) X.env).map (·.2)=assign e X.env::(assignEach es X.env).map (·.2):=by rfl):PGs X (e::es) (zqI t u):=by
 intro pins s σ H vs us Q I r h
 obtain ⟨v,vr,e1,h⟩:=h
 subst e1
 cases r with
 | cons r rr =>
  rw [hs]
  refine assignInOrder_cons (thn (h1 pins s σ H _ _ _ I r h) fun _ s1 ⟨σ1,H1,I1,q1⟩=>?_)
  exact h2 pins s1 σ1 H1 _ _ Q I1 rr q1
def gTup (K:PySem.W.Frag) (n:Nat) (t:TGs):TG:=fun v σ H Q=>∃ a xs,v=.ref a∧SqT K H a xs∧xs.length=n∧t xs σ H Q
theorem zbZ {es:List Expr} {k:Nat} {t:TGs} {n:Nat} (hc:X.calm=true) (h:PGs X es t)
  (hn:(assignEach es X.env).length=n:=by rfl) (hst:(assignEach es X.env).findIdx? (·.1)=none:=by rfl):PG X (.Tuple es k pos) (gTup X.K n t):=by
 intro pins s σ H v u Q I r hw
 obtain ⟨a,xs,e1,hq,hl,hw⟩:=hw
 subst e1
 cases r
 obtain ⟨its,rv,ht,hz⟩:=I.tuple hq
 refine assign_Tuple_tuple (I.ok.hd hc) ht (by simp [hn,← hl,rv.length]) hst fun h' hx=>?_
 have I1:Inv X pins σ H { s with heap:=h' }:=I.kept (t':=s.toks) fun b o e=>hx b o (Nat.ne_of_lt (Heap.lt_size e)) e
 exact h pins _ σ H xs _ Q I1 (by simpa using rv) hw
def gSub (to ti:TE) (t:TSet):TG:=fun v σ H Q=>to σ H fun o H1=>ti σ H1 fun i H2=>t o i v H2 fun H3=>Q σ H3
theorem zh3 {o i:Expr} {to ti:TE} {t:TSet} (ho:PE X o to) (hi:PE X i ti) (hs:PSet X t)
  (ha:∀ v,assign (.Subscript o i pos) X.env v=(do
   let ov ← holding [v] (eval o X.env)
   let iv ← holding [v,ov] (eval i X.env)
   standAt pos
   holding [v,ov,iv] (setItem ov iv v)
   release [v,ov,iv] []):=by intro _;rfl):PG X (.Subscript o i pos) (gSub to ti t):=by
 intro pins s σ H v u Q I r h
 rw [ha]
 refine wpAny_bind (wpAny_holding (thn (ho pins s σ H _ I h) fun ov s1 ⟨x,H1,I1,r1,q1⟩=>?_))
 refine wpAny_bind (wpAny_holding (thn (hi pins s1 σ H1 _ I1 q1) fun iv s2 ⟨y,H2,I2,r2,q2⟩=>?_))
 refine wpAny_bind (wpAny_standAt (wpAny_bind (wpAny_holding (thn (hs pins s2 σ H2 x y v ov iv u _ I2 r1 r2 r q2) fun _ s3 ⟨H3,I3,q3⟩=>?_))))
 exact wpAny_release ⟨σ,H3,I3,q3⟩
def tAsg (te:TE) (g:TG):TS:=fun D σ H=>te σ H fun x H1=>g x σ H1 D.nx
theorem zfP {tg e:Expr} {te:TE} {g:TG} (he:PE X e te) (hg:PG X tg g) (hs:swapsWithSole [tg] e pos.line X.env=pure false:=by rfl) (hw:swappedStores [tg] e X.env=pure none:=by rfl)
  (h1:(assignEach [tg] X.env).map (·.2)=[assign tg X.env]:=by rfl):PS X (.Assign [tg] e pos) (tAsg te g):=by
 intro pins s σ H D I h
 refine wpAny_Assign_stores (thn (he pins s σ H _ I h) fun v s1 ⟨x,H1,I1,r1,q1⟩=>?_) hs hw
 rw [h1]
 exact thn (hg pins s1 σ H1 x v _ I1 r1 q1) fun _ s2 q=>q
theorem zax {i:Nat} {x:Str} {e:Expr} {te:TE} {pos':Pos} (hN:X.N.Nodup) (hi:X.N[i]? = some x) (hx:Loc X.env.scope x) (he:PE X e te) (hs:swapsWith e (some (.Name x pos')) pos.line X.env=pure false:=by rfl) (hf:X.fn x=true∨X.env.scope.names.lookup x=some .local:=by first | exact .inl rfl | exact .inr rfl | assumption) :
  PS X (.Assign [.Name x pos'] e pos) (tAsg te (zcy i)):=by
 intro pins s σ H D I h
 refine wpAny_Assign_Name (thn (he pins s σ H _ I h) fun v s1 ⟨y,H1,I1,r1,q1⟩=>?_) hs
 exact zeM I1 hN hi hx r1 (fun s2 I2=>⟨_,H1,I2,q1⟩) hf
def tPar (i j:Nat) (ta:TA):TS:=fun D σ H=>ta σ H fun vs H1=>∃ v w,vs=[v,w]∧D.nx ((σ.set i (some v)).set j (some w)) H1
theorem zlO {i j:Nat} {x y:Str} {a b:Expr} {ta:TA} {px py pt:Pos} {kt k2 pt2} (hc:X.calm=true) (hN:X.N.Nodup) (hi:X.N[i]? = some x) (hj:X.N[j]? = some y) (hij:i≠j)
  (hx:X.env.scope.names.lookup x=some .local) (hy:X.env.scope.names.lookup y=some .local) (ha:PA X [a,b] ta)
  (hw:swappedStores [.Tuple [.Name x px,.Name y py] kt pt] (.Tuple [a,b] k2 pt2) X.env=pure (some [x,y]))
  (hs:swapsWithSole [.Tuple [.Name x px,.Name y py] kt pt] (.Tuple [a,b] k2 pt2) pos.line X.env=pure false:=by rfl) :
  PS X (.Assign [.Tuple [.Name x px,.Name y py] kt pt] (.Tuple [a,b] k2 pt2) pos) (tPar i j ta):=by
 intro pins s σ H D I h
 rw [exec_Assign_arm]
 refine wpAny_bind (wpAny_standAt ?_)
 rw [hs]
 refine wpAny_bind (wpAny_pure ?_)
 rw [if_neg (by decide)]
 refine wpAny_bind (Tuple_ (thn (ha _ pins s σ H _ I h) fun us s1 ⟨vs,H1,I1,r1,q1⟩=>?_))
 obtain ⟨v,w,e1,q1⟩:=q1
 subst e1
 obtain ⟨u1,u2,rfl,rv,rw'⟩:∃ u1 u2,us=[u1,u2]∧RelV v u1∧RelV w u2:=by
  cases r1 with
  | cons p q =>
   cases q with
   | cons p' q' =>
    cases q'
    exact ⟨_,_,rfl,p,p'⟩
 refine wpAny_newObj_type ?_ (by show 2≤sizeLine;decide)
 have I2:Inv X pins σ H1 { s1 with heap:=s1.heap.push { cls:=.type "tuple",data:=.seq [u1,u2].toArray } }:=I1.kept (t':=s1.toks) fun b o e=>Heap.get?_push_of_some _ e
 rw [hw]
 refine wpAny_bind (wpAny_pure ?_)
 show wpAny (model X.prog X.w) X.A (do rule "assign.swapped-stores";let items ← unpackItems (.ref s1.heap.objs.size) 2 none;assignInOrder [fun v=>bindName X.env y v,fun v=>bindName X.env x v] items.reverse;pure Flow.next) _ _ _
 refine wpAny_bind (wpAny_rule (wpAny_bind (unpackItems_tuple (items:=#[u1,u2]) (I.ok.hd hc) (IsTup.new s1.heap _) fun h' hx'=>?_)))
 have I3:=I2.kept (h':=h') (t':=s1.toks) fun b o e=>hx' b o (Nat.ne_of_lt (Heap.lt_size e)) e
 show wpAny _ _ (assignInOrder [fun v=>bindName X.env y v,fun v=>bindName X.env x v] [u2,u1] >>= fun _=>pure Flow.next) _ _ _
 refine wpAny_bind (assignInOrder_cons (wpAny_bindName (zeM I3 hN hj (.inl hy) rw' (fun s2 I4=>?_) (.inr hy))))
 refine assignInOrder_cons (wpAny_bindName (zeM I4 hN hi (.inl hx) rv (fun s3 I5=>assignInOrder_nil (wpAny_pure ?_)) (.inr hx)))
 rw [List.set_comm _ _ (Ne.symm hij)] at I5
 exact ⟨_,H1,I5,q1⟩
end
section
variable {X:Cx} {pos:Pos}
def zoz (c:TT) (tb:TS):TS:=fun D σ H=>∃ W:Nat→St→Hp→Prop,(∃ m,W m σ H)∧∀ m σ H,W m σ H →
 c σ H fun b H1=>if b=true then ∃ N:St→Hp→Prop,(∀ σ' H',N σ' H'→∃ m',m' < m∧W m' σ' H')∧tb { D with nx:=N,ct:=N,bk:=D.nx } σ H1 else D.nx σ H1
theorem zhV {c:Expr} {body:List Stmt} {tc:TT} {tb:TS} (hp:PassesOwn (model X.prog X.w) X.A X.env X.xe) (hc:PT X c tc) (hb:PSs X body tb):PS X (.While c body [] pos) (zoz tc tb):=by
 intro pins s σ H D I h
 obtain ⟨W,⟨m0,w0⟩,turn⟩:=h
 refine wpAny_While (codeAny_whileLoop (fun n s'=>∃ σ' H',Inv X pins σ' H' s'∧W n σ' H') ?_ m0 ⟨σ,H,I,w0⟩)
 rintro n s1 ⟨σ1,H1,I1,w1⟩
 refine wpAny_passesOwn hp (thn (hc pins s1 σ1 H1 _ I1 (turn n σ1 H1 w1)) fun b s2 ⟨H2,I2,q2⟩=>?_)
 cases b with
 | true =>
  obtain ⟨N,hN,q2⟩:=q2
  rw [if_pos rfl]
  refine wpAny_passesOwn hp (thn (hb pins s2 σ1 H2 _ I2 q2) fun f s3 q3=>?_)
  cases f with
  | next =>
   obtain ⟨σ3,H3,I3,n3⟩:=q3
   obtain ⟨m',hm,w3⟩:=hN σ3 H3 n3
   exact ⟨m',hm,σ3,H3,I3,w3⟩
  | cont =>
   obtain ⟨σ3,H3,I3,n3⟩:=q3
   obtain ⟨m',hm,w3⟩:=hN σ3 H3 n3
   exact ⟨m',hm,σ3,H3,I3,w3⟩
  | brk=>exact q3
  | ret v=>exact q3
 | false =>
  rw [if_neg Bool.false_ne_true]
  exact wpAny_execs_nil ⟨σ1,H2,I2,q2⟩
end
structure It where
 go:Nat→Hp→Prop
 yld:Nat→Hp→V→Hp→Prop
 stop:Nat→Hp→Prop
def FpOk (X:Cx) (pins:List (Addr×Obj)) (H:Hp) (b:Addr):Prop :=
 H b=none∧b≠X.env.locals∧b∉X.fs∧(b∈X.ex∨X.s₀.heap.objs.size≤b)∧(∀ x c,X.env.cells.lookup x=some c→c≠b)∧∀ p∈X.pn++pins,p.1≠b
theorem Inv.fpOk {X:Cx} {pins:List (Addr×Obj)} {σ:St} {H H':Hp} {s:Shared} {b:Addr} (I:Inv X pins σ H s) (hb:s.heap.objs.size≤b) (hn:H' b=none):FpOk X pins H' b:=by
 refine ⟨hn,Nat.ne_of_gt (Nat.lt_of_lt_of_le I.lt hb),I.nofs hb,.inr (Nat.le_trans I.sz hb),fun x c e z=>?_,fun p hp z=>?_⟩
 ·obtain ⟨v,q⟩:=I.cell x c e
  exact absurd (Nat.lt_of_lt_of_le q.lt (by rw [z];exact hb)) (Nat.lt_irrefl _)
 ·exact absurd (Nat.lt_of_lt_of_le (Heap.lt_size (I.pin p hp).1) (by rw [z];exact hb)) (Nat.lt_irrefl _)
structure Turn (P:Program) (w:World) (K:PySem.W.Frag) (tg:Expr) (J:It) (fp:List Addr) (it:Addr) (tn:Nat→Heap→Prop):Prop where
 mem:it∈fp
 obj:∀ i h,tn i h→∀ b∈fp,∃ o,h.get? b=some o∧∀ v,o.data≠.cell v
 keep:∀ i h h',tn i h→(∀ b∈fp,∀ o,h.get? b=some o→h'.get? b=some o)→tn i h'
 item:∀ (X:Cx),X.prog=P→X.w=w→X.K=K→X.calm=true→∀ (i:Nat) (pins:List (Addr×Obj)) (s:Shared) (σ:St) (H:Hp) (E:Value→Shared→Prop),Inv X pins σ H s→(∀ b∈fp,FpOk X pins H b)→tn i s.heap→J.go i H →
  wpAny (model P w) X.A (pyNext (.ref it)) (fun r s1=>∃ u,r=some u ∧
   wpAny (model P w) X.A (letOwnedTupleGo tg (.ref it) u) (fun _ s2=>∃ x H',Inv X pins σ H' s2∧RelV x u∧J.yld i H x H'∧tn (i+1) s2.heap∧∀ b∈fp,H' b=none) E s1) E s
 done:∀ (X:Cx),X.prog=P→X.w=w→X.K=K→X.calm=true→∀ (i:Nat) (pins:List (Addr×Obj)) (s:Shared) (σ:St) (H:Hp) (E:Value→Shared→Prop),Inv X pins σ H s→(∀ b∈fp,FpOk X pins H b)→tn i s.heap→J.stop i H →
  wpAny (model P w) X.A (pyNext (.ref it)) (fun r s1=>r=none∧Inv X pins σ H s1) E s
 self:∀ (A:Around) (i:Nat) (s:Shared) (Q:Value→Shared→Prop) (E:Value→Shared→Prop),tn i s.heap→Q (.ref it) s→wpAny (model P w) A (pyIter (.ref it)) Q E s
abbrev TI:=St→Hp→(It→Hp→Prop)→Prop
def PIE (X:Cx) (pins:List (Addr×Obj)) (σ:St) (tg:Expr) (R:It→Hp→Prop) (itv:Value) (s2:Shared):Prop :=
 ∃ (it:Addr) (fp:List Addr) (tn:Nat→Heap→Prop) (J:It) (H':Hp),itv=.ref it∧Inv X pins σ H' s2∧Turn X.prog X.w X.K tg J fp it tn∧tn 0 s2.heap∧(∀ b∈fp,FpOk X pins H' b)∧R J H'
def PI (X:Cx) (tg iter:Expr) (wi:TI):Prop :=
 ∀ (pins:List (Addr×Obj)) (s:Shared) (σ:St) (H:Hp) (R:It→Hp→Prop),Inv X pins σ H s→wi σ H R →
  wpAny (model X.prog X.w) X.A (eval iter X.env) (fun v s1=>wpAny (model X.prog X.w) X.A (pyIter v) (PIE X pins σ tg R) X.xe s1) X.xe s
theorem zpD {M:Model} {A:Around} {E:Value→Shared→Prop} {s:Shared} {tg:Expr} {it:Addr} {u:Value} {o:Obj} {n:String} {vs:Array Value} {Q:Unit→Shared→Prop} (ho:s.heap.get? it=some o) (hc:o.cls=.type n) (hd:o.data=.fields vs)
    (hn:["enumerate","zip","dict_itemiterator","dict_reverseitemiterator","odict_iterator","itertools.zip_longest","itertools.pairwise"].contains n=false) (hQ:Q () s):wpAny M A (letOwnedTupleGo tg (.ref it) u) Q E s:=by
  unfold letOwnedTupleGo
  cases tg <;> first
    | exact wpAny_pure hQ
    | (cases u <;> first
        | exact wpAny_pure hQ
        | (refine wpAny_bind (wpAny_load ho ?_)
           rw [hc,hd]
           show wpAny M A (if (["enumerate","zip","dict_itemiterator","dict_reverseitemiterator","odict_iterator","itertools.zip_longest","itertools.pairwise"].contains n&&vs[0]?==some (rawInt _))=true then _ else _) Q E s
           rw [if_neg (by intro h;rw [hn,Bool.false_and] at h;cases h)]
           exact wpAny_pure hQ))
def Itl (K:PySem.W.Frag) (a:Addr):It :=
 ⟨fun i H=>∃ xs x,SqL K H a xs∧xs[i]? = some x,fun i H x H'=>H'=H∧∀ xs,SqL K H a xs→xs[i]? = some x,fun i H=>∃ xs,SqL K H a xs∧xs.length≤i⟩
def Itr (lo:Int) (n:Nat):It:=⟨fun i _=>i<n,fun i H x H'=>H'=H∧x=.int (lo+i),fun i _=>n≤i⟩
theorem zlz {P:Program} {w:World} {K:PySem.W.Frag} {tg:Expr} (a it:Addr):Turn P w K tg (Itl K a) [it] it (fun i h=>h.IsListIter it a i) where
 mem:=by simp
 obj:=fun i h st b hb=>by
  have e:b=it:=by simpa using hb
  subst e
  obtain ⟨o,e,c,d⟩:=st
  exact ⟨o,e,fun v z=>by rw [d] at z;cases z⟩
 keep:=fun i h h' st k=>st.at fun o e=>k it (by simp) o e
 item:=by
  intro X hP hw hK hc i pins s σ H E I hf st hg
  subst hP hw hK
  obtain ⟨xs,x,hq,hx⟩:=hg
  obtain ⟨its,rv,p,hz⟩:=I.list hq
  obtain ⟨u,hu,ru⟩:=rv.get hx
  obtain ⟨f0,f1,f2,f3,f4,f5⟩:=hf it (by simp)
  refine wpAny_pyNext_list_item st p.isList (x:=u) (by simpa using hu) fun h' st' sb=>?_
  have I1:Inv X pins σ H { s with heap:=h' }:=I.turned (t':=s.toks) (fun b o hb e=>(sb.2 b hb).trans e) f0 f1 f3 f4 f5
  obtain ⟨o,e,c,d⟩:=id st'
  exact ⟨u,rfl,zpD (s:={ s with heap:=h' }) e c d (by decide) ⟨x,H,I1,ru,⟨rfl,fun ys hy=>by rw [I.zgj hy hq];exact hx⟩,st',fun b hb=>(hf b hb).1⟩⟩
 done:=by
  intro X hP hw hK hc i pins s σ H E I hf st hg
  subst hP hw hK
  obtain ⟨xs,hq,hx⟩:=hg
  obtain ⟨its,rv,p,hz⟩:=I.list hq
  obtain ⟨f0,f1,f2,f3,f4,f5⟩:=hf it (by simp)
  have hl:=rv.length
  exact wpAny_pyNext_list_end (I.ok.hd hc) st p.isList (by simp;omega) fun h' eb=>⟨rfl,I.turned (t':=s.toks) (fun b o hb e=>eb b o hb e) f0 f1 f3 f4 f5⟩
 self:=fun _ _ _ _ _ st h=>wpAny_pyIter_listiter st h
theorem zkH {P:Program} {w:World} {K:PySem.W.Frag} {tg:Expr} (it:Addr) (lo:Int) (n:Nat):Turn P w K tg (Itr lo n) [it] it (fun i h=>IsRangeIter h it (lo+(i:Nat)*1) ((n:Int)-(i:Nat)) 1) where
 mem:=by simp
 obj:=fun i h st b hb=>by
  have e:b=it:=by simpa using hb
  subst e
  exact ⟨_,st,fun v z=>by
   have z':Data.fields _=Data.cell v:=z
   cases z'⟩
 keep:=fun i h h' st k=>k it (by simp) _ st
 item:=by
  intro X hP hw hK hc i pins s σ H E I hf st hg
  subst hP hw hK
  obtain ⟨f0,f1,f2,f3,f4,f5⟩:=hf it (by simp)
  have W:=Walks.range (prog:=X.prog) (w:=X.w) (I.ok.hd hc) it lo 1 n
  refine W.item i s _ _ hg st fun v h' tk hv st' kk=>?_
  obtain ⟨t,rfl⟩:=hv
  have I1:Inv X pins σ H { s with heap:=h',toks:=tk }:=I.turned (fun b o hb e=>kk b o (by simpa using hb) e) f0 f1 f3 f4 f5
  refine ⟨_,rfl,zpD (s:={ s with heap:=h',toks:=tk }) (n:="range_iterator") st' rfl rfl (by decide) ⟨.int (lo+i),H,I1,⟨t,?_⟩,⟨rfl,rfl⟩,st',fun b hb=>(hf b hb).1⟩⟩
  rw [Int.mul_one]
 done:=by
  intro X hP hw hK hc i pins s σ H E I hf st hg
  subst hP hw hK
  obtain ⟨f0,f1,f2,f3,f4,f5⟩:=hf it (by simp)
  exact wpAny_pyNext_range_end (I.ok.hd hc) st (by have:n≤i:=hg;omega) fun h' eb=>⟨rfl,I.turned (t':=s.toks) (fun b o hb e=>eb b o hb e) f0 f1 f3 f4 f5⟩
 self:=fun _ _ _ _ _ st h=>wpAny_pyIter_rangeiter st h
end L2
namespace L2
open PySem PySem.Spec PyProof.Rows
section
variable {X:Cx} {tg:Expr}
def zrt (K:PySem.W.Frag) (tl:TE):TI:=fun σ H R=>tl σ H fun x H1=>∃ a,x=.ref a∧(∃ xs,SqL K H1 a xs)∧R (Itl K a) H1
theorem zaS {l:Expr} {tl:TE} (hl:PE X l tl):PI X tg l (zrt X.K tl):=by
 intro pins s σ H R I h
 refine thn (hl pins s σ H _ I h) fun v s1 ⟨x,H1,I1,r1,q1⟩=>?_
 obtain ⟨a,e,⟨xs,hq⟩,q⟩:=q1
 subst e
 cases r1
 obtain ⟨its,rv,p,hz⟩:=I1.list hq
 refine wpAny_pyIter_list p.isList ?_
 refine ⟨s1.heap.objs.size,[s1.heap.objs.size],_,_,H1,rfl,I1.kept (t':=s1.toks) fun b o e=>Heap.get?_push_of_some _ e,zlz a _,⟨_,Heap.get?_push_size _ rfl,rfl,rfl⟩,fun b hb=>?_,q⟩
 have e:b=s1.heap.objs.size:=by simpa using hb
 subst e
 exact I1.fpOk (Nat.le_refl _) (I1.hok.fresh (Nat.le_refl _))
theorem znr {pins:List (Addr×Obj)} {σ:St} {H:Hp} {s:Shared} {R:It→Hp→Prop} {E:Value→Shared→Prop} {lo hi:Int} {t u v:Tok} {tk:Nat} (I:Inv X pins σ H s) (h1 : -(2^62)≤lo) (h2:lo<2^62) (h3 : -(2^62)≤hi) (h4:hi<2^62)
  (q:R (Itr lo (hi-lo).toNat) H):wpAny (model X.prog X.w) X.A (pyIter (.ref s.heap.objs.size)) (PIE X pins σ tg R) E { s with heap:=s.heap.push { cls:=.type "range",data:=.fields #[.int lo t,.int hi u,.int 1 v] },toks:=tk }:=by
 refine wpAny_pyIter_range (IsRange.new ..) (small_one h1 h2 h3 h4) ?_
 have I1:Inv X pins σ H { s with heap:=s.heap.push { cls:=.type "range",data:=.fields #[.int lo t,.int hi u,.int 1 v] },toks:=tk }:=I.kept fun b o e=>Heap.get?_push_of_some _ e
 refine ⟨(s.heap.push { cls:=.type "range",data:=.fields #[.int lo t,.int hi u,.int 1 v] }).objs.size,[(s.heap.push { cls:=.type "range",data:=.fields #[.int lo t,.int hi u,.int 1 v] }).objs.size],_,_,H,rfl,
  I1.kept (t':=tk) fun b o e=>Heap.get?_push_of_some _ e,zkH _ lo (hi-lo).toNat,?_,fun b hb=>?_,q⟩
 ·have e1:lo+((0:Nat):Int)*1=lo:=by simp
  have e2:(((hi-lo).toNat:Nat):Int)-((0:Nat):Int)=Builtin.Range.rangeSize lo hi 1:=by rw [rangeSize_one];split <;> omega
  show IsRangeIter _ _ (lo+((0:Nat):Int)*1) ((((hi-lo).toNat:Nat):Int)-((0:Nat):Int)) 1
  rw [e1,e2]
  exact Heap.get?_push_size _ rfl
 ·have e:b=(s.heap.push { cls:=.type "range",data:=.fields #[.int lo t,.int hi u,.int 1 v] }).objs.size:=by simpa using hb
  subst e
  exact I1.fpOk (Nat.le_refl _) (I1.hok.fresh (Nat.le_refl _))
def zrs (ta:TA):TI:=fun σ H R=>ta σ H fun vs H1=>∃ j:Int,vs=[.int j]∧-(2^62)≤j∧j<2^62∧R (Itr 0 j.toNat) H1
theorem zbo {a:Expr} {ta:TA} {p pos:Pos} (hg:Gl X "range") (hm:X.mg "range" = none) (ha:PA X [a] ta) (hs:starEach [a] X.env=[(false,eval a X.env)]:=by rfl):PI X tg (.Call (.Name "range" p) [a] [] pos) (zrs ta):=by
 intro pins s σ H R I h
 refine Call_ (zfS I hg hm boot_range (PyProof.Rows.callWith_type1 (thn (ha pos pins s σ H _ I h) fun us s1 ⟨vs,H1,I1,r1,q1⟩=>?_) hs rfl))
 obtain ⟨j,e,q1,q2,q⟩:=q1
 subst e
 cases r1 with
 | cons r rr =>
  cases rr
  obtain ⟨t,rfl⟩:=r
  exact call_range_1 (znr I1 (by omega) (by omega) q1 q2 (by simpa using q))
def tFor (wi:TI) (g:TG) (tb:TS):TS:=fun D σ H=>wi σ H fun J H1=>∃ W:Nat→Nat→St→Hp→Prop,(∃ m,W 0 m σ H1)∧∀ i m σ H,W i m σ H →
 (J.stop i H∧D.nx σ H)∨(J.go i H∧∃ N:St→Hp→Prop,(∀ σ' H',N σ' H'→∃ m',m' < m∧W (i+1) m' σ' H')∧∀ x H',J.yld i H x H'→g x σ H' fun σ2 H2=>tb { D with nx:=N,ct:=N,bk:=D.nx } σ2 H2)
def zeT (fp:List Addr) (h:Heap):List (Addr×Obj):=fp.filterMap fun b=>(h.get? b).map fun o=>(b,o)
theorem zeu {fp:List Addr} {h:Heap} {b:Addr} {o:Obj} (hb:b∈fp) (e:h.get? b=some o):(b,o)∈zeT fp h:=List.mem_filterMap.mpr ⟨b,hb,by rw [e];rfl⟩
theorem ziN {fp:List Addr} {h:Heap} {p:Addr×Obj} (hp:p∈zeT fp h):p.1∈fp∧h.get? p.1=some p.2:=by
 obtain ⟨b,hb,e⟩:=List.mem_filterMap.mp hp
 cases q:h.get? b with
 | none=>rw [q] at e;cases e
 | some o =>
  rw [q] at e
  have e':(b,o)=p:=Option.some.inj e
  subst e'
  exact ⟨hb,q⟩
theorem Inv.pinned {pins:List (Addr×Obj)} {σ:St} {H:Hp} {s:Shared} {fp:List Addr} (I:Inv X pins σ H s) (hf:∀ b∈fp,FpOk X pins H b) (ho:∀ b∈fp,∃ o,s.heap.get? b=some o∧∀ v,o.data≠.cell v):Inv X (pins++zeT fp s.heap) σ H s :=
 I.zg7 fun p hp=>(List.mem_append.mp hp).elim (fun z=>I.pin p (List.mem_append_right _ z)) fun z=>by
  obtain ⟨hb,e⟩:=ziN z
  obtain ⟨f0,f1,f2,_⟩:=hf p.1 hb
  obtain ⟨o,e',d⟩:=ho p.1 hb
  rw [e] at e';cases e'
  exact ⟨e,f0,f1,f2,d⟩
theorem Inv.zeL {pins pl:List (Addr×Obj)} {σ:St} {H:Hp} {s:Shared} (I:Inv X (pins++pl) σ H s):Inv X pins σ H s:=I.zg7 fun p hp=>I.pin p (List.mem_append_right _ (List.mem_append_left _ hp))
theorem zdd {iter:Expr} {body:List Stmt} {wi:TI} {g:TG} {tb:TS} {pos:Pos} (hp:PassesOwn (model X.prog X.w) X.A X.env X.xe) (hc:X.calm=true) (hi:PI X tg iter wi) (hg:PG X tg g) (hb:PSs X body tb)
  (hs:∀ x,foldedSetIterable iter X.env x=pure x:=by intro _;rfl):PS X (.For tg iter body [] pos) (tFor wi g tb):=by
 intro pins s σ H D I h
 refine wpAny_For (thn (hi pins s σ H _ I h) fun v s1 h1=>thn h1 fun itv s2 h2=>?_) hs
 obtain ⟨it,fp,tn,J,H2,e,I2,T,st2,f2,W,⟨m0,w0⟩,turn⟩:=h2
 subst e
 have stat:∀ {H':Hp},(∀ b∈fp,H' b=none)→∀ b∈fp,FpOk X pins H' b:=fun hn b hb=>⟨hn b hb,(f2 b hb).2⟩
 refine codeAny_forLoop_any (fun n s'=>∃ i σ' H',Inv X pins σ' H' s'∧tn i s'.heap∧(∀ b∈fp,H' b=none)∧W i n σ' H') ?_ m0 ⟨0,σ,H2,I2,st2,fun b hb=>(f2 b hb).1,w0⟩
 rintro n s3 ⟨i,σ3,H3,I3,st3,fr3,w3⟩
 rcases turn i n σ3 H3 w3 with ⟨stop,qn⟩ | ⟨go,N,hN,step⟩
 ·refine wpAny_passesOwn hp (thn (T.done X rfl rfl rfl hc i pins s3 σ3 H3 X.xe I3 (stat fr3) st3 stop) fun r s4 ⟨hr,I4⟩=>?_)
  subst hr
  exact wpAny_execs_nil ⟨σ3,H3,I4,qn⟩
 ·refine wpAny_passesOwn hp (thn (T.item X rfl rfl rfl hc i pins s3 σ3 H3 X.xe I3 (stat fr3) st3 go) fun r s4 ⟨u,hr,h4⟩=>?_)
  subst hr
  refine wpAny_passesOwn hp (thn h4 fun _ s5 ⟨x,H5,I5,r5,y5,st5,fr5⟩=>?_)
  have I5':=I5.pinned (stat fr5) (T.obj _ _ st5)
  refine wpAny_passesOwn hp (thn (hg _ s5 σ3 H5 x u _ I5' r5 (step x H5 y5)) fun _ s6 ⟨σ6,H6,I6,q6⟩=>?_)
  refine wpAny_passesOwn hp (thn (hb _ s6 σ6 H6 _ I6 q6) fun f s7 q7=>?_)
  have again:∀ {σ7:St} {H7:Hp},Inv X (pins++zeT fp s5.heap) σ7 H7 s7→N σ7 H7→∃ m,m<n∧∃ i σ' H',Inv X pins σ' H' s7∧tn i s7.heap∧(∀ b∈fp,H' b=none)∧W i m σ' H':=fun {σ7 H7} I7 n7=>by
   obtain ⟨m',hm,w7⟩:=hN σ7 H7 n7
   refine ⟨m',hm,i+1,σ7,H7,I7.zeL,T.keep _ _ _ st5 fun b hb o e=>(I7.pin (b,o) (List.mem_append_right _ (List.mem_append_right _ (zeu hb e)))).1,fun b hb=>?_,w7⟩
   obtain ⟨o,e,d⟩:=T.obj _ _ st5 b hb
   exact (I7.pin (b,o) (List.mem_append_right _ (List.mem_append_right _ (zeu hb e)))).2.1
  cases f with
  | next=>obtain ⟨σ7,H7,I7,n7⟩:=q7;exact again I7 n7
  | cont=>obtain ⟨σ7,H7,I7,n7⟩:=q7;exact again I7 n7
  | brk=>obtain ⟨σ7,H7,I7,q7⟩:=q7;exact ⟨σ7,H7,I7.zeL,q7⟩
  | ret v=>obtain ⟨x7,σ7,H7,I7,r7,q7⟩:=q7;exact ⟨x7,σ7,H7,I7.zeL,r7,q7⟩
end
theorem zdQ {K:PySem.W.Frag} {a:Addr} {xs:List V} {g:TG} {tb:TS} {D:Ends} {σ:St} {H:Hp} (Pv:Nat→St→Hp→Prop) (h0:Pv 0 σ H) (hl:∀ i σ H,i≤xs.length→Pv i σ H→SqL K H a xs)
  (hs:∀ i x σ H,xs[i]? = some x→Pv i σ H→g x σ H fun σ2 H2=>tb { D with nx:=Pv (i+1),ct:=Pv (i+1),bk:=D.nx } σ2 H2) (hd:∀ σ H,Pv xs.length σ H→D.nx σ H) :
  ∃ W:Nat→Nat→St→Hp→Prop,(∃ m,W 0 m σ H)∧∀ i m σ H,W i m σ H →
   ((Itl K a).stop i H∧D.nx σ H)∨((Itl K a).go i H∧∃ N:St→Hp→Prop,(∀ σ' H',N σ' H'→∃ m',m' < m∧W (i+1) m' σ' H')∧∀ x H',(Itl K a).yld i H x H'→g x σ H' fun σ2 H2=>tb { D with nx:=N,ct:=N,bk:=D.nx } σ2 H2):=by
 refine ⟨fun i m σ H=>m=xs.length-i∧i≤xs.length∧Pv i σ H,⟨xs.length,by simp,Nat.zero_le _,h0⟩,?_⟩
 rintro i m σ H ⟨rfl,hi,p⟩
 have q:=hl i σ H hi p
 by_cases hlt:i<xs.length
 ·refine .inr ⟨⟨xs,xs[i],q,by simp [hlt]⟩,Pv (i+1),fun σ' H' p'=>⟨xs.length-(i+1),by omega,rfl,hlt,p'⟩,fun x H' y=>?_⟩
  obtain ⟨e,y⟩:=y
  subst e
  exact hs i x σ _ (y xs q) p
 ·have e:i=xs.length:=by omega
  subst e
  exact .inl ⟨⟨xs,q,Nat.le_refl _⟩,hd σ H p⟩
theorem zdG {lo:Int} {n:Nat} {g:TG} {tb:TS} {D:Ends} {σ:St} {H:Hp} (Pv:Nat→St→Hp→Prop) (h0:Pv 0 σ H)
  (hs:∀ i σ H,i<n→Pv i σ H→g (.int (lo+i)) σ H fun σ2 H2=>tb { D with nx:=Pv (i+1),ct:=Pv (i+1),bk:=D.nx } σ2 H2) (hd:∀ σ H,Pv n σ H→D.nx σ H) :
  ∃ W:Nat→Nat→St→Hp→Prop,(∃ m,W 0 m σ H)∧∀ i m σ H,W i m σ H →
   ((Itr lo n).stop i H∧D.nx σ H)∨((Itr lo n).go i H∧∃ N:St→Hp→Prop,(∀ σ' H',N σ' H'→∃ m',m' < m∧W (i+1) m' σ' H')∧∀ x H',(Itr lo n).yld i H x H'→g x σ H' fun σ2 H2=>tb { D with nx:=N,ct:=N,bk:=D.nx } σ2 H2):=by
 refine ⟨fun i m σ H=>m=n-i∧i≤n∧Pv i σ H,⟨n,by simp,Nat.zero_le _,h0⟩,?_⟩
 rintro i m σ H ⟨rfl,hi,p⟩
 by_cases hlt:i<n
 ·refine .inr ⟨hlt,Pv (i+1),fun σ' H' p'=>⟨n-(i+1),by omega,rfl,hlt,p'⟩,fun x H' y=>?_⟩
  obtain ⟨e,y⟩:=y
  subst e y
  exact hs i σ _ hlt p
 ·have e:i=n:=by omega
  subst e
  exact .inl ⟨Nat.le_refl _,hd σ H p⟩
theorem zhI {c:TT} {tb:TS} {D:Ends} {σ:St} {H:Hp} (Pv:St→Hp→Prop) (μ:St→Hp→Nat) (h0:Pv σ H)
  (hs:∀ σ H,Pv σ H→c σ H fun b H1=>if b=true then tb { D with nx:=fun σ' H'=>Pv σ' H'∧μ σ' H' < μ σ H,ct:=fun σ' H'=>Pv σ' H'∧μ σ' H' < μ σ H,bk:=D.nx } σ H1 else D.nx σ H1)
  (mono:∀ σ H Q Q',(∀ b H1,Q b H1→Q' b H1)→c σ H Q→c σ H Q'):zoz c tb D σ H:=by
 refine ⟨fun m σ H=>m=μ σ H∧Pv σ H,⟨_,rfl,h0⟩,?_⟩
 rintro m σ H ⟨rfl,p⟩
 refine mono σ H _ _ (fun b H1 q=>?_) (hs σ H p)
 cases b with
 | true=>exact ⟨_,fun σ' H' ⟨p',l⟩=>⟨_,l,rfl,p'⟩,q⟩
 | false=>exact q
end L2
namespace L2
open PySem PySem.Spec PyProof.Rows
abbrev R2:=V→V→Hp→VK→Prop
def OpR (X:Cx) (f:Value→Value→Sem Value) (r:R2):Prop :=
 ∀ (pins:List (Addr×Obj)) (s:Shared) (σ:St) (H:Hp) (x y:V) (v u:Value) (Q:VK),Inv X pins σ H s→RelV x v→RelV y u→r x y H Q →
  wpAny (model X.prog X.w) X.A (f v u) (EP X pins σ Q) X.xe s
def UnR (X:Cx) (f:Value→Sem Value) (r:V→Hp→VK→Prop):Prop :=
 ∀ (pins:List (Addr×Obj)) (s:Shared) (σ:St) (H:Hp) (x:V) (v:Value) (Q:VK),Inv X pins σ H s→RelV x v→r x H Q →
  wpAny (model X.prog X.w) X.A (f v) (EP X pins σ Q) X.xe s
def zf0 (X:Cx) (f:Value) (r:List V→Hp→VK→Prop):Prop :=
 ∀ (pins:List (Addr×Obj)) (s:Shared) (σ:St) (H:Hp) (xs:List V) (us:List Value) (Q:VK),Inv X pins σ H s→Vals xs us→r xs H Q →
  wpAny (model X.prog X.w) X.A (call f us) (EP X pins σ Q) X.xe s
def tOp (r:R2) (ta tb:TE):TE:=fun σ H Q=>ta σ H fun x H1=>tb σ H1 fun y H2=>r x y H2 Q
def tUn (r:V→Hp→VK→Prop) (ta:TE):TE:=fun σ H Q=>ta σ H fun x H1=>r x H1 Q
def rI (C:Int→Int→Prop) (g:Int→Int→V):R2:=fun x y H Q=>∃ i j,x=.int i∧y=.int j∧C i j∧Q (g i j) H
def rI0 (g:Int→Int→V):R2:=fun x y H Q=>∃ i j,x=.int i∧y=.int j∧Q (g i j) H
def rU (g:Int→V):V→Hp→VK→Prop:=fun x H Q=>∃ i,x=.int i∧Q (g i) H
section
variable {X:Cx} {a b c:Expr} {ta tb tc:TE} {pos:Pos}
theorem binT (ha:PE X a ta) (hb:PE X b tb) {pins:List (Addr×Obj)} {s:Shared} {σ:St} {H:Hp} {R:V→V→Hp→Prop} (I:Inv X pins σ H s)
  (h:ta σ H fun x H1=>tb σ H1 fun y H2=>R x y H2) {Q:Value→Shared→Prop} {f:Value→Value→Sem Value}
  (hf:∀ v u s2 x y H2,Inv X pins σ H2 s2→RelV x v→RelV y u→R x y H2→wpAny (model X.prog X.w) X.A (f v u) Q X.xe s2) :
  wpAny (model X.prog X.w) X.A (eval a X.env) (fun v s₁=>wpAny (model X.prog X.w) X.A (eval b X.env) (fun u s₂=>wpAny (model X.prog X.w) X.A (f v u) Q X.xe s₂) X.xe s₁) X.xe s:=by
 refine thn (ha pins s σ H _ I h) fun v s1 ⟨x,H1,I1,r1,q1⟩=>?_
 refine thn (hb pins s1 σ H1 _ I1 q1) fun u s2 ⟨y,H2,I2,r2,q2⟩=>?_
 exact hf v u s2 x y H2 I2 r1 r2 q2
theorem za1 {op:Operator} {r:R2} (ho:OpR X (binaryOp op) r) (ha:PE X a ta) (hb:PE X b tb):PE X (.BinOp a op b pos) (tOp r ta tb):=by
 intro pins s σ H Q I h
 exact wpAny_BinOp (binT ha hb I h fun v u s2 x y H2 I2 rx ry q=>ho pins s2 σ H2 x y v u Q I2 rx ry q)
theorem zpi {op:UnaryOp} {r:V→Hp→VK→Prop} (ho:UnR X (unaryOp op) r) (ha:PE X a ta):PE X (.UnaryOp op a pos) (tUn r ta):=by
 intro pins s σ H Q I h
 exact UnaryOp_ (thn (ha pins s σ H _ I h) fun v s1 ⟨x,H1,I1,r1,q1⟩=>ho pins s1 σ H1 x v Q I1 r1 q1)
theorem opI {f:Value→Value→Sem Value} {C:Int→Int→Prop} {g:Int→Int→Int}
  (rule:∀ (i j:Int) (t u:Tok) (s:Shared) (Q:Value→Shared→Prop) (E:Value→Shared→Prop),C i j→Q (.int (g i j) s.toks) { s with toks:=s.toks+1 }→wpAny (model X.prog X.w) X.A (f (.int i t) (.int j u)) Q E s) :
  OpR X f (rI C fun i j=>.int (g i j)):=by
 intro pins s σ H x y v u Q I rx ry h
 obtain ⟨i,j,rfl,rfl,hc,q⟩:=h
 obtain ⟨t,rfl⟩:=rx
 obtain ⟨t',rfl⟩:=ry
 exact rule i j t t' s _ _ hc ⟨.int (g i j),H,I.tok _,⟨_,rfl⟩,q⟩
theorem opI0 {f:Value→Value→Sem Value} {g:Int→Int→Int}
  (rule:∀ (i j:Int) (t u:Tok) (s:Shared) (Q:Value→Shared→Prop) (E:Value→Shared→Prop),Q (.int (g i j) s.toks) { s with toks:=s.toks+1 }→wpAny (model X.prog X.w) X.A (f (.int i t) (.int j u)) Q E s) :
  OpR X f (rI0 fun i j=>.int (g i j)):=by
 intro pins s σ H x y v u Q I rx ry h
 obtain ⟨i,j,rfl,rfl,q⟩:=h
 obtain ⟨t,rfl⟩:=rx
 obtain ⟨t',rfl⟩:=ry
 exact rule i j t t' s _ _ ⟨.int (g i j),H,I.tok _,⟨_,rfl⟩,q⟩
theorem opB0 {f:Value→Value→Sem Value} {g:Int→Int→Bool}
  (rule:∀ (i j:Int) (t u:Tok) (s:Shared) (Q:Value→Shared→Prop) (E:Value→Shared→Prop),Q (.bool (g i j)) s→wpAny (model X.prog X.w) X.A (f (.int i t) (.int j u)) Q E s) :
  OpR X f (rI0 fun i j=>.bl (g i j)):=by
 intro pins s σ H x y v u Q I rx ry h
 obtain ⟨i,j,rfl,rfl,q⟩:=h
 obtain ⟨t,rfl⟩:=rx
 obtain ⟨t',rfl⟩:=ry
 exact rule i j t t' s _ _ ⟨.bl (g i j),H,I,rfl,q⟩
def CDiv (i j:Int):Prop:=0<j∧j<1073741824
def CMul (i j:Int):Prop:=(-(2^64)<i∧i<2^64)∨(-(2^64)<j∧j<2^64)
theorem CMul.ok {i j:Int} (h:CMul i j):IntMulOk i j:=by
 rcases h with ⟨h1,h2⟩ | ⟨h1,h2⟩
 ·exact .of_left (intBits_le_64 h1 h2)
 ·exact .of_right (intBits_le_64 h1 h2)
theorem zb5:OpR X (binaryOp .Add) (rI0 fun i j=>.int (i+j)):=opI0 fun _ _ _ _ _ _ _ q=>add_int q
theorem zh4:OpR X (binaryOp .Sub) (rI0 fun i j=>.int (i-j)):=opI0 fun _ _ _ _ _ _ _ q=>sub_int q
theorem zh5:OpR X (binaryOp .Mult) (rI CMul fun i j=>.int (i*j)):=opI fun _ _ _ _ _ _ _ hc q=>mul_int q hc.ok
theorem zc9:OpR X (binaryOp .FloorDiv) (rI CDiv fun i j=>.int (i/j)):=opI fun i j _ _ _ _ _ hc q=>by
 have h1:(0:Int)<j:=hc.1
 have h2:j<1073741824:=hc.2
 exact floordiv_int (by omega) (by rw [Int.fdiv_eq_ediv_of_nonneg i (by omega)];exact q) (.inl (PyProof.noPylong_small (by omega)))
theorem zbk:OpR X (binaryOp .Mod) (rI (fun _ j=>0<j) fun i j=>.int (i % j)):=opI fun i j _ _ _ _ _ hc q=>by
 have h1:(0:Int)<j:=hc
 exact mod_int' (by omega) (by rw [Int.fmod_eq_emod_of_nonneg i (by omega)];exact q)
theorem unI {f:Value→Sem Value} {g:Int→Int}
  (rule:∀ (i:Int) (t:Tok) (s:Shared) (Q:Value→Shared→Prop) (E:Value→Shared→Prop),Q (.int (g i) s.toks) { s with toks:=s.toks+1 }→wpAny (model X.prog X.w) X.A (f (.int i t)) Q E s) :
  UnR X f (rU fun i=>.int (g i)):=by
 intro pins s σ H x v Q I rx h
 obtain ⟨i,rfl,q⟩:=h
 obtain ⟨t,rfl⟩:=rx
 exact rule i t s _ _ ⟨.int (g i),H,I.tok _,⟨_,rfl⟩,q⟩
theorem zly:UnR X (unaryOp .USub) (rU fun i=>.int (-i)):=unI fun _ _ _ _ _ q=>neg_int q
end
def scal:V→V→Bool
 | .non,.non=>true | .non,.int _=>true | .int _,.non=>true | .non,.bl _=>true | .bl _,.non=>true | .non,.str _=>true | .str _,.non=>true
 | .int _,.int _=>true | .bl _,.bl _=>true | .str _,.str _=>true | .byt _,.byt _=>true
 | .int _,.str _=>true | .str _,.int _=>true | .bl _,.str _=>true | .str _,.bl _=>true
 | _,_=>false
def rEq:R2:=fun x y H Q=>scal x y=true∧Q (.bl (decide (x=y))) H
def rNe:R2:=fun x y H Q=>scal x y=true∧Q (.bl (!decide (x=y))) H
theorem zmD {i j:Int}:decide (V.int i=V.int j)=(i==j):=by
 rw [Bool.eq_iff_iff]
 simp
theorem zmF {i j:Bool}:decide (V.bl i=V.bl j)=(i==j):=by
 rw [Bool.eq_iff_iff]
 simp
theorem zmC {i j:Str}:decide (V.str i=V.str j)=(i==j):=by
 rw [Bool.eq_iff_iff]
 simp
theorem zmE {i j:Array UInt8}:decide (V.byt i=V.byt j)=(i.toList==j.toList):=by
 rw [Bool.eq_iff_iff]
 cases i
 cases j
 simp
section
variable {X:Cx} {a b c:Expr} {ta tb tc:TE} {pos:Pos}
theorem zaT {pins:List (Addr×Obj)} {σ:St} {H:Hp} {s:Shared} {Q:VK} {k k':Bool} (I:Inv X pins σ H s) (q:Q (.bl k) H) (e:k=k'):EP X pins σ Q (.bool k') s:=by
 subst e
 exact ⟨.bl k,H,I,rfl,q⟩
theorem zcd:OpR X (compareOp .Eq) rEq:=by
 intro pins s σ H x y v u Q I rx ry h
 obtain ⟨hs,q⟩:=h
 cases x with
 | non =>
  cases rx
  cases y with
  | non=>cases ry;exact PySem.EqNone.eq_none_none (zaT I q (by simp))
  | bl j=>cases ry;exact PySem.EqNone.eq_none_bool (zaT I q (by simp))
  | int j=>obtain ⟨t',rfl⟩:=ry;exact PySem.EqNone.eq_none_int (zaT I q (by simp))
  | str j=>obtain ⟨t',rfl⟩:=ry;exact PySem.EqNone.eq_none_str (zaT I q (by simp))
  | _=>exact absurd (show false=true from hs) Bool.false_ne_true
 | bl i =>
  cases rx
  cases y with
  | non=>cases ry;exact PySem.EqNone.eq_bool_none (zaT I q (by simp))
  | bl j=>cases ry;exact eq_bool (zaT I q zmF)
  | str j=>obtain ⟨t',rfl⟩:=ry;exact PySem.EqMixed.eq_bool_str (zaT I q (by simp))
  | _=>exact absurd (show false=true from hs) Bool.false_ne_true
 | int i =>
  obtain ⟨t,rfl⟩:=rx
  cases y with
  | non=>cases ry;exact PySem.EqNone.eq_int_none (zaT I q (by simp))
  | int j=>obtain ⟨t',rfl⟩:=ry;exact eq_int (zaT I q zmD)
  | str j=>obtain ⟨t',rfl⟩:=ry;exact PySem.EqMixed.eq_int_str (zaT I q (by simp))
  | _=>exact absurd (show false=true from hs) Bool.false_ne_true
 | str i =>
  obtain ⟨t,rfl⟩:=rx
  cases y with
  | non=>cases ry;exact PySem.EqNone.eq_str_none (zaT I q (by simp))
  | bl j=>cases ry;exact PySem.EqMixed.eq_str_bool (zaT I q (by simp))
  | int j=>obtain ⟨t',rfl⟩:=ry;exact PySem.EqMixed.eq_str_int (zaT I q (by simp))
  | str j=>obtain ⟨t',rfl⟩:=ry;exact eq_str (zaT I q zmC)
  | _=>exact absurd (show false=true from hs) Bool.false_ne_true
 | byt i =>
  obtain ⟨t,rfl⟩:=rx
  cases y with
  | byt j=>obtain ⟨t',rfl⟩:=ry;exact PySem.W.eq_bytes (zaT I q zmE)
  | _=>exact absurd (show false=true from hs) Bool.false_ne_true
 | _=>cases y <;> exact absurd (show false=true from hs) Bool.false_ne_true
theorem zhh:OpR X (compareOp .NotEq) rNe:=by
 intro pins s σ H x y v u Q I rx ry h
 obtain ⟨hs,q⟩:=h
 cases x with
 | non =>
  cases rx
  cases y with
  | non=>cases ry;exact PySem.EqNone.ne_none_none (zaT I q (by simp))
  | bl j=>cases ry;exact PySem.EqNone.ne_none_bool (zaT I q (by simp))
  | int j=>obtain ⟨t',rfl⟩:=ry;exact PySem.EqNone.ne_none_int (zaT I q (by simp))
  | str j=>obtain ⟨t',rfl⟩:=ry;exact PySem.EqNone.ne_none_str (zaT I q (by simp))
  | _=>exact absurd (show false=true from hs) Bool.false_ne_true
 | bl i =>
  cases rx
  cases y with
  | non=>cases ry;exact PySem.EqNone.ne_bool_none (zaT I q (by simp))
  | bl j=>cases ry;exact ne_bool (zaT I q (congrArg not zmF))
  | str j=>obtain ⟨t',rfl⟩:=ry;exact PySem.EqMixed.ne_bool_str (zaT I q (by simp))
  | _=>exact absurd (show false=true from hs) Bool.false_ne_true
 | int i =>
  obtain ⟨t,rfl⟩:=rx
  cases y with
  | non=>cases ry;exact PySem.EqNone.ne_int_none (zaT I q (by simp))
  | int j=>obtain ⟨t',rfl⟩:=ry;exact ne_int (zaT I q (congrArg not zmD))
  | str j=>obtain ⟨t',rfl⟩:=ry;exact PySem.EqMixed.ne_int_str (zaT I q (by simp))
  | _=>exact absurd (show false=true from hs) Bool.false_ne_true
 | str i =>
  obtain ⟨t,rfl⟩:=rx
  cases y with
  | non=>cases ry;exact PySem.EqNone.ne_str_none (zaT I q (by simp))
  | bl j=>cases ry;exact PySem.EqMixed.ne_str_bool (zaT I q (by simp))
  | int j=>obtain ⟨t',rfl⟩:=ry;exact PySem.EqMixed.ne_str_int (zaT I q (by simp))
  | str j=>obtain ⟨t',rfl⟩:=ry;exact ne_str (zaT I q (congrArg not zmC))
  | _=>exact absurd (show false=true from hs) Bool.false_ne_true
 | byt i =>
  obtain ⟨t,rfl⟩:=rx
  cases y with
  | byt j=>obtain ⟨t',rfl⟩:=ry;exact PySem.W.ne_bytes (zaT I q (congrArg not zmE))
  | _=>exact absurd (show false=true from hs) Bool.false_ne_true
 | _=>cases y <;> exact absurd (show false=true from hs) Bool.false_ne_true
theorem znz:OpR X (compareOp .Lt) (rI0 fun i j=>.bl (decide (i<j))):=opB0 fun _ _ _ _ _ _ _ q=>lt_int q
theorem zn0:OpR X (compareOp .LtE) (rI0 fun i j=>.bl (decide (i≤j))):=opB0 fun _ _ _ _ _ _ _ q=>le_int q
theorem zlU:OpR X (compareOp .Gt) (rI0 fun i j=>.bl (decide (j<i))):=opB0 fun _ _ _ _ _ _ _ q=>gt_int q
theorem zrn:OpR X (compareOp .GtE) (rI0 fun i j=>.bl (decide (j≤i))):=opB0 fun _ _ _ _ _ _ _ q=>ge_int q
theorem zqv:OpR X (compareOp .Is) (fun x y H Q=>y=.non∧Q (.bl (decide (x=.non))) H):=by
 intro pins s σ H x y v u Q I rx ry h
 obtain ⟨rfl,q⟩:=h
 cases ry
 refine is_none_gen (zaT I q ?_)
 cases x <;> first
  | (cases rx;rfl)
  | (obtain ⟨t,rfl⟩:=rx;rfl)
theorem za0 (b:Expr) {op:CmpOp} (h:op≠.In:=by decide) (h2:op≠.NotIn:=by decide):behindInMarks op b=false:=by
 have e1:(op==CmpOp.In)=false:=by cases op <;> first | rfl | exact absurd rfl h
 have e2:(op==CmpOp.NotIn)=false:=by cases op <;> first | rfl | exact absurd rfl h2
 cases b <;> simp [behindInMarks,e1,e2]
theorem zaM {op:CmpOp} {r:R2} (ho:OpR X (compareOp op) r) (ha:PE X a ta) (hb:PE X b tb) (hm:behindInMarks op b=false):PE X (.Compare a [op] [b] pos) (tOp r ta tb):=by
 intro pins s σ H Q I h
 exact wpAny_Compare1 (binT ha hb I h fun v u s2 x y H2 I2 rx ry q=>ho pins s2 σ H2 x y v u Q I2 rx ry q) hm
def zqb (t:TE):TT:=fun σ H Q=>t σ H fun x H'=>∃ k,x=.bl k∧Q k H'
theorem zat {op:CmpOp} {r:R2} (ho:OpR X (compareOp op) r) (ha:PE X a ta) (hb:PE X b tb) (hm:behindInMarks op b=false):PT X (.Compare a [op] [b] pos) (zqb (tOp r ta tb)):=by
 intro pins s σ H Q I h
 refine wpAny_isTrue_Compare1 (thn (ha pins s σ H _ I h) fun v s1 ⟨x,H1,I1,r1,q1⟩=>thn (hb pins s1 σ H1 _ I1 q1) fun u s2 ⟨y,H2,I2,r2,q2⟩ =>
  thn (ho pins s2 σ H2 x y v u _ I2 r1 r2 q2) fun c s3 ⟨z,H3,I3,r3,k,e,q3⟩=>?_) hm
 subst e
 cases r3
 exact wpAny_truthy_bool ⟨H3,I3,q3⟩
def zo0 (r r':R2) (ta tb tc:TE):TE:=fun σ H Q=>ta σ H fun x H1=>tb σ H1 fun y H2=>r x y H2 fun z H3=>∃ k,z=.bl k ∧
 (if k=true then tc σ H3 fun w' H4=>r' y w' H4 Q else Q (.bl false) H3)
theorem zny {op op':CmpOp} {r r':R2} (ho:OpR X (compareOp op) r) (ho':OpR X (compareOp op') r') (ha:PE X a ta) (hb:PE X b tb) (hc:PE X c tc)
  (hm:lastMarks [op,op'] [b,c]=false:=by with_unfolding_all rfl):PE X (.Compare a [op,op'] [b,c] pos) (zo0 r r' ta tb tc):=by
 intro pins s σ H Q I h
 refine Compare_chain (thn (ha pins s σ H _ I h) fun v s1 ⟨x,H1,I1,r1,q1⟩=>chain_link (thn (hb pins s1 σ H1 _ I1 q1) fun u s2 ⟨y,H2,I2,r2,q2⟩ =>
  thn (ho pins s2 σ H2 x y v u _ I2 r1 r2 q2) fun d s3 ⟨z,H3,I3,r3,k,e,q3⟩=>?_)) hm
 subst e
 cases r3
 refine wpAny_truthy_bool ?_
 cases k with
 | false=>exact ite_ff ⟨.bl false,H3,I3,rfl,q3⟩
 | true=>exact ite_tt (chain_last (thn (hc pins s3 σ H3 _ I3 q3) fun w' s4 ⟨z',H4,I4,r4,q4⟩=>ho' pins s4 σ H4 y z' u w' Q I4 r2 r4 q4))
theorem znw {op op':CmpOp} {r r':R2} (ho:OpR X (compareOp op) r) (ho':OpR X (compareOp op') r') (ha:PE X a ta) (hb:PE X b tb) (hc:PE X c tc)
  (hm:lastMarks [op,op'] [b,c]=false:=by with_unfolding_all rfl):PT X (.Compare a [op,op'] [b,c] pos) (zqb (zo0 r r' ta tb tc)):=by
 intro pins s σ H Q I h
 refine isTrue_chain (thn (ha pins s σ H _ I h) fun v s1 ⟨x,H1,I1,r1,q1⟩=>test_link (thn (hb pins s1 σ H1 _ I1 q1) fun u s2 ⟨y,H2,I2,r2,q2⟩ =>
  thn (ho pins s2 σ H2 x y v u _ I2 r1 r2 q2) fun d s3 ⟨z,H3,I3,r3,k,e,q3⟩=>?_)) hm
 subst e
 cases r3
 refine wpAny_truthy_bool ?_
 cases k with
 | false =>
  obtain ⟨k',e',q'⟩:=q3
  cases e'
  exact ite_ff ⟨H3,I3,q'⟩
 | true =>
  refine ite_tt (test_last (thn (hc pins s3 σ H3 _ I3 q3) fun w' s4 ⟨z',H4,I4,r4,q4⟩=>thn (ho' pins s4 σ H4 y z' u w' _ I4 r2 r4 q4) fun d' s5 ⟨z2,H5,I5,r5,k2,e2,q5⟩=>?_))
  subst e2
  cases r5
  exact wpAny_truthy_bool ⟨H5,I5,q5⟩
theorem zkz:(sizeLine:Nat)<2^63:=by rw [sizeLine_eq];decide
theorem vals1 {x:V} {us:List Value} (r:Vals [x] us):∃ u,us=[u]∧RelV x u:=by
 cases r with
 | cons r1 r2=>cases r2;exact ⟨_,rfl,r1⟩
theorem zgn:zf0 X (.builtin "abs") (fun xs H Q=>∃ i,xs=[.int i]∧Q (.int (if i<0 then -i else i)) H):=by
 intro pins s σ H xs us Q I r h
 obtain ⟨i,rfl,q⟩:=h
 obtain ⟨u,rfl,t,rfl⟩:=vals1 r
 exact call_abs_int fun u tk=>⟨.int (if i<0 then -i else i),H,I.tok _,⟨_,rfl⟩,q⟩
theorem zei:zf0 X (.type "int") (fun xs H Q=>(∃ i,xs=[.int i]∧Q (.int i) H)∨∃ k,xs=[.bl k]∧Q (.int (if k then 1 else 0)) H):=by
 intro pins s σ H xs us Q I r h
 rcases h with ⟨i,rfl,q⟩ | ⟨k,rfl,q⟩
 ·obtain ⟨u,rfl,t,rfl⟩:=vals1 r
  exact call_int_int ⟨.int i,H,I,⟨_,rfl⟩,q⟩
 ·obtain ⟨u,rfl,r1⟩:=vals1 r
  cases r1
  exact call_int_bool ⟨.int (if k then 1 else 0),H,I.tok _,⟨_,rfl⟩,q⟩
end
end L2
namespace L2
open PySem PySem.Spec PyProof.Rows
structure ObjM (h:Heap) (x dx C:Addr) (mA:Str→Option Value):Prop where
 obj:h.get? x=some (PySem.W.instObj C dx)
 ns:h.Ns1 dx mA
 ne:dx≠x
theorem zmj {h:Heap} {dx:Addr} {mA:Str→Option Value} (n:h.Ns1 dx mA):∃ od,h.get? dx=some od∧∀ name,PySem.W.lookIn name od=some (mA name):=by
 obtain ⟨o,es,ep,ho,hd,hk,_,hm⟩:=n
 refine ⟨o,ho,fun name=>?_⟩
 have e:=hm name
 unfold nsFind findBy at e
 rw [← Array.find?_toList] at e
 unfold PySem.W.lookIn
 rw [hd]
 dsimp only
 split
 ·rename_i y q
  rw [q] at e
  exact congrArg some e
 ·rename_i q
  rw [q] at e
  have a:es.toList.any (·.refKey)=false:=by
   rw [List.any_eq_false]
   intro y hy
   obtain ⟨z,t,hkey⟩:=hk y (Array.mem_toList_iff.mp hy)
   simp [DictEntry.refKey,hkey]
  have a':¬ es.toList.any (·.refKey)=true:=by rw [a];exact Bool.false_ne_true
  rw [if_neg a']
  exact congrArg some e
theorem ObjM.look {h:Heap} {x dx C:Addr} {mA:Str→Option Value} (I:ObjM h x dx C mA):∃ od,PySem.W.InstAt h x (PySem.W.instObj C dx) C (some od)∧∀ name,PySem.W.lookIn name od=some (mA name) :=
 let ⟨od,ho,hl⟩:=zmj I.ns
 ⟨od,⟨I.obj,rfl,rfl,ho⟩,hl⟩
section
variable {prog:Program} {w:World} {A:Around} {E:Value→Shared→Prop} {s:Shared} {K:PySem.W.Frag} {x dx C f:Addr} {mA:Str→Option Value} {name:Str} {v:Value}
theorem get_map {expr:Bool} {Q:Value→Shared→Prop} (X:K.In s.heap) (I:ObjM s.heap x dx C mA) (hg:PySem.W.plainGet K C name=true) (hh:PySem.W.hasDictIn K C=true)
  (ha:PySem.W.findIn K (.ref C) name=some none) (hv:mA name=some v) (hv':PySem.W.handedIn v=true) (h:Q v { s with toks:=s.toks+1 }) :
  wpAny (model prog w) A (getAttr (.ref x) name expr) Q E s:=by
 obtain ⟨od,J,hl⟩:=I.look
 exact PySem.W.get_value X J (PySem.W.plainGet_of hg).1 (PySem.W.findObj_own hh ha rfl (by rw [hl,hv])) hv' h
theorem zog {pl:Sem Bool} {Q:Value×List Value→Shared→Prop} (X:K.In s.heap) (I:ObjM s.heap x dx C mA) (hg:PySem.W.plainGet K C name=true)
  (hf:PySem.W.findIn K (.ref C) name=some (some (.ref f))) (ht:PySem.W.isFn K (.ref f)=true) (hv:mA name=none) (h:Q (.ref f,[.ref x]) s) :
  wpAny (model prog w) A (getMethod (.ref x) name pl) Q E s:=by
 obtain ⟨od,J,hl⟩:=I.look
 exact PySem.W.method_fn X J (PySem.W.plainGet_of hg).1 (PySem.W.plainGet_of hg).2 hf (beq_iff_eq.mp ht) (by show (PySem.W.lookIn name od).map (·.isSome)=some false;rw [hl,hv];rfl) h
theorem zoZ {ns:List Str} {Q:Unit→Shared→Prop} (X:K.In s.heap) (I:ObjM s.heap x dx C mA)
  (hs:PySem.W.findIn K (.ref C) "__setattr__" = some (some (.builtin "object.__setattr__"))) (hp:PySem.W.plainOver K C=true) (ht:PySem.W.takerIn K C name=some none) (hh:PySem.W.hasDictIn K C=true)
  (hw:PySem.Within mA ns) (hsz:ns.length≤sizeLine)
  (h:∀ h',ObjM h' x dx C (fun y=>if y=name then some v else mA y)→Heap.SameBut dx s.heap h'→Q () { s with heap:=h',toks:=s.toks+2 }) :
  wpAny (model prog w) A (setAttr (.ref x) name v) Q E s:=by
 obtain ⟨od,J,hl⟩:=I.look
 refine PySem.W.set_plain X J hs (PySem.W.osa_open (s:={ s with toks:=s.toks+1 }) (r:=none) X J hp ht fun b=>?_)
 obtain ⟨cd,hc,hd'⟩:=PySem.W.any_some hh
 have hx:s.heap.get? x=some ⟨.ref C,some dx,.plain,#[]⟩:=I.obj
 refine wpAny_bind (wpAny_pure (wpAny_bind (wpAny_bind (wpAny_loadPart hx (wpAny_bind (PySem.W.Looks.here (s:={ s with toks:=s.toks+1 }) (PySem.W.looks_clsIn X hc) ?_))))))
 rw [hd']
 refine wpAny_pure (a:=some dx) (wpAny_bind (wpAny_pure (wpAny_bind ?_)))
 refine wpAny_nsSet1 (s:={ s with toks:=s.toks+1 }) I.ns fun h' hn2 hs2=>?_
 obtain ⟨oD,esD,epD,hoD,hdD,hcD⟩:=hn2.count (PySem.Within.cons name v hw)
 refine wpAny_bind (wpAny_lookBehind hoD (by rw [hdD];exact pastItsLine_dict (Nat.le_trans hcD (by rw [List.length_cons];omega))) ?_)
 exact wpAny_pure (h _ ⟨(hs2.2 _ (Ne.symm I.ne)).trans I.obj,hn2,I.ne⟩ hs2)
theorem znP {R:Result→Shared→Prop} {vs:List Value} {kw:List (Str×Value)} (X:K.In s.heap) (hm:PySem.W.makesIn K C=true)
  (hi:PySem.W.findIn K (.ref C) "__init__" = some (some (.ref f))) (hf:PySem.W.typeIn K (.ref f)=some (.type "function"))
  (h:codeAny (model prog w) (A.under (.builtin "type.__call__" ⟨.ref C::vs,kw⟩)) (.call (.ref f) ⟨.ref (s.heap.objs.size+1)::vs,kw⟩) (PySem.W.InitBack (s.heap.objs.size+1) R)
   { s with heap:=(s.heap.push PySem.W.emptyDict).push (PySem.W.instObj C s.heap.objs.size) }) :
  codeAny (model prog w) A (.call (.ref C) ⟨vs,kw⟩) R s:=by
 obtain ⟨hh,g,d,t,os⟩:=s
 exact PySem.W.make_core (PySem.W.makes_of X hm) (PySem.W.looks_findIn X hi) (fun self=>PySem.W.bind_fn X self hf) (.inl rfl) h
end
def putF (f:Str) (v:V):List (Str×V)→List (Str×V)
 | []=>[(f,v)]
 | (g,x)::r=>if g=f then (g,v)::r else (g,x)::putF f v r
theorem zaJ (f g:Str) (v:V):∀ fs:List (Str×V),(putF f v fs).lookup g=if g=f then some v else fs.lookup g
 | []=>by
  show List.lookup g [(f,v)]=_
  by_cases h:g=f
  ·have hb:(g==f)=true:=beq_iff_eq.mpr h
   simp only [List.lookup,hb,if_pos h]
  ·have hb:(g==f)=false:=beq_eq_false_iff_ne.mpr h
   simp only [List.lookup,hb,if_neg h]
 | (k,x)::r=>by
  have ih:=zaJ f g v r
  rw [show putF f v ((k,x)::r)=(if k=f then (k,v)::r else (k,x)::putF f v r) from rfl]
  by_cases hk:k=f
  ·rw [if_pos hk]
   by_cases h:g=k
   ·have hb:(g==k)=true:=beq_iff_eq.mpr h
    simp only [List.lookup,hb,if_pos (h.trans hk)]
   ·have hb:(g==k)=false:=beq_eq_false_iff_ne.mpr h
    simp only [List.lookup,hb,if_neg (fun e:g=f=>h (e.trans hk.symm))]
  ·rw [if_neg hk]
   by_cases h:g=k
   ·have hb:(g==k)=true:=beq_iff_eq.mpr h
    simp only [List.lookup,hb,if_neg (fun e:g=f=>hk (h.symm.trans e))]
   ·have hb:(g==k)=false:=beq_eq_false_iff_ne.mpr h
    simp only [List.lookup,hb]
    exact ih
theorem zgI (f:Str) (v:V):∀ fs:List (Str×V),f∈(putF f v fs).map (·.1)∧∀ g,g∈fs.map (·.1)→g∈(putF f v fs).map (·.1)
 | []=>⟨by simp [putF],fun g h=>by simp at h⟩
 | (k,x)::r=>by
  obtain ⟨i1,i2⟩:=zgI f v r
  rw [show putF f v ((k,x)::r)=(if k=f then (k,v)::r else (k,x)::putF f v r) from rfl]
  by_cases hk:k=f
  ·rw [if_pos hk]
   subst hk
   exact ⟨by simp,fun g h=>by simpa using h⟩
  ·rw [if_neg hk]
   refine ⟨?_,fun g h=>?_⟩
   ·rw [List.map_cons]
    exact List.mem_cons_of_mem _ i1
   ·rw [List.map_cons] at h ⊢
    rcases List.mem_cons.mp h with e | e
    ·exact List.mem_cons.mpr (.inl e)
    ·exact List.mem_cons_of_mem _ (i2 g e)
theorem zgH (f:Str) (v:V):∀ fs:List (Str×V),(putF f v fs).length≤fs.length+1
 | []=>by simp [putF]
 | (k,x)::r=>by
  have ih:=zgH f v r
  rw [show putF f v ((k,x)::r)=(if k=f then (k,v)::r else (k,x)::putF f v r) from rfl]
  by_cases hk:k=f
  ·rw [if_pos hk,List.length_cons,List.length_cons];omega
  ·rw [if_neg hk,List.length_cons,List.length_cons];omega
theorem RelO.some_of {v:V} {o:Option Value} (r:RelO (some v) o):∃ u,o=some u∧RelV v u:=by
 cases o with
 | none=>exact (show False from r).elim
 | some u=>exact ⟨u,rfl,r⟩
theorem RelO.none_of {o:Option Value} (r:RelO none o):o=none:=by
 cases o with
 | none=>rfl
 | some u=>exact (show False from r).elim
theorem zm1 {v:V} {u:Value} (r:RelV v u):PySem.W.handedIn u=true:=by
 cases v with
 | non=>cases (show u=Value.none from r);rfl
 | bl b=>cases (show u=Value.bool b from r);rfl
 | int i=>obtain ⟨t,e⟩:=(show ∃ t,u=Value.int i t from r);cases e;rfl
 | str x=>obtain ⟨t,e⟩:=(show ∃ t,u=Value.str x t from r);cases e;rfl
 | byt b=>obtain ⟨t,e⟩:=(show ∃ t,u=Value.bytes b t from r);cases e;rfl
 | flt b=>obtain ⟨t,e⟩:=(show ∃ t,u=Value.float b t from r);cases e;rfl
 | ref a=>cases (show u=Value.ref a from r);rfl
 | ty n=>cases (show u=Value.type n from r);rfl
section
variable {P:Program} {w:World} {H H':Hp} {h h':Heap} {a C dx:Addr} {fs fs':List (Str×V)}
theorem zis (hok:HOk P w H h) (e:H a=some (.ins C dx fs)):∃ mA,ObjM h a dx C mA∧(∀ f,RelO (fs.lookup f) (mA f))∧PySem.Within mA (fs.map (·.1))∧fs.length≤1000∧H dx=some (.own a):=by
 obtain ⟨d,z,ne,ob,mA,n,r,q⟩:=(show zbY P w H h a (.ins C dx fs) from hok a _ e)
 exact ⟨mA,⟨ob,n,ne⟩,r,q,z,d⟩
end
structure Cls (K:PySem.W.Frag) (C:Addr):Prop where
 pg:PySem.W.plainGet K C Str.empty=true
 hd:PySem.W.hasDictIn K C=true
 po:PySem.W.plainOver K C=true
 sa:PySem.W.findIn K (.ref C) "__setattr__" = some (some (.builtin "object.__setattr__"))
theorem Cls.get {K:PySem.W.Frag} {C:Addr} (c:Cls K C) (f:Str):PySem.W.plainGet K C f=true:=c.pg
def zdo (K:PySem.W.Frag) (C:Addr) (f:Str):Prop:=PySem.W.findIn K (.ref C) f=some none
theorem zdo.taker {K:PySem.W.Frag} {C:Addr} {f:Str} (n:zdo K C f):PySem.W.takerIn K C f=some none:=by
 unfold PySem.W.takerIn
 rw [show PySem.W.findIn K (.ref C) f=some none from n]
 rfl
structure Con (K:PySem.W.Frag) (C:Addr) (f:Str) (v:V) (u:Value):Prop where
 at_:PySem.W.findIn K (.ref C) f=some (some u)
 rel:RelV v u
 get:PySem.W.specialIn K u "__get__" = some none
 cp:PySem.W.copiedNames.contains f=false
structure Meth (K:PySem.W.Frag) (C:Addr) (m:Str) (f:Addr):Prop where
 at_:PySem.W.findIn K (.ref C) m=some (some (.ref f))
 fn:PySem.W.isFn K (.ref f)=true
 kp:PySem.W.keepIn K (.ref f)=true
section
variable {X:Cx} {pins:List (Addr×Obj)} {σ:St} {H:Hp} {s:Shared} {a C dx:Addr} {fs:List (Str×V)} {f:Str} {v:V} {A:Around} {E:Value→Shared→Prop}
theorem zlh {b:Bool} {Q:Value→Shared→Prop} (I:Inv X pins σ H s) (e:H a=some (.ins C dx fs)) (c:Cls X.K C) (n:zdo X.K C f) (l:fs.lookup f=some v)
  (h:∀ u s',Inv X pins σ H s'→RelV v u→Q u s'):wpAny (model X.prog X.w) A (getAttr (.ref a) f b) Q E s:=by
 obtain ⟨mA,O,r,_,_,_⟩:=zis I.hok e
 obtain ⟨u,hu,ru⟩:=RelO.some_of (v:=v) (o:=mA f) (by rw [← l];exact r f)
 exact get_map I.kIn O (c.get f) c.hd n hu (zm1 ru) (h u _ (I.tok _) ru)
theorem zew {m:Str} {g:Addr} {pl:Sem Bool} {Q:Value×List Value→Shared→Prop} (I:Inv X pins σ H s) (e:H a=some (.ins C dx fs)) (c:Cls X.K C) (k:Meth X.K C m g) (l:fs.lookup m=none)
  (h:Q (.ref g,[.ref a]) s):wpAny (model X.prog X.w) A (getMethod (.ref a) m pl) Q E s:=by
 obtain ⟨mA,O,r,_,_,_⟩:=zis I.hok e
 have hn:mA m=none:=RelO.none_of (by rw [← l];exact r m)
 exact zog I.kIn O (c.get m) k.at_ k.fn hn h
theorem zkI {y:V} {u:Value} {Q:Unit→Shared→Prop} (I:Inv X pins σ H s) (e:H a=some (.ins C dx fs)) (c:Cls X.K C) (n:zdo X.K C f) (hl:fs.length<1000) (ry:RelV y u)
  (h:∀ s',Inv X pins σ (upd H a (.ins C dx (putF f y fs))) s'→Q () s'):wpAny (model X.prog X.w) A (setAttr (.ref a) f u) Q E s:=by
 obtain ⟨mA,O,r,wi,_,ho⟩:=zis I.hok e
 have hz:(fs.map (·.1)).length≤sizeLine:=by rw [List.length_map,sizeLine_eq];omega
 refine zoZ I.kIn O c.sa c.po n.taker c.hd wi hz fun h' O' sb=>h _ ?_
 have hd:∃ o,h'.get? dx=some o:=let ⟨o,_,_,e',_⟩:=O'.ns;⟨o,e'⟩
 refine I.write (x:=a) (e:=dx) (by rw [e];exact True.intro) (.inr ho) (fun b q hb z=>(sb.2 b hb).trans z) hd ?_
 refine ⟨by rw [zar O.ne];exact ho,?_,O.ne,O'.obj,_,O'.ns,fun g=>?_,fun g hg=>?_⟩
 ·have:=zgH f y fs;omega
 ·show RelO ((putF f y fs).lookup g) (if g=f then some u else mA g)
  rw [zaJ]
  by_cases q:g=f
  ·rw [if_pos q,if_pos q];exact ry
  ·rw [if_neg q,if_neg q];exact r g
 ·by_cases q:g=f
  ·rw [q];exact (zgI f y fs).1
  ·refine (zgI f y fs).2 g (wi g fun z=>hg ?_)
   show (if g=f then some u else mA g)=none
   rw [if_neg q];exact z
theorem Inv.made (I:Inv X pins σ H s):Inv X pins σ (upd (upd H s.heap.objs.size (.own (s.heap.objs.size+1))) (s.heap.objs.size+1) (.ins C s.heap.objs.size []))
  { s with heap:=(s.heap.push PySem.W.emptyDict).push (PySem.W.instObj C s.heap.objs.size) }:=by
 have e1:(s.heap.push PySem.W.emptyDict).get? s.heap.objs.size=some PySem.W.emptyDict:=Heap.get?_push_size s.heap rfl
 have e2:((s.heap.push PySem.W.emptyDict).push (PySem.W.instObj C s.heap.objs.size)).get? (s.heap.objs.size+1)=some (PySem.W.instObj C s.heap.objs.size):=by
  have:=Heap.get?_push_size (s.heap.push PySem.W.emptyDict) (o:=PySem.W.instObj C s.heap.objs.size) rfl
  rwa [Heap.size_push] at this
 have e3:(s.heap.push PySem.W.emptyDict).Ns s.heap.objs.size (fun _=>none):=⟨PySem.W.emptyDict,#[],_,e1,rfl,(fun e he=>absurd he (by simp)),fun _=>rfl⟩
 have I1:=I.laid (a:=s.heap.objs.size) (o:=.own (s.heap.objs.size+1)) (h':=s.heap.push PySem.W.emptyDict) (t':=s.toks) (fun b u q=>Heap.get?_push_of_some _ q) (Nat.le_refl _) ⟨_,e1⟩
 refine I1.laid (a:=s.heap.objs.size+1) (o:=.ins C s.heap.objs.size []) (t':=s.toks) (fun b u q=>Heap.get?_push_of_some _ q) (Nat.le_of_eq (Heap.size_push _ _)) ?_
 have ne:s.heap.objs.size≠s.heap.objs.size+1:=Nat.ne_of_lt (Nat.lt_succ_self _)
 refine ⟨by rw [zar ne,zae],Nat.zero_le _,ne,e2,fun _=>none,(Heap.Ns1.of_empty e3).at fun o q=>Heap.get?_push_of_some _ q,fun _=>True.intro,fun y hy=>absurd rfl hy⟩
theorem zpM {prog:Program} {w:World} {env:Env} {e:Expr} {f:Str} {pos:Pos} {s:Shared} {Q:Value→Shared→Prop} (hb:attributeBase e f env (eval e env)=eval e env)
  (h:wpAny (model prog w) A (eval e env) (fun o s₁=>wpAny (model prog w) A (getAttr o f true) Q E s₁) E s):wpAny (model prog w) A (eval (.Attribute e f pos) env) Q E s :=
 Attribute_any_ h (by rw [arm_eval_Attribute,hb])
end
def tFld (K:PySem.W.Frag) (ta:TE) (f:Str):TE:=fun σ H Q=>ta σ H fun x H1=>∃ a C dx fs v,x=.ref a∧H1 a=some (.ins C dx fs)∧Cls K C∧zdo K C f∧fs.lookup f=some v∧Q v H1
def sFld (K:PySem.W.Frag) (ta tv:TE) (f:Str):TS:=fun D σ H=>tv σ H fun y H1=>ta σ H1 fun x H2=>∃ a C dx fs,x=.ref a∧H2 a=some (.ins C dx fs)∧Cls K C∧zdo K C f∧fs.length<1000 ∧
 D.nx σ (upd H2 a (.ins C dx (putF f y fs)))
section
variable {X:Cx} {o e value:Expr} {f:Str} {pos pos' tpos:Pos} {ta tv:TE}
theorem zaL (he:PE X e ta) (hb:attributeBase e f X.env (eval e X.env)=eval e X.env):PE X (.Attribute e f pos) (tFld X.K ta f):=by
 intro pins s σ H Q I h
 refine zpM hb (thn (he pins s σ H _ I h) fun u s1 ⟨x,H1,I1,rx,a,C,dx,fs,v,ex,ea,c,n,l,q⟩=>?_)
 subst ex
 obtain rfl:u=Value.ref a:=rx
 exact zlh I1 ea c n l fun u' s2 I2 ru=>⟨v,H1,I2,ru,q⟩
theorem ziI (ha:PE X o ta) (hv:PE X value tv) (hs:swapsWith value (some (.Attribute o f pos')) pos.line X.env=pure false):PS X (.Assign [.Attribute o f pos'] value pos) (sFld X.K ta tv f):=by
 intro pins s σ H D I h
 refine plainObj_wpAny_Assign_Attribute (thn (hv pins s σ H _ I h) fun u s1 ⟨y,H1,I1,ry,q⟩=>thn (ha pins s1 σ H1 _ I1 q) fun ov s2 ⟨x,H2,I2,rx,a,C,dx,fs,ex,ea,c,n,l,q2⟩=>?_) hs
 subst ex
 obtain rfl:ov=Value.ref a:=rx
 exact zkI I2 ea c n l ry fun s3 I3=>⟨σ,_,I3,q2⟩
end
section
variable {X:Cx} {pins:List (Addr×Obj)} {σ:St} {H:Hp} {s:Shared} {A:Around} {E:Value→Shared→Prop} {Q:Value→Shared→Prop} {c:Value} {b:Bool}
inductive TyOf (K:PySem.W.Frag) (H:Hp):V→Value→Prop where
 | non:TyOf K H .non (.type "NoneType")
 | bl (x:Bool):TyOf K H (.bl x) (.type "bool")
 | int (i:Int):TyOf K H (.int i) (.type "int")
 | str (x:Str):TyOf K H (.str x) (.type "str")
 | flt (x:UInt64):TyOf K H (.flt x) (.type "float")
 | lst {a:Addr} {xs:List V} (e:H a=some (.lst xs)):TyOf K H (.ref a) (.type "list")
 | frz {a:Addr} {o:Obj} {xs:List V} (e:H a=some (.frz o (.lst xs))):TyOf K H (.ref a) (.type "list")
 | tup {a:Addr} {xs:List V} (e:H a=some (.tup xs)):TyOf K H (.ref a) (.type "tuple")
 | dK {a:Addr} {kvs:List (Key×V)} (e:H a=some (.dK kvs)):TyOf K H (.ref a) (.type "dict")
 | dT {a:Addr} {kvs:List (List Key×V)} (e:H a=some (.dT kvs)):TyOf K H (.ref a) (.type "dict")
 | ins {a C dx:Addr} {fs:List (Str×V)} (e:H a=some (.ins C dx fs)) (cl:Cls K C) (ha:PySem.W.findIn K (.ref C) "__class__" = some (some (.builtin "object.__class__")))
   (hn:PySem.W.specialIn K (.builtin "object.__class__") "__get__" = some (some (.builtin "getset_descriptor.__get__"))) (htk:PySem.W.takesIn K (.builtin "object.__class__")=some true)
   (hm:PySem.W.mroIn K C (.type "object")=some true):TyOf K H (.ref a) (.ref C)
theorem zmx {x:V} {u t:Value} (I:Inv X pins σ H s) (rx:RelV x u) (ty:TyOf X.K H x t) (e:PySem.W.kitOne X.K t c=some b) (h:∀ tk,Q (.bool b) { s with toks:=tk }) :
  wpAny (model X.prog X.w) A (call (.builtin "isinstance") [u,c]) Q E s:=by
 cases ty with
 | non=>cases (show u=Value.none from rx);exact PySem.W.kia_one PySem.W.kitx_none I.kIn True.intro e (fun z=>nomatch z) h
 | bl y=>cases (show u=Value.bool y from rx);exact PySem.W.kia_one PySem.W.kitx_bool I.kIn True.intro e (fun z=>nomatch z) h
 | int i=>obtain ⟨t,q⟩:=(show ∃ t,u=Value.int i t from rx);cases q;exact PySem.W.kia_one PySem.W.kitx_int I.kIn True.intro e (fun z=>nomatch z) h
 | str y=>obtain ⟨t,q⟩:=(show ∃ t,u=Value.str y t from rx);cases q;exact PySem.W.kia_one PySem.W.kitx_str I.kIn True.intro e (fun z=>nomatch z) h
 | flt y=>obtain ⟨t,q⟩:=(show ∃ t,u=Value.float y t from rx);cases q;exact PySem.W.kia_one PySem.W.kitx_float I.kIn True.intro e (fun z=>nomatch z) h
 | @lst a xs ea =>
  cases (show u=Value.ref a from rx)
  obtain ⟨_,_,n,_,h1⟩:=(show zbY X.prog X.w H s.heap a (.lst xs) from I.hok a _ ea)
  exact PySem.W.kia_one PySem.W.kitx_list I.kIn ⟨_,h1,rfl⟩ e (fun z=>nomatch z) h
 | @frz a ob xs ea =>
  cases (show u=Value.ref a from rx)
  obtain ⟨_,_,_,n,_,h1⟩:=(show zbY X.prog X.w H s.heap a (.frz ob (.lst xs)) from I.hok a _ ea)
  exact PySem.W.kia_one PySem.W.kitx_list I.kIn ⟨_,h1,rfl⟩ e (fun z=>nomatch z) h
 | @tup a xs ea =>
  cases (show u=Value.ref a from rx)
  obtain ⟨_,_,_,p⟩:=(show zbY X.prog X.w H s.heap a (.tup xs) from I.hok a _ ea)
  obtain ⟨o,h1,h2,_⟩:=p
  exact PySem.W.kia_one PySem.W.kitx_tuple I.kIn ⟨o,h1,h2⟩ e (fun z=>nomatch z) h
 | @dK a kvs ea =>
  cases (show u=Value.ref a from rx)
  obtain ⟨_,_,vs,_,p⟩:=(show zbY X.prog X.w H s.heap a (.dK kvs) from I.hok a _ ea)
  obtain ⟨o,es,ep,h1,h2,_⟩:=p
  exact PySem.W.kia_one PySem.W.kitx_dict I.kIn ⟨o,h1,h2.1⟩ e (fun z=>nomatch z) h
 | @dT a kvs ea =>
  cases (show u=Value.ref a from rx)
  obtain ⟨_,_,xs,_,o,es,ep,h1,h2,_⟩:=(show zbY X.prog X.w H s.heap a (.dT kvs) from I.hok a _ ea)
  exact PySem.W.kia_one PySem.W.kitx_dict I.kIn ⟨o,h1,h2.1⟩ e (fun z=>nomatch z) h
 | @ins a C dx fs ea cl ha hn htk hm =>
  cases (show u=Value.ref a from rx)
  obtain ⟨mA,O,_⟩:=zis I.hok ea
  obtain ⟨od,J,_⟩:=O.look
  exact PySem.W.kia_one (PySem.W.kitx_own (cl.get _) cl.hd ha hn htk hm) I.kIn J e (fun z=>nomatch z) h
end
end L2
namespace L2
open PySem PySem.Spec PyProof.Rows
structure Room (k:Nat) (A:Around):Prop where
 hd:A.handled=none
 dp:A.depth+3*k+5<recursionLimit
 un:A.units+16*k+200<cLine
theorem Room.mono {j k:Nat} {A:Around} (r:Room k A) (h:j≤k):Room j A:=⟨r.hd,by have:=r.dp;omega,by have:=r.un;omega⟩
theorem Room.deeper {k:Nat} {A:Around} (r:Room (k+1) A) (env:Env):Room k (A.deeper env) :=
 ⟨r.hd,by have:=r.dp;show A.depth+1+3*k+5<_;omega,by have:=r.un;show A.units+3+16*k+200<_;omega⟩
theorem zkV {A:Around} {C:Addr} {us:List Value} {kw:List (Str×Value)}:(A.under (.builtin "type.__call__" ⟨.ref C::us,kw⟩)).depth=A.depth+1:=by
 first | rfl | simp [Around.under,Code.weight,Code.isCreation,Code.isGuard,Code.isCaller,Code.frames,Code.isFrame,guardIds]
theorem zkU {A:Around} {C:Addr} {us:List Value} {kw:List (Str×Value)}:(A.under (.builtin "type.__call__" ⟨.ref C::us,kw⟩)).units=A.units+1:=by
 first | rfl | simp [Around.under,Code.cUnits,Code.frames,Code.isFrame]
theorem Room.make {k:Nat} {A:Around} (r:Room (k+1) A) (C:Addr) (us:List Value) (kw:List (Str×Value)):Room k (A.under (.builtin "type.__call__" ⟨.ref C::us,kw⟩)) :=
 ⟨r.hd,by have:=r.dp;rw [zkV];omega,by have:=r.un;rw [zkU];omega⟩
theorem Room.depth {k:Nat} {A:Around} (r:Room k A):A.depth<recursionLimit:=by have:=r.dp;omega
theorem Room.units {k:Nat} {A:Around} (r:Room k A):A.units+64<cLine:=by have:=r.un;omega
def tNil:TA:=fun _ H Q=>Q [] H
def zjy (ta:TE) (tr:TA):TA:=fun σ H Q=>ta σ H fun x H1=>tr σ H1 fun xs H2=>Q (x::xs) H2
section
variable {X:Cx} {e:Expr} {es:List Expr} {te:TE} {t:TA} {pos:Pos}
theorem zac:PA X [] tNil:=fun _ _ _ _ H Q I h=>Calls.spliced_nil ⟨[],H,I,.nil,h⟩
theorem zaa (ha:PE X e te) (hr:PA X es t) (hs:starEach (e::es) X.env=(false,eval e X.env)::starEach es X.env:=by rfl):PA X (e::es) (zjy te t):=by
 intro pos pins s σ H Q I h
 rw [hs]
 show wpAny _ _ (spliced ((false,eval e X.env)::backTo pos (starEach es X.env))) _ _ s
 refine Calls.spliced_cons (thn (ha pins s σ H _ I h) fun u s1 ⟨x,H1,I1,r1,q1⟩=>?_)
 exact thn (hr pos pins s1 σ H1 _ I1 q1) fun us s2 ⟨xs,H2,I2,r2,q2⟩=>⟨x::xs,H2,I2,.cons r1 r2,q2⟩
def tTup (t:TA):TE:=fun σ H Q=>t σ H fun xs H1=>xs.length≤sizeLine∧∀ p,H1 p=none→Q (.ref p) (upd H1 p (.tup xs))
def tLst (t:TA):TE:=fun σ H Q=>t σ H fun xs H1=>xs.length≤sizeLine∧∀ p,H1 p=none→Q (.ref p) (upd H1 p (.lst xs))
theorem zaI {x1} (h:PA X es t):PE X (.Tuple es x1 pos) (tTup t):=by
 intro pins s σ H Q I hq
 refine wpAny_Tuple_spliced (thn (h pos pins s σ H _ I hq) fun us s1 ⟨xs,H1,I1,r,z,q⟩=>⟨by rw [← r.length];exact z,?_⟩)
 have hf:H1 s1.heap.objs.size=none:=I1.hok.fresh (Nat.le_refl _)
 refine ⟨.ref s1.heap.objs.size,upd H1 s1.heap.objs.size (.tup xs),I1.laid (t':=s1.toks) (fun b u e=>Heap.get?_push_of_some _ e) (Nat.le_refl _) ?_,rfl,q _ hf⟩
 exact ⟨z,us,r,⟨_,Heap.get?_push_size _ rfl,rfl,_,rfl⟩⟩
theorem zdE (h:PA X es t):PE X (.List es pos) (tLst t):=by
 intro pins s σ H Q I hq
 refine wpAny_List_spliced (thn (h pos pins s σ H _ I hq) fun us s1 ⟨xs,H1,I1,r,z,q⟩=>⟨by rw [← r.length];exact z,?_⟩)
 have hf:H1 s1.heap.objs.size=none:=I1.hok.fresh (Nat.le_refl _)
 refine ⟨.ref s1.heap.objs.size,upd H1 s1.heap.objs.size (.lst xs),I1.laid (t':=s1.toks) (fun b u e=>Heap.get?_push_of_some _ e) (Nat.le_refl _) ?_,rfl,q _ hf⟩
 exact ⟨z,us,0,r,Heap.get?_push_size _ rfl⟩
end
abbrev Sp:=List V→Hp→VK→XK→Prop
abbrev CXT:=List Env→Hp→Shared→XK→Value→Shared→Prop
structure Env0 (P:Program) (w:World) (K:PySem.W.Frag) (mg:Str→Option Value) (base:Heap) (A:Around) (outer:List Env) (s:Shared) (H:Hp):Prop where
 frames:A.frames=some outer
 mod:Mod K mg base
 bs:∀ b o,base.get? b=some o→s.heap.get? b=some o∧H b=none
 bsz:base.objs.size≤s.heap.objs.size
 funs:s.heap.FunFrames base outer
 frf:∀ b∈frs outer,H b=none
 hok:HOk P w H s.heap
 bare:AllBare s.gens
def CE (outer:List Env) (P:Program) (w:World) (H:Hp) (s:Shared) (Q:VK) (u:Value) (s':Shared):Prop :=
 ∃ v H',s'.os=s.os∧AllBare s'.gens∧Un (frs outer) [] H H' s.heap s'.heap∧HOk P w H' s'.heap∧RelV v u∧Q v H'
def CR (CX:CXT) (outer:List Env) (P:Program) (w:World) (H:Hp) (s:Shared) (Q:VK) (E:XK) (r:Result) (s':Shared):Prop :=
 match r with
 | .ok (.ret u)=>CE outer P w H s Q u s'
 | .ok _=>False
 | .error e=>CX outer H s E e s'
structure FnOk (P:Program) (w:World) (K:PySem.W.Frag) (mg:Str→Option Value) (base:Heap) (CX:CXT) (k:Nat) (f:Addr) (fd:FuncData) (ps:List Str) (sp:Sp):Prop where
 len:∀ vs H Q E,sp vs H Q E→vs.length=ps.length
 run:∀ (A:Around) (outer:List Env) (s:Shared) (H:Hp) (args:Args) (us:List Value) (vs:List V) (Q:VK) (E:XK),Room k A→Env0 P w K mg base A outer s H→BindsTo s fd args (ps.zip us)→Vals vs us→sp vs H Q E →
  codeAny (model P w) A (.call (.ref f) args) (CR CX outer P w H s Q E) s
theorem Env0.make {P:Program} {w:World} {K:PySem.W.Frag} {mg:Str→Option Value} {base:Heap} {A:Around} {outer:List Env} {s:Shared} {H:Hp} (e:Env0 P w K mg base A outer s H) (C:Addr) (us:List Value) (kw:List (Str×Value)) :
  Env0 P w K mg base (A.under (.builtin "type.__call__" ⟨.ref C::us,kw⟩)) outer s H:=⟨by first | exact e.frames | (simpa [Around.under,Code.envs,Code.isFrame,pushEnvs] using e.frames),e.mod,e.bs,e.bsz,e.funs,e.frf,e.hok,e.bare⟩
section
variable {X:Cx} {pins:List (Addr×Obj)} {σ:St} {H:Hp} {s s':Shared}
theorem Inv.env0 (I:Inv X pins σ H s):Env0 X.prog X.w X.K X.mg X.base X.A X.stack s H :=
 ⟨I.ok.frames,I.ok.mod,I.bs,Nat.le_trans I.ok.bsz I.sz,I.stack,I.zl4,I.hok,I.bare⟩
theorem Inv.after {Q:VK} {u:Value} (I:Inv X pins σ H s) (h:CE X.stack X.prog X.w H s Q u s'):EP X pins σ Q u s':=by
 obtain ⟨v,H',os,bare,un,hok,r,q⟩:=h
 obtain ⟨hh,g,d,t,os'⟩:=s'
 obtain rfl:os'=s.os:=os
 exact ⟨v,H',I.call (h':=hh) (g':=g) (d':=d) (t':=t) (ch:=[]) un hok bare (fun b z=>absurd z (by simp)),r,q⟩
end
def zrf (sp:Sp) (dvs:List V) (E:XK) (t:TA):TE:=fun σ H Q=>t σ H fun vs H1=>sp (vs++dvs) H1 Q E
def zqd (C:Addr) (m:Str) (sp:Sp) (dvs:List V) (E:XK) (ta:TE) (t:TA):TE:=fun σ H Q=>ta σ H fun x H1=>∃ a dx fs,x=.ref a∧H1 a=some (.ins C dx fs)∧fs.lookup m=none ∧
 t σ H1 fun vs H2=>sp (x::(vs++dvs)) H2 Q E
def zrc (C:Addr) (sp:Sp) (dvs:List V) (E:XK) (t:TA):TE:=fun σ H Q=>t σ H fun vs H1=>∀ x dx,H1 x=none→H1 dx=none→dx≠x →
 sp (.ref x::(vs++dvs)) (upd (upd H1 dx (.own x)) x (.ins C dx [])) (fun v H2=>v=.non∧Q (.ref x) H2) E
def Binds (K:PySem.W.Frag) (fd:FuncData) (ps:List Str) (ds:List Value):Prop :=
 ∀ (s:Shared) (us:List Value),K.In s.heap→(us++ds).length=ps.length→BindsTo s fd ⟨us,[]⟩ (ps.zip (us++ds))
theorem Binds.all {K:PySem.W.Frag} {fd:FuncData} {ps:List Str} (h:∀ us:List Value,us.length=ps.length→bindArgs fd ⟨us,[]⟩=pure (ps.zip us)):Binds K fd ps []:=fun s us _ hl=>by
 rw [List.append_nil] at hl ⊢
 exact .of_eq (h us hl)
def Passes (CX:CXT) (X:Cx) (E:XK):Prop:=∀ (pins:List (Addr×Obj)) (σ:St) (H:Hp) (s:Shared) (e:Value) (s':Shared),Inv X pins σ H s→CX X.stack H s E e s'→X.xe e s'
section
variable {X:Cx} {CX:CXT} {k:Nat} {f C:Addr} {fd:FuncData} {ps:List Str} {sp:Sp} {dvs:List V} {ds:List Value} {E:XK} {x m:Str} {p pos apos:Pos} {e o:Expr} {es:List Expr} {ta:TE} {t:TA}
theorem ziF {pins:List (Addr×Obj)} {σ:St} {H:Hp} {s:Shared} {Q:VK} {us:List Value} {vs:List V} (F:FnOk X.prog X.w X.K X.mg X.base CX k f fd ps sp) (hr:Room k X.A) (hb:Binds X.K fd ps ds) (hd:Vals dvs ds) (hx:Passes CX X E)
  (I:Inv X pins σ H s) (r:Vals vs us) (h:sp (vs++dvs) H Q E):wpAny (model X.prog X.w) X.A (call (.ref f) us) (EP X pins σ Q) X.xe s:=by
 have r2:Vals (vs++dvs) (us++ds):=r.append hd
 have hl:(us++ds).length=ps.length:=by rw [← r2.length];exact F.len _ _ _ _ h
 refine wpAny_call (codeAny_mono (F.run X.A X.stack s H ⟨us,[]⟩ (us++ds) (vs++dvs) Q E hr I.env0 (hb s us I.kIn hl) r2 h) fun r s' hq=>?_)
 cases r with
 | error e=>exact hx pins σ H s e s' I hq
 | ok fl =>
  cases fl with
  | ret u=>exact I.after hq
  | next=>exact False.elim hq
  | brk=>exact False.elim hq
  | cont=>exact False.elim hq
theorem zak (F:FnOk X.prog X.w X.K X.mg X.base CX k f fd ps sp) (hr:Room k X.A) (hg:Gl X x) (hm:X.mg x=some (.ref f)) (hk:PySem.W.keepIn X.K (.ref f)=true) (hb:Binds X.K fd ps ds) (hd:Vals dvs ds) (hx:Passes CX X E)
  (ha:PA X (e::es) t) (hdb:(x==("__debug__" : Str))=false:=by decide) (he:starEach (e::es) X.env=(false,eval e X.env)::starEach es X.env:=by rfl) (hpl:(backTo pos (starEach es X.env)).any (·.1)=false:=by rfl) :
  PE X (.Call (.Name x p) (e::es) [] pos) (zrf sp dvs E t):=by
 intro pins s σ H Q I h
 refine wpAny_Call_Name_kw (zjS I hg hm ?_ hdb)
 refine PySem.W.callWith_K (h₀:=X.base) I.ok.mod.kin hk (thn (ha pos pins s σ H _ I h) fun us s1 ⟨vs,H1,I1,r,q⟩=>⟨I1.kIn,?_⟩) he hpl
 exact ziF F hr hb hd hx I1 r q
theorem zg9 {pl:Sem Bool} (he:PE X o ta) (c:Cls X.K C) (hm:Meth X.K C m f) (F:FnOk X.prog X.w X.K X.mg X.base CX k f fd ps sp) (hr:Room k X.A) (hb:Binds X.K fd ps ds) (hd:Vals dvs ds) (hx:Passes CX X E) (ha:PA X (e::es) t)
  (hst:starEach (e::es) X.env=(false,eval e X.env)::starEach es X.env:=by rfl) (hpl:(backTo pos (starEach es X.env)).any (·.1)=false:=by rfl)
  (ht:eval (.Call (.Attribute o m apos) (e::es) [] pos) X.env=(do
   let ov ← eval o X.env
   standAt apos.atName
   let (f,first) ← holding [ov] (getMethod ov m pl)
   callWith pos f first (backTo pos (starEach (e::es) X.env)) (backToKw pos (keywordEach [] X.env))):=by rfl) :
  PE X (.Call (.Attribute o m apos) (e::es) [] pos) (zqd C m sp dvs E ta t):=by
 intro pins s σ H Q I h
 refine PySem.W.methodCall_KW (pl:=pl) (thn (he pins s σ H _ I h) fun u s1 ⟨x,H1,I1,rx,a,dx,fs,ex,ea,l,q⟩=>?_) ht
 subst ex
 obtain rfl:u=Value.ref a:=rx
 refine zew I1 ea c hm l ?_
 refine PySem.W.callWith_K (first:=[.ref a]) (h₀:=X.base) I.ok.mod.kin hm.kp (thn (ha pos pins s1 σ H1 _ I1 q) fun us s2 ⟨vs,H2,I2,r,q2⟩=>⟨I2.kIn,?_⟩) hst hpl
 exact ziF (us:=.ref a::us) (vs:=.ref a::vs) F hr hb hd hx I2 (.cons rfl r) q2
theorem zdr {pl:Sem Bool} (he:PE X o ta) (c:Cls X.K C) (hm:Meth X.K C m f) (F:FnOk X.prog X.w X.K X.mg X.base CX k f fd ps sp) (hr:Room k X.A) (hb:Binds X.K fd ps ds) (hd:Vals dvs ds) (hx:Passes CX X E)
  (ht:eval (.Call (.Attribute o m apos) [] [] pos) X.env=(do
   let ov ← eval o X.env
   standAt apos.atName
   let (f,first) ← holding [ov] (getMethod ov m pl)
   callWith pos f first (backTo pos (starEach [] X.env)) (backToKw pos (keywordEach [] X.env))):=by rfl) :
  PE X (.Call (.Attribute o m apos) [] [] pos) (zqd C m sp dvs E ta tNil):=by
 intro pins s σ H Q I h
 refine PySem.W.methodCall_KW (pl:=pl) (thn (he pins s σ H _ I h) fun u s1 ⟨x,H1,I1,rx,a,dx,fs,ex,ea,l,q⟩=>?_) ht
 subst ex
 obtain rfl:u=Value.ref a:=rx
 refine zew I1 ea c hm l ?_
 exact PySem.W.callWith_K0 (first:=[.ref a]) I1.kIn hm.kp (ziF (us:=[.ref a]) (vs:=[.ref a]) F hr hb hd hx I1 (.cons rfl .nil) q)
structure Mk (K:PySem.W.Frag) (C f:Addr):Prop where
 makes:PySem.W.makesIn K C=true
 init:PySem.W.findIn K (.ref C) "__init__" = some (some (.ref f))
 fn:PySem.W.isFn K (.ref f)=true
 kp:PySem.W.keepIn K (.ref C)=true
theorem znq {pins:List (Addr×Obj)} {σ:St} {H:Hp} {s:Shared} {Q:VK} {us:List Value} {vs:List V} (M:Mk X.K C f) (F:FnOk X.prog X.w X.K X.mg X.base CX k f fd ps sp) (hr:Room (k+1) X.A) (hb:Binds X.K fd ps ds) (hd:Vals dvs ds)
  (hx:Passes CX X E) (I:Inv X pins σ H s) (r:Vals vs us)
  (h:∀ x dx,H x=none→H dx=none→dx≠x→sp (.ref x::(vs++dvs)) (upd (upd H dx (.own x)) x (.ins C dx [])) (fun v H2=>v=.non∧Q (.ref x) H2) E) :
  wpAny (model X.prog X.w) X.A (call (.ref C) us) (EP X pins σ Q) X.xe s:=by
 have hq:=h (s.heap.objs.size+1) s.heap.objs.size (I.hok.fresh (Nat.le_succ _)) (I.hok.fresh (Nat.le_refl _)) (Nat.ne_of_lt (Nat.lt_succ_self _))
 have I2:=Inv.made (C:=C) I
 have r2:Vals (V.ref (s.heap.objs.size+1)::(vs++dvs)) (Value.ref (s.heap.objs.size+1)::(us++ds)):=.cons rfl (r.append hd)
 have hl:(Value.ref (s.heap.objs.size+1)::us++ds).length=ps.length:=by
  have e:=r2.length
  rw [F.len _ _ _ _ hq] at e
  exact e.symm
 refine wpAny_call (znP (f:=f) I.kIn M.makes M.init (beq_iff_eq.mp M.fn) (codeAny_mono (F.run _ X.stack _ _ ⟨Value.ref (s.heap.objs.size+1)::us,[]⟩ (Value.ref (s.heap.objs.size+1)::(us++ds)) _ _ E (hr.make C us [])
  (I2.env0.make C us []) (hb _ (Value.ref (s.heap.objs.size+1)::us) I2.kIn hl) r2 hq) fun r s' hq'=>?_))
 cases r with
 | error e=>exact hx pins σ _ _ e s' I2 hq'
 | ok fl =>
  cases fl with
  | ret u =>
   obtain ⟨v,H',I3,rv,ev,q3⟩:=I2.after hq'
   subst ev
   exact ⟨rv,⟨V.ref (s.heap.objs.size+1),H',I3,rfl,q3⟩⟩
  | next=>exact False.elim hq'
  | brk=>exact False.elim hq'
  | cont=>exact False.elim hq'
theorem ze1 (M:Mk X.K C f) (F:FnOk X.prog X.w X.K X.mg X.base CX k f fd ps sp) (hr:Room (k+1) X.A) (hg:Gl X x) (hm:X.mg x=some (.ref C)) (hb:Binds X.K fd ps ds) (hd:Vals dvs ds) (hx:Passes CX X E)
  (ha:PA X (e::es) t) (hdb:(x==("__debug__" : Str))=false:=by decide) (he:starEach (e::es) X.env=(false,eval e X.env)::starEach es X.env:=by rfl) (hpl:(backTo pos (starEach es X.env)).any (·.1)=false:=by rfl) :
  PE X (.Call (.Name x p) (e::es) [] pos) (zrc C sp dvs E t):=by
 intro pins s σ H Q I h
 refine wpAny_Call_Name_kw (zjS I hg hm ?_ hdb)
 refine PySem.W.callWith_K (h₀:=X.base) I.ok.mod.kin M.kp (thn (ha pos pins s σ H _ I h) fun us s1 ⟨vs,H1,I1,r,q⟩=>⟨I1.kIn,?_⟩) he hpl
 exact znq M F hr hb hd hx I1 r q
end
section
variable {X:Cx} {CX:CXT} {k:Nat} {f C:Addr} {fd:FuncData} {ps ks:List Str} {sp:Sp} {E:XK} {x m:Str} {p pos apos kpos:Pos} {e o:Expr} {es:List Expr} {kws:List Keyword} {te ta:TE} {t tk:TA} {nm:Option Str}
structure zrS (K:PySem.W.Frag) (fd:FuncData) (ps ks:List Str) (g:List Value→List Value→List Value) (gV:List V→List V→List V):Prop where
 to:∀ (s:Shared) (us ws:List Value),K.In s.heap→(g us ws).length=ps.length→BindsTo s fd ⟨us,ks.zip ws⟩ (ps.zip (g us ws))
 rel:∀ {vs:List V} {us:List Value} {zs:List V} {ws:List Value},Vals vs us→Vals zs ws→Vals (gV vs zs) (g us ws)
variable {g:List Value→List Value→List Value} {gV:List V→List V→List V}
end
structure zau (N P:List Str) (sc:Scope):Prop where
 kind:sc.kind=.function
 co:sc.isCoroutine=false
 gen:sc.isGenerator=false
 nd:N.Nodup
 pre:N.take P.length=P
 par:∀ x∈P,sc.names.lookup x=some .local∨sc.names.lookup x=some .cell
 nofree:∀ y∈sc.names,y.2≠.free
theorem zjl {kindOf:Str→Option NameKind} {x:Str}:∀ {binds:List (Str×Value)} {m:Str→Option Value},(∀ v,(x,v)∉binds)→bindL kindOf binds m x=m x
 | [],_,_=>rfl
 | (n,v)::r,m,h=>by
  unfold bindL
  rw [zjl fun w hw=>h w (List.mem_cons_of_mem _ hw)]
  split
  ·have:x≠n:=by rintro rfl;exact h v List.mem_cons_self
   simp [this]
  ·rfl
theorem zjn {kindOf:Str→Option NameKind} {x:Str}:∀ {binds:List (Str×Value)} {m:Str→Option Value},(∀ v,(x,v)∉binds)→bindC kindOf binds m x=m x
 | [],_,_=>rfl
 | (n,v)::r,m,h=>by
  unfold bindC
  rw [zjn fun w hw=>h w (List.mem_cons_of_mem _ hw)]
  split
  ·rfl
  ·have:x≠n:=by rintro rfl;exact h v List.mem_cons_self
   simp [this]
theorem zjm {kindOf:Str→Option NameKind} {x:Str} {v:Value}:∀ {P:List Str} {vs:List Value} {i:Nat} {m:Str→Option Value},P.Nodup→P[i]? = some x→vs[i]? = some v→kindOf x=some .local →
  bindL kindOf (P.zip vs) m x=some v
 | [],_,_,_,_,h,_,_=>by simp at h
 | _::_,[],_,_,_,_,h,_=>by simp at h
 | p::P,w::vs,0,m,nd,h1,h2,hk=>by
  simp at h1 h2;subst h1;subst h2
  show bindL kindOf ((p,w)::P.zip vs) m p=_
  unfold bindL
  rw [zjl fun v hv=>(List.nodup_cons.mp nd).1 (List.of_mem_zip hv).1,if_pos hk]
  simp
 | p::P,w::vs,i+1,m,nd,h1,h2,hk=>by
  show bindL kindOf ((p,w)::P.zip vs) m x=_
  unfold bindL
  exact zjm (i:=i) (List.nodup_cons.mp nd).2 (by simpa using h1) (by simpa using h2) hk
theorem zjo {kindOf:Str→Option NameKind} {x:Str} {v:Value}:∀ {P:List Str} {vs:List Value} {i:Nat} {m:Str→Option Value},P.Nodup→P[i]? = some x→vs[i]? = some v→kindOf x≠some .local →
  bindC kindOf (P.zip vs) m x=some v
 | [],_,_,_,_,h,_,_=>by simp at h
 | _::_,[],_,_,_,_,h,_=>by simp at h
 | p::P,w::vs,0,m,nd,h1,h2,hk=>by
  simp at h1 h2;subst h1;subst h2
  show bindC kindOf ((p,w)::P.zip vs) m p=_
  unfold bindC
  rw [zjn fun v hv=>(List.nodup_cons.mp nd).1 (List.of_mem_zip hv).1,if_neg hk]
  simp
 | p::P,w::vs,i+1,m,nd,h1,h2,hk=>by
  show bindC kindOf ((p,w)::P.zip vs) m x=_
  unfold bindC
  exact zjo (i:=i) (List.nodup_cons.mp nd).2 (by simpa using h1) (by simpa using h2) hk
def start (N:List Str) (vs:List V):St:=vs.map some++List.replicate (N.length-vs.length) none
def cxOf (CX:CXT) (P:Program) (w:World) (K:PySem.W.Frag) (mg:Str→Option Value) (base:Heap) (N:List Str) (qual:Str) (scope:Scope) (f:Addr) (cd:Value) (A:Around) (outer:List Env) (s:Shared) (H:Hp) (E:XK):Cx where
 prog:=P
 w:=w
 K:=K
 mg:=mg
 base:=base
 A:=A.deeper (envOfC qual scope s.heap.objs.size f cd)
 N:=N
 s₀:=s
 H₀:=H
 env:=envOfC qual scope s.heap.objs.size f cd
 outer:=outer
 stack:=envOfC qual scope s.heap.objs.size f cd::outer
 ex:=[]
 calm:=true
 fn:=fun _=>true
 pn:=[]
 xe:=fun e s'=>wpAny (model P w) (A.deeper (envOfC qual scope s.heap.objs.size f cd)) (leaving (envOfC qual scope s.heap.objs.size f cd) e) (fun _ s''=>CX outer H s E e s'') (fun e' s''=>CX outer H s E e' s'') s'
theorem zk9 {sc:Scope} {n:Nat} {x:Str} (h:sc.names.lookup x=some .cell):∃ c,(cellsFrom n sc.names []).lookup x=some c:=by
 have q:=PySem.W.cellsFrom_some sc.names n [] (.inl h)
 exact Option.isSome_iff_exists.mp q
theorem zmy {CX:CXT} {P:Program} {w:World} {K:PySem.W.Frag} {mg:Str→Option Value} {base:Heap} {N ps:List Str} {qual:Str} {scope:Scope} {f:Addr} {cd:Value} {A:Around} {outer:List Env} {s s1:Shared} {H:Hp} {E:XK} {us:List Value} {vs:List V}
  (S:zau N ps scope) (hd:A.handled=none) (e0:Env0 P w K mg base A outer s H) (hl:vs.length=ps.length) (r:Vals vs us)
  (x:InCallC s s.heap.objs.size (bindL (envOfC qual scope s.heap.objs.size f cd).kindOf (ps.zip us) fun _=>none) (cellsFrom (s.heap.objs.size+1) scope.names []) (bindC (envOfC qual scope s.heap.objs.size f cd).kindOf (ps.zip us) fun _=>none) s1) :
  Inv (cxOf CX P w K mg base N qual scope f cd A outer s H E) [] (start N vs) H s1:=by
 have hpl:ps.length≤N.length:=by have:=congrArg List.length S.pre;rw [List.length_take] at this;omega
 obtain ⟨h1,tk,rfl,hk⟩:=x.done
 have noA:∀ b:Addr,b∉(cxOf CX P w K mg base N qual scope f cd A outer s H E).ex:=fun b z=>absurd (show b∈([]:List Addr) from z) (by simp)
 refine ⟨⟨e0.mod,S.kind,rfl,rfl,Nat.le_refl _,fun y z c h1 h2=>?_,fun y hy=>?_,fun y c _ h=>?_,fun _=>hd,Around.frames_deeper e0.frames,.inr ⟨rfl,rfl⟩,fun b z=>absurd z (noA b),e0.bs,e0.bsz,fun b _ _=>noA b,fun b z=>absurd z (noA b),e0.funs,e0.frf⟩,
  rfl,e0.bare,Un.kept hk,⟨_,x.toInCall.ns,fun i y v h1 h2 h3=>?_⟩,fun y c h=>⟨_,x.cell y c h⟩,e0.hok.fresh (Nat.le_refl _),fun y c h=>?_,fun p hp=>absurd (show p∈([]:List (Addr×Obj)) from hp) (by simp),e0.hok.kept hk,?_⟩
 ·exact name_of_addr x.apart (PySem.mem_of_lookup h1) (PySem.mem_of_lookup h2)
 ·have hy:scope.names.lookup y=some .cell∨scope.names.lookup y=some .free:=hy
  rcases hy with hy | hy
  ·exact zk9 hy
  ·exact absurd rfl (S.nofree _ (PySem.mem_of_lookup hy))
 ·exact Nat.le_of_lt (x.above y c (PySem.mem_of_lookup h))
 ·have hi:i<vs.length:=by
   unfold start at h2
   by_cases hi:i<vs.length
   ·exact hi
   ·rw [List.getElem?_append_right (by simpa using hi)] at h2
    rw [List.getElem?_replicate] at h2
    split at h2 <;> cases h2
  have ha:vs[i]? = some v:=by
   unfold start at h2
   rw [List.getElem?_append_left (by simpa using hi),List.getElem?_map] at h2
   cases e:vs[i]? with
   | none=>rw [e] at h2;cases h2
   | some a=>rw [e] at h2;cases h2;rfl
  obtain ⟨u,hu,rv⟩:=r.get ha
  have hp:ps[i]? = some y:=by
   rw [← S.pre,List.getElem?_take_of_lt (by omega)];exact h1
  have ndP:ps.Nodup:=by rw [← S.pre];exact S.nd.sublist (List.take_sublist _ _)
  refine ⟨u,rv,?_⟩
  rcases S.par y (List.mem_of_getElem? hp) with k | k
  ·exact .inl ⟨k,zjm ndP hp hu k⟩
  ·obtain ⟨c,e⟩:=zk9 (n:=s.heap.objs.size+1) k
   refine .inr ⟨.inl k,c,e,?_⟩
   have q:=x.cell y c e
   rw [zjo ndP hp hu (by show scope.names.lookup y≠_;rw [k];decide)] at q
   exact q
 ·exact e0.hok.fresh (Nat.le_of_lt (x.above y c (PySem.mem_of_lookup h)))
 ·unfold start
  show _=N.length
  rw [List.length_append,List.length_map,List.length_replicate]
  omega
theorem zrx {CX:CXT} {P:Program} {w:World} {K:PySem.W.Frag} {mg:Str→Option Value} {base:Heap} {k:Nat} {f:Addr} {name qual:Str} {params:Arguments} {body:List Stmt} {scope:Scope} {dV kV doc pm cdv ct oc:Value} {an od:Option Addr}
  {osl:Array (Option Value)} {N ps:List Str} {sp:Sp} (lk:K.lookup f=some ⟨oc,od,.func (PySem.W.fnOf name qual params body scope dV kV doc pm an cdv ct),osl⟩) (hcd:PySem.W.codeIn K cdv qual=true) (S:zau N ps scope)
  (len:∀ vs H Q E,sp vs H Q E→vs.length=ps.length)
  (hbody:∀ (A:Around) (outer:List Env) (s:Shared) (H:Hp) (vs:List V) (Q:VK) (E:XK),Room k (A.deeper (envOfC qual scope s.heap.objs.size f cdv))→sp vs H Q E →
   ∃ t,PSs (cxOf CX P w K mg base N qual scope f cdv A outer s H E) body t∧t { nx:=fun _ H'=>Q .non H',rt:=Q } (start N vs) H) :
  FnOk P w K mg base CX (k+1) f (PySem.W.fnOf name qual params body scope dV kV doc pm an cdv ct) ps sp:=by
 refine ⟨len,fun A outer s H args us vs Q E hr e0 hb r hsp=>?_⟩
 have hl:=len _ _ _ _ hsp
 have KX:K.In s.heap:=e0.mod.kin.keeps fun b o e=>(e0.bs b o e).1
 have lim:s.heap.NoLimit:=e0.mod.nolimit.keeps fun b o e=>(e0.bs b o e).1
 have hkind:∀ y∈ps.zip us,scope.names.lookup y.1=some .local∨(scope.names.lookup y.1=some .cell∧((cellsFrom (s.heap.objs.size+1) scope.names []).lookup y.1).isSome=true):=fun ⟨n,v⟩ hy=>by
  rcases S.par n (List.of_mem_zip hy).1 with q | q
  ·exact .inl q
  ·exact .inr ⟨q,PySem.W.cellsFrom_some _ _ _ (.inl q)⟩
 refine codeAny_call_function hr.depth (KX _ _ lk) rfl S.co S.gen rfl (PySem.W.codeRec_of KX hcd) (hb _ _ _ _ ?_)
 refine wpAny_newFunctionEnv_cells S.kind hkind fun env he s1 x=>?_
 subst he
 refine ⟨lim.keeps x.toInCall.keep,codeAny_func ?_⟩
 obtain ⟨t,ht,hq⟩:=hbody A outer s H vs Q E (hr.deeper _) hsp
 have I:Inv (cxOf CX P w K mg base N qual scope f cdv A outer s H E) [] (start N vs) H s1:=zmy S hr.hd e0 hl r x
 refine wpAny_mono (ht [] s1 (start N vs) H _ I hq) (fun fl s' hs=>?_) fun e s' hs=>hs
 have fin:∀ {σ':St} {H':Hp} {v:V} {u:Value},Inv (cxOf CX P w K mg base N qual scope f cdv A outer s H E) [] σ' H' s'→RelV v u→Q v H'→CE outer P w H s Q u s' :=
  fun {σ' H' v u} J rv q=>⟨v,H',J.os,J.bare,J.base,J.hok,rv,q⟩
 cases fl with
 | ret u =>
  obtain ⟨v,σ',H',J,rv,q⟩:=hs
  exact fin J rv q
 | next =>
  obtain ⟨σ',H',J,q⟩:=hs
  exact fin (v:=V.non) (u:=Value.none) J rfl q
 | brk =>
  obtain ⟨_,_,_,q⟩:=hs
  exact False.elim q
 | cont =>
  obtain ⟨_,_,_,q⟩:=hs
  exact False.elim q
end L2
namespace L2
open PySem PySem.Spec PyProof.Rows
section
variable {X:Cx} {x:Str} {p pos:Pos} {e:Expr} {es:List Expr} {t:TA} {id T:String} {r:List V→Hp→VK→Prop}
def tCB (r:List V→Hp→VK→Prop) (t:TA):TE:=fun σ H Q=>t σ H fun vs H1=>r vs H1 Q
theorem za2 (hc:zf0 X (.builtin id) r) (hg:Gl X x) (hm:X.mg x=none) (hv:bootBuiltins x=some (.builtin id)) (ha:PA X (e::es) t) (hn:x≠"__name__":=by decide) (hdb:(x==("__debug__" : Str))=false:=by decide)
  (he:starEach (e::es) X.env=(false,eval e X.env)::starEach es X.env:=by rfl) (hpl:(backTo pos (starEach es X.env)).any (·.1)=false:=by rfl):PE X (.Call (.Name x p) (e::es) [] pos) (tCB r t):=by
 intro pins s σ H Q I h
 refine wpAny_Call_Name_kw (zfS I hg hm hv ?_ hn hdb)
 exact PyProof.Rows.callWith_builtin1 (thn (ha pos pins s σ H _ I h) fun us s1 ⟨vs,H1,I1,r1,q1⟩=>hc pins s1 σ H1 vs us Q I1 r1 q1) he hpl
theorem zbd (hc:zf0 X (.type T) r) (hg:Gl X x) (hm:X.mg x=none) (hv:bootBuiltins x=some (.type T)) (ha:PA X (e::es) t) (hn:x≠"__name__":=by decide) (hdb:(x==("__debug__" : Str))=false:=by decide)
  (he:starEach (e::es) X.env=(false,eval e X.env)::starEach es X.env:=by rfl) (hpl:(backTo pos (starEach es X.env)).any (·.1)=false:=by rfl):PE X (.Call (.Name x p) (e::es) [] pos) (tCB r t):=by
 intro pins s σ H Q I h
 refine wpAny_Call_Name_kw (zfS I hg hm hv ?_ hn hdb)
 exact PyProof.Rows.callWith_type1 (thn (ha pos pins s σ H _ I h) fun us s1 ⟨vs,H1,I1,r1,q1⟩=>hc pins s1 σ H1 vs us Q I1 r1 q1) he hpl
end
end L2
namespace HT
open PySem PyProof.Rows
section
open PySem.SeqAt
open PySem.AutoSeq1 (wpAny_loadPart')
open PySem.MeetsSeq PySem.MeetsSeq2 PySem.MeetsSeq3
end
section
variable {prog:Program} {w:World} {A:Around} {E:Value→Shared→Prop} {s:Shared}
end
end HT
namespace L2
open PySem PySem.Spec PyProof.Rows
theorem intsAre_of {ns:List Int}:∀ {us:List Value},Vals (ns.map V.int) us→IntsAre us ns:=by
 induction ns with
 | nil=>intro us r;rw [List.map_nil] at r;cases r;exact .nil
 | cons n ns ih =>
  intro us r
  rw [List.map_cons] at r
  cases r with
  | cons r1 r2 =>
   obtain ⟨t,e⟩:=r1
   subst e
   exact .cons n t (ih r2)
section
variable {X:Cx} {e:Expr} {te:TE} {lo hi:Option Expr} {tl th:TO} {pos p2:Pos}
end
end L2
namespace L2
open PySem PySem.Spec PyProof.Rows
def ixN (n:Nat) (i:Int):Option Nat:=if 0≤i then (if i<n then some i.toNat else none) else if -(n:Int)≤i then some (i+n).toNat else none
def atI {α:Type} (xs:List α) (i:Int):Option α:=(ixN xs.length i).bind fun j=>xs[j]?
theorem zmw {n:Nat} {i:Int} {j:Nat} (h:ixN n i=some j):seqIndex? i n=some j∧j<n∧-(n:Int)≤i∧i<n:=by
 unfold ixN at h
 by_cases h0:0≤i
 ·rw [if_pos h0] at h
  by_cases h1:i<n
  ·rw [if_pos h1] at h
   have e:i.toNat=j:=Option.some.inj h
   exact ⟨by rw [seqIndex_of h0 h1,e],by omega,by omega,h1⟩
  ·rw [if_neg h1] at h;cases h
 ·rw [if_neg h0] at h
  by_cases h1 : -(n:Int)≤i
  ·rw [if_pos h1] at h
   have e:(i+n).toNat=j:=Option.some.inj h
   exact ⟨by rw [seqIndex_neg (by omega) h1,e],by omega,h1,by omega⟩
  ·rw [if_neg h1] at h;cases h
theorem zmQ {α:Type} {xs:List α} {i:Int} {v:α} (h:atI xs i=some v):∃ j,seqIndex? i xs.length=some j∧xs[j]? = some v∧j<xs.length∧-(xs.length:Int)≤i∧i<xs.length:=by
 unfold atI at h
 cases e:ixN xs.length i with
 | none=>rw [e] at h;cases h
 | some j =>
  rw [e] at h
  obtain ⟨h1,h2,h3,h4⟩:=zmw e
  exact ⟨j,h1,h,h2,h3,h4⟩
theorem zaO {α:Type} {xs:List α} {j:Nat} {v:α} (h:xs[j]? = some v):atI xs (j:Int)=some v:=by
 have hj:j<xs.length:=(List.getElem?_eq_some_iff.mp h).1
 have e:ixN xs.length (j:Int)=some j:=by
  unfold ixN
  rw [if_pos (by omega),if_pos (by omega)];simp
 unfold atI;rw [e];exact h
def zpO (b:Expr):Prop:=∀ o i,subscripted b false o i=operate [o,i] (getItem o i)
def IxR (X:Cx) (r:R2):Prop :=
 ∀ (value slice:Expr) (pins:List (Addr×Obj)) (s:Shared) (σ:St) (H:Hp) (x y:V) (v u:Value) (Q:VK),Inv X pins σ H s→RelV x v→RelV y u→r x y H Q →
  subscripted slice false v u=operate [v,u] (getItem v u)→wpAny (model X.prog X.w) X.A (subscriptTail value slice v u) (EP X pins σ Q) X.xe s
def MtR (X:Cx) (id:String) (r:V→List V→Hp→VK→Prop):Prop :=
 ∀ (pins:List (Addr×Obj)) (s:Shared) (σ:St) (H:Hp) (x:V) (xs:List V) (v:Value) (us:List Value) (Q:VK),Inv X pins σ H s→RelV x v→Vals xs us→r x xs H Q →
  wpAny (model X.prog X.w) X.A (call (.builtin id) (v::us)) (EP X pins σ Q) X.xe s
section
variable {X:Cx} {a b:Expr} {ta tb:TE} {pos:Pos}
theorem zay {r:R2} (hr:IxR X r) (ha:PE X a ta) (hb:PE X b tb) (hs:zpO b):PE X (.Subscript a b pos) (tOp r ta tb):=by
 intro pins s σ H Q I h
 exact Subscript_ (binT ha hb I h fun v u s2 x y H2 I2 rx ry q=>hr a b pins s2 σ H2 x y v u Q I2 rx ry q (hs _ _))
def rIxL (K:PySem.W.Frag):R2:=fun x y H Q=>∃ p xs i v,x=.ref p∧y=.int i∧SqL K H p xs∧atI xs i=some v∧Q v H
def rIxT (K:PySem.W.Frag):R2:=fun x y H Q=>∃ p xs i v,x=.ref p∧y=.int i∧SqT K H p xs∧atI xs i=some v∧Q v H
theorem zaK:IxR X (rIxL X.K):=by
 intro value slice pins s σ H x y v u Q I rx ry h hs
 obtain ⟨p,xs,i,z,rfl,rfl,hq,he,q⟩:=h
 cases rx
 obtain ⟨t,rfl⟩:=ry
 obtain ⟨its,r,pl,hz⟩:=I.list hq
 obtain ⟨j,h1,h2,h3,h4,h5⟩:=zmQ he
 obtain ⟨w,ew,rw'⟩:=r.get h2
 have hl:=r.length
 have hn:=zkz
 have fin:EP X pins σ Q w s:=⟨z,H,I,rw',q⟩
 by_cases h0:0≤i
 ·have hj:i.toNat=j:=by
   rw [seqIndex_of h0 h5] at h1
   exact Option.some.inj h1
  exact item_listR pl.isList h0 (by omega) (by rw [hj];simpa using ew) fin hs
 ·have hj:(i+(its.toArray.size:Int)).toNat=j:=by
   rw [seqIndex_neg (by omega) h4] at h1
   rw [List.size_toArray,← hl]
   exact Option.some.inj h1
  exact subscriptTail_builtinR (x:=w) pl.isList.typeIs slot_list_getitem.lookup
   (wpAny_getItem_list_neg (Q:=fun r s'=>r=w∧EP X pins σ Q r s') pl.isList (by omega) (by rw [List.size_toArray] <;> omega) (by omega) (by rw [hj];simpa using ew) ⟨rfl,fin⟩) hs
theorem zav:IxR X (rIxT X.K):=by
 intro value slice pins s σ H x y v u Q I rx ry h hs
 obtain ⟨p,xs,i,z,rfl,rfl,hq,he,q⟩:=h
 cases rx
 obtain ⟨t,rfl⟩:=ry
 obtain ⟨its,r,pl,hz⟩:=I.tuple hq
 obtain ⟨j,h1,h2,h3,h4,h5⟩:=zmQ he
 obtain ⟨w,ew,rw'⟩:=r.get h2
 have hl:=r.length
 have hn:=zkz
 have fin:EP X pins σ Q w s:=⟨z,H,I,rw',q⟩
 exact subscriptTail_builtinR (x:=w) pl.typeIs slot_tuple_getitem.lookup
  (getItem_tuple (j:=j) (Q:=fun r s'=>r=w∧EP X pins σ Q r s') pl (by omega) (by omega) (by rw [List.size_toArray,← hl];exact h1) (by simpa using ew) ⟨rfl,fin⟩) hs
theorem zkT (its:List Value) (n j:Nat) (u:Value):Obj.mapSeq (·.setIfInBounds j u) { cls:=.type "list",data:=.seq its.toArray n }={ cls:=.type "list",data:=.seq (its.set j u).toArray n }:=by
 simp [Obj.mapSeq]
theorem Inv.lst {pins:List (Addr×Obj)} {σ:St} {H:Hp} {s:Shared} {p:Addr} {xs:List V} (I:Inv X pins σ H s) (h:H p=some (.lst xs)) :
  ∃ (its:List Value) (n:Nat),Vals xs its∧s.heap.get? p=some { cls:=.type "list",data:=.seq its.toArray n }∧xs.length≤sizeLine:=by
 obtain ⟨z,its,n,r,e⟩:=I.hok p _ h
 exact ⟨its,n,r,e,z⟩
theorem Inv.zq6 {pins:List (Addr×Obj)} {σ:St} {H:Hp} {s:Shared} {p:Addr} {xs ys:List V} {its its':List Value} {n n':Nat} {f:Obj→Obj} (I:Inv X pins σ H s) (h:H p=some (.lst xs))
  (ho:s.heap.get? p=some { cls:=.type "list",data:=.seq its.toArray n }) (hf:f { cls:=.type "list",data:=.seq its.toArray n }={ cls:=.type "list",data:=.seq its'.toArray n' }) (r:Vals ys its') (hz:ys.length≤sizeLine) (t:Nat) :
  Inv X pins σ (upd H p (.lst ys)) { s with heap:=s.heap.update p f,toks:=t }:=by
 have e:(s.heap.update p f).get? p=some { cls:=.type "list",data:=.seq its'.toArray n' }:=by
  rw [Heap.get?_update_self f ho (by rw [hf] <;> rfl),hf]
 refine I.write (x:=p) (e:=p) (by rw [h];trivial) (.inl rfl) (fun b u hb q=>(Heap.get?_update_other _ _ (Ne.symm hb)).trans q) ⟨_,e⟩ ?_
 exact ⟨hz,its',n',r,e⟩
def zrk:V→V→V→Hp→(Hp→Prop)→Prop:=fun o i v H Q=>∃ p xs k j,o=.ref p∧i=.int k∧H p=some (.lst xs)∧ixN xs.length k=some j∧Q (upd H p (.lst (xs.set j v)))
theorem set_list:PSet X zrk:=by
 intro pins s σ H o i v ov iv u Q I ro ri rv h
 obtain ⟨p,xs,k,j,rfl,rfl,hp,hj,q⟩:=h
 cases ro
 obtain ⟨t,rfl⟩:=ri
 obtain ⟨its,n,r,ho,hz⟩:=I.lst hp
 obtain ⟨h1,h2,h3,h4⟩:=zmw hj
 have hl:=r.length
 have hn:=zkz
 have I':Inv X pins σ (upd H p (.lst (xs.set j v))) { s with heap:=s.heap.update p (Obj.mapSeq (·.setIfInBounds j u)) } :=
  I.zq6 hp ho (zkT its n j u) (r.set rv j) (by rw [List.length_set];exact hz) s.toks
 by_cases h0:0≤k
 ·have hk:k.toNat=j:=by
   rw [seqIndex_of h0 h4] at h1
   exact Option.some.inj h1
  exact PySem.W.ki_setAt ho h0 (by omega) (by rw [List.size_toArray,← hl];exact h4) (by rw [hk];exact ⟨_,I',q⟩)
 ·have hk:(k+(its.toArray.size:Int)).toNat=j:=by
   rw [seqIndex_neg (by omega) h3] at h1
   rw [List.size_toArray,← hl]
   exact Option.some.inj h1
  exact PySem.W.ki_setBack ho (by omega) (by rw [List.size_toArray,← hl];exact h3) (by omega) (by rw [hk];exact ⟨_,I',q⟩)
def ziu:V→Bool
 | .non=>true
 | .bl _=>true
 | .int _=>true
 | .str _=>true
 | _=>false
def eqV:V→V→Bool
 | .non,.non=>true
 | .bl a,.bl b=>a==b
 | .bl a,.int b=>(if a then 1 else 0)==b
 | .int a,.bl b=>a==(if b then 1 else 0)
 | .int a,.int b=>a==b
 | .str a,.str b=>a==b
 | _,_=>false
theorem zqL {A:Around} {s:Shared} {y x:V} {u v:Value} (ry:RelV y u) (rx:RelV x v) (fy:ziu y=true) (fx:ziu x=true):SeqAt.EqAt A s u v (eqV y x):=by
 cases y with
 | non =>
  cases ry
  cases x with
  | non=>cases rx;exact SeqAt.EqAt.same _
  | bl b=>cases rx;exact SeqAt.EqAt.none_bool b
  | int b=>obtain ⟨t,rfl⟩:=rx;exact SeqAt.EqAt.none_int b t
  | str b=>obtain ⟨t,rfl⟩:=rx;exact SeqAt.EqAt.none_str b t
  | _=>exact absurd (show false=true from fx) Bool.false_ne_true
 | bl a =>
  cases ry
  cases x with
  | non=>cases rx;exact SeqAt.EqAt.bool_none a
  | bl b=>cases rx;exact SeqAt.EqAt.bool_bool a b
  | int b=>obtain ⟨t,rfl⟩:=rx;exact SeqAt.EqAt.bool_int a b t
  | str b=>obtain ⟨t,rfl⟩:=rx;exact SeqAt.EqAt.bool_str a b t
  | _=>exact absurd (show false=true from fx) Bool.false_ne_true
 | int a =>
  obtain ⟨t',rfl⟩:=ry
  cases x with
  | non=>cases rx;exact SeqAt.EqAt.int_none a t'
  | bl b=>cases rx;exact SeqAt.EqAt.int_bool a t' b
  | int b=>obtain ⟨t,rfl⟩:=rx;exact SeqAt.EqAt.int_int a t' b t
  | str b=>obtain ⟨t,rfl⟩:=rx;exact SeqAt.EqAt.int_str a t' b t
  | _=>exact absurd (show false=true from fx) Bool.false_ne_true
 | str a =>
  obtain ⟨t',rfl⟩:=ry
  cases x with
  | non=>cases rx;exact SeqAt.EqAt.str_none a t'
  | bl b=>cases rx;exact SeqAt.EqAt.str_bool a t' b
  | int b=>obtain ⟨t,rfl⟩:=rx;exact SeqAt.EqAt.str_int a t' b t
  | str b=>obtain ⟨t,rfl⟩:=rx;exact SeqAt.EqAt.str_str a t' b t
  | _=>exact absurd (show false=true from fx) Bool.false_ne_true
 | _=>exact absurd (show false=true from fy) Bool.false_ne_true
def eqU (x:V) (u:Value):Bool:=match u with
 | .none=>eqV .non x
 | .bool b=>eqV (.bl b) x
 | .int i _=>eqV (.int i) x
 | .str z _=>eqV (.str z) x
 | _=>false
theorem zoH {x y:V} {u:Value} (r:RelV y u) (f:ziu y=true):eqU x u=eqV y x:=by
 cases y with
 | non=>cases r;rfl
 | bl b=>cases r;rfl
 | int i=>obtain ⟨t,rfl⟩:=r;rfl
 | str z=>obtain ⟨t,rfl⟩:=r;rfl
 | _=>exact absurd (show false=true from f) Bool.false_ne_true
theorem zgW {x:V}:∀ {xs:List V} {us:List Value},Vals xs us→xs.all ziu=true→us.any (eqU x)=xs.any fun y=>eqV y x
 | _,_,.nil,_=>rfl
 | y::xs,u::us,.cons r t,f=>by
  rw [List.all_cons,Bool.and_eq_true] at f
  rw [List.any_cons,List.any_cons,zoH r f.1,zgW t f.2]
theorem zeX {A:Around} {s:Shared} {x:V} {v:Value} (rx:RelV x v) (fx:ziu x=true):∀ {xs:List V} {us:List Value},Vals xs us→xs.all ziu=true→∀ u∈us,SeqAt.EqAt A s u v (eqU x u)
 | _,_,.nil,_=>fun u hu=>by cases hu
 | y::xs,u::us,.cons r t,f=>fun u' hu=>by
  rw [List.all_cons,Bool.and_eq_true] at f
  rcases List.mem_cons.mp hu with rfl | hu
  ·rw [zoH r f.1];exact zqL r rx f.1 fx
  ·exact zeX rx fx t f.2 u' hu
def inV (x:V) (xs:List V):Bool:=xs.any fun y=>eqV y x
def rIn (K:PySem.W.Frag) (neg:Bool):R2:=fun x y H Q=>∃ p xs,y=.ref p∧(SqL K H p xs∨SqT K H p xs)∧ziu x=true∧xs.all ziu=true∧Q (.bl (if neg then !inV x xs else inV x xs)) H
theorem zb4:OpR X (compareOp .In) (rIn X.K false):=by
 intro pins s σ H x y v u Q I rx ry h
 obtain ⟨p,xs,rfl,hq,fx,fs,q⟩:=h
 cases ry
 rcases hq with hq | hq
 ·obtain ⟨its,r,pl,hz⟩:=I.list hq
  refine SeqAt.in_listAt (eqU x) pl.isList (fun w hw=>zeX rx fx r fs w (by simpa using hw)) ⟨.bl _,H,I,rfl,?_⟩
  rw [show its.toArray.any (eqU x)=its.any (eqU x) by simp,zgW r fs]
  exact q
 ·obtain ⟨its,r,pl,hz⟩:=I.tuple hq
  refine SeqAt.in_tupleAt (eqU x) pl (fun w hw=>zeX rx fx r fs w (by simpa using hw)) ⟨.bl _,H,I,rfl,?_⟩
  rw [show its.toArray.any (eqU x)=its.any (eqU x) by simp,zgW r fs]
  exact q
theorem zbu:OpR X (compareOp .NotIn) (rIn X.K true):=by
 intro pins s σ H x y v u Q I rx ry h
 obtain ⟨p,xs,rfl,hq,fx,fs,q⟩:=h
 cases ry
 rcases hq with hq | hq
 ·obtain ⟨its,r,pl,hz⟩:=I.list hq
  refine SeqAt.notIn_listAt (eqU x) pl.isList (fun w hw=>zeX rx fx r fs w (by simpa using hw)) ⟨.bl _,H,I,rfl,?_⟩
  rw [show its.toArray.any (eqU x)=its.any (eqU x) by simp,zgW r fs]
  exact q
 ·obtain ⟨its,r,pl,hz⟩:=I.tuple hq
  refine SeqAt.notIn_tupleAt (eqU x) pl (fun w hw=>zeX rx fx r fs w (by simpa using hw)) ⟨.bl _,H,I,rfl,?_⟩
  rw [show its.toArray.any (eqU x)=its.any (eqU x) by simp,zgW r fs]
  exact q
theorem za4:zf0 X (.builtin "len") (fun xs H Q=>∃ p ys,xs=[.ref p]∧(SqL X.K H p ys∨SqT X.K H p ys)∧Q (.int ys.length) H):=by
 intro pins s σ H xs us Q I r h
 obtain ⟨p,ys,rfl,hq,q⟩:=h
 obtain ⟨u,rfl,rx⟩:=vals1 r
 cases rx
 have hn:=zkz
 rcases hq with hq | hq
 ·obtain ⟨its,r',pl,hz⟩:=I.list hq
  have hlen:=r'.length
  exact Calls.call_len_list pl.isList (by simp only [List.size_toArray] <;> omega) ⟨.int ys.length,H,I.tok _,⟨s.toks+1,by rw [List.size_toArray,hlen]⟩,q⟩
 ·obtain ⟨its,r',pl,hz⟩:=I.tuple hq
  have hlen:=r'.length
  exact len_tuple pl (by simp only [List.size_toArray] <;> omega) ⟨.int ys.length,H,I.tok _,⟨s.toks+1,by rw [List.size_toArray,hlen]⟩,q⟩
theorem zbv:zf0 X (.type "list") (fun xs H Q=>∃ p ys,xs=[.ref p]∧(SqL X.K H p ys∨SqT X.K H p ys)∧∀ l,H l=none→Q (.ref l) (upd H l (.lst ys))):=by
 intro pins s σ H xs us Q I r h
 obtain ⟨p,ys,rfl,hq,q⟩:=h
 obtain ⟨u,rfl,rx⟩:=vals1 r
 cases rx
 have fin:∀ (its:List Value),Vals ys its→ys.length≤sizeLine→∀ (h':Heap) (c':Nat),(∀ b o',s.heap.get? b=some o'→h'.get? b=some o') →
   h'.get? s.heap.objs.size=some { cls:=.type "list",dict:=none,data:=.seq its.toArray c',slots:=#[] }→EP X pins σ Q (.ref s.heap.objs.size) { s with heap:=h' }:=fun its r' hz h' c' kp e =>
  ⟨.ref s.heap.objs.size,_,I.laid (t':=s.toks) kp (Nat.le_refl _) (show zbY X.prog X.w _ h' _ (.lst ys) from ⟨hz,its,c',r',e⟩),rfl,q _ (I.hok.fresh (Nat.le_refl _))⟩
 rcases hq with hq | hq
 ·obtain ⟨its,r',pl,hz⟩:=I.list hq
  have hlen:=r'.length
  obtain ⟨o,ho,hc,n,hd⟩:=pl.isList
  exact call_list_seq p (.inl rfl) ho hc hd (fun h' c' kp e=>fin its r' hz h' c' kp e) (by simp only [List.size_toArray] <;> omega)
 ·obtain ⟨its,r',pl,hz⟩:=I.tuple hq
  have hlen:=r'.length
  obtain ⟨o,ho,hc,n,hd⟩:=pl
  exact call_list_seq p (.inr rfl) ho hc hd (fun h' c' kp e=>fin its r' hz h' c' kp e) (by simp only [List.size_toArray] <;> omega)
theorem zix:zf0 X (.type "tuple") (fun xs H Q=>∃ p ys,xs=[.ref p]∧((SqL X.K H p ys∧∀ l,H l=none→Q (.ref l) (upd H l (.tup ys)))∨(SqT X.K H p ys∧Q (.ref p) H))):=by
 intro pins s σ H xs us Q I r h
 obtain ⟨p,ys,rfl,h⟩:=h
 obtain ⟨u,rfl,rx⟩:=vals1 r
 cases rx
 rcases h with ⟨hq,q⟩ | ⟨hq,q⟩
 ·obtain ⟨its,r',pl,hz⟩:=I.list hq
  have hlen:=r'.length
  refine call_tuple_list pl.isList (fun h' kp=>?_) (by simp only [List.size_toArray] <;> omega)
  have I1:Inv X pins σ H { s with heap:=h' }:=I.kept (t':=s.toks) kp
  have I2:Inv X pins σ (upd H h'.objs.size (.tup ys)) { s with heap:=h'.push { cls:=.type "tuple",data:=.seq its.toArray } } :=
   I1.laid (t':=s.toks) (fun b o e=>Heap.get?_push_of_some _ e) (Nat.le_refl _) (show zbY X.prog X.w _ _ _ (.tup ys) from ⟨hz,its,r',IsTup.new _ _⟩)
  exact ⟨.ref h'.objs.size,_,I2,rfl,q _ (I1.hok.fresh (Nat.le_refl _))⟩
 ·obtain ⟨its,r',pl,hz⟩:=I.tuple hq
  exact call_tuple_same pl ⟨.ref p,H,I,rfl,q⟩
def tyV (K:PySem.W.Frag) (T:String) (x:V) (H:Hp):Prop:=match x with
 | .str _=>T = "str"
 | .int _=>T = "int"
 | .ref p=>(T = "list"∧∃ xs,SqL K H p xs)∨(T = "tuple"∧∃ o,K.lookup p=some o∧o.cls=.type "tuple"∧o.dict=none) ∨
   (T = "dict"∧((∃ kvs,H p=some (.dK kvs))∨∃ kvs,H p=some (.dT kvs)))∨(T = "set"∧∃ S n,H p=some (.set S n))
 | _=>False
theorem zox {pins:List (Addr×Obj)} {σ:St} {H:Hp} {s:Shared} {T:String} {x:V} {v:Value} (I:Inv X pins σ H s) (r:RelV x v) (ty:tyV X.K T x H) :
  s.TypeIs v T∧∀ a,v=.ref a→∃ ob,s.heap.get? a=some ob∧ob.dict=none:=by
 cases x with
 | str z =>
  obtain ⟨t,rfl⟩:=r
  cases (show T = "str" from ty)
  exact ⟨typeIs_str s z t,fun _ e=>nomatch e⟩
 | int i =>
  obtain ⟨t,rfl⟩:=r
  cases (show T = "int" from ty)
  exact ⟨typeIs_int s i t,fun _ e=>nomatch e⟩
 | ref p =>
  cases r
  rcases ty with ⟨rfl,xs,hq⟩ | ⟨rfl,o,hk,hc,hd⟩ | ⟨rfl,hk⟩ | ⟨rfl,S,n,hk⟩
  ·obtain ⟨its,_,pl,_⟩:=I.list hq
   refine ⟨pl.isList.typeIs,fun a e=>?_⟩
   cases e
   obtain ⟨o,n,e,c,hd,_⟩:=pl
   exact ⟨o,e,hd⟩
  ·refine ⟨⟨o,I.kIn p o hk,hc⟩,fun a e=>?_⟩
   cases e
   exact ⟨o,I.kIn _ o hk,hd⟩
  ·have z:∃ o,s.heap.get? p=some o∧o.ExactDict:=by
    rcases hk with ⟨kvs,hk⟩ | ⟨kvs,hk⟩
    ·obtain ⟨_,_,_,_,o,_,_,e,ex,_⟩:=I.hok p _ hk
     exact ⟨o,e,ex⟩
    ·obtain ⟨_,_,_,_,o,_,_,e,ex,_⟩:=I.hok p _ hk
     exact ⟨o,e,ex⟩
   obtain ⟨o,e,ex⟩:=z
   refine ⟨⟨o,e,ex.1⟩,fun a e2=>?_⟩
   cases e2
   exact ⟨o,e,ex.2.1⟩
  ·obtain ⟨o,_,_,_,e,ex,_⟩:=I.hok p _ hk
   refine ⟨⟨o,e,ex.1⟩,fun a e2=>?_⟩
   cases e2
   exact ⟨o,e,ex.2.1⟩
 | _=>exact False.elim ty
def tBM0 (K:PySem.W.Frag) (T:String) (r:V→List V→Hp→VK→Prop) (to:TE):TE:=fun σ H Q=>to σ H fun x H1=>tyV K T x H1∧r x [] H1 Q
def tBM (K:PySem.W.Frag) (T:String) (r:V→List V→Hp→VK→Prop) (to:TE) (t:TA):TE:=fun σ H Q=>to σ H fun x H1=>tyV K T x H1∧t σ H1 fun xs H2=>r x xs H2 Q
variable {o e:Expr} {es:List Expr} {to:TE} {t:TA} {name:Str} {apos cpos:Pos} {T id:String} {r:V→List V→Hp→VK→Prop}
theorem ziK (pa:PlainAttrs T) (slot:Slot T name id) (hty:typeOf (.builtin id)=pure (.type "method_descriptor")) (hm:MtR X id r) (ho:PE X o to)
  (hbase:attributeBase o name X.env (eval o X.env)=eval o X.env:=by rfl) (hline:(apos.endLine==cpos.line)=true:=by rfl):PE X (.Call (.Attribute o name apos) [] [] cpos) (tBM0 X.K T r to):=by
 intro pins s σ H Q I h
 refine wpAny_Call_method0_late hbase hline (thn (ho pins s σ H _ I h) fun v s1 ⟨x,H1,I1,r1,ty,q1⟩=>?_)
 obtain ⟨h1,h2⟩:=zox I1 r1 ty
 exact ⟨T,id,pa,slot,hty,h1,h2,Calls.callWith_builtin rfl (PySem.evalArgs_none (hm pins s1 σ H1 x [] v [] Q I1 r1 .nil q1))⟩
theorem ziL (pa:PlainAttrs T) (slot:Slot T name id) (hty:typeOf (.builtin id)=pure (.type "method_descriptor")) (hm:MtR X id r) (ho:PE X o to) (ha:PA X (e::es) t)
  (hbase:attributeBase o name X.env (eval o X.env)=eval o X.env:=by rfl)
  (hfew:((backTo cpos (starEach (e::es) X.env)).all (fun x=>!x.1)&&(backToKw cpos (keywordEach [] X.env)).all (fun x=>x.1.isSome)
   && decide ((e::es).length+([]:List Keyword).length+(if ([]:List Keyword).isEmpty then 0 else 1)<30))=true:=by rfl)
  (hline:(apos.endLine==cpos.line)=true:=by rfl) (hs:starEach (e::es) X.env=(false,eval e X.env)::starEach es X.env:=by rfl) (hplain:(backTo cpos (starEach es X.env)).any (·.1)=false:=by rfl) :
  PE X (.Call (.Attribute o name apos) (e::es) [] cpos) (tBM X.K T r to t):=by
 intro pins s σ H Q I h
 refine wpAny_Call_method_late hbase hfew hline rfl (thn (ho pins s σ H _ I h) fun v s1 ⟨x,H1,I1,r1,ty,q1⟩=>?_)
 obtain ⟨h1,h2⟩:=zox I1 r1 ty
 refine ⟨T,id,pa,slot,hty,h1,h2,?_⟩
 have hA:=ha cpos pins s1 σ H1 _ I1 q1
 rw [hs] at hA ⊢
 refine Calls.callWith_builtin (by show (false||(backTo cpos (starEach es X.env)).any (·.1))=false;rw [hplain] <;> rfl) (Calls.evalArgs_plain ?_)
 exact thn hA fun us s2 ⟨vs,H2,I2,r2,q2⟩=>hm pins s2 σ H2 x vs v us Q I2 r1 r2 q2
end
end L2
namespace L2
open PySem PySem.Spec PyProof.Rows
def MtM (X:Cx) (id:String) (r:V→List V→Hp→VK→Prop):Prop :=
 ∀ (pins:List (Addr×Obj)) (s:Shared) (σ:St) (H:Hp) (x:V) (xs:List V) (v:Value) (us:List Value) (Q:VK),Inv X pins σ H s→RelV x v→Vals xs us→r x xs H Q →
  wpAny (model X.prog X.w) X.A (call (.builtin id) (v::us)) (EP X pins σ Q) X.xe s
theorem Vals.one:∀ {x:V} {us:List Value},Vals [x] us→∃ u,us=[u]∧RelV x u
 | _,_,.cons r .nil=>⟨_,rfl,r⟩
theorem Vals.zero:∀ {us:List Value},Vals [] us→us=[]
 | _,.nil=>rfl
theorem Vals.dropLast {xs:List V} {us:List Value} (h:Vals xs us):Vals xs.dropLast us.dropLast:=by
 induction h with
 | nil=>exact .nil
 | cons r t ih =>
  cases t with
  | nil=>exact .nil
  | cons q t'=>exact .cons r ih
theorem Vals.eraseIdx:∀ {xs:List V} {us:List Value} (i:Nat),Vals xs us→Vals (xs.eraseIdx i) (us.eraseIdx i)
 | _,_,_,.nil=>.nil
 | _,_,0,.cons _ t=>t
 | _,_,i+1,.cons r t=>.cons r (Vals.eraseIdx i t)
theorem Vals.rep {xs:List V} {us:List Value} (h:Vals xs us):∀ k:Nat,Vals (List.replicate k xs).flatten (List.replicate k us).flatten
 | 0=>.nil
 | k+1=>by
  rw [List.replicate_succ,List.replicate_succ,List.flatten_cons,List.flatten_cons]
  exact Vals.append h (Vals.rep h k)
theorem zlj {α:Type} (l:List α):l.eraseIdx (l.length-1)=l.dropLast:=by
 induction l with
 | nil=>rfl
 | cons a r ih =>
  cases r with
  | nil=>rfl
  | cons b r =>
   have e:(a::b::r).length-1=((b::r).length-1)+1:=by
    have h1:(a::b::r).length=r.length+2:=rfl
    have h2:(b::r).length=r.length+1:=rfl
    omega
   rw [e,List.eraseIdx_cons_succ,ih]
   all_goals rfl
theorem ziZ {α:Type}:∀ (l:List α) (i:Nat),(l.eraseIdx i).length≤l.length
 | [],_=>Nat.le_refl _
 | _::_,0=>Nat.le_succ _
 | _::r,i+1=>Nat.succ_le_succ (ziZ r i)
theorem foldl_rep (its:List Value):∀ (k:Nat) (acc:List Value),
  List.foldl (fun x1 x2=>x1++x2) acc.toArray (List.replicate k its.toArray)=(acc++(List.replicate k its).flatten).toArray
 | 0,acc=>by simp
 | k+1,acc=>by
  have e:acc.toArray++its.toArray=(acc++its).toArray:=by simp
  have e2:(acc++its)++(List.replicate k its).flatten=acc++(List.replicate (k+1) its).flatten:=by
   rw [List.replicate_succ,List.flatten_cons,List.append_assoc]
  rw [← e2,← foldl_rep its k (acc++its),← e,List.replicate_succ,List.foldl_cons]
section
variable {X:Cx} {pins:List (Addr×Obj)} {σ:St} {H:Hp} {s:Shared} {l b:Addr} {xs ys zs:List V}
theorem Inv.lset {its its':List Value} {n:Nat} {f:Array Value→Array Value} {t':Nat} (I:Inv X pins σ H s) (hH:H l=some (.lst xs))
  (e:s.heap.get? l=some { cls:=.type "list",data:=.seq its.toArray n }) (hf:f its.toArray=its'.toArray) (hv:Vals ys its') (hz:ys.length≤sizeLine) :
  Inv X pins σ (upd H l (.lst ys)) { s with heap:=s.heap.update l (Obj.mapSeq f),toks:=t' }:=by
 have q:=PySem.IsL.update e f
 rw [hf] at q
 refine I.write (x:=l) (e:=l) (by rw [hH];exact trivial) (.inl rfl) (fun b' u hb hu=>(Heap.get?_update_other s.heap (Obj.mapSeq f) (Ne.symm hb)).trans hu) ⟨_,q⟩ ?_
 exact ⟨hz,its',_,hv,q⟩
theorem Inv.lnew {its:List Value} {t':Nat} (I:Inv X pins σ H s) (hv:Vals ys its) (hz:ys.length≤sizeLine) :
  Inv X pins σ (upd H s.heap.objs.size (.lst ys)) { s with heap:=s.heap.push { cls:=.type "list",data:=.seq its.toArray },toks:=t' } :=
 I.laid (fun _ _ q=>Heap.get?_push_of_some _ q) (Nat.le_refl _) ⟨hz,its,0,hv,Heap.get?_push_size _ rfl⟩
theorem Inv.fresh (I:Inv X pins σ H s):H s.heap.objs.size=none:=I.hok.fresh (Nat.le_refl _)
theorem Inv.lstM (I:Inv X pins σ H s) (hH:H l=some (.lst xs)):xs.length≤sizeLine∧∃ (its:List Value) (n:Nat),Vals xs its∧xs.length=its.length∧s.heap.get? l=some { cls:=.type "list",data:=.seq its.toArray n }:=by
 obtain ⟨z,its,n,r,e⟩:=I.hok l _ hH
 exact ⟨z,its,n,r,r.length,e⟩
theorem zhY {n:Nat} (h:n≤sizeLine):Builtin.List.listTooLong n=false:=by
 unfold Builtin.List.listTooLong
 exact decide_eq_false (by omega)
end
section
variable {X:Cx}
def zpe:V→List V→Hp→VK→Prop:=fun x vs H Q=>∃ l xs y,x=.ref l∧vs=[y]∧H l=some (.lst xs)∧xs.length<sizeLine∧Q .non (upd H l (.lst (xs++[y])))
theorem zde:MtM X "list.append" zpe:=by
 intro pins s σ H x vs v us Q I rx rv h
 obtain ⟨l,xs,y,rfl,rfl,hH,hz,q⟩:=h
 cases rx
 obtain ⟨u,rfl,ru⟩:=rv.one
 obtain ⟨z,its,n,r,hl,e⟩:=I.lstM hH
 refine call_meets F.slot_list_append ⟨_,e,rfl⟩ F.entry_list_append (F.args_list_append_2 _ _) (PySem.list_append l its.toArray n u (by rw [List.size_toArray];omega)) ⟨e,?_⟩
 refine ⟨.non,_,I.lset (its':=its++[u]) hH e (by simp) (r.append (.cons ru .nil)) ?_,rfl,q⟩
 rw [List.length_append,List.length_singleton]
 omega
def rPop:V→List V→Hp→VK→Prop:=fun x vs H Q=>∃ l xs y,x=.ref l∧vs=[]∧H l=some (.lst xs)∧xs[xs.length-1]? = some y∧Q y (upd H l (.lst xs.dropLast))
theorem zq4:MtM X "list.pop" rPop:=by
 intro pins s σ H x vs v us Q I rx rv h
 obtain ⟨l,xs,y,rfl,rfl,hH,hy,q⟩:=h
 cases rx
 have hus:=rv.zero
 subst hus
 obtain ⟨z,its,n,r,hl,e⟩:=I.lstM hH
 obtain ⟨u,hu,ru⟩:=r.get hy
 have hy':its.toArray[its.toArray.size-1]? = some u:=by
  show its.toArray[its.length-1]? = some u
  rw [← Array.getElem?_toList,← hl]
  exact hu
 refine call_meets F.slot_list_pop ⟨_,e,rfl⟩ F.entry_list_pop (F.args_list_pop_1 _) (MeetsSeq.list_pop_last l its.toArray n u hy' (by rw [List.size_toArray];omega)) ⟨e,?_⟩
 refine ⟨y,_,I.lset (its':=its.dropLast) hH e ?_ r.dropLast ?_,ru,q⟩
 ·show its.toArray.eraseIdxIfInBounds (its.toArray.size-1)=its.dropLast.toArray
  rw [List.size_toArray,List.eraseIdxIfInBounds_toArray,zlj]
 ·rw [List.length_dropLast]
  omega
def zqn:V→List V→Hp→VK→Prop:=fun x vs H Q=>∃ l xs,x=.ref l∧vs=[]∧H l=some (.lst xs)∧Q .non (upd H l (.lst []))
theorem zgi:MtM X "list.clear" zqn:=by
 intro pins s σ H x vs v us Q I rx rv h
 obtain ⟨l,xs,rfl,rfl,hH,q⟩:=h
 cases rx
 have hus:=rv.zero
 subst hus
 obtain ⟨z,its,n,r,hl,e⟩:=I.lstM hH
 refine call_meets F.slot_list_clear ⟨_,e,rfl⟩ F.entry_list_clear (F.args_list_clear_1 _) (AutoSeq1.list_clear_list_0 l its.toArray n (by rw [List.size_toArray];omega)) ⟨e,?_⟩
 exact ⟨.non,_,I.lset (its':=[]) (ys:=[]) hH e rfl .nil (Nat.zero_le _),rfl,q⟩
def rCat:R2:=fun x y H Q=>∃ l b xs zs,x=.ref l∧y=.ref b∧H l=some (.lst xs)∧H b=some (.lst zs)∧xs.length+zs.length≤sizeLine∧∀ p,H p=none→Q (.ref p) (upd H p (.lst (xs++zs)))
theorem zoC:OpR X (binaryOp .Add) rCat:=by
 intro pins s σ H x y v u Q I rx ry h
 obtain ⟨l,b,xs,zs,rfl,rfl,hH,hB,hz,q⟩:=h
 cases rx
 cases ry
 obtain ⟨z,its,n,r,hl,e⟩:=I.lstM hH
 obtain ⟨z2,its2,n2,r2,hl2,e2⟩:=I.lstM hB
 refine PySem.P.add_list e e2 ?_ (by rw [List.size_toArray,List.size_toArray];omega)
 have ea:its.toArray++its2.toArray=(its++its2).toArray:=by simp
 rw [ea]
 exact ⟨.ref _,_,I.lnew (t':=s.toks) (r.append r2) (by rw [List.length_append];omega),rfl,q _ I.fresh⟩
def rRep:R2:=fun x y H Q=>∃ l k xs,x=.ref l∧y=.int k∧H l=some (.lst xs)∧-(2^63)≤k∧k<2^63∧xs.length*k.toNat≤sizeLine ∧
 ∀ p,H p=none→Q (.ref p) (upd H p (.lst (List.replicate k.toNat xs).flatten))
theorem len_rep {α:Type} (xs:List α) (k:Nat):(List.replicate k xs).flatten.length=k*xs.length:=by
 induction k with
 | zero=>simp
 | succ k ih=>rw [List.replicate_succ,List.flatten_cons,List.length_append,ih,Nat.succ_mul,Nat.add_comm]
theorem zqu:OpR X (binaryOp .Mult) rRep:=by
 intro pins s σ H x y v u Q I rx ry h
 obtain ⟨l,k,xs,rfl,rfl,hH,h1,h2,hz,q⟩:=h
 cases rx
 obtain ⟨t,rfl⟩:=ry
 obtain ⟨z,its,n,r,hl,e⟩:=I.lstM hH
 have hlen:its.toArray.size*k.toNat≤sizeLine:=by rw [List.size_toArray,← hl];exact hz
 have hcap:¬ its.toArray.size*k.toNat>(2^63-1)/8:=by
  have:(sizeLine:Nat)≤(2^63-1)/8:=by decide
  omega
 have hfit:¬ (!Builtin.List.listFitsIndex k)=true:=by
  rw [fitsIndex_both h1 h2]
  exact Bool.false_ne_true
 have hlong:¬ Builtin.List.listTooLong (its.toArray.size*k.toNat)=true:=by
  rw [zhY hlen]
  exact Bool.false_ne_true
 have hnew:List.foldl (fun x1 x2=>x1++x2) #[] (List.replicate (if its.toArray.isEmpty=true then 0 else k.toNat) its.toArray)=(List.replicate k.toNat its).flatten.toArray:=by
  have f0:∀ m:Nat,List.foldl (fun x1 x2=>x1++x2) #[] (List.replicate m its.toArray)=(List.replicate m its).flatten.toArray:=fun m=>by
   have:=foldl_rep its m []
   rw [List.nil_append] at this
   exact this
  rw [f0]
  cases its with
  | nil=>simp
  | cons a r'=>rw [if_neg (by simp)]
 refine wpAny_binaryOp_repeat_ref (T:="list") (U:="int") (by decide) ⟨_,e,rfl⟩ (fun s'=>typeIs_int s' k t) noFill_list_mul F.fills_int_mul F.slot_int_rmul repeat_list F.slot_int_index.lookup
  (call_meets F.slot_int_rmul (typeIs_int s k t) F.entry_int_rmul (F.args_int_rmul_2 _ _) (int___rmul___int_list k t l its.toArray n)
   ⟨e,rfl,⟨_,e,rfl⟩,call_meets F.slot_list_mul ⟨_,e,rfl⟩ F.entry_list_mul (F.args_list_mul_2 _ _) (AutoListH.list___mul___list_int_3 l its.toArray n k t hfit hcap hlong) ⟨e,?_⟩⟩)
 rw [hnew]
 exact ⟨.ref _,_,I.lnew (t':=s.toks) (r.rep k.toNat) (by rw [len_rep,Nat.mul_comm];exact hz),rfl,q _ I.fresh⟩
end
section
variable {prog:Program} {w:World} {A:Around} {E:Value→Shared→Prop} {s:Shared}
theorem zlk {a c n:Nat} (hac:a≤c) (hc:c≤n):sliceBounds (some (a:Int)) (some (c:Int)) none n=((a:Int),(c:Int),1):=by
 simp only [sliceBounds,Option.getD_none]
 have h1:¬ ((a:Int)<0):=by omega
 have h2:¬ ((c:Int)<0):=by omega
 simp only [h1,h2,if_false,show (1:Int)>0 by decide,if_true]
 congr 1
 ·omega
 ·congr 1;omega
set_option maxRecDepth 100000 in
theorem znm {l b sl:Addr} {items new:Array Value} {n n2:Nat} {vl vu:Value} {a c:Nat} {Q:Unit→Shared→Prop}
    (e:s.heap.get? l=some { cls:=.type "list",data:=.seq items n }) (e2:s.heap.get? b=some { cls:=.type "list",data:=.seq new n2 }) (hne:l≠b)
    (hs:s.heap.IsSliceOf sl vl vu .none) (pl:IsPart vl (some (a:Int))) (pu:IsPart vu (some (c:Int))) (hac:a≤c) (hc:c≤items.size)
    (hsz:items.size+new.size≤sizeLine) (h:Q () { s with heap:=s.heap.update l (Obj.mapSeq fun xs=>xs.extract 0 a++new++xs.extract c xs.size) }) :
    wpAny (model prog w) A (setItem (.ref l) (.ref sl) (.ref b)) Q E s:=by
  have hl:s.heap.IsList l items:=PySem.IsL.isList e
  have hb:s.heap.IsList b new:=PySem.IsL.isList e2
  obtain ⟨os,hos,hcs,hds⟩:=id hs
  have hTs:s.TypeIs (.ref sl) "slice":=⟨os,hos,hcs⟩
  have hstep:¬ ((rawPart none==rawInt 0)=true):=Bool.false_ne_true
  have hsame:Builtin.List.listSameRef (.ref l) (.ref b)=false:=by
    unfold Builtin.List.listSameRef
    exact beq_eq_false_iff_ne.mpr hne
  have hmax:(max (a:Int) (c:Int)).toNat=c:=by omega
  have hz':((fun xs:Array Value=>xs.extract 0 a++new++xs.extract c xs.size) items).size≤sizeLine+1:=by
    simp only [Array.size_append,Array.size_extract]
    omega
  unfold setItem
  try with_reducible refine wpAny_holding ?_
  first | refine wpAny_bind (wpAny_pure ?_) | skip
  refine wpAny_bind (wpAny_sequenceKey hl.typeIs (by decide) ?_)
  refine wpAny_bind (wpAny_callSpecial?_slot (name:=Str.ofString "__setitem__") hl.typeIs slot_list_setitem
    (wpAny_call_entry slot_list_setitem hl.typeIs entry_list_setitem ?_ (args_list_setitem _ _ _)))
  show wpAny _ _ (Builtin.List.listSubscript? (.ref sl) >>= _) _ _ s
  refine wpAny_bind ?_
  unfold Builtin.List.listSubscript?
  refine wpAny_bind (wpAny_specialOf hTs slice_no_index ?_)
  simp only [Option.isNone_none,if_true]
  refine wpAny_pure ?_
  show wpAny _ _ (typeOf (.ref sl) >>= _) _ _ s
  refine wpAny_bind (wpAny_typeOf hTs ?_)
  first
    | rw [if_neg (by decide)]
    | refine PySem.W.KFB.if_not (by decide) ?_
  rw [listSliceParts_eq]
  refine wpAny_bind (wpAny_bind (wpAny_field hos hds (x:=.none) rfl (wpAny_bind (wpAny_listPart .none ?_))))
  rw [if_neg hstep]
  refine wpAny_bind (wpAny_field hos hds (x:=vl) rfl (wpAny_bind (wpAny_listPart pl ?_)))
  refine wpAny_bind (wpAny_field hos hds (x:=vu) rfl (wpAny_bind (wpAny_listPart pu (wpAny_pure ?_))))
  first
    | simp only [hsame,Bool.false_eq_true,if_false]
    | refine PySem.W.KFB.if_not hsame ?_
    | (dsimp only
       rw [if_neg (by rw [hsame];exact Bool.false_ne_true)])
  refine wpAny_bind (m:=Builtin.List.listAllItems (.ref b) "must assign iterable to extended slice") ?_
  unfold Builtin.List.listAllItems
  refine wpAny_bind (wpAny_typeOf hb.typeIs ?_)
  first
    | refine PySem.W.KFB.if_so (by decide) ?_
    | rw [if_pos (by decide)]
    | simp only [beq_self_eq_true,Bool.true_or,if_true]
  unfold Builtin.List.listItems
  refine wpAny_bind (wpAny_seqItems e2 rfl (wpAny_pure ?_))
  refine wpAny_bind (wpAny_bind (wpAny_seqItems e rfl (wpAny_pure ?_)))
  refine wpAny_bind (wpAny_of_eq ((sliceIndices_raw (some (a:Int)) (some (c:Int)) none items.size (by simp)).trans (congrArg (pure:Int×Int×Int→Sem (Int×Int×Int)) (zlk hac hc))) ?_)
  show wpAny _ _ (if ((1:Int)==1)=true then _ else _) _ _ s
  rw [if_pos (by decide)]
  refine wpAny_bind (wpAny_rule ?_)
  first
    | simp only [zhY hsz,Bool.false_eq_true,if_false]
    | refine PySem.W.KFB.if_not (zhY hsz) ?_
  first | refine wpAny_bind (wpAny_pure ?_) | skip
  show wpAny _ _ (updateSeq l (fun xs=>xs.extract 0 ((a:Int)).toNat++new++xs.extract (max (a:Int) (c:Int)).toNat xs.size) >>= _) _ _ s
  rw [hmax,Int.toNat_natCast]
  refine wpAny_bind (wpAny_updateSeq (hz:=Nat.le_trans (Nat.le_add_right _ _) hsz) (_hz':=hz') e rfl ?_)
  refine wpAny_bind (wpAny_letGo ?_)
  first
    | exact wpAny_bind (wpAny_pure (wpAny_pure ⟨.none,rfl,wpAny_pure h⟩))
    | exact wpAny_pure ⟨.none,rfl,wpAny_pure h⟩
end
section
variable {X:Cx}
end
end L2
namespace L2
open PySem PySem.Spec PyProof.Rows
section
variable {κ:Type} [DecidableEq κ]
def valV (kvs:List (κ×V)) (k:κ):Option V:=(kvs.find? fun kv=>decide (kv.1=k)).map (·.2)
def putK (kvs:List (κ×V)) (k:κ) (v:V):List (κ×V) :=
 if (kvs.any fun kv=>decide (kv.1=k))=true then kvs.map (fun kv=>if kv.1=k then (kv.1,v) else kv) else kvs++[(k,v)]
theorem zhJ {p:κ×V} {r:List (κ×V)} {k:κ} (e:p.1=k):valV (p::r) k=some p.2:=by simp [valV,List.find?_cons,e]
theorem zhK {p:κ×V} {r:List (κ×V)} {k:κ} (e:¬ p.1=k):valV (p::r) k=valV r k:=by simp [valV,List.find?_cons,e]
theorem zeK (k:κ):∀ kvs:List (κ×V),(kvs.any fun kv=>decide (kv.1=k))=(valV kvs k).isSome
 | []=>rfl
 | p::r=>by
  rw [List.any_cons]
  by_cases e:p.1=k
  ·simp only [zhJ e,decide_eq_true e,Bool.true_or,Option.isSome_some]
  ·rw [zhK e,decide_eq_false e,Bool.false_or];exact zeK k r
theorem ze6 (kvs:List (κ×V)) (k:κ) (v:V):(putK kvs k v).length≤kvs.length+1:=by
 unfold putK
 split
 ·rw [List.length_map];omega
 ·rw [List.length_append,List.length_cons,List.length_nil];omega
theorem znv {kvs:List (κ×V)} {k:κ} (v:V) (h:valV kvs k=none):putK kvs k v=kvs++[(k,v)]:=by
 unfold putK
 rw [zeK,h]
 exact if_neg (by decide)
theorem RelO.zgK {o:Option V} {u:Option Value} (r:RelO o u):o.isSome=u.isSome:=by
 cases o with
 | none=>cases u with
  | none=>rfl
  | some _=>exact (show False from r).elim
 | some _=>cases u with
  | none=>exact (show False from r).elim
  | some _=>rfl
theorem KV.val {kvs:List (κ×V)} {vs:List (κ×Value)} (r:KV kvs vs) (k:κ):RelO (valV kvs k) (valueAt vs k):=by
 unfold KV at r
 induction r with
 | nil=>exact True.intro
 | @cons p q ps qs h t ih =>
  obtain ⟨h1,h2⟩:=h
  by_cases e:p.1=k
  ·have e':q.1=k:=h1.symm.trans e
   have b:valueAt (q::qs) k=some q.2:=by simp [valueAt,List.find?_cons,e']
   rw [zhJ e,b];exact h2
  ·have e':¬ q.1=k:=fun z=>e (h1.trans z)
   have b:valueAt (q::qs) k=valueAt qs k:=by simp [valueAt,List.find?_cons,e']
   rw [zhK e,b];exact ih
theorem KV.any {kvs:List (κ×V)} {vs:List (κ×Value)} (r:KV kvs vs) (k:κ):(kvs.any fun kv=>decide (kv.1=k))=vs.any fun kv=>decide (kv.1=k):=by
 unfold KV at r
 induction r with
 | nil=>rfl
 | cons h t ih=>rw [List.any_cons,List.any_cons,ih,h.1]
theorem KV.repl {kvs:List (κ×V)} {vs:List (κ×Value)} (r:KV kvs vs) (k:κ) {y:V} {u:Value} (ry:RelV y u) :
  KV (kvs.map fun kv=>if kv.1=k then (kv.1,y) else kv) (vs.map fun kv=>if kv.1=k then (kv.1,u) else kv):=by
 unfold KV at r ⊢
 induction r with
 | nil=>exact .nil
 | @cons p q ps qs h t ih =>
  rw [List.map_cons,List.map_cons]
  refine .cons ?_ ih
  obtain ⟨h1,h2⟩:=h
  by_cases e:p.1=k
  ·rw [if_pos e,if_pos (h1.symm.trans e)];exact ⟨h1,ry⟩
  ·rw [if_neg e,if_neg (fun z=>e (h1.trans z))];exact ⟨h1,h2⟩
theorem KV.put {kvs:List (κ×V)} {vs:List (κ×Value)} (r:KV kvs vs) (k:κ) {y:V} {u:Value} (ry:RelV y u):KV (putK kvs k y) (stored vs k u):=by
 unfold putK stored
 rw [r.any k]
 by_cases e:(vs.any fun kv=>decide (kv.1=k))=true
 ·rw [if_pos e,if_pos e];exact r.repl k ry
 ·rw [if_neg e,if_neg e];exact Paired.snoc r ⟨rfl,ry⟩
theorem KV.length {kvs:List (κ×V)} {vs:List (κ×Value)} (r:KV kvs vs):kvs.length=vs.length:=Paired.length r
end
theorem zoe {P:Program} {w:World} {k:Key} {u:Value} (r:RelV (kV k) u):(zbX P w).is k u=true:=by
 cases k with
 | inl i=>obtain ⟨t,e⟩:=(show ∃ t,u=Value.int i t from r);subst e;exact zjH P w i t
 | inr x=>obtain ⟨t,e⟩:=(show ∃ t,u=Value.str x t from r);subst e;exact zjG P w x t
theorem zjc {P:Program} {w:World}:∀ {ks:List Key} {us:List Value},Vals (ks.map kV) us→ItemsAre (zbX P w) ks us
 | [],_,r=>by rw [List.map_nil] at r;cases r;exact .nil
 | k::ks,_,r=>by
  rw [List.map_cons] at r
  cases r with
  | cons h t=>exact .cons (zoe h) (zjc t)
abbrev KT (H:Hp):List (List Key×V)→List (List Key×Addr×Value)→Prop:=Paired fun p q=>p.1=q.1∧H q.2.1=some (.tup (p.1.map kV))∧RelV p.2 q.2.2
theorem KT.val {H:Hp} {kvs:List (List Key×V)} {xs:List (List Key×Addr×Value)} (r:KT H kvs xs) (k:List Key):RelO (valV kvs k) ((atKey xs k).map (·.2)):=by
 induction r with
 | nil=>exact True.intro
 | @cons p q ps qs h t ih =>
  obtain ⟨h1,_,h2⟩:=h
  by_cases e:p.1=k
  ·have e':q.1=k:=h1.symm.trans e
   have b:atKey (q::qs) k=some q.2:=by simp [atKey,List.find?_cons,e']
   rw [zhJ e,b];exact h2
  ·have e':¬ q.1=k:=fun z=>e (h1.trans z)
   have b:atKey (q::qs) k=atKey qs k:=by simp [atKey,List.find?_cons,e']
   rw [zhK e,b];exact ih
theorem KT.repl {H:Hp} {kvs:List (List Key×V)} {xs:List (List Key×Addr×Value)} (r:KT H kvs xs) (k:List Key) {y:V} {u:Value} (ry:RelV y u) :
  KT H (kvs.map fun kv=>if kv.1=k then (kv.1,y) else kv) (xs.map (putAt k u)):=by
 induction r with
 | nil=>exact .nil
 | @cons p q ps qs h t ih =>
  rw [List.map_cons,List.map_cons]
  refine .cons ?_ ih
  obtain ⟨h1,h2,h3⟩:=h
  unfold putAt
  by_cases e:p.1=k
  ·rw [if_pos e,if_pos (h1.symm.trans e)];exact ⟨h1,h2,ry⟩
  ·rw [if_neg e,if_neg (fun z=>e (h1.trans z))];exact ⟨h1,h2,h3⟩
theorem KT.put {H:Hp} {kvs:List (List Key×V)} {xs:List (List Key×Addr×Value)} (r:KT H kvs xs) (k:List Key) {b:Addr} {y:V} {u:Value} (hb:H b=some (.tup (k.map kV))) (ry:RelV y u) :
  KT H (putK kvs k y) (storedH xs k b u):=by
 have e:(kvs.any fun kv=>decide (kv.1=k))=(atKey xs k).isSome:=by
  rw [zeK,(r.val k).zgK,Option.isSome_map]
 unfold putK storedH
 rw [e]
 by_cases q:(atKey xs k).isSome=true
 ·rw [if_pos q,if_pos q];exact r.repl k ry
 ·rw [if_neg q,if_neg q];exact Paired.snoc r ⟨rfl,hb,ry⟩
theorem KT.keeps {H H':Hp} {kvs:List (List Key×V)} {xs:List (List Key×Addr×Value)} (r:KT H kvs xs) (ht:∀ b ys,H b=some (.tup ys)→H' b=some (.tup ys)):KT H' kvs xs :=
 Paired.mapP r fun _ _ z=>⟨z.1,ht _ _ z.2.1,z.2.2⟩
section
variable {P:Program} {w:World} {H:Hp} {h:Heap} {a:Addr}
theorem zqk {u:HO} (ok:HOk P w H h) (e:Rd H a u):zbY P w H h a u:=e.ok ok
theorem zqP {kvs:List (Key×V)} (ok:HOk P w H h) (e:Rd H a (.dK kvs)):kvs.length≤sizeLine∧(a==sysModules)=false∧∃ vs,KV kvs vs∧h.DictOf (zbX P w) a vs :=
 show zbY P w H h a (.dK kvs) from zqk ok e
theorem zpH {kvs:List (Key×V)} (ok:HOk P w H h) (e:H a=some (.dK kvs)):kvs.length≤sizeLine∧(a==sysModules)=false∧∃ vs,KV kvs vs∧h.DictOf (zbX P w) a vs:=zqP ok (.inl e)
theorem zmq {ks:List Key} (ok:HOk P w H h) (e:H a=some (.tup (ks.map kV))):(tupleKind (zbX P w)).is h ks a:=by
 obtain ⟨_,its,r,o,h1,h2,n,h3⟩:=(show zbY P w H h a (.tup (ks.map kV)) from ok a _ e)
 exact ⟨o,its.toArray,n,h1,h2,h3,by simpa using zjc r⟩
theorem zqO {kvs:List (List Key×V)} (ok:HOk P w H h) (e:Rd H a (.dT kvs)):kvs.length≤sizeLine∧(a==sysModules)=false ∧
  ∃ xs,KT H kvs xs∧h.DictOfH (tupleKind (zbX P w)) a xs:=by
 obtain ⟨z,y,xs,r,o,es,ep,h1,h2,h3,h4,h5⟩:=(show zbY P w H h a (.dT kvs) from zqk ok e)
 refine ⟨z,y,xs,r,o,es,ep,h1,h2,h3,h4,fun x hx=>?_,h5⟩
 have all:∀ {l:List (List Key×V)} {m:List (List Key×Addr×Value)},KT H l m→∀ x∈m,(tupleKind (zbX P w)).is h x.1 x.2.1:=by
  intro l m q
  induction q with
  | nil=>intro x hx;exact nomatch hx
  | @cons p q ps qs hq t ih =>
   intro x hx
   rcases List.mem_cons.mp hx with e | hx
   ·subst e
    exact zmq ok (by rw [← hq.1];exact hq.2.1)
   ·exact ih x hx
 exact all r x hx
theorem zrz {kvs:List (List Key×V)} (ok:HOk P w H h) (e:H a=some (.dT kvs)):kvs.length≤sizeLine∧(a==sysModules)=false ∧
  ∃ xs,KT H kvs xs∧h.DictOfH (tupleKind (zbX P w)) a xs:=zqO ok (.inl e)
end
def DGet (H:Hp) (a:Addr) (y:V) (r:Option V):Prop :=
 (∃ kvs k,Rd H a (.dK kvs)∧y=kV k∧r=valV kvs k)∨∃ kvs k b,Rd H a (.dT kvs)∧y=.ref b∧H b=some (.tup (k.map kV))∧r=valV kvs k
def DPut (H:Hp) (a:Addr) (y v:V) (H':Hp):Prop :=
 (∃ kvs k,H a=some (.dK kvs)∧y=kV k∧kvs.length<sizeLine∧H'=upd H a (.dK (putK kvs k v))) ∨
 ∃ kvs k b,H a=some (.dT kvs)∧y=.ref b∧H b=some (.tup (k.map kV))∧kvs.length<sizeLine∧H'=upd H a (.dT (putK kvs k v))
theorem DGet.k {H:Hp} {a:Addr} {kvs:List (Key×V)} {k:Key} (e:H a=some (.dK kvs)):DGet H a (kV k) (valV kvs k):=.inl ⟨kvs,k,.inl e,rfl,rfl⟩
theorem DPut.k {H:Hp} {a:Addr} {kvs:List (Key×V)} {k:Key} {v:V} (e:H a=some (.dK kvs)) (hl:kvs.length<sizeLine):DPut H a (kV k) v (upd H a (.dK (putK kvs k v))):=.inl ⟨kvs,k,e,rfl,hl,rfl⟩
section
variable {X:Cx} {pins:List (Addr×Obj)} {σ:St} {H:Hp} {s:Shared} {a:Addr} {y v:V} {u r:Value} {o:Option V} {A:Around} {E:Value→Shared→Prop}
theorem Inv.big (I:Inv X pins σ H s):sysModules<s.heap.objs.size:=by
 have h:mainGlobals<s.heap.objs.size:=(I.mod.glob.keeps I.bk).lt
 exact Nat.lt_trans (by decide) h
theorem zpK {Q:Value→Shared→Prop} (hu:A.units+1<cLine) (I:Inv X pins σ H s) (g:DGet H a y o) (ry:RelV y u) (h:∀ s',Inv X pins σ H s'→Q (.bool (!o.isSome)) s') :
  wpAny (model X.prog X.w) A (compareOp .NotIn u (.ref a)) Q E s:=by
 rcases g with ⟨kvs,k,e,ey,l⟩ | ⟨kvs,k,b,e,ey,eb,l⟩
 ·subst ey
  obtain ⟨z,hd,vs,rel,dd⟩:=zqP I.hok e
  refine wpAny_notIn_of (zoe ry) hd dd.mapOf ?_
  rw [← (rel.val k).zgK,← l]
  exact h _ (I.tok _)
 ·subst ey
  cases (show u=Value.ref b from ry)
  obtain ⟨z,hd,xs,rel,dd⟩:=zqO I.hok e
  refine wpAny_notIn_heap (tupleKind_room_in1 hu) (zmq I.hok eb) hd dd ?_
  have q:=(rel.val k).zgK
  rw [Option.isSome_map] at q
  rw [← q,← l]
  exact h _ (I.tok _)
theorem zjZ {h':Heap} {t':Nat} {ob:HO} (I:Inv X pins σ H s) (mu:Mut (H a)) (hs:Heap.SameBut a s.heap h') (he:∃ q,h'.get? a=some q) (new:zbY X.prog X.w (upd H a ob) h' a ob) :
  Inv X pins σ (upd H a ob) { s with heap:=h',toks:=t' } :=
 I.write (x:=a) (e:=a) mu (.inl rfl) (fun b q hb z=>(hs.2 b hb).trans z) he new
theorem zoJ {P:Program} {w:World} {H':Hp} {h':Heap} {kvs:List (Key×V)} {vs:List (Key×Value)} (z:kvs.length≤sizeLine) (hd:(a==sysModules)=false) (rel:KV kvs vs) (dd:h'.DictOf (zbX P w) a vs) :
  zbY P w H' h' a (.dK kvs):=⟨z,hd,vs,rel,dd⟩
theorem zmG {H':Hp} {Q:Unit→Shared→Prop} (hu:A.units+1<cLine) (I:Inv X pins σ H s) (g:DPut H a y v H') (ry:RelV y u) (rv:RelV v r) (h:∀ s',Inv X pins σ H' s'→Q () s') :
  wpAny (model X.prog X.w) A (setItem (.ref a) u r) Q E s:=by
 rcases g with ⟨kvs,k,e,ey,l,eH⟩ | ⟨kvs,k,b,e,ey,eb,l,eH⟩
 ·subst ey eH
  obtain ⟨z,hd,vs,rel,dd⟩:=zpH I.hok e
  have hz:vs.length≤sizeLine:=by rw [← rel.length];exact z
  have hl:(putK kvs k v).length≤sizeLine:=by have:=ze6 kvs k v;omega
  refine wpAny_setItem_pairs (hsz:=hz) (zoe ry) dd fun h' dd' hs=>h _ ?_
  have he:∃ q,h'.get? a=some q:=let ⟨q,_,_,hq,_⟩:=dd';⟨q,hq⟩
  exact zjZ I (by rw [e];exact True.intro) hs he (zoJ hl hd (rel.put k rv) dd')
 ·subst ey eH
  cases (show u=Value.ref b from ry)
  obtain ⟨z,hd,xs,rel,dd⟩:=zrz I.hok e
  have hz:xs.length≤sizeLine:=by rw [← Paired.length rel];exact z
  have hl:(putK kvs k v).length≤sizeLine:=by have:=ze6 kvs k v;omega
  refine wpAny_setItem_heap (hsz:=hz) (tupleKind_room_in1 hu) (zmq I.hok eb) dd fun h' dd' hs=>h _ ?_
  obtain ⟨q,es,ep,hq,h2,h3,h4,_,h5⟩:=dd'
  refine zjZ I (by rw [e];exact True.intro) hs ⟨q,hq⟩ ⟨hl,hd,_,(rel.put k eb rv).keeps fun c ys ec=>?_,q,es,ep,hq,h2,h3,h4,h5⟩
  rw [zar (zjF ec e (fun z=>nomatch z))]
  exact ec
end
section
variable {X:Cx} {pins:List (Addr×Obj)} {σ:St} {H:Hp} {s:Shared} {a:Addr} {kvs:List (Key×V)} {k:Key} {u:Value} {A:Around} {E:Value→Shared→Prop}
end
def zoQ (ty td:TE):TE:=fun σ H Q=>ty σ H fun y H1=>td σ H1 fun x H2=>∃ a o,x=.ref a∧DGet H2 a y o∧Q (.bl (!o.isSome)) H2
def zrj (td ty tv:TE):TS:=fun D σ H=>tv σ H fun v H1=>td σ H1 fun x H2=>ty σ H2 fun y H3=>∃ a H4,x=.ref a∧DPut H3 a y v H4∧D.nx σ H4
section
variable {X:Cx} {o i e value:Expr} {pos pos' tpos:Pos} {td ty tv:TE}
theorem zlS (hu:X.A.units+1<cLine) (hi:PE X i ty) (ho:PE X o td):PC X .NotIn i o (zoQ ty td):=by
 intro pins s σ H Q I h
 refine thn (hi pins s σ H _ I h) fun iv s1 ⟨y,H1,I1,ry,q1⟩=>thn (ho pins s1 σ H1 _ I1 q1) fun u s2 ⟨x,H2,I2,rx,a,ov,ex,g,q2⟩=>?_
 subst ex
 obtain rfl:u=Value.ref a:=rx
 exact zpK hu I2 g ry fun s3 I3=>⟨.bl (!ov.isSome),H2,I3,rfl,q2⟩
theorem zpf (hu:X.A.units+1<cLine) (ho:PE X o td) (hi:PE X i ty) (hv:PE X value tv) (hs:swapsWith value (some (.Subscript o i pos')) pos.line X.env=pure false) :
  PS X (.Assign [.Subscript o i pos'] value pos) (zrj td ty tv):=by
 intro pins s σ H D I h
 refine wpAny_Assign_Subscript (thn (hv pins s σ H _ I h) fun r s1 ⟨v,H1,I1,rv,q1⟩=>thn (ho pins s1 σ H1 _ I1 q1) fun u s2 ⟨x,H2,I2,rx,q2⟩=>thn (hi pins s2 σ H2 _ I2 q2) fun iv s3 ⟨y,H3,I3,ry,a,H4,ex,g,q3⟩=>?_) hs
 subst ex
 obtain rfl:u=Value.ref a:=rx
 exact zmG hu I3 g ry rv fun s4 I4=>⟨σ,H4,I4,q3⟩
end
theorem zon {P:Program} {w:World} {H:Hp} (h:Heap) (hb:sysModules<h.objs.size):zbY P w H (h.push { cls:=.type "dict",data:=.dict #[] }) h.objs.size (.dK []) :=
 ⟨Nat.zero_le _,beq_eq_false_iff_ne.mpr (Ne.symm (Nat.ne_of_lt hb)),[],.nil,Heap.DictOf.new h⟩
section
variable {X:Cx} {pos:Pos}
end
def zl2:List (TE×TE)→St→Hp→(List (V×V)→Hp→Prop)→Prop
 | [],_,H,Q=>Q [] H
 | (tk,tv)::r,σ,H,Q=>tk σ H fun x H1=>tv σ H1 fun y H2=>zl2 r σ H2 fun ps H3=>Q ((x,y)::ps) H3
abbrev VV:List (V×V)→List (Value×Value)→Prop:=Paired fun p q=>RelV p.1 q.1∧RelV p.2 q.2
def PPs (X:Cx) (pos:Pos) (keys:List (Option Expr)) (values:List Expr) (trs:List (TE×TE)):Prop :=
 ∀ (pins:List (Addr×Obj)) (s:Shared) (σ:St) (H:Hp) (Q:List (V×V)→Hp→Prop),Inv X pins σ H s→zl2 trs σ H Q →
  wpAny (model X.prog X.w) X.A (evalPairs (pairTrees keys values X.env pos)) (fun vs s'=>∃ ps H',Inv X pins σ H' s'∧VV ps vs∧Q ps H') X.xe s
theorem zpg {X:Cx} {pos:Pos}:PPs X pos [] [] []:=fun pins s σ H Q I h=>pairTrees_nil_walk ⟨[],H,I,.nil,h⟩
theorem znx {X:Cx} {pos:Pos} {k v:Expr} {ks:List (Option Expr)} {vs:List Expr} {tk tv:TE} {trs:List (TE×TE)} (hk:PE X k tk) (hv:PE X v tv) (hr:PPs X pos ks vs trs) :
  PPs X pos (some k::ks) (v::vs) ((tk,tv)::trs):=fun pins s σ H Q I h =>
 pairTrees_cons_walk (thn (hk pins s σ H _ I h) fun u s1 ⟨x,H1,I1,rx,q1⟩=>thn (hv pins s1 σ H1 _ I1 q1) fun w2 s2 ⟨y,H2,I2,ry,q2⟩ =>
  thn (hr pins s2 σ H2 _ I2 q2) fun ws s3 ⟨ps,H3,I3,rel,q3⟩=>⟨(x,y)::ps,H3,I3,.cons ⟨rx,ry⟩ rel,q3⟩)
def zfR (kvs more:List (Key×V)):List (Key×V):=more.foldl (fun acc kv=>putK acc kv.1 kv.2) kvs
theorem KV.merge:∀ {more:List (Key×V)} {rs:List (Key×Value)} {kvs:List (Key×V)} {vs:List (Key×Value)},KV more rs→KV kvs vs→KV (zfR kvs more) (merged vs rs):=by
 intro more rs kvs vs r
 unfold KV at r
 induction r generalizing kvs vs with
 | nil=>intro q;exact q
 | @cons p q ps qs h t ih =>
  intro r0
  have e:KV (putK kvs p.1 p.2) (stored vs q.1 q.2):=by
   have:=r0.put p.1 h.2
   rw [← h.1];exact this
  exact ih e
theorem zff:∀ (more kvs:List (Key×V)),(zfR kvs more).length≤kvs.length+more.length
 | [],kvs=>by show kvs.length≤kvs.length+0;omega
 | p::r,kvs=>by
  have h1:=zff r (putK kvs p.1 p.2)
  have h2:=ze6 kvs p.1 p.2
  show (zfR (putK kvs p.1 p.2) r).length≤_
  rw [List.length_cons];omega
theorem zhH {P:Program} {w:World}:∀ {kvs:List (Key×V)} {ws:List (Value×Value)},VV (kvs.map fun kv=>(kV kv.1,kv.2)) ws→∃ rs,Carries (zbX P w) ws rs∧KV kvs rs
 | [],_,r=>by rw [List.map_nil] at r;cases r;exact ⟨[],True.intro,.nil⟩
 | p::kvs,_,r=>by
  rw [List.map_cons] at r
  cases r with
  | @cons a b as bs h t =>
   obtain ⟨rs,c,q⟩:=zhH (P:=P) (w:=w) t
   obtain ⟨b1,b2⟩:=b
   exact ⟨(p.1,b2)::rs,⟨zoe h.1,rfl,c⟩,.cons ⟨rfl,h.2⟩ q⟩
def zre (trs:List (TE×TE)):TE:=fun σ H Q=>∀ p,H p=none→zl2 trs σ (upd H p (.dK [])) fun ps H2=>H2 p=some (.dK [])∧∃ kvs:List (Key×V),ps=kvs.map (fun kv=>(kV kv.1,kv.2))∧kvs.length≤15∧Q (.ref p) (upd H2 p (.dK (zfR [] kvs)))
theorem zpj {X:Cx} {pos:Pos} {keys:List (Option Expr)} {values:List Expr} {trs:List (TE×TE)} (h:PPs X pos keys values trs) (hall:keys.all (·.isSome)=true) (hl:keys.length=values.length) (h0:keys≠[])
  (h15:keys.length≤15):PE X (.Dict keys values pos) (zre trs):=by
 intro pins s σ H Q I q
 have hn:=I.hok.fresh (Nat.le_refl s.heap.objs.size)
 have I1:=I.laid (a:=s.heap.objs.size) (o:=.dK []) (h':=s.heap.push { cls:=.type "dict",data:=.dict #[] }) (t':=s.toks) (fun _ _ q=>Heap.get?_push_of_some _ q) (Nat.le_refl _) (zon s.heap I.big)
 refine wpAny_Dict_walk (knd:=zbX X.prog X.w) hall hl h0 h15 (thn (h pins _ σ _ _ I1 (q _ hn)) fun ws s2 ⟨ps,H2,I2,rel,e,kvs,ep,lk,q2⟩=>?_)
 subst ep
 obtain ⟨rs,c,rk⟩:=zhH (P:=X.prog) (w:=X.w) rel
 obtain ⟨z,hd,vs0,r0,dd⟩:=zpH I2.hok e
 cases r0
 refine ⟨rs,c,dd,fun h' dd' hs=>⟨.ref s.heap.objs.size,_,?_,rfl,q2⟩⟩
 have hz:(zfR [] kvs).length≤sizeLine:=by
  have h1:=zff kvs []
  rw [List.length_nil] at h1
  rw [sizeLine_eq];omega
 have he:∃ q,h'.get? s.heap.objs.size=some q:=let ⟨q,_,_,hq,_⟩:=dd';⟨q,hq⟩
 exact zjZ I2 (by rw [e];exact True.intro) hs he (zoJ hz hd (rk.merge .nil) dd')
structure M1 (X:Cx) (o:Expr) (m:Str) (apos:Pos) (e:Expr) (cpos:Pos):Prop where
 base:attributeBase o m X.env (eval o X.env)=eval o X.env
 few:((backTo cpos (starEach [e] X.env)).all (fun x=>!x.1)&&(backToKw cpos (keywordEach [] X.env)).all (fun x=>x.1.isSome)
  && decide (([e]:List Expr).length+([]:List Keyword).length+(if ([]:List Keyword).isEmpty then 0 else 1)<30))=true
 line:(apos.endLine==cpos.line)=true
 trees:backTo cpos (starEach [e] X.env)=[(false,eval e X.env)]
structure M2 (X:Cx) (o:Expr) (m:Str) (apos:Pos) (e f:Expr) (cpos:Pos):Prop where
 base:attributeBase o m X.env (eval o X.env)=eval o X.env
 few:((backTo cpos (starEach [e,f] X.env)).all (fun x=>!x.1)&&(backToKw cpos (keywordEach [] X.env)).all (fun x=>x.1.isSome)
  && decide (([e,f]:List Expr).length+([]:List Keyword).length+(if ([]:List Keyword).isEmpty then 0 else 1)<30))=true
 line:(apos.endLine==cpos.line)=true
 trees:backTo cpos (starEach [e,f] X.env)=[(false,eval e X.env),(false,eval f X.env)]
section
variable {X:Cx} {pins:List (Addr×Obj)} {σ:St} {H:Hp} {s:Shared} {a:Addr} {y d:V} {u r:Value} {o:Option V} {A:Around} {E:Value→Shared→Prop}
end
section
variable {X:Cx} {o e f:Expr} {apos cpos:Pos} {td ty tx:TE}
end
section
variable {X:Cx} {pins:List (Addr×Obj)} {σ:St} {H:Hp} {s:Shared} {a:Addr} {kvs:List (Key×V)} {A:Around} {E:Value→Shared→Prop}
end
section
variable {X:Cx} {pins:List (Addr×Obj)} {σ:St} {H:Hp} {s:Shared} {a:Addr} {y:V} {u:Value} {A:Around} {E:Value→Shared→Prop}
end
end L2
namespace Att
open PySem PySem.W PySem.Calls PyProof.Rows
theorem zgL {P:Params} {h:Heap}:∀ (ns:List Int) (vs:List Value),WellAll P h vs (ns.map WData.int)→IntsAre vs ns:=by
 intro ns
 induction ns with
 | nil =>
  intro vs w
  rw [List.map_nil] at w
  cases w
  exact .nil
 | cons n ns ih =>
  intro vs w
  rw [List.map_cons] at w
  cases w with
  | cons a b =>
   cases a
   exact .cons _ _ (ih _ b)
theorem zlJ {l:OpenLaw} {n:Nat} (hn:l.most=some n) {P:Params} {h:Heap} {args:List WData} {vals:List Value}
  (hpre:l.row.toRowW.claim.pre args=true) (hwl:WellAll P h vals args) :
  ∃ a vs ns,vals=[Value.ref a]∧args=[WData.list (ns.map WData.int)]∧h.get? a=some { cls:=.type "list",data:=.seq vs.toArray }∧IntsAre vs ns∧ns.length≤n:=by
 have hsh:WShape.hasAll [] args [.list .int]=true:=(pre_splitW hpre).1
 have hc:l.pre.holds [] { args:=args }=true:=(pre_splitW hpre).2
 obtain ⟨d,r,rfl,h1,h2⟩:=hasAllW_cons hsh
 obtain rfl:=hasAllW_nil h2
 obtain ⟨xs,rfl,h3⟩:=hasW_list h1
 obtain ⟨ns,rfl⟩:=items_int h3
 have hlen:ns.length≤n:=by
  unfold OpenLaw.pre at hc
  have h4:(WTm.not (.lt (.lit (.int (n:Int))) (.len (.arg 0)))).holds [] { args:=[.list (ns.map .int)] }=true:=by
   have h4:=(holds_andW hc).1
   rw [hn] at h4
   exact h4
  have h5:=condW_of h4 (w_not (w_lt w_lit (w_len_list (w_arg rfl))))
  rw [List.length_map] at h5
  refine Nat.le_of_not_lt fun q=>?_
  have q':(n:Int)<((ns.length:Nat):Int):=by omega
  first
   | (rw [decide_eq_true q'] at h5;exact absurd h5 (by decide))
   | (simp at h5;omega)
 cases hwl with
 | cons w1 w2 =>
  cases w2
  cases w1 with
  | list ho hall=>exact ⟨_,_,ns,rfl,rfl,ho,zgL ns _ hall,hlen⟩
theorem zlQ (l:OpenLaw) (args:List WData):l.row.toRowW.claim.post args (.bool true) args=true :=
 postW_of (r:=l.row.toRowW) (X:=(true==true))
  (show WShape.has [] (.bool true) .bool=true by first | rfl | decide | simp [WShape.has,WShape.arms,WShape.armsAll])
  (show (WTm.eq .res (.lit (.bool true))).value [] { args:=args,res:=some (.bool true),after:=args }=some (.bool (true==true)) from w_eq_bool (w_res rfl) w_lit) rfl
theorem zkf {l:OpenLaw} {n:Nat} {q:Program} {loose:List Str} {XP:(Str→Option Value)→Heap→Prop} {YP:World→Heap→Prop} {d:DefRec}
  (hn:l.most=some n) (hdf:d.params.defaults=[])
  (call:∀ (w:World) (s₀ s₁:Shared) (mg mb:Str→Option Value) (fa:Addr) (o:Obj) (pm cd doc:Value) (a:Addr) (vs:List Value) (ns:List Int),
   Ground q loose [] XP w s₀ mg mb s₁.heap→YP w s₁.heap →
   s₁.heap.get? fa=some o→o.data=.func (docDef d.name d.params d.body d.scope pm cd doc)→s₁.heap.CodeRec cd d.name→mg d.name=some (.ref fa) →
   s₁.heap.get? a=some { cls:=.type "list",data:=.seq vs.toArray }→IntsAre vs ns→ns.length≤n→s₁.gens=#[] →
   codeAny (model l.prog w) callerA (.call (.ref fa) ⟨[.ref a],[]⟩) (fun r s'=>r=.ok (.ret (.bool true))∧OldK s₁.heap s'.heap∧s'.os=s₁.os∧AllBare s'.gens) s₁) :
  WalkO q loose XP YP l.row.toRowW d [] (fun f vs=>PySem.call f vs):=by
 intro w s₀ s₁ mg mb G Y fa o pm cd doc dV kV ho hd hcd hD hmg hg args vals as hpre hlay hrd hwl hlo
 obtain rfl:dV=.none:=Dflts.none hD hdf
 obtain rfl:kV=.none:=Dflts.noKw hD
 obtain ⟨a,vs,ns,rfl,rfl,hobj,hints,hlen⟩:=zlJ hn hpre hwl
 refine enter_call (codeAny_mono (call w s₀ s₁ mg mb fa o pm cd doc a vs ns G Y ho (fd_plain hd) hcd hmg hobj hints hlen hg) fun r s' hq=>?_)
 obtain ⟨rfl,h2,h3,h4⟩:=hq
 exact ⟨.inl ⟨.bool true,.bool true,[],rfl,fun _=>rfl,.bool true,zlQ l _,fun _=>⟨List.Pairwise.nil,fun _ hm=>(nomatch hm)⟩⟩,h2,h3,h4⟩
section
variable {prog:Program} {w:World} {A:Around} {E:Value→Shared→Prop} {s:Shared} {K:Frag}
end
end Att
namespace L2
open PySem PySem.Spec PyProof.Rows
theorem zeJ:∀ {vs:List Value} {ns:List Int},IntsAre vs ns→Vals (ns.map V.int) vs
 | _,_,.nil=>.nil
 | _,_,.cons n t h=>.cons ⟨t,rfl⟩ (zeJ h)
def Only (H:Hp):Prop:=∀ b,H b=none∨∃ o xs,H b=some (.frz o (.lst xs))
theorem znZ {P:Program} {w:World} {K:PySem.W.Frag} {mg mb:Str→Option Value} {CX:CXT} {k:Nat} {fa a:Addr} {fd:FuncData} {x:Str} {sp:Sp} {s₁:Shared} {vs:List Value} {ns:List Int}
  (KX:K.In s₁.heap) (hns:s₁.heap.Ns mainGlobals mg) (hb:s₁.heap.Ns builtinsNs mb) (hbb:∀ x:Str,x≠"__name__"→mb x=bootBuiltins x) (hlim:s₁.heap.NoLimit) (hg:s₁.gens=#[])
  (ha:s₁.heap.get? a=some { cls:=.type "list",data:=.seq vs.toArray }) (hi:IntsAre vs ns) (hl:ns.length≤sizeLine) (hr:Room k callerA)
  (F:∀ base:Heap,K.In base→base.Ns mainGlobals mg→FnOk P w K mg base CX k fa fd [x] sp) (hbind:∀ (s:Shared) (u:Value),BindsTo s fd ⟨[u],[]⟩ [(x,u)])
  (hsp:∀ H:Hp,Only H→SqL K H a (ns.map V.int)→sp [.ref a] H (fun v _=>v=.bl true) fun _ _ _=>False)
  (hCX:∀ H e s',CX [] H s₁ (fun _ _ _=>False) e s'→False) :
  codeAny (model P w) callerA (.call (.ref fa) ⟨[.ref a],[]⟩) (fun r s'=>r=.ok (.ret (.bool true))∧OldK s₁.heap s'.heap∧s'.os=s₁.os∧AllBare s'.gens) s₁:=by
 have rv:=zeJ hi
 have lenV:=hi.length
 have core:∀ H:Hp,Only H→SqL K H a (ns.map V.int)→HOk P w H s₁.heap→(∀ b,H b≠none→b=a)→(H a≠none→K.lookup a=none) →
   codeAny (model P w) callerA (.call (.ref fa) ⟨[.ref a],[]⟩) (fun r s'=>r=.ok (.ret (.bool true))∧OldK s₁.heap s'.heap∧s'.os=s₁.os∧AllBare s'.gens) s₁:=by
  intro H hO hS hok hA hK
  have base_of:∀ {b:Addr} {o:Obj},s₁.heap.get? b=some o→H b=none→(hidT s₁.heap H).get? b=some o:=fun e n=>zof e n
  have noA:∀ {b:Addr} {o:Obj} {es:Array DictEntry} {ep:Nat},s₁.heap.get? b=some o→o.data=.dict es ep→H b=none:=fun {b o es ep} e d=>by
   cases q:H b with
   | none=>rfl
   | some u =>
    have e':b=a:=hA b (by rw [q];simp)
    subst e'
    rw [ha] at e;cases e
    have d':Data.seq vs.toArray _=Data.dict es ep:=d
    cases d'
  have nsK:∀ {b:Addr} {m:Str→Option Value},s₁.heap.Ns b m→(hidT s₁.heap H).Ns b m:=fun {b m} ⟨o,es,ep,e,d,r⟩=>⟨o,es,ep,base_of e (noA e d),d,r⟩
  have hKb:K.In (hidT s₁.heap H):=fun b o e=>base_of (KX b o e) (by
   cases q:H b with
   | none=>rfl
   | some u =>
    have e':b=a:=hA b (by rw [q];simp)
    subst e'
    rw [hK (by rw [q];simp)] at e;cases e)
  have hM:Mod K mg (hidT s₁.heap H):=⟨hKb,nsK hns,⟨mb,nsK hb,hbb⟩,let ⟨mc,h1,h2⟩:=hlim;⟨mc,nsK h1,h2⟩⟩
  have e0:Env0 P w K mg (hidT s₁.heap H) callerA [] s₁ H:=⟨rfl,hM,fun b o e=>zp1 e,Nat.le_of_eq (zmz _ _),trivial,fun b hb=>absurd (show b∈([]:List Addr) from hb) (by simp),hok,.of_eq hg⟩
  refine codeAny_mono ((F _ hKb (nsK hns)).run callerA [] s₁ H ⟨[.ref a],[]⟩ [.ref a] [.ref a] _ _ hr e0 (hbind s₁ (.ref a)) (.cons rfl .nil) (hsp H hO hS)) fun r s' h=>?_
  cases r with
  | error e=>exact (hCX H e s' h).elim
  | ok fl =>
   cases fl with
   | next=>exact False.elim h
   | brk=>exact False.elim h
   | cont=>exact False.elim h
   | ret u =>
    obtain ⟨v,H',os,bare,un,hok',r',q⟩:=h
    have q':v=.bl true:=q
    subst q'
    obtain rfl:u=Value.bool true:=r'
    refine ⟨rfl,OldK.of_keep fun b o e=>?_,os,bare⟩
    cases q:H b with
    | none=>exact un.keep b o e q (by intro z;exact absurd (show b∈([]:List Addr) from z) (by simp)) (by simp)
    | some u =>
     rcases hO b with z | ⟨ob,xs,z⟩
     ·rw [q] at z;cases z
     ·have z2:=un.frzs b ob _ z
      obtain ⟨e1,_⟩:=hok b _ z
      obtain ⟨e2,_⟩:=hok' b _ z2
      rw [e] at e1;cases e1
      exact e2
 cases hk:K.lookup a with
 | some o =>
  have e:=KX a o hk
  rw [ha] at e
  cases e
  refine core (fun _=>none) (fun _=>.inl rfl) (.inr ⟨_,vs.toArray,_,hk,rfl,rfl,rfl,by rw [List.size_toArray,lenV];exact hl,by simpa using rv⟩) (fun b u z=>by have z':(none:Option HO)=some u:=z;cases z') (fun b z=>absurd rfl z) fun z=>absurd rfl z
 | none =>
  refine core (fun b=>if b=a then some (.frz { cls:=.type "list",data:=.seq vs.toArray } (.lst (ns.map V.int))) else none) (fun b=>?_) (.inl (.inr ⟨{ cls:=.type "list",data:=.seq vs.toArray },if_pos rfl⟩)) (fun b u z=>?_) (fun b z=>?_) fun _=>hk
  ·by_cases hb:b=a
   ·exact .inr ⟨_,_,if_pos hb⟩
   ·exact .inl (if_neg hb)
  ·by_cases hb:b=a
   ·have z':=(if_pos hb).symm.trans z
    cases z'
    subst hb
    exact ⟨ha,by rw [List.length_map];exact hl,vs,_,rv,ha⟩
   ·have z':=(if_neg hb).symm.trans z
    cases z'
  ·by_cases hb:b=a
   ·exact hb
   ·exact absurd (if_neg hb) z
end L2
namespace L2
open PySem PySem.Spec PyProof.Rows
theorem zoO {l:PySem.W.OpenLaw} {n k:Nat} {q:Program} {loose:List Str} {XP:(Str→Option Value)→Heap→Prop} {YP:World→Heap→Prop} {d:DefRec} {K:Params→PySem.W.Frag} {CX:World→CXT} {sp:World→Sp} {x:Str}
  (hn:l.most=some n) (hn2:n≤sizeLine) (hdf:d.params.defaults=[]) (hr:Room k callerA)
  (hY:∀ (w:World) (h:Heap),YP w h→(K w.params).In h)
  (F:∀ (w:World) (mg:Str→Option Value) (fa:Addr) (h:Heap),(K w.params).In h→h.Ns mainGlobals mg→mg d.name=some (.ref fa) →
   ∃ fd:FuncData,(∀ (s:Shared) (u:Value),BindsTo s fd ⟨[u],[]⟩ [(x,u)]) ∧
    ∀ base:Heap,(K w.params).In base→base.Ns mainGlobals mg→FnOk l.prog w (K w.params) mg base (CX w) k fa fd [x] (sp w))
  (hsp:∀ (w:World) (H:Hp) (a:Addr) (ns:List Int),ns.length≤n→Only H→SqL (K w.params) H a (ns.map V.int)→sp w [.ref a] H (fun v _=>v=.bl true) fun _ _ _=>False)
  (hCX:∀ (w:World) (H:Hp) (s:Shared) (e:Value) (s':Shared),CX w [] H s (fun _ _ _=>False) e s'→False) :
  PySem.W.WalkO q loose XP YP l.row.toRowW d [] (fun f vs=>PySem.call f vs):=by
 refine Att.zkf hn hdf fun w s₀ s₁ mg mb fa o pm cd doc a vs ns G Y ho hd hcd hmg hobj hints hlen hg=>?_
 have KX:=hY w _ Y
 obtain ⟨fd,hb,hF⟩:=F w mg fa _ KX G.T.g hmg
 exact znZ KX G.T.g G.T.b G.T.builtins G.T.nolimit hg hobj hints (Nat.le_trans hlen hn2) hr hF hb (fun H hO hS=>hsp w H a ns hlen hO hS) fun H e s'=>hCX w H s₁ e s'
end L2
namespace L2
open PySem PySem.Spec PyProof.Rows
def inClass (s:Stmt) (j:Nat):Stmt:=match s with
 | .ClassDef _ _ _ body _ _ _ _ _ _ _=>body.getD j (.Pass ⟨0,0,0,0⟩)
 | _=>.Pass ⟨0,0,0,0⟩
def zai (s:Stmt):Arguments:=match s with
 | .FunctionDef _ a _ _ _ _ _ _ _ _=>a
 | _=>{ posonlyargs:=[],args:=[],vararg:=none,kwonlyargs:=[],kw_defaults:=[],kwarg:=none,defaults:=[] }
def zah (s:Stmt):List Stmt:=match s with
 | .FunctionDef _ _ b _ _ _ _ _ _ _=>b
 | _=>[]
def zab (s:Stmt):Scope:=match s with
 | .FunctionDef _ _ _ _ _ _ sc _ _ _=>sc
 | _=>{ kind:=.function,names:=[],isGenerator:=false,isCoroutine:=false }
abbrev CX0:CXT:=fun _ _ _ _ _ _=>False
abbrev E0:XK:=fun _ _ _=>False
theorem zaq {X:Cx}:Passes CX0 X E0:=fun _ _ _ _ _ _ _ h=>h.elim
structure Fun (K:PySem.W.Frag) (x qual:Str) (st:Stmt) (f:Addr) (fd:FuncData):Prop where
 ex:∃ (oc:Value) (od:Option Addr) (kV doc pm:Value) (an:Option Addr) (cdv ct:Value) (osl:Array (Option Value)),
  fd=PySem.W.fnOf x qual (zai st) (zah st) (zab st) .none kV doc pm an cdv ct∧K.lookup f=some ⟨oc,od,.func fd,osl⟩∧PySem.W.codeIn K cdv qual=true
 kp:PySem.W.keepIn K (.ref f)=true
section
variable {P:Program} {w:World} {K:PySem.W.Frag} {mg:Str→Option Value} {base:Heap}
theorem Fun.ok {x qual:Str} {st:Stmt} {f:Addr} {fd:FuncData} {N ps:List Str} {k:Nat} {sp:Sp} (F:Fun K x qual st f fd) (S:zau N ps (zab st)) (len:∀ vs H Q E,sp vs H Q E→vs.length=ps.length)
  (hbody:∀ (cdv:Value) (A:Around) (outer:List Env) (s:Shared) (H:Hp) (vs:List V) (Q:VK) (E:XK),Room k (A.deeper (envOfC qual (zab st) s.heap.objs.size f cdv))→sp vs H Q E →
   ∃ t,PSs (cxOf CX0 P w K mg base N qual (zab st) f cdv A outer s H E).nox (zah st) t∧t { nx:=fun _ H'=>Q .non H',rt:=Q } (start N vs) H):FnOk P w K mg base CX0 (k+1) f fd ps sp:=by
 obtain ⟨oc,od,kV,doc,pm,an,cdv,ct,osl,rfl,lk,hcd⟩:=F.ex
 refine zrx lk hcd S len fun A outer s H vs Q E hr hsp=>?_
 obtain ⟨t,h,q⟩:=hbody cdv A outer s H vs Q E hr hsp
 exact ⟨t,h.nox,q⟩
theorem Fun.binds {x qual:Str} {st:Stmt} {f:Addr} {fd:FuncData} {ps:List Str} (F:Fun K x qual st f fd)
  (h:∀ (kV doc pm:Value) (an:Option Addr) (cdv ct:Value) (us:List Value),us.length=ps.length→bindArgs (PySem.W.fnOf x qual (zai st) (zah st) (zab st) .none kV doc pm an cdv ct) ⟨us,[]⟩=pure (ps.zip us)):Binds K fd ps []:=by
 obtain ⟨oc,od,kV,doc,pm,an,cdv,ct,osl,rfl,lk,hcd⟩:=F.ex
 exact .all (h kV doc pm an cdv ct)
theorem za5 {x qual:Str} {st:Stmt} {f:Addr} {oc:Value} {od an:Option Addr} {osl:Array (Option Value)} {kV doc pm cdv ct:Value} (l:K.lookup f=some ⟨oc,od,.func (PySem.W.fnOf x qual (zai st) (zah st) (zab st) .none kV doc pm an cdv ct),osl⟩)
  (c:PySem.W.codeIn K cdv qual=true) (k:PySem.W.keepIn K (.ref f)=true):Fun K x qual st f (PySem.W.fnOf x qual (zai st) (zah st) (zab st) .none kV doc pm an cdv ct):=⟨⟨oc,od,kV,doc,pm,an,cdv,ct,osl,rfl,l,c⟩,k⟩
end
theorem zrv {A:Around} {k:Nat} (hr:Room k A):A.units+1<cLine:=Nat.lt_of_le_of_lt (Nat.add_le_add_left (by decide:1≤64) _) hr.units
theorem zao {n:Nat} (h:n≤1000):n<sizeLine:=Nat.lt_of_le_of_lt h (by decide)
section
variable {X:Cx}
theorem pv (i:Nat) {x:Str} {pos:Pos} (hN:X.N[i]? = some x:=by rfl) (hv:Vis X.env.scope x:=by first | exact Or.inl rfl | exact Or.inr (Or.inl rfl) | exact Or.inr (Or.inr rfl)) (hd:(x==("__debug__" : Str))=false:=by decide)
  (hcd:(x==("__classdict__" : Str))=false:=by decide):PE X (.Name x pos) (tVar i):=zqs hN hv hd hcd
end
theorem iteF {A B:Prop} (h:B):if false=true then A else B:=by
 rw [if_neg Bool.false_ne_true]
 exact h
theorem iteT {A B:Prop} (h:A):if true=true then A else B:=by
 rw [if_pos rfl]
 exact h
theorem ite2 {c A B:Prop} [Decidable c] (h1:c→A) (h2:¬ c→B):if c then A else B:=by
 by_cases h:c
 ·rw [if_pos h]
  exact h1 h
 ·rw [if_neg h]
  exact h2 h
theorem zqE {c A B:Prop} [Decidable c] (hc:c) (h:B):if (!decide c)=true then A else B:=by
 rw [decide_eq_true hc]
 exact iteF h
def Same (H H':Hp):Prop:=∀ b o,H b=some o→H' b=some o
theorem Same.refl (H:Hp):Same H H:=fun _ _ h=>h
theorem Same.trans {H H1 H2:Hp} (a:Same H H1) (b:Same H1 H2):Same H H2:=fun c o h=>b c o (a c o h)
theorem Same.free {H H':Hp} (e:Same H H') {l:Addr} (h:H' l=Option.none):H l=Option.none:=by
 cases q:H l with
 | none=>rfl
 | some o =>
  rw [e l o q] at h
  cases h
theorem Same.seq {K:PySem.W.Frag} {H H':Hp} {a:Addr} {xs:List V} (e:Same H H') (h:SqL K H a xs):SqL K H' a xs:=by
 rcases h with (h | ⟨o,h⟩) | h
 ·exact .inl (.inl (e _ _ h))
 ·exact .inl (.inr ⟨o,e _ _ h⟩)
 ·exact .inr h
end L2
namespace L2
open PySem PySem.Spec PyProof.Rows
section
variable {X:Cx}
end
section
variable {κ:Type} [DecidableEq κ]
theorem znb {kvs:List (κ×V)} {k:κ} (h:valV kvs k=none):¬ k∈kvs.map (·.1):=by
 intro m
 obtain ⟨p,hp,e⟩:=List.mem_map.mp m
 have q:(kvs.any fun kv=>decide (kv.1=k))=true:=List.any_eq_true.mpr ⟨p,hp,decide_eq_true e⟩
 rw [zeK,h] at q
 exact absurd q (by simp)
theorem zoP {kvs:List (κ×V)} {k:κ} {v:V} (h:valV kvs k=some v):k∈kvs.map (·.1):=by
 have q:(kvs.any fun kv=>decide (kv.1=k))=true:=by
  rw [zeK,h]
  all_goals rfl
 obtain ⟨p,hp,e⟩:=List.any_eq_true.mp q
 exact List.mem_map.mpr ⟨p,hp,of_decide_eq_true e⟩
end
end L2
namespace L2
open PySem PySem.Spec PyProof.Rows
abbrev excO (cls:Value) (t:Addr) (tb:Value):Obj:={ cls:=cls,data:=.fields #[.ref t,tb,.none,.none,.bool false,.none] }
structure Lies (h B:Heap) (e:Addr) (cls fl:Value):Prop where
 lie:∃ t T oT ts,h.get? e=some (excO cls t (.ref T))∧T≠e∧B.get? T=none∧h.get? T=some oT∧oT.data=.fields ts∧ts[3]? = some fl
 new:B.get? e=none
structure Gone (B:Heap) (l:List Env) (h h':Heap):Prop where
 stays:B.StaysIn h'
 fr:h'.FunFrames B l
 up:∀ b o,b∈frs l→h.get? b=some o→∃ sl,h'.get? b=some { o with slots:=sl }
 there:∀ b o,h.get? b=some o→∃ o',h'.get? b=some o'
section
variable {M:Model} {A:Around} {E:Value→Shared→Prop} {s:Shared} {B:Heap} {env:Env} {outer:List Env} {L e:Addr} {cls:Value} {Q:Unit→Shared→Prop}
end
structure Fly (P:Program) (w:World) (outer:List Env) (H:Hp) (s:Shared) (e:Addr) (cls:Value) (H':Hp) (B h':Heap):Prop where
 stays:B.StaysIn h'
 fr:h'.FunFrames B outer
 lies:Lies h' B e cls .none
 hok:HOk P w H' B
 out:H' e=none
 new:s.heap.get? e=none
 keep:∀ b o,s.heap.get? b=some o→H b=none→b∉frs outer→B.get? b=some o
 slot:∀ b o,s.heap.get? b=some o→b∈frs outer→∃ sl,h'.get? b=some { o with slots:=sl }
 free:∀ b o,s.heap.get? b=some o→H b=none→H' b=none
 there:∀ b o,s.heap.get? b=some o→∃ o',h'.get? b=some o'
 tups:∀ b xs,H b=some (.tup xs)→H' b=some (.tup xs)
 frzs:∀ b o u,H b=some (.frz o u)→H' b=some (.frz o u)
 tbls:∀ b ps,H b=some (.tbl ps)→∃ more,H' b=some (.tbl (ps++more))
section
variable {P:Program} {w:World} {K:PySem.W.Frag} {mg:Str→Option Value} {base:Heap} {N:List Str} {qual:Str} {scope:Scope} {f:Addr} {cd:Value} {A:Around} {outer:List Env} {s₀:Shared} {H₀:Hp} {E:XK}
end
end L2
namespace L2
open PySem PySem.Spec PyProof.Rows
section
variable {X:Cx} {x:Str} {np cpos pos:Pos} {e₀:Expr} {rest:List Expr} {ta:TA} {C:Addr} {E:XK}
end
abbrev ExcAt (a:Addr) (cls:Value):HO:=.ext fun h=>∃ t tb,h.get? a=some (excO cls t tb)
section
variable {X:Cx} {pins:List (Addr×Obj)} {σ:St} {H:Hp} {s:Shared}
end
theorem Inv.zl1 {X:Cx} {pins:List (Addr×Obj)} {σ:St} {H:Hp} {s:Shared} {D:Addr} {o:HO} (I:Inv X pins σ H s) (hn:H D=none) (hL:D≠X.env.locals) (h0:X.s₀.heap.get? D=none) (hcell:∀ x c,X.env.cells.lookup x=some c→c≠D) (hpin:∀ p∈X.pn++pins,p.1≠D)
  (new:zbY X.prog X.w (upd H D o) s.heap D o):Inv X pins σ (upd H D o) s:=by
 have old:∀ b u,H b=some u→upd H D o b=some u:=fun b u e=>by rw [zar (zal e hn)];exact e
 refine ⟨I.ok,I.os,I.bare,⟨I.base.keep,I.base.slot,fun b ob e n hx=>?_,I.base.there,fun b xs e=>old _ _ (I.base.tups b xs e),fun b ob u e=>old _ _ (I.base.frzs b ob u e),fun b ps e=>?_⟩,I.loc,I.cell,?_,fun x c e=>?_,fun p hp=>?_,fun b u e=>?_,I.len⟩
 ·rw [zar (fun z=>by rw [z,h0] at e;cases e)]
  exact I.base.free b ob e n hx
 ·obtain ⟨more,q⟩:=I.base.tbls b ps e
  exact ⟨more,old _ _ q⟩
 ·rw [zar (Ne.symm hL)]
  exact I.free
 ·rw [zar (hcell x c e)]
  exact I.freeC x c e
 ·obtain ⟨q1,q2,q3,q4,q5⟩:=I.pin p hp
  exact ⟨q1,by rw [zar (hpin p hp)];exact q2,q3,q4,q5⟩
 ·by_cases hb:b=D
  ·subst hb
   rw [zae] at e
   cases e
   exact new
  ·rw [zar hb] at e
   exact (I.hok b u e).stay (fun _ _ _ q=>q) (fun c r=>by rw [zar (zal r hn)];exact r) fun c xs r=>by rw [zar (zal r hn)];exact r
end L2
namespace L2
open PySem PySem.Spec PyProof.Rows
theorem neL {a b:Nat} (h:a<b):a≠b:=Nat.ne_of_lt h
theorem neG {a b:Nat} (h:b<a):a≠b:=Nat.ne_of_gt h
theorem zhA {h:Heap} {b:Nat} {o:Obj} (e:h.get? b=some o):b<Array.size h.objs:=Heap.lt_size e
def zcq (cells:List (Str×Addr)):List (Str×NameKind)→List (Str×Addr)→List (Str×Addr)
 | [],acc=>acc
 | (n,k)::r,acc=>zcq cells r (if k==.free then (match cells.lookup n with | some a=>(n,a)::acc | none=>acc) else acc)
theorem zfn {env:Env}:∀ (names:List (Str×NameKind)) (acc:List (Str×Addr)),(∀ y∈names,y.2=.free→∃ a,env.cells.lookup y.1=some a) →
  (forIn names acc (fun (x:Str×NameKind) (cs:List (Str×Addr))=>if (x.2==NameKind.free)=true then (do let a ← cellOf env x.1;pure (ForInStep.yield ((x.1,a)::cs))) else (pure (ForInStep.yield cs):Sem _)))=(pure (zcq env.cells names acc):Sem _)
 | [],acc,_=>rfl
 | (n,k)::r,acc,h=>by
  have ih:=fun acc'=>zfn r acc' fun y hy=>h y (List.mem_cons_of_mem _ hy)
  rw [List.forIn_cons]
  by_cases hk:k=.free
  ·subst hk
   obtain ⟨a,ha⟩:=h (n,.free) List.mem_cons_self rfl
   have e1:cellOf env n=pure a:=by unfold cellOf;rw [ha]
   have e2:zcq env.cells ((n,NameKind.free)::r) acc=zcq env.cells r ((n,a)::acc):=by
    show zcq env.cells r (if (NameKind.free==NameKind.free)=true then (match env.cells.lookup n with | some a=>(n,a)::acc | none=>acc) else acc)=_
    rw [if_pos (show (NameKind.free==NameKind.free)=true by decide),show env.cells.lookup n=some a from ha]
   rw [e2,← ih]
   show ((do let a ← cellOf env n;pure (ForInStep.yield ((n,a)::acc)):Sem _) >>= _)=_
   rw [e1]
   rfl
  ·have hb:(k==NameKind.free)=false:=by simpa using hk
   have e2:zcq env.cells ((n,k)::r) acc=zcq env.cells r acc:=by
    show zcq env.cells r (if (k==NameKind.free)=true then _ else acc)=_
    rw [hb];rfl
   rw [e2,← ih]
   show ((if (k==NameKind.free)=true then (do let a ← cellOf env n;pure (ForInStep.yield ((n,a)::acc))) else (pure (ForInStep.yield acc):Sem _)) >>= _)=_
   rw [hb]
   rfl
theorem zfm {scope:Scope} {env:Env} (h:∀ y∈scope.names,y.2=.free→∃ a,env.cells.lookup y.1=some a):closureFor scope env=pure (zcq env.cells scope.names []):=by
 have e:=zfn scope.names [] h
 unfold closureFor
 show (forIn scope.names [] _ >>= fun cs=>pure cs)=_
 have e':(forIn scope.names ([]:List (Str×Addr)) (fun (x:Str×NameKind) (cs:List (Str×Addr))=>match x with | (name,kind)=>if (kind==NameKind.free)=true then (do let a ← cellOf env name;pure (ForInStep.yield ((name,a)::cs))) else (pure (ForInStep.yield cs):Sem _)))=(pure (zcq env.cells scope.names []):Sem _):=e
 first
  | (rw [e'];rfl)
  | (simp only [e'];rfl)
  | (erw [e'];rfl)
theorem zdH {cells:List (Str×Addr)}:∀ (names:List (Str×NameKind)) (acc:List (Str×Addr)),(∀ x c,acc.lookup x=some c→cells.lookup x=some c)→∀ x c,(zcq cells names acc).lookup x=some c→cells.lookup x=some c
 | [],acc,h,x,c,e=>h x c e
 | (n,k)::r,acc,h,x,c,e=>by
  refine zdH r _ ?_ x c e
  intro y d q
  by_cases hk:(k==NameKind.free)=true
  ·rw [if_pos hk] at q
   cases ha:cells.lookup n with
   | none=>rw [ha] at q;exact h y d q
   | some a =>
    rw [ha] at q
    by_cases hy:y=n
    ·subst hy
     have q':List.lookup y ((y,a)::acc)=some d:=q
     rw [List.lookup_cons,beq_self_eq_true] at q'
     cases q'
     exact ha
    ·have q':List.lookup y ((n,a)::acc)=some d:=q
     rw [List.lookup_cons,show (y==n)=false from by simpa using hy] at q'
     exact h y d q'
  ·rw [if_neg hk] at q
   exact h y d q
theorem zhG {cells:List (Str×Addr)}:∀ (names:List (Str×NameKind)) (acc:List (Str×Addr)) (x:Str),(∃ c,acc.lookup x=some c)→∃ c,(zcq cells names acc).lookup x=some c
 | [],_,_,h=>h
 | (n,k)::r,acc,x,⟨c,h⟩=>by
  refine zhG r _ x ?_
  by_cases hk:(k==NameKind.free)=true
  ·rw [if_pos hk]
   cases ha:cells.lookup n with
   | none=>exact ⟨c,h⟩
   | some a =>
    show ∃ c,List.lookup x ((n,a)::acc)=some c
    rw [List.lookup_cons]
    cases x==n with
    | true=>exact ⟨a,rfl⟩
    | false=>exact ⟨c,h⟩
  ·rw [if_neg hk]
   exact ⟨c,h⟩
theorem zhF {cells:List (Str×Addr)}:∀ (names:List (Str×NameKind)) (acc:List (Str×Addr)) (x:Str) (c:Addr),(x,NameKind.free)∈names→cells.lookup x=some c→(zcq cells names acc).lookup x=some c∨∃ d,(zcq cells names acc).lookup x=some d
 | [],_,_,_,h,_=>nomatch h
 | (n,k)::r,acc,x,c,h,e=>by
  rcases List.mem_cons.mp h with z | z
  ·cases z
   refine .inr (zhG r _ _ ?_)
   rw [if_pos (show (NameKind.free==NameKind.free)=true by decide),e]
   exact ⟨c,by show List.lookup n ((n,c)::acc)=_;rw [List.lookup_cons,beq_self_eq_true]⟩
  ·exact zhF r _ x c z e
theorem zjf {cells:List (Str×Addr)} {names:List (Str×NameKind)} {x:Str} {c:Addr} (h:(x,NameKind.free)∈names) (e:cells.lookup x=some c):(zcq cells names []).lookup x=some c:=by
 rcases zhF names [] x c h e with z | ⟨d,z⟩
 ·exact z
 ·have q:=zdH names [] (fun y d q=>by cases q) x d z
  rw [e] at q
  cases q
  exact z
def zfU (fs scope:Scope) (N own:List Str) (cap:List Nat):Bool :=
 (scope.kind==.function)&&scope.names.all (fun y=>y.2 != .cell)&&scope.names.all (fun y=>y.2 != .local||scope.names.lookup y.1==some .local) &&
  scope.names.all (fun y=>y.2 != .free||(fs.names.lookup y.1==some .cell||fs.names.lookup y.1==some .free)) &&
  decide ((own++cap.map fun i=>N.getD i "").Nodup)&&cap.all (fun i=>decide (i<N.length)&&(scope.names.lookup (N.getD i "")==some .free)&&(fs.names.lookup (N.getD i "")==some .cell||fs.names.lookup (N.getD i "")==some .free))
abbrev zgR (N own:List Str) (cap:List Nat):List Str:=own++cap.map fun i=>N.getD i ""
def capσ (own:List Str) (cap:List Nat) (σ:St):St:=(own.map fun _=>none)++cap.map fun i=>(σ[i]?).join
def zdV (X:Cx) (scope:Scope) (N':List Str) (C:Addr) (s₀:Shared) (H₀:Hp) (ex:List Addr):Cx where
 prog:=X.prog
 w:=X.w
 K:=X.K
 mg:=X.mg
 base:=X.base
 A:=X.A
 N:=N'
 s₀:=s₀
 H₀:=H₀
 env:=compEnvC scope (zcq X.env.cells scope.names []) C X.env
 outer:=X.stack
 stack:=X.stack
 ex:=ex
 fn:=fun _=>false
 calm:=X.calm
 pn:=[]
 xe:=fun _ _=>False
theorem zjB {scope:Scope} {env:Env} {x:Str} (hc:∀ y∈scope.names,y.2≠.cell) (h:(relabel scope env).names.lookup x=some .cell∨(relabel scope env).names.lookup x=some .free):(x,NameKind.free)∈scope.names:=by
 have mem:∀ k,(relabel scope env).names.lookup x=some k→(k=.cell∨k=.free)→(x,NameKind.free)∈scope.names:=fun k e hk=>by
  obtain ⟨⟨n,k0⟩,hm,q⟩:=List.mem_map.mp (PySem.mem_of_lookup e)
  by_cases c:(k0==NameKind.free&&env.scope.kind==.function&&env.kindOf n==some .cell)=true
  ·have q':(if (k0==NameKind.free&&env.scope.kind==.function&&env.kindOf n==some .cell)=true then (n,NameKind.cell) else (n,k0))=(x,k):=q
   rw [if_pos c] at q'
   cases q'
   have:k0=.free:=by
    have c1:=(Bool.and_eq_true _ _▸c).1
    have c2:=(Bool.and_eq_true _ _▸c1).1
    simpa using c2
   subst this
   exact hm
  ·have q':(if (k0==NameKind.free&&env.scope.kind==.function&&env.kindOf n==some .cell)=true then (n,NameKind.cell) else (n,k0))=(x,k):=q
   rw [if_neg c] at q'
   cases q'
   rcases hk with z | z
   ·exact absurd z (hc _ hm)
   ·subst z;exact hm
 rcases h with h | h
 ·exact mem _ h (.inl rfl)
 ·exact mem _ h (.inr rfl)
theorem ziH {scope:Scope} {env:Env} {x:Str} (hnd:scope.names.lookup x=some .free):(relabel scope env).names.lookup x=some .cell∨(relabel scope env).names.lookup x=some .free:=by
 have:∀ names:List (Str×NameKind),names.lookup x=some .free →
   (names.map fun (n,k)=>if (k==NameKind.free&&env.scope.kind==.function&&env.kindOf n==some .cell)=true then (n,NameKind.cell) else (n,k)).lookup x=some .cell ∨
   (names.map fun (n,k)=>if (k==NameKind.free&&env.scope.kind==.function&&env.kindOf n==some .cell)=true then (n,NameKind.cell) else (n,k)).lookup x=some .free:=by
  intro names
  induction names with
  | nil=>intro h;cases h
  | cons y r ih =>
   obtain ⟨n,k⟩:=y
   intro h
   show List.lookup x ((if (k==NameKind.free&&env.scope.kind==.function&&env.kindOf n==some .cell)=true then (n,NameKind.cell) else (n,k))::_)=_∨List.lookup x ((if (k==NameKind.free&&env.scope.kind==.function&&env.kindOf n==some .cell)=true then (n,NameKind.cell) else (n,k))::_)=_
   cases hx:x==n with
   | true =>
    simp only [List.lookup_cons,hx] at h
    cases h
    by_cases hc:(NameKind.free==NameKind.free&&env.scope.kind==.function&&env.kindOf n==some .cell)=true
    ·rw [if_pos hc,List.lookup_cons,hx];exact .inl rfl
    ·rw [if_neg hc,List.lookup_cons,hx];exact .inr rfl
   | false =>
    simp only [List.lookup_cons,hx] at h
    by_cases hc:(k==NameKind.free&&env.scope.kind==.function&&env.kindOf n==some .cell)=true
    ·rw [if_pos hc];simp only [List.lookup_cons,hx];exact ih h
    ·rw [if_neg hc];simp only [List.lookup_cons,hx];exact ih h
 exact this scope.names hnd
def GK (n:Nat) (g:TG):Prop:=∀ v σ H (Q Q':St→Hp→Prop),g v σ H Q→(∀ σ' H',Q σ' H'→σ'.length=σ.length→(∀ j,n≤j→σ'[j]? = σ[j]?)→Q' σ' H')→g v σ H Q'
def GKs (n:Nat) (g:TGs):Prop:=∀ vs σ H (Q Q':St→Hp→Prop),g vs σ H Q→(∀ σ' H',Q σ' H'→σ'.length=σ.length→(∀ j,n≤j→σ'[j]? = σ[j]?)→Q' σ' H')→g vs σ H Q'
theorem zaw {n i:Nat} (h:i<n:=by decide):GK n (zcy i):=fun v σ H Q Q' q k=>k _ _ q List.length_set fun j hj=>List.getElem?_set_ne (by omega)
theorem zce {n:Nat}:GKs n gNil:=fun vs σ H Q Q' ⟨e,q⟩ k=>⟨e,k _ _ q rfl fun _ _=>rfl⟩
theorem za3 {n:Nat} {t:TG} {u:TGs} (h1:GK n t) (h2:GKs n u):GKs n (zqI t u):=fun vs σ H Q Q' ⟨v,r,e,q⟩ k =>
 ⟨v,r,e,h1 v σ H _ _ q fun σ1 H1 q1 l1 k1=>h2 r σ1 H1 _ _ q1 fun σ2 H2 q2 l2 k2=>k σ2 H2 q2 (l2.trans l1) fun j hj=>(k2 j hj).trans (k1 j hj)⟩
theorem zdi {n m:Nat} {K:PySem.W.Frag} {t:TGs} (h:GKs n t):GK n (gTup K m t):=fun v σ H Q Q' ⟨a,xs,e,sq,l,q⟩ k=>⟨a,xs,e,sq,l,h xs σ H Q Q' q k⟩
def PF (Y:Cx) (ifs:List Expr) (tf:TT):Prop :=
 ∀ (pins:List (Addr×Obj)) (s:Shared) (σ:St) (H:Hp) (Q:Bool→Hp→Prop),Inv Y pins σ H s→tf σ H Q →
  wpAny (model Y.prog Y.w) Y.A (forIn ifs true fun c r=>if r=true then do let ok ← isTrue c Y.env (eval c Y.env);pure (ForInStep.yield ok) else pure (ForInStep.yield r)) (TP Y pins σ Q) Y.xe s
def zaQ:TT:=fun _ H Q=>Q true H
theorem zbI {Y:Cx}:PF Y [] zaQ:=fun _ _ _ H _ I q=>wpAny_tests_nil ⟨H,I,q⟩
theorem zeU {Y:Cx} {c:Expr} {t:TT} (h:PT Y c t):PF Y [c] t:=fun pins s σ H Q I q=>wpAny_tests_one (h pins s σ H Q I q)
abbrev Blk (α:Type):Type:=Addr→Shared→Hp→List Addr→α
abbrev zlt (own:List Str) (cap:List Nat) (g:Blk TG) (tf:Blk TT) (te:Blk TE) (σ:St) (Q:VK) (J:It) (H1:Hp):Prop :=
 ∃ W:Nat→Nat→List V→Hp→Prop,(∃ m,W 0 m [] H1)∧∀ i m ys H,W i m ys H →
  (J.stop i H∧ys.length≤sizeLine∧∀ p,H p=none→Q (.ref p) (upd H p (.lst ys))) ∨
  (J.go i H∧ys.length<sizeLine∧∀ x H',J.yld i H x H'→∀ C s₀ H₀ ex,g C s₀ H₀ ex x (capσ own cap σ) H' fun σ2 H2=>tf C s₀ H₀ ex σ2 H2 fun b H3 =>
   if b=true then te C s₀ H₀ ex σ2 H3 fun v H4=>∃ m',m' < m∧W (i+1) m' (ys++[v]) H4 else ∃ m',m' < m∧W (i+1) m' ys H3)
def zqe (own:List Str) (cap:List Nat) (wi:TI) (g:Blk TG) (tf:Blk TT) (te:Blk TE):TE:=fun σ H Q=>wi σ H fun J H1=>zlt own cap g tf te σ Q J H1
section
variable {prog:Program} {w:World} {A:Around} {R:Result→Shared→Prop} {s:Shared}
theorem ze0 {elt target iter:Expr} {ifs:List Expr} {scope:Scope} {pos:Pos} {it acc:Value} {env:Env} (I:Nat→Shared→Prop)
  (turn:∀ n s,I n s→wpAny (model prog w) A (pyNext it) (fun r s₁=>match r with
   | none=>R (.ok .next) s₁
   | some v=>wpAny (model prog w) A (letOwnedTupleGo target it v) (fun _ s₁'=>wpAny (model prog w) A (assign target env v) (fun _ s₂ =>
     wpAny (model prog w) A (forIn ifs true fun c r=>if r=true then do let ok ← isTrue c env (eval c env);pure (ForInStep.yield ok) else pure (ForInStep.yield r)) (fun ok s₃ =>
      if ok=true then wpAny (model prog w) A (eval elt env) (fun x s₄ =>
       wpAny (model prog w) A (call (.builtin "list.append") [acc,x]) (fun _ s₅=>∃ m,m<n∧I m s₅) (fun _ _=>False) s₄) (fun _ _=>False) s₃
      else ∃ m,m<n∧I m s₃) (fun _ _=>False) s₂) (fun _ _=>False) s₁') (fun _ _=>False) s₁) (fun _ _=>False) s)
  (n:Nat) (h:I n s) :
  codeAny (model prog w) A (.compLoop (.ListComp elt [⟨target,iter,ifs,0⟩] scope pos) 0 it acc env) R s:=by
 refine codeAny_loop rfl I (fun n s hI=>?_) n h
 show wpAny _ A ((compTurn (.ListComp elt [⟨target,iter,ifs,0⟩] scope pos) 0 it acc env).onRaise (fun x=>do noteFrame x env;theTreesLotGoes x)) _ _ s
 refine wpAny_noted ?_
 rw [compTurn_list]
 refine wpAny_bind (wpAny_standAt (wpAny_bind (wpAny_mono (turn n s hI) (fun r s₁ h₁=>?_) fun _ _ f=>f.elim)))
 cases r with
 | none=>exact wpAny_pure h₁
 | some v =>
  refine wpAny_bind (wpAny_mono h₁ (fun _ s₁' h₁'=>?_) fun _ _ f=>f.elim)
  refine wpAny_bind (wpAny_mono h₁' (fun _ s₂ h₂=>wpAny_bind (wpAny_mono h₂ (fun ok s₃ h₃=>?_) fun _ _ f=>f.elim)) fun _ _ f=>f.elim)
  cases ok with
  | false=>exact wpAny_pure ⟨rfl,h₃⟩
  | true =>
   exact wpAny_bind (wpAny_bind (wpAny_mono h₃ (fun x s₄ h₄=>wpAny_bind (wpAny_mono h₄ (fun _ s₅ h₅=>wpAny_pure (wpAny_pure ⟨rfl,h₅⟩)) fun _ _ f=>f.elim)) fun _ _ f=>f.elim))
end
section
variable {X:Cx} {elt tg iter:Expr} {ifs:List Expr} {scope:Scope} {cpos:Pos} {own:List Str} {cap:List Nat} {wi:TI} {g:Blk TG} {tf:Blk TT} {te:Blk TE}
theorem join_some {α:Type} {o:Option (Option α)} {v:α} (h:o.join=some v):o=some (some v):=by
 cases o with
 | none=>cases h
 | some o =>
  cases o with
  | none=>cases h
  | some w=>cases h;rfl
theorem Inv.comp {pins:List (Addr×Obj)} {σ:St} {H:Hp} {s:Shared} {fs:Scope} {fp:List Addr} {C:Addr} {h3:Heap} (I:Inv X pins σ H s) (hfs:X.env.scope=fs) (hck:zfU fs scope X.N own cap=true) (hfp:∀ b∈fp,FpOk X pins H b)
  (hlt:∀ b∈fp,b<s.heap.objs.size) (hC:s.heap.objs.size≤C) (hns:h3.Ns C fun _=>none) (kp:∀ b o,s.heap.get? b=some o→h3.get? b=some o) (tk:Nat) :
  Inv (zdV X scope (zgR X.N own cap) C s H fp) [] (capσ own cap σ) H { s with heap:=h3,toks:=tk }:=by
 subst hfs
 unfold zfU at hck
 simp only [Bool.and_eq_true] at hck
 obtain ⟨⟨⟨⟨⟨c1,c2⟩,c3⟩,c4⟩,c5⟩,c6⟩:=hck
 have hkind:scope.kind=.function:=by simpa using c1
 have hcell:∀ y∈scope.names,y.2≠.cell:=fun y hy=>by simpa using List.all_eq_true.mp c2 y hy
 have hfree:∀ y∈scope.names,y.2=.free→X.env.kindOf y.1=some .cell∨X.env.kindOf y.1=some .free:=fun y hy hk=>by
  have z:=List.all_eq_true.mp c4 y hy
  rw [hk] at z
  simpa [Env.kindOf] using z
 have clsub:∀ x c,(zcq X.env.cells scope.names []).lookup x=some c→X.env.cells.lookup x=some c:=zdH scope.names [] fun _ _ q=>by cases q
 have exf:∀ b∈fp,b∉frs X.stack:=fun b hb z=>by
  obtain ⟨f0,f1,f2,_⟩:=hfp b hb
  rcases List.mem_cons.mp (I.zkn b z) with e | e
  ·exact f1 e
  ·exact f2 e
 have HC:H C=none:=I.hok.fresh hC
 refine ⟨⟨I.ok.mod,?_,I.ok.glob,I.ok.blt,hC,?_,?_,?_,I.ok.hd,I.ok.frames,.inl rfl,?_,fun b o e=>I.bs b o e,Nat.le_trans I.ok.bsz I.sz,?_,exf,I.stack,I.zl4⟩,rfl,I.bare,Un.kept kp,⟨_,hns,?_⟩,?_,HC,?_,?_,I.hok.kept kp,?_⟩
 ·exact hkind
 ·intro x y c h1 h2
  exact I.ok.inj x y c (clsub x c h1) (clsub y c h2)
 ·intro x hx
  have hm:=zjB hcell hx
  obtain ⟨c,hc⟩:=I.ok.has x (hfree _ hm rfl)
  exact ⟨c,zjf hm hc⟩
 ·intro x c h
  have:false=true:=h
  cases this
 ·intro b hb
  obtain ⟨f0,f1,f2,f3,f4,f5⟩:=hfp b hb
  exact ⟨Nat.ne_of_lt (Nat.lt_of_lt_of_le (hlt b hb) hC),fun x c e=>f4 x c (clsub x c e)⟩
 ·intro b o e hb
  obtain ⟨f0,f1,f2,f3,f4,f5⟩:=hfp b hb
  rcases f3 with z | z
  ·exact I.ok.noex b o e z
  ·exact absurd (Nat.lt_of_lt_of_le (Heap.lt_size e) (Nat.le_trans I.ok.bsz z)) (Nat.lt_irrefl _)
 ·intro i x v h1 h2 h3'
  have h1:(own++cap.map fun i=>X.N.getD i "")[i]? = some x:=h1
  unfold capσ at h2
  by_cases hi:i<own.length
  ·rw [List.getElem?_append_left (by simpa using hi),List.getElem?_map] at h2
   cases q:own[i]? with
   | none=>rw [q] at h2;cases h2
   | some y=>rw [q] at h2;cases h2
  ·rw [List.getElem?_append_right (by simpa using hi),List.getElem?_map,List.length_map] at h2
   rw [List.getElem?_append_right (by simpa using hi),List.getElem?_map] at h1
   cases q:cap[i-own.length]? with
   | none=>rw [q] at h2;cases h2
   | some i0 =>
    rw [q] at h1 h2
    have h1':X.N.getD i0 "" = x:=Option.some.inj h1
    have h2':(σ[i0]?).join=some v:=Option.some.inj h2
    have z:=List.all_eq_true.mp c6 i0 (List.mem_of_getElem? q)
    rw [h1'] at z
    simp only [Bool.and_eq_true,decide_eq_true_eq] at z
    obtain ⟨⟨z1,z2⟩,z3⟩:=z
    have hx2:scope.names.lookup x=some .free:=by simpa using z2
    have hx3:X.env.kindOf x=some .cell∨X.env.kindOf x=some .free:=by simpa [Env.kindOf] using z3
    have hN:X.N[i0]? = some x:=by
     rw [← h1',List.getD_eq_getElem?_getD]
     cases r:X.N[i0]? with
     | none=>exact absurd z1 (by have:=List.getElem?_eq_none_iff.mp r;omega)
     | some y=>rfl
    obtain ⟨m,hn,hl⟩:=I.loc
    obtain ⟨u,ru,lu⟩:=hl i0 x v hN (join_some h2') (by
     rcases hx3 with y | y
     ·exact .inr (.inl y)
     ·exact .inr (.inr y))
    refine ⟨u,ru,.inr ⟨ziH hx2,?_⟩⟩
    rcases lu with ⟨k,_⟩ | ⟨k,c,e,o,ho,hd⟩
    ·rcases hx3 with y | y <;> (rw [k] at y;cases y)
    ·exact ⟨c,zjf (PySem.mem_of_lookup hx2) e,o,kp _ _ ho,hd⟩
 ·intro x c e
  obtain ⟨v,o,ho,hd⟩:=I.cell x c (clsub x c e)
  exact ⟨v,o,kp _ _ ho,hd⟩
 ·intro x c e
  exact I.freeC x c (clsub x c e)
 ·intro p hp
  exact absurd (show p∈([]:List (Addr×Obj)) from hp) (by simp)
 ·simp [capσ,zdV]
abbrev zcz (its:List Value) (k:Nat):Obj:={ cls:=.type "list",data:=.seq its.toArray k }
theorem zk8 {pins:List (Addr×Obj)} {σ:St} {H2:Hp} {s2:Shared} {fs:Scope} {fp:List Addr} {it:Addr} {tn:Nat→Heap→Prop} {J:It} {Q:VK} {E:Value→Shared→Prop} {RR:Value→Addr→Result→Shared→Prop}
  (hc:X.calm=true) (hfs:X.env.scope=fs) (hck:zfU fs scope X.N own cap=true)
  (hg:∀ C s₀ H₀ ex,PG (zdV X scope (zgR X.N own cap) C s₀ H₀ ex) tg (g C s₀ H₀ ex)) (gk:∀ C s₀ H₀ ex,GK own.length (g C s₀ H₀ ex)) (hf:∀ C s₀ H₀ ex,PF (zdV X scope (zgR X.N own cap) C s₀ H₀ ex) ifs (tf C s₀ H₀ ex)) (he:∀ C s₀ H₀ ex,PE (zdV X scope (zgR X.N own cap) C s₀ H₀ ex) elt (te C s₀ H₀ ex))
  (I2:Inv X pins σ H2 s2) (T:Turn X.prog X.w X.K tg J fp it tn) (st2:tn 0 s2.heap) (f2:∀ b∈fp,FpOk X pins H2 b)
  (W:Nat→Nat→List V→Hp→Prop) (w0:∃ m,W 0 m [] H2)
  (turn:∀ i m ys H,W i m ys H→(J.stop i H∧ys.length≤sizeLine∧∀ p,H p=none→Q (.ref p) (upd H p (.lst ys))) ∨
   (J.go i H∧ys.length<sizeLine∧∀ x H',J.yld i H x H'→∀ C s₀ H₀ ex,g C s₀ H₀ ex x (capσ own cap σ) H' fun σ2 H2=>tf C s₀ H₀ ex σ2 H2 fun b H3 =>
    if b=true then te C s₀ H₀ ex σ2 H3 fun v H4=>∃ m',m' < m∧W (i+1) m' (ys++[v]) H4 else ∃ m',m' < m∧W (i+1) m' ys H3))
  (hR:∀ (D C:Addr) (s4:Shared) (H3:Hp) (ys:List V) (oC:Obj) (m:Str→Option Value),Inv X (pins++[(C,oC)]) σ (upd H3 D (.lst ys)) s4→H3 D=none→s4.heap.Ns C m→X.s₀.heap.objs.size≤C→(∀ p∈X.pn++pins,p.1≠C)→Q (.ref D) (upd H3 D (.lst ys))→RR (.ref D) C (.ok .next) s4) :
  wpAny (model X.prog X.w) X.A (newList []) (fun acc s₃=>wpAny (model X.prog X.w) X.A (newFunctionEnv scope X.env.globals (zcq X.env.cells scope.names []) [] X.env.qual none .none (some X.env)) (fun cenv s₄ =>
   codeAny (model X.prog X.w) X.A (.compStart (.ListComp elt [⟨tg,iter,ifs,0⟩] scope cpos) 0 (.ref it) acc { cenv with scope:=relabel scope X.env }) (RR acc cenv.locals) s₄) E s₃) E s2:=by
 have hck':=hck
 unfold zfU at hck'
 simp only [Bool.and_eq_true] at hck'
 obtain ⟨⟨⟨⟨⟨c1,c2⟩,c3⟩,c4⟩,c5⟩,c6⟩:=hck'
 have hkind:scope.kind=.function:=by simpa using c1
 have hcell:∀ y∈scope.names,y.2≠.cell:=fun y hy=>by simpa using List.all_eq_true.mp c2 y hy
 have hlt:∀ b∈fp,b<s2.heap.objs.size:=fun b hb=>by
  obtain ⟨o,e,_⟩:=T.obj _ _ st2 b hb
  exact Heap.lt_size e
 refine wpAny_newObj_type (wpAny_newFunctionEnv hcell (by intro y hy;simp at hy) (fun h₁ hns₁ hsb₁=>?_) hkind)
 dsimp only at hns₁ hsb₁ ⊢
 generalize hH2:s2.heap.push { cls:=.type "list",dict:=none,data:=.seq ([]:List Value).toArray }=HH at hns₁ hsb₁ ⊢
 have hC:HH.objs.size=s2.heap.objs.size+1:=by rw [← hH2,Heap.size_push]
 generalize hCn:HH.objs.size=C at hns₁ hsb₁ hC ⊢
 generalize hDn:s2.heap.objs.size=D at hC hlt ⊢
 have hDC:D≠C:=by omega
 have old:∀ b o,s2.heap.get? b=some o→h₁.get? b=some o:=fun b o e=>hsb₁.extBut b o (neL (by have:=zhA e;omega)) (Heap.get?_push_of_some _ (hH2▸Heap.get?_push_of_some _ e))
 have hD₁:h₁.get? D=some (zcz [] 0):=hsb₁.extBut _ _ hDC (Heap.get?_push_of_some _ (hH2▸hDn▸Heap.get?_push_size _ rfl))
 have nsE:h₁.Ns C fun _=>none:=hns₁
 have I3:=I2.comp (own:=own) (cap:=cap) (scope:=scope) (C:=C) (h3:=h₁) hfs hck f2 (by rw [hDn];exact hlt) (by rw [hDn];omega) nsE old (s2.toks+([]:List (Str×Value)).length)
 generalize hY:zdV X scope (zgR X.N own cap) C s2 H2 fp=Y at I3
 have eP:Y.prog=X.prog:=by rw [← hY];rfl
 have eW:Y.w=X.w:=by rw [← hY];rfl
 have eK:Y.K=X.K:=by rw [← hY];rfl
 have eA:Y.A=X.A:=by rw [← hY];rfl
 have eC:Y.calm=true:=by rw [← hY];exact hc
 have eL:Y.env.locals=C:=by rw [← hY];rfl
 have eX:Y.xe=fun _ _=>False:=by rw [← hY];rfl
 have eE:Y.env=compEnvC scope (zcq X.env.cells scope.names []) C X.env:=by rw [← hY];rfl
 have eF:Y.fs=frs X.stack:=by rw [← hY];rfl
 have eS:Y.s₀=s2:=by rw [← hY];rfl
 have eN:Y.pn=[]:=by rw [← hY];rfl
 have eEx:Y.ex=fp:=by rw [← hY];rfl
 have hg':PG Y tg (g C s2 H2 fp):=hY▸hg C s2 H2 fp
 have hf':PF Y ifs (tf C s2 H2 fp):=hY▸hf C s2 H2 fp
 have he':PE Y elt (te C s2 H2 fp):=hY▸he C s2 H2 fp
 have hDs:D=s2.heap.objs.size:=hDn.symm
 have fpN:∀ b∈fp,b≠D:=fun b hb=>neL (hlt b hb)
 have cellD:∀ x c,Y.env.cells.lookup x=some c→c≠D:=fun x c e z=>by
  rw [eE] at e
  have q:=zdH scope.names [] (fun _ _ q=>by cases q) x c e
  obtain ⟨v,o,ho,_⟩:=I2.cell x c q
  exact neL (by have:=zhA ho;omega) z
 have DnF:D∉Y.fs:=fun z=>by
  rw [eF] at z
  obtain ⟨_,o,ho,_⟩:=I2.stack.mem z
  have:=zhA ho
  omega
 have HD2:H2 D=none:=I2.hok.fresh (by omega)
 have pinD:∀ {σ':St} {H':Hp} {s':Shared} {pl:List (Addr×Obj)} {its:List Value} {k:Nat},Inv Y pl σ' H' s'→H' D=none→s'.heap.get? D=some (zcz its k)→Inv Y [(D,zcz its k)] σ' H' s':=fun {σ' H' s' pl its k} J hn e =>
  J.zg7 fun p hp=>by
   have ep:p=(D,zcz its k):=by simpa using hp
   subst ep
   exact ⟨e,hn,by rw [eL];exact hDC,DnF,fun v z=>by cases z⟩
 have fpOk:∀ {pl:List (Addr×Obj)} {H':Hp},(∀ b∈fp,H' b=none)→(∀ p∈pl,∀ b∈fp,p.1≠b)→∀ b∈fp,FpOk Y pl H' b:=fun {pl H'} hn hp b hb=>by
  obtain ⟨f0,f1,f2',f3,f4,f5⟩:=f2 b hb
  refine ⟨hn b hb,by rw [eL];exact neL (Nat.lt_of_lt_of_le (hlt b hb) (by rw [hC];exact Nat.le_succ _)),fun z=>?_,.inl (by rw [eEx];exact hb),fun x c e=>?_,fun p hp'=>?_⟩
  ·rw [eF] at z
   rcases List.mem_cons.mp (I2.zkn b z) with e | e
   ·exact f1 e
   ·exact f2' e
  ·rw [eE] at e
   exact f4 x c (zdH scope.names [] (fun _ _ q=>by cases q) x c e)
  ·rw [eN] at hp'
   exact hp p (by simpa using hp') b hb
 have loop:∀ s₃:Shared,s₃={ s2 with heap:=h₁,toks:=s2.toks+([]:List (Str×Value)).length } →
   codeAny (model X.prog X.w) X.A (.compLoop (.ListComp elt [⟨tg,iter,ifs,0⟩] scope cpos) 0 (.ref it) (.ref D) (compEnvC scope (zcq X.env.cells scope.names []) C X.env)) (RR (.ref D) C) s₃:=by
  rintro s₃ rfl
  obtain ⟨m0,w0⟩:=w0
  refine ze0 (fun n s'=>∃ (i:Nat) (ys:List V) (its:List Value) (k:Nat) (H':Hp),Inv Y [(D,zcz its k)] (capσ own cap σ) H' s'∧tn i s'.heap∧(∀ b∈fp,H' b=none)∧Vals ys its∧W i n ys H') ?_ m0
   ⟨0,[],[],0,H2,pinD I3 HD2 hD₁,T.keep _ _ _ st2 fun b _ o e=>old b o e,fun b hb=>(f2 b hb).1,.nil,w0⟩
  rintro n s3 ⟨i,ys,its,k,H3,J3,st3,fr3,vy,w3⟩
  have pD:∀ p∈[(D,zcz its k)],∀ b∈fp,p.1≠b:=fun p hp b hb=>by
   have ep:p=(D,zcz its k):=by simpa using hp
   subst ep
   exact Ne.symm (fpN b hb)
  have HD3:H3 D=none:=(J3.pin (D,zcz its k) (by rw [eN];simp)).2.1
  have item:=T.item Y eP eW eK eC i [(D,zcz its k)] s3 (capσ own cap σ) H3 (fun _ _=>False) J3 (fpOk fr3 pD) st3
  have done:=T.done Y eP eW eK eC i [(D,zcz its k)] s3 (capσ own cap σ) H3 (fun _ _=>False) J3 (fpOk fr3 pD) st3
  rw [eA] at item done
  rcases turn i n ys H3 w3 with ⟨stop,hyl,qn⟩ | ⟨go,hyl,step⟩
  ·refine thn (done stop) fun r s4 ⟨hr,J4⟩=>?_
   subst hr
   show RR (.ref D) C (.ok .next) s4
   have hu:Un (frs X.stack) fp H2 H3 s2.heap s4.heap:=by have q:=J4.base;rw [← hY] at q;exact q
   have hok4:HOk X.prog X.w H3 s4.heap:=by have q:=J4.hok;rw [eP,eW] at q;exact q
   have I4:Inv X pins σ H3 s4:=I2.call' (ch:=fp) (by have q:=J4.os;rw [eS] at q;exact q) hu hok4 J4.bare fun b hb=>by
    obtain ⟨f0,f1,f2',f3,f4,f5⟩:=f2 b hb
    exact ⟨f3,f1,f4,f5⟩
   obtain ⟨m,hm,_⟩:=J4.loc
   rw [eL] at hm
   obtain ⟨oC,es,ep,hoC,hdC,hrC⟩:=id hm
   have HC3:H3 C=none:=by have q:=J4.free;rw [eL] at q;exact q
   have CnF:∀ b,s2.heap.objs.size≤b→b∉X.fs:=fun b hb=>I2.nofs hb
   have eD4:=(J4.pin (D,zcz its k) (by rw [eN];simp)).1
   have pinNe:∀ b,s2.heap.objs.size≤b→∀ p∈X.pn++pins,p.1≠b:=fun b hb p hp z=>by
    exact neL (by have:=zhA (I2.pin p hp).1;exact Nat.lt_of_lt_of_le this hb) z
   have cellNe:∀ b,s2.heap.objs.size≤b→∀ x c,X.env.cells.lookup x=some c→c≠b:=fun b hb x c e z=>by
    obtain ⟨v,o,ho,_⟩:=I2.cell x c e
    exact neL (Nat.lt_of_lt_of_le (zhA ho) hb) z
   have locNe:∀ b,s2.heap.objs.size≤b→b≠X.env.locals:=fun b hb=>neG (Nat.lt_of_lt_of_le I2.lt hb)
   have I5:Inv X (pins++[(C,oC)]) σ H3 s4:=I4.zg7 fun p hp=>by
    rcases List.mem_append.mp hp with z | z
    ·exact I4.pin p (List.mem_append_right _ z)
    ·have ep':p=(C,oC):=by simpa using z
     subst ep'
     exact ⟨hoC,HC3,locNe C (by omega),CnF C (by omega),fun v z=>by rw [hdC] at z;cases z⟩
   have hyl':ys.length≤sizeLine:=hyl
   have I6:Inv X (pins++[(C,oC)]) σ (upd H3 D (.lst ys)) s4:=I5.zl1 HD3 (locNe D (by omega)) (by have q:Array.size X.s₀.heap.objs≤Array.size s2.heap.objs:=I2.sz;cases e:X.s₀.heap.get? D with | none=>rfl | some o=>exact absurd (zhA e) (by omega)) (cellNe D (by omega)) (fun p hp=>by
    rcases List.mem_append.mp hp with z | z
    ·exact pinNe D (by omega) p (List.mem_append_left _ z)
    ·rcases List.mem_append.mp z with z | z
     ·exact pinNe D (by omega) p (List.mem_append_right _ z)
     ·have ep':p=(C,oC):=by simpa using z
      subst ep'
      exact Ne.symm hDC) ⟨hyl',its,k,vy,eD4⟩
   exact hR D C s4 H3 ys oC m I6 HD3 hm (Nat.le_trans I2.sz (by omega)) (pinNe C (by omega)) (qn D HD3)
  ·refine thn (item go) fun r s4 ⟨u,hr,h4⟩=>?_
   subst hr
   refine thn h4 fun _ s5 ⟨x,H5,J5,r5,y5,st5,fr5⟩=>?_
   have J5':=J5.pinned (fpOk fr5 pD) (T.obj _ _ st5)
   have hg2:=hg' _ s5 (capσ own cap σ) H5 x u _ J5' r5 (gk C s2 H2 fp x (capσ own cap σ) H5 _ (fun σ6 H6=>(tf C s2 H2 fp σ6 H6 fun b H3=>if b=true then te C s2 H2 fp σ6 H3 fun v H4=>∃ m',m' < n∧W (i+1) m' (ys++[v]) H4 else ∃ m',m' < n∧W (i+1) m' ys H3)∧σ6.length=(capσ own cap σ).length∧∀ j,own.length≤j→σ6[j]? = (capσ own cap σ)[j]?) (step x H5 y5 C s2 H2 fp) fun σ6 H6 a b c=>⟨a,b,c⟩)
   rw [eP,eW,eA,eX,eE] at hg2
   refine thn hg2 fun _ s6 ⟨σ6,H6,J6,q6,l6,k6⟩=>?_
   have hf2:=hf' _ s6 σ6 H6 _ J6 q6
   rw [eP,eW,eA,eX,eE] at hf2
   refine thn hf2 fun ok s7 ⟨H7,J7,q7⟩=>?_
   have weakσ:∀ {pl:List (Addr×Obj)} {H':Hp} {s':Shared},Inv Y pl σ6 H' s'→Inv Y pl (capσ own cap σ) H' s':=fun {pl H' s'} J=>J.weak l6.symm fun j v e=>by
    by_cases hj:j<own.length
    ·unfold capσ at e
     rw [List.getElem?_append_left (by simpa using hj),List.getElem?_map] at e
     cases q:own[j]? with
     | none=>rw [q] at e;cases e
     | some y=>rw [q] at e;cases e
    ·rw [k6 j (by omega)];exact e
   have again:∀ {H':Hp} {s':Shared} {pl:List (Addr×Obj)} {its':List Value} {k':Nat},Inv Y (pl++zeT fp s5.heap) σ6 H' s'→H' D=none→s'.heap.get? D=some (zcz its' k') →
     Inv Y [(D,zcz its' k')] (capσ own cap σ) H' s'∧tn (i+1) s'.heap∧∀ b∈fp,H' b=none:=fun {H' s' pl its' k'} J hn e=>by
    refine ⟨pinD (weakσ J) hn e,T.keep _ _ _ st5 fun b hb o e=>(J.pin (b,o) (List.mem_append_right _ (List.mem_append_right _ (zeu hb e)))).1,fun b hb=>?_⟩
    obtain ⟨o,e,d⟩:=T.obj _ _ st5 b hb
    exact (J.pin (b,o) (List.mem_append_right _ (List.mem_append_right _ (zeu hb e)))).2.1
   have getD:∀ {H':Hp} {s':Shared},Inv Y ([(D,zcz its k)]++zeT fp s5.heap) σ6 H' s'→s'.heap.get? D=some (zcz its k)∧H' D=none:=fun {H' s'} J=>by
    have q:=J.pin (D,zcz its k) (by rw [eN];simp)
    exact ⟨q.1,q.2.1⟩
   cases ok with
   | false =>
    rw [if_neg Bool.false_ne_true] at q7 ⊢
    obtain ⟨m',hm',w7⟩:=q7
    obtain ⟨g1,g2⟩:=getD J7
    obtain ⟨a1,a2,a3⟩:=again J7 g2 g1
    exact ⟨m',hm',i+1,ys,its,k,H7,a1,a2,a3,vy,w7⟩
   | true =>
    rw [if_pos rfl] at q7 ⊢
    have he2:=he' _ s7 σ6 H7 _ J7 q7
    rw [eP,eW,eA,eX,eE] at he2
    refine thn he2 fun y8 s8 ⟨v8,H8,J8,r8,m',hm',w8⟩=>?_
    obtain ⟨g1,g2⟩:=getD J8
    have hsz:its.toArray.size≤sizeLine:=by
     have:=vy.length
     rw [List.size_toArray]
     omega
    refine wpAny_list_append_plain (items:=its.toArray) ⟨k,g1⟩ (fun h9 hl9 hs9=>?_) hsz
    obtain ⟨k9,hk9⟩:=hl9
    have hk9':h9.get? D=some (zcz (its++[y8]) k9):=by rw [hk9];simp [zcz]
    have J9:Inv Y ([]++zeT fp s5.heap) σ6 H8 { s8 with heap:=h9 }:=by
     have J8':Inv Y ([]++zeT fp s5.heap) σ6 H8 s8:=J8.zg7 fun p hp=>J8.pin p (List.mem_append_right _ (List.mem_append_right _ (by simpa using hp)))
     refine J8'.turned (it:=D) (t':=s8.toks) (fun b o hb e=>hs9.extBut b o hb e) g2 (by rw [eL];exact hDC) (.inr (by rw [eS];omega)) cellD fun p hp=>?_
     rw [eN] at hp
     have hp':p∈zeT fp s5.heap:=by simpa using hp
     obtain ⟨hb,_⟩:=ziN hp'
     exact fpN p.1 hb
    obtain ⟨a1,a2,a3⟩:=again J9 g2 hk9'
    exact ⟨m',hm',i+1,ys++[v8],its++[y8],k9,H8,a1,a2,a3,vy.append (.cons r8 .nil),w8⟩
 refine codeAny_compStart_list (loop _ rfl) ?_
 exact T.self _ 0 _ _ _ (T.keep _ _ _ st2 fun b _ o e=>old b o e) (loop _ rfl)
theorem zaY {fs:Scope} (own:List Str) (cap:List Nat) (hc:X.calm=true) (hfs:X.env.scope=fs) (hck:zfU fs scope X.N own cap=true) (hi:PI X tg iter wi)
  (hg:∀ C s₀ H₀ ex,PG (zdV X scope (zgR X.N own cap) C s₀ H₀ ex) tg (g C s₀ H₀ ex)) (gk:∀ C s₀ H₀ ex,GK own.length (g C s₀ H₀ ex)) (hf:∀ C s₀ H₀ ex,PF (zdV X scope (zgR X.N own cap) C s₀ H₀ ex) ifs (tf C s₀ H₀ ex)) (he:∀ C s₀ H₀ ex,PE (zdV X scope (zgR X.N own cap) C s₀ H₀ ex) elt (te C s₀ H₀ ex))
  (hs:∀ x,foldedSetIterable iter X.env x=pure x:=by intro _;rfl):PE X (.ListComp elt [⟨tg,iter,ifs,0⟩] scope cpos) (zqe own cap wi g tf te):=by
 intro pins s σ H Q I h
 have hck':=hck
 subst hfs
 unfold zfU at hck'
 simp only [Bool.and_eq_true] at hck'
 obtain ⟨⟨⟨⟨⟨c1,c2⟩,c3⟩,c4⟩,c5⟩,c6⟩:=hck'
 have hkind:scope.kind=.function:=by simpa using c1
 have hnames:∀ y∈scope.names,y.2=.local→scope.names.lookup y.1=some .local:=fun y hy hk=>by
  have z:=List.all_eq_true.mp c3 y hy
  rw [hk] at z
  simpa using z
 have hfree:∀ y∈scope.names,y.2=.free→∃ a,X.env.cells.lookup y.1=some a:=fun y hy hk=>by
  have z:=List.all_eq_true.mp c4 y hy
  rw [hk] at z
  exact I.ok.has y.1 (by simpa [Env.kindOf] using z)
 rw [eval_ListComp]
 refine wpAny_comprehension_free (use:=none) rfl hs (zfm hfree) hkind hnames (thn (hi pins s σ H _ I h) fun xv s1 h1=>thn h1 fun itv s2 h2=>?_)
 obtain ⟨it,fp,tn,J,H2,e,I2,T,st2,f2,W,w0,turn⟩:=h2
 subst e
 refine zk8 (Q:=Q) (RR:=fun acc C=>compPost (model X.prog X.w) X.A X.xe none (EP X pins σ Q) acc C) hc rfl hck hg gk hf he I2 T st2 f2 W w0 turn ?_
 intro D C s4 H3 ys oC m J4 hn hm hC0 hCp hq
 refine ⟨m,hm,fun h' hs'=>?_⟩
 obtain ⟨p1,p2,p3,p4,p5⟩:=J4.pin (C,oC) (List.mem_append_right _ (List.mem_append_right _ (by simp)))
 have J5:Inv X pins σ (upd H3 D (.lst ys)) s4:=J4.zeL
 have J6:Inv X pins σ (upd H3 D (.lst ys)) { s4 with heap:=h' }:=J5.turned (it:=C) (t':=s4.toks) (fun b o hb e=>hs'.extBut b o hb e) p2 p3 (.inr hC0) (fun x c e z=>by
  obtain ⟨v,o,ho,hd⟩:=J5.cell x c e
  rw [z,p1] at ho
  cases ho
  exact p5 v hd) hCp
 exact ⟨.ref D,_,J6,rfl,hq⟩
theorem zd1 {fs:Scope} {i:Nat} {x:Str} {pos' pos:Pos} (own:List Str) (cap:List Nat) (hc:X.calm=true) (hfs:X.env.scope=fs) (hck:zfU fs scope X.N own cap=true) (hN:X.N.Nodup) (hix:X.N[i]? = some x) (hx:X.env.scope.names.lookup x=some .local) (hi:PI X tg iter wi)
  (hg:∀ C s₀ H₀ ex,PG (zdV X scope (zgR X.N own cap) C s₀ H₀ ex) tg (g C s₀ H₀ ex)) (gk:∀ C s₀ H₀ ex,GK own.length (g C s₀ H₀ ex)) (hf:∀ C s₀ H₀ ex,PF (zdV X scope (zgR X.N own cap) C s₀ H₀ ex) ifs (tf C s₀ H₀ ex)) (he:∀ C s₀ H₀ ex,PE (zdV X scope (zgR X.N own cap) C s₀ H₀ ex) elt (te C s₀ H₀ ex))
  (hsw:swapsWith (.ListComp elt [⟨tg,iter,ifs,0⟩] scope cpos) (some (.Name x pos')) pos.line X.env=pure true:=by rfl)
  (hs:∀ x,foldedSetIterable iter X.env x=pure x:=by intro _;rfl):PS X (.Assign [.Name x pos'] (.ListComp elt [⟨tg,iter,ifs,0⟩] scope cpos) pos) (tAsg (zqe own cap wi g tf te) (zcy i)):=by
 intro pins s σ H D I h
 have hck':=hck
 subst hfs
 unfold zfU at hck'
 simp only [Bool.and_eq_true] at hck'
 obtain ⟨⟨⟨⟨⟨c1,c2⟩,c3⟩,c4⟩,c5⟩,c6⟩:=hck'
 have hkind:scope.kind=.function:=by simpa using c1
 have hnames:∀ y∈scope.names,y.2=.local→scope.names.lookup y.1=some .local:=fun y hy hk=>by
  have z:=List.all_eq_true.mp c3 y hy
  rw [hk] at z
  simpa using z
 have hfree:∀ y∈scope.names,y.2=.free→∃ a,X.env.cells.lookup y.1=some a:=fun y hy hk=>by
  have z:=List.all_eq_true.mp c4 y hy
  rw [hk] at z
  exact I.ok.has y.1 (by simpa [Env.kindOf] using z)
 rw [exec_Assign_Name_used _ _ _ _ hsw]
 refine wpAny_bind (wpAny_standAt (wpAny_bind ?_))
 show wpAny _ X.A (do let _ ← comprehension (.ListComp elt [⟨tg,iter,ifs,0⟩] scope cpos) scope X.env _ (newList []) false (eval iter X.env) (some (assign (.Name x pos') X.env))) _ _ s
 refine wpAny_bind (wpAny_mono (wpAny_comprehension_free (use:=some (assign (.Name x pos') X.env)) (Q:=fun _ s'=>SP X pins D .next s') rfl hs (zfm hfree) hkind hnames (thn (hi pins s σ H _ I h) fun xv s1 h1=>thn h1 fun itv s2 h2=>?_)) (fun _ s' hq=>wpAny_pure (wpAny_pure hq)) fun _ _ e=>e)
 obtain ⟨it,fp,tn,J,H2,e,I2,T,st2,f2,W,w0,turn⟩:=h2
 subst e
 refine zk8 (Q:=fun v H'=>zcy i v σ H' D.nx) (RR:=fun acc C=>compPost (model X.prog X.w) X.A X.xe (some (assign (.Name x pos') X.env)) (fun _ s'=>SP X pins D .next s') acc C) hc rfl hck hg gk hf he I2 T st2 f2 W w0 turn ?_
 intro D' C s4 H3 ys oC m J4 hn hm hC0 hCp hq
 show wpAny _ X.A (assign (.Name x pos') X.env (.ref D')) _ _ s4
 refine wpAny_assign_Name (zeM J4 hN hix (.inl hx) (show RelV (.ref D') (.ref D') from rfl) (fun s5 J5=>?_) (.inr hx))
 obtain ⟨p1,p2,p3,p4,p5⟩:=J5.pin (C,oC) (List.mem_append_right _ (List.mem_append_right _ (by simp)))
 obtain ⟨q1,_⟩:=J4.pin (C,oC) (List.mem_append_right _ (List.mem_append_right _ (by simp)))
 refine ⟨m,?_,fun h' hs'=>?_⟩
 ·obtain ⟨o,es,ep,ho,r⟩:=hm
  rw [q1] at ho
  cases ho
  exact ⟨_,es,ep,p1,r⟩
 ·have J6:Inv X pins (σ.set i (some (.ref D'))) (upd H3 D' (.lst ys)) { s5 with heap:=h' }:=J5.zeL.turned (it:=C) (t':=s5.toks) (fun b o hb e=>hs'.extBut b o hb e) p2 p3 (.inr hC0) (fun y c e z=>by
   obtain ⟨v,o,ho,hd⟩:=J5.cell y c e
   rw [z,p1] at ho
   cases ho
   exact p5 v hd) hCp
  exact ⟨_,_,J6,hq⟩
end
end L2
namespace L2
open PySem PySem.Spec PyProof.Rows
def Bt (k:Nat) (n:Int):Prop:=n.natAbs<2^k
theorem Bt.mono {k l:Nat} {n:Int} (h:Bt k n) (hk:k≤l):Bt l n:=Nat.lt_of_lt_of_le h (Nat.pow_le_pow_right (by decide) hk)
theorem Bt.bits {k:Nat} {n:Int} (h:Bt k n):Builtin.Int.intBits n≤k:=by
 unfold Builtin.Int.intBits
 by_cases hz:n=0
 ·subst hz
  exact Nat.zero_le _
 ·rw [if_neg (by simpa using hz)]
  have h0:n.natAbs≠0:=by omega
  exact (Nat.log2_lt h0).mpr h
theorem Bt.log {k:Nat} {n:Int} (h:Bt k n) (hk:k≤9000):n.natAbs.log2<9000:=by
 by_cases hz:n.natAbs=0
 ·rw [hz];decide
 ·exact Nat.lt_of_lt_of_le ((Nat.log2_lt hz).mpr h) hk
theorem Bt.add {k:Nat} {a b:Int} (ha:Bt k a) (hb:Bt k b):Bt (k+1) (a+b):=by
 unfold Bt at *
 rw [Nat.pow_succ]
 have:=Int.natAbs_add_le a b
 omega
theorem Bt.sub {k:Nat} {a b:Int} (ha:Bt k a) (hb:Bt k b):Bt (k+1) (a-b):=by
 unfold Bt at *
 rw [Nat.pow_succ]
 have:(a-b).natAbs≤a.natAbs+b.natAbs:=by omega
 omega
theorem Bt.mul {k l:Nat} {a b:Int} (ha:Bt k a) (hb:Bt l b):Bt (k+l) (a*b):=by
 unfold Bt at *
 rw [Int.natAbs_mul,Nat.pow_add]
 exact Nat.mul_lt_mul'' ha hb
theorem Bt.le {k:Nat} {a b:Int} (h:a.natAbs≤b.natAbs) (hb:Bt k b):Bt k a:=Nat.lt_of_le_of_lt h hb
section
variable {X:Cx}
def zrR (i j:Int):Prop:=∃ k l,k≤1048576∧l≤1048576∧Bt k i∧Bt l j
theorem zcO:OpR X (binaryOp .Mult) (rI zrR fun i j=>.int (i*j)):=opI fun _ _ _ _ _ _ _ ⟨k,l,hk,hl,hi,hj⟩ q=>mul_int q (IntMulOk.of_bits (Nat.le_trans hi.bits hk) (Nat.le_trans hj.bits hl))
def zlu (i j:Int):Prop:=j≠0∧∃ k,k≤9000∧Bt k j
theorem zet:OpR X (binaryOp .FloorDiv) (rI zlu fun i j=>.int (i.fdiv j)):=opI fun _ _ _ _ _ _ _ ⟨h0,k,hk,hj⟩ q=>floordiv_int h0 q (.inl (PyProof.noPylong_of_log2 (hj.log hk)))
end
mutual
inductive Rep (K:PySem.W.Frag) (H:Hp):V→PyData→Prop
 | non:Rep K H .non .none
 | bl (b:Bool):Rep K H (.bl b) (.bool b)
 | int (i:Int):Rep K H (.int i) (.int i)
 | str (x:Str):Rep K H (.str x) (.str x)
 | tup {a:Addr} {xs:List V} {ds:List PyData}:SqT K H a xs→Reps K H xs ds→Rep K H (.ref a) (.tuple ds)
 | lst {a:Addr} {xs:List V} {ds:List PyData}:SqL K H a xs→Reps K H xs ds→Rep K H (.ref a) (.list ds)
inductive Reps (K:PySem.W.Frag) (H:Hp):List V→List PyData→Prop
 | nil:Reps K H [] []
 | cons {x:V} {d:PyData} {xs:List V} {ds:List PyData}:Rep K H x d→Reps K H xs ds→Reps K H (x::xs) (d::ds)
end
section
variable {X:Cx} {pins:List (Addr×Obj)} {σ:St} {H:Hp} {s:Shared}
theorem Rep.reads (I:Inv X pins σ H s) {v:V} {d:PyData} (r:Rep X.K H v d):∀ u,RelV v u→∃ as,Reads s.heap u d as:=by
 refine Rep.rec (motive_1:=fun v d _=>∀ u,RelV v u→∃ as,Reads s.heap u d as) (motive_2:=fun vs ds _=>∀ us,Vals vs us→∃ as,ReadsAll s.heap us ds as) ?_ ?_ ?_ ?_ ?_ ?_ ?_ ?_ r
 ·intro u e
  cases (show u=Value.none from e)
  exact ⟨_,.none⟩
 ·intro b u e
  cases (show u=Value.bool b from e)
  exact ⟨_,.bool b⟩
 ·intro i u e
  obtain ⟨t,rfl⟩:=(show ∃ t,u=Value.int i t from e)
  exact ⟨_,.int i t⟩
 ·intro x u e
  obtain ⟨t,rfl⟩:=(show ∃ t,u=Value.str x t from e)
  exact ⟨_,.str x t⟩
 ·intro a xs ds sq _ ih u e
  cases (show u=Value.ref a from e)
  obtain ⟨its,rv,⟨o,ho,hc,n,hd⟩,_⟩:=I.tuple sq
  obtain ⟨as,q⟩:=ih its rv
  exact ⟨as,.tuple ho hc hd (by simpa using q)⟩
 ·intro a xs ds sq _ ih u e
  cases (show u=Value.ref a from e)
  obtain ⟨its,rv,p,_⟩:=I.list sq
  obtain ⟨o,ho,hc,n,hd⟩:=p.isList
  obtain ⟨as,q⟩:=ih its rv
  exact ⟨a::as,.list ho hc hd (by simpa using q)⟩
 ·intro us e
  cases e
  exact ⟨_,.nil⟩
 ·intro x d xs ds _ _ ih1 ih2 us e
  cases e with
  | cons r1 r2 =>
   obtain ⟨as,q1⟩:=ih1 _ r1
   obtain ⟨bs,q2⟩:=ih2 _ r2
   exact ⟨as++bs,.cons q1 q2⟩
def rEqD (K:PySem.W.Frag) (neg:Bool):R2:=fun x y H Q=>∃ d e,Rep K H x d∧Rep K H y e∧d.canLay0=true∧e.canLay0=true∧d.depth≤40∧Q (.bl (if neg then !PyData.eqv d e else PyData.eqv d e)) H
theorem zlV (hu:X.A.units+64<cLine):OpR X (compareOp .Eq) (rEqD X.K false):=by
 intro pins s σ H x y v u Q I r1 r2 h
 obtain ⟨d,e,p1,p2,c1,c2,hd,q⟩:=h
 obtain ⟨as,z1⟩:=p1.reads I v r1
 obtain ⟨bs,z2⟩:=p2.reads I u r2
 exact SeqAt.compareEq_reads z1 z2 c1 c2 (by omega) ⟨.bl _,H,I,rfl,q⟩
theorem zeW (hu:X.A.units+64<cLine):OpR X (compareOp .NotEq) (rEqD X.K true):=by
 intro pins s σ H x y v u Q I r1 r2 h
 obtain ⟨d,e,p1,p2,c1,c2,hd,q⟩:=h
 obtain ⟨as,z1⟩:=p1.reads I v r1
 obtain ⟨bs,z2⟩:=p2.reads I u r2
 exact SeqAt.compareNe_reads z1 z2 c1 c2 (by omega) ⟨.bl _,H,I,rfl,q⟩
end
section
variable {X:Cx}
theorem zlx:∀ {bs:List Bool} {us:List Value},Vals (bs.map V.bl) us→∀ (i:Nat) (v:Value),us[i]? = some v→∃ b,bs[i]? = some b∧v=.bool b
 | [],_,.nil,i,v,e=>by simp at e
 | b::bs,_,.cons r t,i,v,e=>by
  cases i with
  | zero =>
   simp at e
   subst e
   exact ⟨b,rfl,r⟩
  | succ i=>simpa using zlx t i v (by simpa using e)
theorem zfo (hc:X.calm=true):zf0 X (.builtin "all") (fun xs H Q=>∃ (p:Addr) (bs:List Bool),xs=[.ref p]∧SqL X.K H p (bs.map V.bl)∧Q (.bl (bs.all id)) H):=by
 intro pins s σ H vs us Q I r h
 obtain ⟨p,bs,rfl,sq,q⟩:=h
 cases r with
 | cons r0 rr =>
  cases rr
  cases (show _=Value.ref p from r0)
  obtain ⟨its,rv,pl,_⟩:=I.list sq
  have hl:=pl.isList
  have hlt:p<s.heap.objs.size:=by obtain ⟨_,e,_⟩:=hl;exact Heap.lt_size e
  have len:its.length=bs.length:=by have:=rv.length;simpa using this.symm
  refine call_all_walk (wpAny_pyIter_list hl ⟨s.heap.objs.size,_,_,_,_,_,fun i=>(bs[i]?).getD true,rfl,Walks.list (A:=X.A.in1) (I.ok.hd hc) _ p (Nat.ne_of_lt hlt) its.toArray,⟨⟨_,Heap.get?_push_size _ rfl,rfl,rfl⟩,hl.push _⟩,fun i v s' Q' E' hP hQ=>?_,fun h' tk hk=>?_⟩)
  ·obtain ⟨b,e,rfl⟩:=zlx rv i v (by simpa using hP)
   simp only [e,Option.getD_some] at hQ
   exact wpAny_truthy_bool hQ
  ·have e:((List.range its.toArray.size).all fun i=>(bs[i]?).getD true)=bs.all id:=by
    rw [List.size_toArray,len]
    exact LSm.range_all bs
   rw [e]
   exact ⟨.bl _,H,I.kept fun b o z=>hk b o (fun hm=>by rw [List.mem_singleton.mp hm] at z;exact Nat.lt_irrefl _ (Heap.lt_size z)) (Heap.get?_push_of_some _ z),rfl,q⟩
end
end L2
namespace L2
open PySem PySem.Spec PyProof.Rows
section
variable {prog:Program} {w:World} {A:Around} {E:Value→Shared→Prop} {s:Shared}
end
end L2
namespace L2
open PySem PySem.Spec PyProof.Rows PySem.W
structure zjw (K:PySem.W.Frag) (C:Addr):Prop where
 cls:(clsIn K C).isSome=true
 ga:findIn K (.ref C) "__getattribute__" = some (some (.builtin "BaseException.__getattribute__"))
 gt:findIn K (.ref C) "__getattr__" = some none
 cl:findIn K (.ref C) "__class__" = some (some (.builtin "object.__class__"))
 get:specialIn K (.builtin "object.__class__") "__get__" = some (some (.builtin "getset_descriptor.__get__"))
 tk:takesIn K (.builtin "object.__class__")=some true
 ob:mroIn K C (.type "object")=some true
 be:mroIn K C (.type "BaseException")=some true
section
variable {prog:Program} {w:World} {A:Around} {E:Value→Shared→Prop} {s:Shared} {K:Frag} {C a t:Addr} {tb:Value}
theorem ziv {h:Heap} (he:h.get? a=some (excO (.ref C) t tb)):InstAt h a (excO (.ref C) t tb) C none:=⟨he,rfl,rfl,trivial⟩
theorem zoi (c:zjw K C):findObj K C none "__class__" = some (.bind (.builtin "getset_descriptor.__get__") (.builtin "object.__class__")):=by
 obtain ⟨cd,hc⟩:=Option.isSome_iff_exists.mp c.cls
 unfold findObj
 rw [hc,Option.bind_some,c.cl,Option.bind_some]
 simp [c.get,c.tk]
theorem zqJ {tk:Tok} {R:Result→Shared→Prop} (c:zjw K C) (X:K.In s.heap) (he:s.heap.get? a=some (excO (.ref C) t tb)) (k:R (.ok (.ret (.ref C))) s) :
  codeAny (model prog w) A (.call (.builtin "BaseException.__getattribute__") ⟨[.ref a,.str "__class__" tk],[]⟩) R s:=by
 obtain ⟨hh,g,d,tt,os⟩:=s
 have I:=ziv he
 have L0:=I.type (M:=model prog w)
 have L1:=looks_mroIn (M:=model prog w) X c.be
 have L2:=looks_find (M:=model prog w) X I (zoi c)
 refine codeAny_call_builtin F.excAttr_ValueError.ga.plain F.entry_bexc_ga ?_
 have hk:builtinKind "BaseException.__getattribute__" = some .slot:=by decide +kernel
 have hsp:splitId "BaseException.__getattribute__" = some ("BaseException","__getattribute__"):=by decide +kernel
 have ha:=F.args_bexc_ga (.ref a) (.str "__class__" tk)
 simp only [checkBuiltinCall,hk,hsp]
 have LI:Looks (model prog w) hh (isInstance (.ref a) (.type "BaseException")) true:=L0.andThen L1
 refine wpAny_bind (LI.at ?_)
 rw [if_neg (show ¬ ((!true)=true) by decide)]
 have rest:wpAny (model prog w) A.in1 (Builtin.«object.__getattribute__» ⟨[.ref a,.str "__class__" tk],[]⟩) (fun fin s'=>match fin with | .done f=>R (.ok f) s' | .again c'=>c'.quiet=true∧codeAny (model prog w) A c' R s') (fun e s'=>R (.error e) s') ⟨hh,g,d,tt,os⟩:=by
  unfold Builtin.«object.__getattribute__»
  refine wpAny_bind (wpAny_of_eq (a:=(.ref a,[.str "__class__" tk])) rfl ?_)
  refine wpAny_bind (wpAny_of_eq (a:=("__class__" : Str)) rfl ?_)
  refine wpAny_bind (L0.at (wpAny_bind (L2.at ?_)))
  show wpAny (model prog w) A.in1 (holding [.builtin "object.__class__"] (call (.builtin "getset_descriptor.__get__") [.builtin "object.__class__",.ref a,.ref C]) >>= fun v=>ret v) _ _ _
  refine wpAny_bind (wpAny_holding (wpAny_call ?_))
  exact class_get (s:=⟨hh,g,d,tt,os⟩) (ox:=excO (.ref C) t tb) (od:=none) X I c.ob (wpAny_pure k)
 cases hsg:Manifest.signature? "BaseException.__getattribute__" with
 | none=>exact wpAny_pure rest
 | some sig =>
  simp only [argsOk,hsg] at ha
  have ha':Bind.checkArgs "BaseException.__getattribute__" sig ⟨[.ref a,.str "__class__" tk],[]⟩=pure ():=ha
  show wpAny _ _ (Bind.checkArgs "BaseException.__getattribute__" sig ⟨[.ref a,.str "__class__" tk],[]⟩) _ _ _
  rw [ha']
  exact wpAny_pure rest
theorem zm6 {Q:Option Value→Shared→Prop} (c:zjw K C) (X:K.In s.heap) (he:s.heap.get? a=some (excO (.ref C) t tb)) (k:Q (some (.ref C)) { s with toks:=s.toks+1 }):wpAny (model prog w) A (getAttr? (.ref a) "__class__") Q E s:=by
 obtain ⟨hh,g,d,tt,os⟩:=s
 have I:=ziv he
 have L0:=I.type (M:=model prog w)
 have L1:=looks_findIn (M:=model prog w) X c.ga
 have L2:=looks_findIn (M:=model prog w) X c.gt
 unfold getAttr? getAttrBy? getAttrBy
 refine wpAny_bind (wpAny_mkText (wpAny_bind (wpAny_attempt (wpAny_holding (wpAny_bind (L0.at (wpAny_bind (L1.at ?_))))))))
 show wpAny (model prog w) A (if (onTheHeap (.ref C)&&Value.builtin "BaseException.__getattribute__"==Value.builtin "object.__getattribute__")=true then _ else _) _ _ _
 rw [if_neg (by rw [show (Value.builtin "BaseException.__getattribute__"==Value.builtin "object.__getattribute__")=false by decide +kernel,Bool.and_false];exact Bool.false_ne_true)]
 unfold getAttrByItsOwn
 refine wpAny_bind ?_
 show wpAny (model prog w) A (typeLookup (.ref C) "__getattr__") _ _ _
 refine L2.at (wpAny_bind (wpAny_attempt (wpAny_holding ?_)))
 show wpAny (model prog w) A (boundAndCalled (.builtin "BaseException.__getattribute__") (.ref a) (.str "__class__" tt)) _ _ _
 unfold boundAndCalled
 refine wpAny_bind (wpAny_of_eq (F.excAttr_ValueError.ga.bind (.ref a)) (wpAny_call ?_))
 refine zqJ (s:=⟨hh,g,d,tt+1,os⟩) c X he ?_
 show wpAny (model prog w) A (handedOut (.ref C)) _ _ _
 exact wpAny_pure (wpAny_pure k)
end
end L2
namespace L2
open PySem PySem.Spec PyProof.Rows PySem.W
section
variable {K:Frag} {C a:Addr}
theorem zoa (c:zjw K C):KitX K (.ref a) (.ref C) (fun h=>∃ t tb,h.get? a=some (excO (.ref C) t tb)) where
 ty:=fun _ _ _ ⟨_,_,he⟩=>(ziv he).type
 it:=fun M h X _=>by
  obtain ⟨cd,hc⟩:=Option.isSome_iff_exists.mp c.cls
  unfold clsIn at hc
  split at hc
  next hK =>
   intro A Q E s k q
   unfold isType loadHead
   exact wpAny_bind (wpAny_loadPart (k _ _ (X _ _ hK)) (wpAny_pure q))
  next=>cases hc
 ne:=fun h tp dd its n sl X htp=>by
  obtain ⟨cd,hc⟩:=Option.isSome_iff_exists.mp c.cls
  refine Bool.eq_false_iff.mpr fun q=>?_
  cases beq_iff_eq.mp q
  unfold clsIn at hc
  split at hc
  next hK =>
   have z:=(X _ _ hK).symm.trans htp
   cases z
  next=>cases hc
 ca:=fun X ⟨_,_,he⟩ k=>zm6 c X he k
end
inductive TyX (K:PySem.W.Frag) (H:Hp):V→Value→Prop where
 | of {x:V} {t:Value}:TyOf K H x t→TyX K H x t
 | exc {a C:Addr}:H a=some (ExcAt a (.ref C))→zjw K C→TyX K H (.ref a) (.ref C)
 | tupS {a:Addr} {xs:List V}:SqT K H a xs→TyX K H (.ref a) (.type "tuple")
 | lstS {a:Addr} {xs:List V}:SqL K H a xs→TyX K H (.ref a) (.type "list")
def clsV:V→Option Value
 | .ty n=>some (.type n)
 | .ref a=>some (.ref a)
 | _=>none
def rIsi (K:PySem.W.Frag):List V→Hp→VK→Prop:=fun xs H Q=>∃ x c cv t b,xs=[x,c]∧clsV c=some cv∧TyX K H x t∧kitOne K t cv=some b∧Q (.bl b) H
theorem zkA {X:Cx}:zf0 X (.builtin "isinstance") (rIsi X.K):=by
 intro pins s σ H vs us Q I r h
 obtain ⟨x,c,cv,t,b,rfl,hc,ty,hk,q⟩:=h
 cases r with
 | cons r0 rr =>
  cases rr with
  | cons r1 rr =>
   cases rr
   rename_i u0 u1
   have hu:u1=cv:=by
    cases c with
    | ty n=>cases hc;exact r1
    | ref n=>cases hc;exact r1
    | _=>cases hc
   subst hu
   cases ty with
   | of ty=>exact zmx I r0 ty hk fun tk=>⟨.bl b,H,I.tok tk,rfl,q⟩
   | @exc a C ha ce =>
    cases (show u0=Value.ref a from r0)
    obtain ⟨⟨t,tb,he⟩,_⟩:=(show zbY X.prog X.w H s.heap a (ExcAt a (.ref C)) from I.hok a _ ha)
    exact kia_one (zoa ce) I.kIn ⟨t,tb,he⟩ hk (fun z=>nomatch z) fun tk=>⟨.bl b,H,I.tok tk,rfl,q⟩
   | @tupS a xs hs =>
    cases (show u0=Value.ref a from r0)
    obtain ⟨its,_,⟨o,h1,h2,_⟩,_⟩:=I.tuple hs
    exact kia_one kitx_tuple I.kIn ⟨o,h1,h2⟩ hk (fun z=>nomatch z) fun tk=>⟨.bl b,H,I.tok tk,rfl,q⟩
   | @lstS a xs hs =>
    cases (show u0=Value.ref a from r0)
    obtain ⟨its,_,p,_⟩:=I.list hs
    obtain ⟨o,h1,h2,_⟩:=p.isList
    exact kia_one kitx_list I.kIn ⟨o,h1,h2⟩ hk (fun z=>nomatch z) fun tk=>⟨.bl b,H,I.tok tk,rfl,q⟩
theorem boot_isinstance:bootBuiltins "isinstance" = some (.builtin "isinstance"):=by decide +kernel
theorem zct {X:Cx} {e:Expr} {te:TE} {T:Str} {n:String} {p pos pT:Pos} (hg:Gl X "isinstance") (hm:X.mg "isinstance" = none) (he:PE X e te) (hgT:Gl X T) (hmT:X.mg T=none) (hT:bootBuiltins T=some (.type n)) (hnT:T≠"__name__":=by decide) (hdT:(T==("__debug__" : Str))=false:=by decide)
  (h1:starEach [e,.Name T pT] X.env=(false,eval e X.env)::starEach [.Name T pT] X.env:=by rfl):PE X (.Call (.Name "isinstance" p) [e,.Name T pT] [] pos) (tCB (rIsi X.K) (zjy te (zjy (tC (.ty n)) tNil))) :=
 za2 zkA hg hm boot_isinstance (zaa he (zaa (zpk (v:=.ty n) hgT hmT hT rfl hnT hdT) zac) h1) (he:=h1)
theorem ze2 {X:Cx} {e:Expr} {te:TE} {T:Str} {C:Addr} {p pos pT:Pos} (hg:Gl X "isinstance") (hm:X.mg "isinstance" = none) (he:PE X e te) (hgT:Gl X T) (hmT:X.mg T=some (.ref C)) (hdT:(T==("__debug__" : Str))=false:=by decide)
  (h1:starEach [e,.Name T pT] X.env=(false,eval e X.env)::starEach [.Name T pT] X.env:=by rfl):PE X (.Call (.Name "isinstance" p) [e,.Name T pT] [] pos) (tCB (rIsi X.K) (zjy te (zjy (tC (.ref C)) tNil))) :=
 za2 zkA hg hm boot_isinstance (zaa he (zaa (zhX (v:=.ref C) hgT hmT rfl hdT) zac) h1) (he:=h1)
end L2
namespace L2
open PySem PySem.Spec PySem.W PyProof.Rows PySem.Calls
def zkD (ms ns:List Int):Prop:=ms.Perm ns∧ms.Pairwise (·≤·)
def zql (K:PySem.W.Frag):List V→Hp→VK→Prop:=fun xs H Q=>∃ p ns,xs=[.ref p]∧SqL K H p (ns.map V.int)∧ns.length<64∧∀ l ms,H l=none→zkD ms ns→Q (.ref l) (upd H l (.lst (ms.map V.int)))
theorem zjh {X:Cx}:zf0 X (.builtin "sorted") (zql X.K):=by
 intro pins s σ H xs us Q I r h
 obtain ⟨p,ns,rfl,hq,h64,q⟩:=h
 obtain ⟨u,rfl,rx⟩:=vals1 r
 cases rx
 obtain ⟨its,r',pl,hz⟩:=I.list hq
 have hlen:=r'.length
 rw [List.length_map] at hlen
 refine sorted_ints pl.isList (intsAre_of r') (by omega) fun out ns' a1 a2 a3=>?_
 obtain ⟨e,he⟩:=sortedAll_at s.heap its out
 have hp:=a2.length_eq
 exact ⟨.ref (s.heap.objs.size+1),_,I.laid (t':=s.toks) (fun _ _=>sortedAll_old) (Nat.le_succ _)
  (show zbY X.prog X.w _ _ _ (.lst (ns'.map V.int)) from ⟨by rw [List.length_map];exact Nat.le_of_lt (zao (by omega)),out.toList,e,zeJ a1,by rw [Array.toArray_toList];exact he⟩),rfl,q _ ns' (I.hok.fresh (Nat.le_succ _)) ⟨a2,a3⟩⟩
def zqm:List V→Hp→VK→Prop:=fun xs H Q=>∃ (p:Addr) (ns:List Int) (kvs:List (Key×V)),xs=[.ref p]∧H p=some (.dK kvs)∧kvs.map (·.1)=ns.map Sum.inl∧ns.length<64∧∀ l ms,H l=none→zkD ms ns→Q (.ref l) (upd H l (.lst (ms.map V.int)))
theorem zh9:∀ {its:List Value} {ns:List Int},its.length=ns.length→(∀ (j:Nat) (v:Value),its[j]? = some v→∃ n t,ns[j]? = some n∧v=Value.int n t)→IntsAre its ns
 | [],[],_,_=>.nil
 | [],_::_,h,_=>by cases h
 | _::_,[],h,_=>by cases h
 | u::its,m::ns,h,k=>by
  obtain ⟨n,t,e,rfl⟩:=k 0 u rfl
  cases e
  exact .cons _ t (zh9 (Nat.succ.inj h) fun j v e=>k (j+1) v e)
theorem zmp {κ:Type}:∀ {kvs:List (κ×V)} {vs:List (κ×Value)} {j:Nat} {k:κ} {x:Value},KV kvs vs→vs[j]? = some (k,x)→∃ y,kvs[j]? = some (k,y)
 | _,_,_,_,_,.nil,e=>by simp at e
 | (a,b)::_,_,0,k,x,.cons r _,e=>by
  simp at e
  subst e
  obtain ⟨rfl,_⟩:=r
  exact ⟨b,rfl⟩
 | _,_,j+1,_,_,.cons _ r,e=>zmp (j:=j) r (by simpa using e)
theorem zji {X:Cx} (hc:X.calm=true):zf0 X (.builtin "sorted") zqm:=by
 intro pins s σ H xs us Q I r h
 obtain ⟨p,ns,kvs,rfl,hp,hk,h64,q⟩:=h
 obtain ⟨u,rfl,rx⟩:=vals1 r
 cases rx
 obtain ⟨z,lo,vs,rel,dd⟩:=zpH I.hok hp
 obtain ⟨ep,hat⟩:=dd.dictAt
 have hlen:kvs.length=vs.length:=Paired.length rel
 have hlen2:kvs.length=ns.length:=by have:=congrArg List.length hk;simpa using this
 refine call_function_entry kind_sorted plain_sorted entry_sorted (args_sorted1 _) ?_
 unfold Builtin.«sorted»
 refine wpAny_bind (m:=checkCount "sorted" 1 1 _) (wpAny_pure ?_)
 refine wpAny_bind (kdu_collect (A:=X.A.in1) (kdl_dict (knd:=zbX X.prog X.w) (kvs:=vs) (ep:=ep) lo) (I.ok.hd hc) hat (by omega) fun h' tk acc hk' hacc=>?_)
 have hl:acc.toList.length=vs.length:=by rw [Array.length_toList];exact hacc.1
 refine wpAny_bind (wpAny_newList ?_ (by rw [hl];omega))
 have hI:IntsAre acc.toList ns:=by
  refine zh9 (by omega) fun j v e=>?_
  obtain ⟨k,x,hx,hkx⟩:=hacc.2 j v (by rw [← Array.getElem?_toList];exact e)
  obtain ⟨y,hy⟩:=zmp rel hx
  have h2:(kvs.map (·.1))[j]? = some k:=by rw [List.getElem?_map,hy];rfl
  rw [hk,List.getElem?_map] at h2
  cases hn:ns[j]? with
  | none=>rw [hn] at h2;cases h2
  | some n =>
   rw [hn] at h2
   cases h2
   obtain ⟨t,rfl⟩:=Value.isInt_shape (k:=n) (v:=v) hkx
   exact ⟨n,t,rfl,rfl⟩
 have hoL:(h'.push (seqObj "list" acc.toList.toArray 0)).get? h'.objs.size=some (seqObj "list" acc.toList.toArray 0):=Heap.get?_push_size _ rfl
 refine wpAny_bind (wpAny_holding (wpAny_call_entry slot_list_sort ⟨_,hoL,rfl⟩ entry_list_sort (list_sort_tree hoL hI (by omega) fun out ns' a1 a2 a3=>⟨_,rfl,?_⟩) (args_list_sort _)))
 obtain ⟨e,he⟩:=sortedHeap_at (out:=out) hoL
 have hpn:=a2.length_eq
 have I1:Inv X pins σ H { s with heap:=h',toks:=tk }:=I.kept (t':=tk) hk'
 refine wpAny_pure ⟨_,rfl,?_⟩
 refine ⟨.ref h'.objs.size,_,I1.laid (t':=tk) (fun b o hb=>?_) (Nat.le_refl _)
  (show zbY X.prog X.w _ _ _ (.lst (ns'.map V.int)) from ⟨by rw [List.length_map];exact Nat.le_of_lt (zao (by omega)),out.toList,e,zeJ a1,by rw [Array.toArray_toList];exact he⟩),rfl,q _ ns' (I1.hok.fresh (Nat.le_refl _)) ⟨a2,a3⟩⟩
 have h1:h'.get? b=some o:=hb
 have hlt:=Heap.lt_size h1
 rw [sortedHeap_old (Nat.ne_of_lt hlt) (by rw [size_push'];exact Nat.lt_succ_of_lt hlt)]
 exact Heap.get?_push_of_some _ h1
end L2
namespace L2
open PySem PySem.Spec PySem.W PyProof.Rows PySem.Calls
section
variable {X:Cx} {pins:List (Addr×Obj)} {σ:St} {H:Hp} {s:Shared} {h':Heap}
theorem Inv.turns {t':Nat} {fp:List Addr} (I:Inv X pins σ H s) (k:∀ b o,b∉fp→s.heap.get? b=some o→h'.get? b=some o) (hf:∀ b∈fp,FpOk X pins H b):Inv X pins σ H { s with heap:=h',toks:=t' }:=by
 have nit:∀ b u,H b=some u→b∉fp:=fun b u e z=>by rw [(hf b z).1] at e;cases e
 refine I.step (g':=s.gens) (d':=s.drawn) (ch:=fp) (fun b hb=>?_) (fun b o _ _ hc e _=>k b o hc e) (fun b o _ _ hc e _=>⟨o.slots,k b o hc e⟩) (fun _ _ _ _ n=>n)
  (fun b o hc e=>⟨o,k b o hc e⟩) (fun _ _ e=>e) (fun _ _ _ e=>e) (fun b ps e=>⟨#[],by rw [e];simp⟩) (fun m hm=>?_) (fun b u e=>?_) I.bare
 ·obtain ⟨_,f1,_,f3,f4,f5⟩:=hf b hb
  exact ⟨f3,f1,f4,f5⟩
 ·obtain ⟨o,es,ep,ho,r⟩:=hm
  exact ⟨o,es,ep,k _ o (fun z=>(hf _ z).2.1 rfl) ho,r⟩
 ·refine (I.hok b u e).stay (fun c v hc q=>k c v ?_ q) (fun _ q=>q) fun _ _ q=>q
  rcases hc with z | z
  ·rw [z];exact nit b u e
  ·exact nit c _ z
end
def Ite (K:PySem.W.Frag) (a:Addr):It :=
 ⟨fun i H=>∃ xs x,SqL K H a xs∧xs[i]? = some x,fun i H x H'=>∃ p y,x=.ref p∧H p=none∧H'=upd H p (.tup [.int i,y])∧∀ xs,SqL K H a xs→xs[i]? = some y,fun i H=>∃ xs,SqL K H a xs∧xs.length≤i⟩
theorem zl0 {P:Program} {w:World} {K:PySem.W.Frag} {elts:List Expr} {x1} {pos:Pos} (a e it:Addr) (hei:e≠it):Turn P w K (.Tuple elts x1 pos) (Ite K a) [e,it] e (fun i h=>(∃ old,IsEnum h e it i old)∧h.IsListIter it a i) where
 mem:=by simp
 obj:=fun i h st b hb=>by
  obtain ⟨⟨old,he⟩,hi⟩:=st
  rcases List.mem_cons.mp hb with rfl | hb
  ·exact ⟨_,he,fun v z=>by
    have z':Data.fields _=Data.cell v:=z
    cases z'⟩
  ·have e:b=it:=by simpa using hb
   subst e
   obtain ⟨o,e,c,d⟩:=hi
   exact ⟨o,e,fun v z=>by rw [d] at z;cases z⟩
 keep:=fun i h h' st k=>⟨⟨st.1.choose,k e (by simp) _ st.1.choose_spec⟩,st.2.at fun o q=>k it (by simp) o q⟩
 item:=by
  intro X hP hw hK hc i pins s σ H E I hf st hg
  subst hP hw hK
  obtain ⟨xs,x,hq,hx⟩:=hg
  obtain ⟨its,rv,p,hz⟩:=I.list hq
  obtain ⟨u,hu,ru⟩:=rv.get hx
  obtain ⟨⟨old,he⟩,hit⟩:=st
  refine wpAny_pyNext_enum_item he hit p.isList (x:=u) (by simpa using hu) hei fun h' ho hit' hT hsz hk=>?_
  refine ⟨_,rfl,?_⟩
  refine wpAny_letOwnedTupleGo_enum ho fun h2 he' hs'=>?_
  have helt:e<s.heap.objs.size:=Heap.lt_size he
  have hilt:it<s.heap.objs.size:=by obtain ⟨_,z,_⟩:=hit;exact Heap.lt_size z
  have k2:∀ b o,b∉[e,it]→s.heap.get? b=some o→h2.get? b=some o:=fun b o hb q=>(hs'.2 b (fun z=>hb (by simp [z]))).trans (hk b o (fun z=>hb (by simp [z])) (fun z=>hb (by simp [z])) q)
  have hpair:h2.get? s.heap.objs.size=some { cls:=.type "tuple",data:=.seq #[.int i s.toks,u] }:=(hs'.2 _ (Nat.ne_of_gt helt)).trans hT
  have I1:Inv X pins σ H { s with heap:=h2,toks:=s.toks+1 }:=I.turns (fp:=[e,it]) k2 hf
  have I2:Inv X pins σ (upd H s.heap.objs.size (.tup [.int i,x])) { s with heap:=h2,toks:=s.toks+1 }:=by
   obtain ⟨g0,g1,_,_,g4,g5⟩:=I.fpOk (Nat.le_refl _) (I.hok.fresh (Nat.le_refl _))
   refine I1.zl1 g0 g1 ?_ g4 g5 (show zbY X.prog X.w _ h2 _ (.tup [.int i,x]) from ⟨by show 2≤sizeLine;decide,[.int i s.toks,u],.cons ⟨_,rfl⟩ (.cons ru .nil),⟨_,hpair,rfl,_,rfl⟩⟩)
   cases hq0:X.s₀.heap.get? s.heap.objs.size with
   | none=>rfl
   | some o=>exact absurd (Nat.lt_of_lt_of_le (Heap.lt_size hq0) I.sz) (Nat.lt_irrefl _)
  refine ⟨.ref s.heap.objs.size,_,I2,rfl,⟨_,x,rfl,I.hok.fresh (Nat.le_refl _),rfl,fun ys hy=>by rw [I.zgj hy hq];exact hx⟩,⟨⟨_,by simpa using he'⟩,hit'.at fun o y=>(hs'.2 it hei.symm).trans y⟩,fun b hb=>?_⟩
  rcases List.mem_cons.mp hb with rfl | hb
  ·rw [zar (Nat.ne_of_lt helt)];exact (hf _ (by simp)).1
  ·have e:b=it:=by simpa using hb
   subst e
   rw [zar (Nat.ne_of_lt hilt)];exact (hf _ (by simp)).1
 done:=by
  intro X hP hw hK hc i pins s σ H E I hf st hg
  subst hP hw hK
  obtain ⟨xs,hq,hx⟩:=hg
  obtain ⟨its,rv,p,hz⟩:=I.list hq
  obtain ⟨⟨old,he⟩,hit⟩:=st
  have hl:=rv.length
  exact wpAny_pyNext_enum_end (I.ok.hd hc) he hit p.isList (by simp;omega) fun h' eb=>⟨rfl,I.turns (fp:=[e,it]) (t':=s.toks) (fun b o hb q=>eb b o (fun z=>hb (by simp [z])) q) hf⟩
 self:=fun _ _ _ _ _ st h=>by
  obtain ⟨⟨old,he⟩,_⟩:=st
  exact wpAny_pyIter_enum he h
end L2
namespace L2
open PySem PySem.Spec PySem.W PyProof.Rows PySem.Calls
theorem boot_enumerate:bootBuiltins "enumerate" = some (.type "enumerate"):=by decide +kernel
theorem boot_reversed:bootBuiltins "reversed" = some (.type "reversed"):=by decide +kernel
section
variable {X:Cx}
def zru (K:PySem.W.Frag) (ta:TA):TI:=fun σ H R=>ta σ H fun vs H1=>∃ a,vs=[.ref a]∧(∃ xs,SqL K H1 a xs)∧R (Ite K a) H1
theorem zlR {elts:List Expr} {x1} {pt:Pos} {a:Expr} {ta:TA} {p pos:Pos} (hg:Gl X "enumerate") (hm:X.mg "enumerate" = none) (ha:PA X [a] ta) (hs:starEach [a] X.env=[(false,eval a X.env)]:=by rfl):PI X (.Tuple elts x1 pt) (.Call (.Name "enumerate" p) [a] [] pos) (zru X.K ta):=by
 intro pins s σ H R I h
 refine Call_ (zfS I hg hm boot_enumerate (PyProof.Rows.callWith_type1 (thn (ha pos pins s σ H _ I h) fun us s1 ⟨vs,H1,I1,r1,q1⟩=>?_) hs rfl))
 obtain ⟨l,rfl,⟨xs,hq⟩,q⟩:=q1
 cases r1 with
 | cons r rr =>
  cases rr
  cases r
  obtain ⟨its,rv,p,hz⟩:=I1.list hq
  refine call_enumerate_list p.isList fun h' he hit hsz hk=>?_
  refine wpAny_pyIter_enum he ?_
  have I2:Inv X pins σ H1 { s1 with heap:=h' }:=I1.kept (t':=s1.toks) hk
  refine ⟨s1.heap.objs.size+1,[s1.heap.objs.size+1,s1.heap.objs.size],_,_,H1,rfl,I2,zl0 l _ _ (Nat.succ_ne_self _),⟨⟨_,he⟩,hit⟩,fun b hb=>?_,q⟩
  rcases List.mem_cons.mp hb with rfl | hb
  ·exact I1.fpOk (Nat.le_succ _) (I1.hok.fresh (Nat.le_succ _))
  ·have e:b=s1.heap.objs.size:=by simpa using hb
   subst e
   exact I1.fpOk (Nat.le_refl _) (I1.hok.fresh (Nat.le_refl _))
end
def Itrc (lo c:Int) (n:Nat):It:=⟨fun i _=>i<n,fun i H x H'=>H'=H∧x=.int (lo+i*c),fun i _=>n≤i⟩
theorem zjx {P:Program} {w:World} {K:PySem.W.Frag} {tg:Expr} (it:Addr) (lo c:Int) (n:Nat):Turn P w K tg (Itrc lo c n) [it] it (fun i h=>IsRangeIter h it (lo+(i:Nat)*c) ((n:Int)-(i:Nat)) c) where
 mem:=by simp
 obj:=fun i h st b hb=>by
  have e:b=it:=by simpa using hb
  subst e
  exact ⟨_,st,fun v z=>by
   have z':Data.fields _=Data.cell v:=z
   cases z'⟩
 keep:=fun i h h' st k=>k it (by simp) _ st
 item:=by
  intro X hP hw hK hc i pins s σ H E I hf st hg
  subst hP hw hK
  obtain ⟨f0,f1,f2,f3,f4,f5⟩:=hf it (by simp)
  have W:=Walks.range (prog:=X.prog) (w:=X.w) (I.ok.hd hc) it lo c n
  refine W.item i s _ _ hg st fun v h' tk hv st' kk=>?_
  obtain ⟨t,rfl⟩:=hv
  have I1:Inv X pins σ H { s with heap:=h',toks:=tk }:=I.turned (fun b o hb e=>kk b o (by simpa using hb) e) f0 f1 f3 f4 f5
  exact ⟨_,rfl,zpD (s:={ s with heap:=h',toks:=tk }) (n:="range_iterator") st' rfl rfl (by decide) ⟨.int (lo+i*c),H,I1,⟨t,rfl⟩,⟨rfl,rfl⟩,st',fun b hb=>(hf b hb).1⟩⟩
 done:=by
  intro X hP hw hK hc i pins s σ H E I hf st hg
  subst hP hw hK
  obtain ⟨f0,f1,f2,f3,f4,f5⟩:=hf it (by simp)
  exact wpAny_pyNext_range_end (I.ok.hd hc) st (by have:n≤i:=hg;omega) fun h' eb=>⟨rfl,I.turned (t':=s.toks) (fun b o hb e=>eb b o hb e) f0 f1 f3 f4 f5⟩
 self:=fun _ _ _ _ _ st h=>wpAny_pyIter_rangeiter st h
section
variable {prog:Program} {w:World} {A:Around} {E:Value→Shared→Prop} {s:Shared}
def zkL (n:Int):Obj:={ cls:=.type "range_iterator",data:=.fields #[rawInt (n-1),rawInt n,rawInt (-1)] }
theorem zry {x:Int} (h1 : -(2^62)≤x) (h2:x≤2^62):Builtin.Range.rangeFitsLong x=true:=by
 unfold Builtin.Range.rangeFitsLong
 simp
 omega
theorem zgA (r:Addr) (a b c:Int) (t u v:Tok) (hc0:¬(!(Builtin.Range.rangeFitsLong a&&Builtin.Range.rangeFitsLong b&&Builtin.Range.rangeFitsLong c&&Builtin.Range.rangeFitsLong (-c)&&Builtin.Range.rangeFitsLong (a-c)&&Builtin.Range.rangeFitsLong (Builtin.Range.rangeSize a b c)))=true) :
  Meets (Builtin.«range.__reversed__» ⟨[.ref r],[]⟩) (fun _ R s=>s.heap.get? r=some { cls:=.type "range",dict:=none,data:=.fields #[.int a t,.int b u,.int c v],slots:=#[] }∧R (.ok (.ret (Value.ref s.heap.objs.size))) { s with heap:=s.heap.push { cls:=Value.type (if (Builtin.Range.rangeFitsLong a&&Builtin.Range.rangeFitsLong b&&Builtin.Range.rangeFitsLong c&&Builtin.Range.rangeFitsLong (-c)&&Builtin.Range.rangeFitsLong (a-c)&&Builtin.Range.rangeFitsLong (Builtin.Range.rangeSize a b c))=true then "range_iterator" else "longrange_iterator"),data:=Data.fields #[rawInt (a+(Builtin.Range.rangeSize a b c-1)*c),rawInt (Builtin.Range.rangeSize a b c),rawInt (-c)] },toks:=s.toks }) :=
 .of_wp fun prog w A R s h=>by obtain ⟨hp,g,d,tk,os⟩:=s;obtain ⟨hl,h⟩:=h;wp_walk;exact ⟨_,rfl,h⟩
theorem zeD {r:Addr} {n:Int} {t u v:Tok} {Q:Value→Shared→Prop} (hr:IsRange s.heap r 0 n 1 t u v) (h0:0≤n) (h1:n<2^62)
  (h:Q (.ref s.heap.objs.size) { s with heap:=s.heap.push (zkL n) }):wpAny (model prog w) A (call (.builtin "range.__reversed__") [.ref r]) Q E s:=by
 have hsz:Builtin.Range.rangeSize 0 n 1=n:=by rw [rangeSize_one];split <;> omega
 have hs:(Builtin.Range.rangeFitsLong 0&&Builtin.Range.rangeFitsLong n&&Builtin.Range.rangeFitsLong 1&&Builtin.Range.rangeFitsLong (-1)&&Builtin.Range.rangeFitsLong (0-1)&&Builtin.Range.rangeFitsLong (Builtin.Range.rangeSize 0 n 1))=true:=by
  rw [hsz,zry (x:=n) (by omega) (by omega)]
  decide
 refine call_meets F.slot_range_reversed ⟨_,hr,rfl⟩ F.entry_range_reversed (F.args_range_reversed_1 _) (zgA r 0 n 1 t u v (by rw [hs];simp)) ⟨hr,?_⟩
 rw [if_pos hs,hsz]
 have e:(0:Int)+(n-1)*1=n-1:=by omega
 rw [e]
 exact h
theorem zgr:isSubtype (.type "range_iterator") (.type "reversed")=pure false:=by rw [isSubtype_type];kernel_rfl
theorem zeA {r:Addr} {n:Int} {t u v:Tok} {Q₁:Value→Shared→Prop} (hr:IsRange s.heap r 0 n 1 t u v) (h0:0≤n) (h1:n<2^62) (h:Q₁ (.ref s.heap.objs.size) { s with heap:=s.heap.push (zkL n) }) :
  codeAny (model prog w) A (.call (.builtin "reversed.__new__") ⟨[.type "reversed",.ref r],[]⟩) (wants Q₁ E) s:=by
 refine codeAny_of_tree ?_
 show wpAny _ A.in1 (do checkBuiltinCall "reversed.__new__" ⟨[.type "reversed",.ref r],[]⟩;again (.builtin "reversed.__new__" ⟨[.type "reversed",.ref r],[]⟩)) _ _ s
 refine wpAny_bind (wpAny_of_eq (F.newCall_reversed_1 _) (wpAny_pure ⟨plainId_quiet F.plain_reversed_new _,codeAny_builtin F.entry_reversed_new ?_⟩))
 rw [Around.under_plainId F.plain_reversed_new _]
 unfold Builtin.«reversed.__new__»
 refine wpAny_bind (wpAny_of_eq (newClass_reversed _) ?_)
 try dsimp only
 refine wpAny_bind (wpAny_of_eq (a:=()) (by first | rfl | kernel_rfl) ?_)
 refine wpAny_bind (wpAny_of_eq (a:=()) (by first | rfl | kernel_rfl) ?_)
 try dsimp only
 refine wpAny_bind (wpAny_specialOf (T:="range") ⟨_,hr,rfl⟩ F.slot_range_reversed.lookup ?_)
 try dsimp only
 refine wpAny_bind (wpAny_of_eq (F.slot_range_reversed.bind _) ?_)
 try dsimp only
 first
 | rw [if_neg (show ¬ ((Value.builtin "range.__reversed__"==Value.none)=true) from Bool.false_ne_true)]
 | (show wpAny _ _ (if (Value.builtin "range.__reversed__"==Value.none)=true then _ else _) _ _ _;rw [if_neg (show ¬ ((Value.builtin "range.__reversed__"==Value.none)=true) from Bool.false_ne_true)])
 refine wpAny_bind (wpAny_rule ?_)
 refine wpAny_bind (m:=runValue (.call (.builtin "range.__reversed__") ⟨[.ref r],[]⟩)) (show wpAny _ _ (call (.builtin "range.__reversed__") [.ref r]) _ _ _ from zeD hr h0 h1 ?_)
 first
 | exact wpAny_pure h
 | exact wpAny_bind (wpAny_pure (wpAny_pure h))
theorem zeC {r:Addr} {n:Int} {t u v:Tok} {Q:Value→Shared→Prop} (hr:IsRange s.heap r 0 n 1 t u v) (h0:0≤n) (h1:n<2^62) (h:Q (.ref s.heap.objs.size) { s with heap:=s.heap.push (zkL n) }) :
  wpAny (model prog w) A (call (.type "reversed") [.ref r]) Q E s:=by
 refine callType_other (U:="range_iterator") (Q₁:=fun obj s₁=>obj=.ref s.heap.objs.size∧s₁={ s with heap:=s.heap.push (zkL n) }) (by decide +kernel) F.create_reversed ⟨_,_,F.mro_reversed⟩ F.made_reversed zgr (F.typeCall_reversed_1 _) (zeA hr h0 h1 ⟨rfl,rfl⟩) ?_
 rintro obj s₁ ⟨rfl,rfl⟩
 exact ⟨⟨_,Heap.get?_push_size _ rfl,rfl⟩,h⟩
end
section
variable {X:Cx}
def iRev (ta:TA):TI:=fun σ H R=>ta σ H fun vs H1=>∃ j:Int,vs=[.int j]∧0≤j∧j<2^62∧R (Itrc (j-1) (-1) j.toNat) H1
theorem zqr {tg:Expr} {a:Expr} {ta:TA} {p pos p' pos':Pos} (hg:Gl X "range") (hm:X.mg "range" = none) (hg':Gl X "reversed") (hm':X.mg "reversed" = none) (ha:PA X [a] ta) (hs:starEach [a] X.env=[(false,eval a X.env)]:=by rfl)
  (hs':starEach [.Call (.Name "range" p) [a] [] pos] X.env=[(false,eval (.Call (.Name "range" p) [a] [] pos) X.env)]:=by rfl):PI X tg (.Call (.Name "reversed" p') [.Call (.Name "range" p) [a] [] pos] [] pos') (iRev ta):=by
 intro pins s σ H R I h
 refine Call_ (zfS I hg' hm' boot_reversed (PyProof.Rows.callWith_type1 ?_ hs' rfl))
 rw [hs']
 show wpAny _ _ (spliced ((false,eval (.Call (.Name "range" p) [a] [] pos) X.env)::backTo pos' [])) _ _ s
 refine Calls.spliced_cons ?_
 refine Call_ (zfS I hg hm boot_range (PyProof.Rows.callWith_type1 (thn (ha pos pins s σ H _ I h) fun us s1 ⟨vs,H1,I1,r1,q1⟩=>?_) hs rfl))
 obtain ⟨j,e,q1,q2,q⟩:=q1
 subst e
 cases r1 with
 | cons r rr =>
  cases rr
  obtain ⟨t,rfl⟩:=r
  refine call_range_1 ?_
  refine Calls.spliced_nil ?_
  refine zeC (IsRange.new ..) q1 q2 ?_
  have I2:=I1.kept (t':=s1.toks+1+1) (h':=s1.heap.push { cls:=.type "range",data:=.fields #[.int 0 s1.toks,.int j t,.int 1 (s1.toks+1)] }) fun b o e=>Heap.get?_push_of_some _ e
  have hit:IsRangeIter ((s1.heap.push { cls:=.type "range",data:=.fields #[.int 0 s1.toks,.int j t,.int 1 (s1.toks+1)] }).push (zkL j)) _ (j-1) j (-1):=Heap.get?_push_size _ rfl
  refine wpAny_pyIter_rangeiter hit ?_
  have I3:=I2.kept (t':=s1.toks+1+1) (h':=(s1.heap.push { cls:=.type "range",data:=.fields #[.int 0 s1.toks,.int j t,.int 1 (s1.toks+1)] }).push (zkL j)) fun b o e=>Heap.get?_push_of_some _ e
  refine ⟨_,[_],_,_,H1,rfl,I3,zjx _ (j-1) (-1) j.toNat,?_,fun b hb=>?_,q⟩
  ·have e1:(j-1)+((0:Nat):Int)*(-1)=j-1:=by simp
   have e2:((j.toNat:Nat):Int)-((0:Nat):Int)=j:=by omega
   show IsRangeIter _ _ ((j-1)+((0:Nat):Int)*(-1)) (((j.toNat:Nat):Int)-((0:Nat):Int)) (-1)
   rw [e1,e2]
   exact hit
  ·rw [List.mem_singleton.mp hb]
   exact I2.fpOk (Nat.le_refl _) (I2.hok.fresh (Nat.le_refl _))
end
end L2
namespace L2
open PySem PySem.Spec PySem.W PyProof.Rows PySem.Calls
section
variable {X:Cx}
def two (a b:Int):Nat→Int:=fun i=>if i=0 then a else b
theorem zoy {a b:Int} {t u:Tok} (i:Nat) (v:Value) (h:(#[Value.int a t,Value.int b u]:Array Value)[i]? = some v):∃ t,v=.int (two a b i) t:=by
 match i,h with
 | 0,h=>cases h;exact ⟨t,rfl⟩
 | 1,h=>cases h;exact ⟨u,rfl⟩
 | i+2,h=>simp at h
def zrl (K:PySem.W.Frag):List V→Hp→VK→Prop:=fun xs H Q=>∃ p a b,xs=[.ref p]∧SqT K H p [.int a,.int b]∧Q (.int (if b<a then b else a)) H
def zrm (K:PySem.W.Frag):List V→Hp→VK→Prop:=fun xs H Q=>∃ p a b,xs=[.ref p]∧SqT K H p [.int a,.int b]∧Q (.int (if b>a then b else a)) H
theorem ziM {p:Addr} {a b:Int} {t u:Tok} {pins:List (Addr×Obj)} {σ:St} {H:Hp} {s:Shared} {Q:Value→Shared→Prop} {E:Value→Shared→Prop} (op:CmpOp) (f:Int→Int→Bool) (I:Inv X pins σ H s) (hc:X.calm=true) (ht:IsTup s.heap p #[.int a t,.int b u])
  (cm:∀ P:Nat→Value→Prop,(∀ i v,P i v→∃ t,v=.int (two a b i) t)→CmpOf X.prog X.w X.A.in1 op P (fun i j=>f (two a b i) (two a b j)))
  (q:∀ t s',Inv X pins σ H s'→Q (.int (if f b a then b else a) t) s') :
  wpAny (model X.prog X.w) X.A.in1 (pyIter (.ref p)) (fun it s₂=>∃ I fp wr n P St bt,it=.ref I∧Walks X.prog X.w X.A.in1 I fp wr n P St∧St 0 s₂.heap∧(∀ b∈fp,b<s₂.heap.objs.size)∧0<n∧CmpOf X.prog X.w X.A.in1 op P bt ∧
   ∀ v h' tk,P (argBest bt (n-1)) v→(∀ b o,b∉wr→s₂.heap.get? b=some o→h'.get? b=some o)→Q v { s₂ with heap:=h',toks:=tk }) E s:=by
 have hlt:p<s.heap.objs.size:=by obtain ⟨_,e,_⟩:=ht;exact Heap.lt_size e
 refine wpAny_pyIter_tuple (show s.heap.IsTuple p _ from ht) ?_
 refine ⟨_,_,_,_,_,_,_,rfl,Walks.tuple (A:=X.A.in1) (I.ok.hd hc) _ p (Nat.ne_of_lt hlt) #[.int a t,.int b u],⟨⟨_,Heap.get?_push_size _ rfl,rfl,rfl⟩,?_⟩,fun c hc=>?_,by show 0<2;decide,cm _ zoy,fun v h' tk hP hk=>?_⟩
 ·obtain ⟨o,e,r⟩:=ht
  exact ⟨o,Heap.get?_push_of_some _ e,r⟩
 ·show c<(s.heap.push _).objs.size
  rw [Heap.size_push]
  rcases List.mem_cons.mp hc with rfl | hc
  ·exact Nat.lt_succ_self _
  ·rw [List.mem_singleton.mp hc];exact Nat.lt_succ_of_lt hlt
 ·obtain ⟨t',rfl⟩:=zoy _ _ hP
  have e:two a b (argBest (fun i j=>f (two a b i) (two a b j)) 1)=if f b a then b else a:=by
   show two a b (if f (two a b 1) (two a b 0) then 1 else 0)=_
   show two a b (if f b a then 1 else 0)=_
   cases f b a <;> rfl
  show Q (Value.int (two a b (argBest (fun i j=>f (two a b i) (two a b j)) 1)) t') _
  rw [e]
  exact q _ _ (I.kept fun c o hc=>hk c o (fun z=>absurd (Heap.lt_size hc) (by rw [List.mem_singleton.mp z];exact Nat.lt_irrefl _)) (Heap.get?_push_of_some _ hc))
theorem zmI (hc:X.calm=true):zf0 X (.builtin "min") (zrl X.K):=by
 intro pins s σ H xs us Q I r h
 obtain ⟨p,a,b,rfl,hs,q⟩:=h
 obtain ⟨u,rfl,rx⟩:=vals1 r
 cases rx
 obtain ⟨its,rv,ht,_⟩:=I.tuple hs
 cases rv with
 | cons r0 rr =>
  cases rr with
  | cons r1 rr =>
   cases rr
   obtain ⟨t0,rfl⟩:=r0
   obtain ⟨t1,rfl⟩:=r1
   refine call_min_walk (ziM .Lt (fun x y=>decide (x<y)) I hc ht (fun P h=>CmpOf.ints_lt (two a b) h) fun t s' I'=>⟨.int _,H,I',⟨t,rfl⟩,?_⟩)
   simpa using q
theorem zmJ (hc:X.calm=true):zf0 X (.builtin "max") (zrm X.K):=by
 intro pins s σ H xs us Q I r h
 obtain ⟨p,a,b,rfl,hs,q⟩:=h
 obtain ⟨u,rfl,rx⟩:=vals1 r
 cases rx
 obtain ⟨its,rv,ht,_⟩:=I.tuple hs
 cases rv with
 | cons r0 rr =>
  cases rr with
  | cons r1 rr =>
   cases rr
   obtain ⟨t0,rfl⟩:=r0
   obtain ⟨t1,rfl⟩:=r1
   refine call_max_walk (ziM .Gt (fun x y=>decide (x>y)) I hc ht (fun P h=>CmpOf.ints_gt (two a b) h) fun t s' I'=>⟨.int _,H,I',⟨t,rfl⟩,?_⟩)
   simpa using q
end
end L2
namespace L2
open PySem PySem.Spec PySem.W PyProof.Rows
theorem Same.tup {K:PySem.W.Frag} {H H':Hp} {a:Addr} {xs:List V} (e:Same H H') (h:SqT K H a xs):SqT K H' a xs:=by
 rcases h with (z | ⟨o,z⟩) | z
 ·exact .inl (.inl (e _ _ z))
 ·exact .inl (.inr ⟨o,e _ _ z⟩)
 ·exact .inr z
theorem zad {H:Hp} {p:Addr} {o:HO} (hp:H p=none):Same H (upd H p o):=fun b u e=>by rw [zar (zal e hp)];exact e
theorem zgk {own:List Str} {cap:List Nat} {g:Blk TG} {tf:Blk TT} {te:Blk TE} {σ:St} {Q:VK} {J:It} {H1:Hp} (n:Nat) (Pv:Nat→List V→Hp→Prop) (h0:Pv 0 [] H1) (hn:n<sizeLine)
  (hl:∀ i ys H,i≤n→Pv i ys H→ys.length≤i∧(i<n→J.go i H)∧(i=n→J.stop i H))
  (turn:∀ i ys H (N:List V→Hp→Prop),i<n→Pv i ys H→(∀ ys H,Pv (i+1) ys H→N ys H)→∀ x H',J.yld i H x H'→∀ C s₀ H₀ ex,g C s₀ H₀ ex x (capσ own cap σ) H' fun σ2 H2=>tf C s₀ H₀ ex σ2 H2 fun b H3 =>
   if b=true then te C s₀ H₀ ex σ2 H3 fun v H4=>N (ys++[v]) H4 else N ys H3)
  (fin:∀ ys H,Pv n ys H→∀ p,H p=none→Q (.ref p) (upd H p (.lst ys))):zlt own cap g tf te σ Q J H1:=by
 refine ⟨fun i m ys H=>m=n-i∧i≤n∧Pv i ys H,⟨n,rfl,Nat.zero_le _,h0⟩,?_⟩
 rintro i m ys H ⟨rfl,hi,hp⟩
 obtain ⟨h1,h2,h3⟩:=hl i ys H hi hp
 by_cases e:i=n
 ·subst e
  exact .inl ⟨h3 rfl,by omega,fin ys H hp⟩
 ·have hi':i<n:=by omega
  refine .inr ⟨h2 hi',by omega,fun x H' y C s₀ H₀ ex=>?_⟩
  exact turn i ys H (fun ys H=>∃ m',m' < n-i∧(m'=n-(i+1)∧i+1≤n∧Pv (i+1) ys H)) hi' hp (fun ys' H'' q=>⟨n-(i+1),by omega,rfl,by omega,q⟩) x H' y C s₀ H₀ ex
theorem zaN {K:PySem.W.Frag} {a:Addr} {xs:List V} {own:List Str} {cap:List Nat} {g:Blk TG} {tf:Blk TT} {te:Blk TE} {σ:St} {Q:VK} {H1:Hp} (Pv:Nat→List V→Hp→Prop) (h0:Pv 0 [] H1) (hn:xs.length<sizeLine)
  (hl:∀ i ys H,i≤xs.length→Pv i ys H→ys.length≤i∧SqL K H a xs)
  (turn:∀ i x ys H (N:List V→Hp→Prop),xs[i]? = some x→Pv i ys H→(∀ ys H,Pv (i+1) ys H→N ys H)→∀ C s₀ H₀ ex,g C s₀ H₀ ex x (capσ own cap σ) H fun σ2 H2=>tf C s₀ H₀ ex σ2 H2 fun b H3 =>
   if b=true then te C s₀ H₀ ex σ2 H3 fun v H4=>N (ys++[v]) H4 else N ys H3)
  (fin:∀ ys H,Pv xs.length ys H→∀ p,H p=none→Q (.ref p) (upd H p (.lst ys))):zlt own cap g tf te σ Q (Itl K a) H1 :=
 zgk xs.length Pv h0 hn (fun i ys H hi hp=>⟨(hl i ys H hi hp).1,fun h=>⟨xs,_,(hl i ys H hi hp).2,List.getElem?_eq_getElem h⟩,fun e=>⟨xs,(hl i ys H hi hp).2,by omega⟩⟩)
  (fun i ys H N hi hp hN x H' y C s₀ H₀ ex=>by
   obtain ⟨rfl,y⟩:=y
   exact turn i x ys _ N (y _ (hl i ys _ (by omega) hp).2) hp hN C s₀ H₀ ex) fin
end L2
namespace L2
open PySem PySem.Spec PySem.W PyProof.Rows
theorem zcD {own:List Str} {cap:List Nat} {g:Blk TG} {tf:Blk TT} {te:Blk TE} {σ:St} {Q:VK} {H1:Hp} {lo:Int} {n:Nat} (Pv:Nat→List V→Hp→Prop) (h0:Pv 0 [] H1) (hn:n<sizeLine)
  (hl:∀ i ys H,i≤n→Pv i ys H→ys.length≤i)
  (turn:∀ i ys H (N:List V→Hp→Prop),i<n→Pv i ys H→(∀ ys H,Pv (i+1) ys H→N ys H)→∀ C s₀ H₀ ex,g C s₀ H₀ ex (.int (lo+i)) (capσ own cap σ) H fun σ2 H2=>tf C s₀ H₀ ex σ2 H2 fun b H3 =>
   if b=true then te C s₀ H₀ ex σ2 H3 fun v H4=>N (ys++[v]) H4 else N ys H3)
  (fin:∀ ys H,Pv n ys H→∀ p,H p=none→Q (.ref p) (upd H p (.lst ys))):zlt own cap g tf te σ Q (Itr lo n) H1 :=
 zgk n Pv h0 hn (fun i ys H hi hp=>⟨hl i ys H hi hp,fun h=>h,fun e=>Nat.le_of_eq e.symm⟩)
  (fun i ys H N hi hp hN x H' y C s₀ H₀ ex=>by
   obtain ⟨rfl,rfl⟩:=y
   exact turn i ys _ N hi hp hN C s₀ H₀ ex) fin
theorem zje {K:PySem.W.Frag} {a:Addr} {xs:List V} {own:List Str} {cap:List Nat} {g:Blk TG} {tf:Blk TT} {te:Blk TE} {σ:St} {Q:VK} {H1:Hp} (Pv:Nat→List V→Hp→Prop) (h0:Pv 0 [] H1) (hn:xs.length<sizeLine)
  (hl:∀ i ys H,i≤xs.length→Pv i ys H→ys.length≤i∧SqL K H a xs)
  (turn:∀ i x ys H (N:List V→Hp→Prop) p,xs[i]? = some x→Pv i ys H→H p=none→(∀ ys H,Pv (i+1) ys H→N ys H)→∀ C s₀ H₀ ex,g C s₀ H₀ ex (.ref p) (capσ own cap σ) (upd H p (.tup [.int i,x])) fun σ2 H2=>tf C s₀ H₀ ex σ2 H2 fun b H3 =>
   if b=true then te C s₀ H₀ ex σ2 H3 fun v H4=>N (ys++[v]) H4 else N ys H3)
  (fin:∀ ys H,Pv xs.length ys H→∀ p,H p=none→Q (.ref p) (upd H p (.lst ys))):zlt own cap g tf te σ Q (Ite K a) H1 :=
 zgk xs.length Pv h0 hn (fun i ys H hi hp=>⟨(hl i ys H hi hp).1,fun h=>⟨xs,_,(hl i ys H hi hp).2,List.getElem?_eq_getElem h⟩,fun e=>⟨xs,(hl i ys H hi hp).2,by omega⟩⟩)
  (fun i ys H N hi hp hN x H' y C s₀ H₀ ex=>by
   obtain ⟨p,z,rfl,hp0,rfl,y⟩:=y
   exact turn i z ys _ N p (y _ (hl i ys _ (by omega) hp).2) hp hp0 hN C s₀ H₀ ex) fin
end L2
namespace L2
open PySem PySem.Spec PySem.W PyProof.Rows PySem.Calls
theorem boot_zip:bootBuiltins "zip" = some (.type "zip"):=by decide +kernel
def Itz (K:PySem.W.Frag) (a b:Addr):It :=
 ⟨fun i H=>∃ xs ys x y,SqL K H a xs∧SqL K H b ys∧xs[i]? = some x∧ys[i]? = some y,fun i H x H'=>∃ p y z,x=.ref p∧H p=none∧H'=upd H p (.tup [y,z])∧(∀ xs,SqL K H a xs→xs[i]? = some y)∧∀ ys,SqL K H b ys→ys[i]? = some z,
  fun i H=>∃ xs ys,SqL K H a xs∧SqL K H b ys∧(xs.length≤i∨ys.length≤i)⟩
theorem znc {P:Program} {w:World} {K:PySem.W.Frag} {elts:List Expr} {x1} {pos:Pos} {a b z TI TO i1 i2:Addr} (D:ZipApart z TI TO i1 i2 a b):Turn P w K (.Tuple elts x1 pos) (Itz K a b) [z,TI,TO,i1,i2] z
  (fun i h=>IsZip h z TI TO .none∧IsPair h TI (.ref i1) (.ref i2)∧(∃ u v,IsPair h TO u v)∧h.IsListIter i1 a i∧h.IsListIter i2 b i) where
 mem:=by simp
 obj:=fun i h st c hc=>by
  obtain ⟨hz,hTI,⟨u,v,hTO⟩,h1,h2⟩:=st
  simp only [List.mem_cons,List.not_mem_nil,or_false] at hc
  rcases hc with rfl | rfl | rfl | rfl | rfl
  ·exact ⟨_,hz,fun v z=>by
    have z':Data.fields _=Data.cell v:=z
    cases z'⟩
  ·exact ⟨_,hTI,fun v z=>by
    have z':Data.seq _=Data.cell v:=z
    cases z'⟩
  ·exact ⟨_,hTO,fun v z=>by
    have z':Data.seq _=Data.cell v:=z
    cases z'⟩
  ·obtain ⟨o,e,c,d⟩:=h1
   exact ⟨o,e,fun v z=>by rw [d] at z;cases z⟩
  ·obtain ⟨o,e,c,d⟩:=h2
   exact ⟨o,e,fun v z=>by rw [d] at z;cases z⟩
 keep:=fun i h h' st k=>by
  obtain ⟨hz,hTI,⟨u,v,hTO⟩,h1,h2⟩:=st
  exact ⟨k z (by simp) _ hz,k TI (by simp) _ hTI,⟨u,v,k TO (by simp) _ hTO⟩,h1.at fun o q=>k i1 (by simp) o q,h2.at fun o q=>k i2 (by simp) o q⟩
 item:=by
  intro X hP hw hK hc i pins s σ H E I hf st hg
  subst hP hw hK
  obtain ⟨xs,ys,x,y,hqa,hqb,hx,hy⟩:=hg
  obtain ⟨its,rv,p,hz1⟩:=I.list hqa
  obtain ⟨jts,rw',p',hz2⟩:=I.list hqb
  obtain ⟨u,hu,ru⟩:=rv.get hx
  obtain ⟨u',hu',ru'⟩:=rw'.get hy
  obtain ⟨hz,hTI,⟨uo,vo,hTO⟩,h1,h2⟩:=st
  refine wpAny_pyNext_zip_item D hz hTI hTO h1 h2 p.isList p'.isList (x:=u) (y:=u') (by simpa using hu) (by simpa using hu') fun h' hz' hTO' h1' h2' hT hsz hk=>?_
  refine ⟨_,rfl,?_⟩
  refine wpAny_letOwnedTupleGo_zip hz' fun h3 hz3 hs'=>?_
  have lt:∀ {c o},s.heap.get? c=some o→c<s.heap.objs.size:=fun e=>Heap.lt_size e
  have zl:=lt hz
  have l2:=lt hTI
  have l3:=lt hTO
  have l4:i1<s.heap.objs.size:=by obtain ⟨_,e,_⟩:=h1;exact lt e
  have l5:i2<s.heap.objs.size:=by obtain ⟨_,e,_⟩:=h2;exact lt e
  have k2:∀ c o,c∉[z,TI,TO,i1,i2]→s.heap.get? c=some o→h3.get? c=some o:=fun c o hc q=>(hs'.2 c (fun z=>hc (by simp [z]))).trans (hk c o (fun z=>hc (by simp [z])) (fun z=>hc (by simp [z])) (fun z=>hc (by simp [z])) (fun z=>hc (by simp [z])) q)
  have hpair:h3.get? s.heap.objs.size=some { cls:=.type "tuple",data:=.seq #[u,u'] }:=(hs'.2 _ (Nat.ne_of_gt zl)).trans hT
  have hTI3:IsPair h3 TI (.ref i1) (.ref i2):=(hs'.2 _ D.TIz).trans (hk _ _ D.TIz D.TITO D.TIi1 D.TIi2 hTI)
  have I1:Inv X pins σ H { s with heap:=h3,toks:=s.toks }:=I.turns (fp:=[z,TI,TO,i1,i2]) k2 hf
  have I2:Inv X pins σ (upd H s.heap.objs.size (.tup [x,y])) { s with heap:=h3,toks:=s.toks }:=by
   obtain ⟨g0,g1,_,_,g4,g5⟩:=I.fpOk (Nat.le_refl _) (I.hok.fresh (Nat.le_refl _))
   refine I1.zl1 g0 g1 ?_ g4 g5 (show zbY X.prog X.w _ h3 _ (.tup [x,y]) from ⟨by show 2≤sizeLine;decide,[u,u'],.cons ru (.cons ru' .nil),⟨_,hpair,rfl,_,rfl⟩⟩)
   cases hq0:X.s₀.heap.get? s.heap.objs.size with
   | none=>rfl
   | some o=>exact absurd (Nat.lt_of_lt_of_le (Heap.lt_size hq0) I.sz) (Nat.lt_irrefl _)
  refine ⟨.ref s.heap.objs.size,_,I2,rfl,⟨_,x,y,rfl,I.hok.fresh (Nat.le_refl _),rfl,fun ys hy=>by rw [I.zgj hy hqa];exact hx,fun ys' hy'=>by rw [I.zgj hy' hqb];exact hy⟩,
   ⟨hz3,hTI3,⟨_,_,(hs'.2 _ D.TOz).trans hTO'⟩,h1'.at fun o q=>(hs'.2 _ D.i1z).trans q,h2'.at fun o q=>(hs'.2 _ D.i2z).trans q⟩,fun c hc=>?_⟩
  have hn:=(hf c hc).1
  simp only [List.mem_cons,List.not_mem_nil,or_false] at hc
  rcases hc with rfl | rfl | rfl | rfl | rfl
  ·rw [zar (Nat.ne_of_lt zl)];exact hn
  ·rw [zar (Nat.ne_of_lt l2)];exact hn
  ·rw [zar (Nat.ne_of_lt l3)];exact hn
  ·rw [zar (Nat.ne_of_lt l4)];exact hn
  ·rw [zar (Nat.ne_of_lt l5)];exact hn
 done:=by
  intro X hP hw hK hc i pins s σ H E I hf st hg
  subst hP hw hK
  obtain ⟨xs,ys,hqa,hqb,hx⟩:=hg
  obtain ⟨its,rv,p,hz1⟩:=I.list hqa
  obtain ⟨jts,rw',p',hz2⟩:=I.list hqb
  obtain ⟨hz,hTI,⟨uo,vo,hTO⟩,h1,h2⟩:=st
  have hl:=rv.length
  have hl':=rw'.length
  exact wpAny_pyNext_zip_end (I.ok.hd hc) D hz hTI hTO h1 h2 p.isList p'.isList (by
   rcases hx with h | h
   ·exact .inl (by simp;omega)
   ·exact .inr (by simp;omega)) fun h' eb=>⟨rfl,I.turns (fp:=[z,TI,TO,i1,i2]) (t':=s.toks) (fun c o hb q=>eb c o (fun z=>hb (by simp [z])) (fun z=>hb (by simp [z])) (fun z=>hb (by simp [z])) (fun z=>hb (by simp [z])) q) hf⟩
 self:=fun _ _ _ _ _ st h=>wpAny_pyIter_zip st.1 h
section
variable {X:Cx}
def iZip (K:PySem.W.Frag) (ta:TA):TI:=fun σ H R=>ta σ H fun vs H1=>∃ a b,vs=[.ref a,.ref b]∧(∃ xs,SqL K H1 a xs)∧(∃ ys,SqL K H1 b ys)∧R (Itz K a b) H1
theorem zg8 {elts:List Expr} {x1} {pt:Pos} {a b:Expr} {ta:TA} {p pos:Pos} (hg:Gl X "zip") (hm:X.mg "zip" = none) (ha:PA X [a,b] ta) (hs:starEach [a,b] X.env=[(false,eval a X.env),(false,eval b X.env)]:=by rfl) (hs2:starEach [b] X.env=[(false,eval b X.env)]:=by rfl):PI X (.Tuple elts x1 pt) (.Call (.Name "zip" p) [a,b] [] pos) (iZip X.K ta):=by
 intro pins s σ H R I h
 refine Call_ (zfS I hg hm boot_zip (PyProof.Rows.callWith_type1 (thn (ha pos pins s σ H _ I h) fun us s1 ⟨vs,H1,I1,r1,q1⟩=>?_) (by rw [hs,hs2]) (by rw [hs2];rfl)))
 obtain ⟨l,m,rfl,⟨xs,hq⟩,⟨ys,hq'⟩,q⟩:=q1
 cases r1 with
 | cons r rr =>
  cases rr with
  | cons r2 rr =>
   cases rr
   cases r
   cases r2
   obtain ⟨its,rv,p,hz⟩:=I1.list hq
   obtain ⟨jts,rw',p',hz'⟩:=I1.list hq'
   have a1:l<s1.heap.objs.size:=by obtain ⟨_,e,_⟩:=p.isList;exact Heap.lt_size e
   have a2:m<s1.heap.objs.size:=by obtain ⟨_,e,_⟩:=p'.isList;exact Heap.lt_size e
   refine call_zip_2 p.isList p'.isList fun h' hz hTI hTO h1 h2 hsz hk=>?_
   refine wpAny_pyIter_zip hz ?_
   have I2:Inv X pins σ H1 { s1 with heap:=h' }:=I1.kept (t':=s1.toks) hk
   refine ⟨s1.heap.objs.size+4,[s1.heap.objs.size+4,s1.heap.objs.size+2,s1.heap.objs.size+3,s1.heap.objs.size,s1.heap.objs.size+1],_,_,H1,rfl,I2,znc (zipApart_new a1 a2),⟨hz,hTI,⟨_,_,hTO⟩,h1,h2⟩,fun c hc=>?_,q⟩
   have:s1.heap.objs.size≤c:=by
    simp only [List.mem_cons,List.not_mem_nil,or_false] at hc
    rcases hc with rfl | rfl | rfl | rfl | rfl <;> first | exact Nat.le_refl _ | exact Nat.le_add_right _ _
   exact I1.fpOk this (I1.hok.fresh this)
end
theorem zex {K:PySem.W.Frag} {a b:Addr} {xs zs:List V} {own:List Str} {cap:List Nat} {g:Blk TG} {tf:Blk TT} {te:Blk TE} {σ:St} {Q:VK} {H1:Hp} (Pv:Nat→List V→Hp→Prop) (h0:Pv 0 [] H1) (hn:xs.length<sizeLine) (he:zs.length=xs.length)
  (hl:∀ i ys H,i≤xs.length→Pv i ys H→ys.length≤i∧SqL K H a xs∧SqL K H b zs)
  (turn:∀ i x z ys H (N:List V→Hp→Prop) p,xs[i]? = some x→zs[i]? = some z→Pv i ys H→H p=none→(∀ ys H,Pv (i+1) ys H→N ys H)→∀ C s₀ H₀ ex,g C s₀ H₀ ex (.ref p) (capσ own cap σ) (upd H p (.tup [x,z])) fun σ2 H2=>tf C s₀ H₀ ex σ2 H2 fun b H3 =>
   if b=true then te C s₀ H₀ ex σ2 H3 fun v H4=>N (ys++[v]) H4 else N ys H3)
  (fin:∀ ys H,Pv xs.length ys H→∀ p,H p=none→Q (.ref p) (upd H p (.lst ys))):zlt own cap g tf te σ Q (Itz K a b) H1 :=
 zgk xs.length Pv h0 hn (fun i ys H hi hp=>⟨(hl i ys H hi hp).1,fun h=>⟨xs,zs,_,_,(hl i ys H hi hp).2.1,(hl i ys H hi hp).2.2,List.getElem?_eq_getElem h,List.getElem?_eq_getElem (by omega)⟩,fun e=>⟨xs,zs,(hl i ys H hi hp).2.1,(hl i ys H hi hp).2.2,.inl (by omega)⟩⟩)
  (fun i ys H N hi hp hN x H' y C s₀ H₀ ex=>by
   obtain ⟨p,u,v,rfl,hp0,rfl,y,y'⟩:=y
   exact turn i u v ys _ N p (y _ (hl i ys _ (by omega) hp).2.1) (y' _ (hl i ys _ (by omega) hp).2.2) hp hp0 hN C s₀ H₀ ex) fin
theorem zpF {K:PySem.W.Frag} {a b:Addr} {xs zs:List V} {g:TG} {tb:TS} {D:Ends} {σ:St} {H:Hp} (Pv:Nat→St→Hp→Prop) (h0:Pv 0 σ H) (he:zs.length=xs.length) (hl:∀ i σ H,i≤xs.length→Pv i σ H→SqL K H a xs∧SqL K H b zs)
  (hs:∀ i x z σ H p,xs[i]? = some x→zs[i]? = some z→Pv i σ H→H p=none→g (.ref p) σ (upd H p (.tup [x,z])) fun σ2 H2=>tb { D with nx:=Pv (i+1),ct:=Pv (i+1),bk:=D.nx } σ2 H2) (hd:∀ σ H,Pv xs.length σ H→D.nx σ H) :
  ∃ W:Nat→Nat→St→Hp→Prop,(∃ m,W 0 m σ H)∧∀ i m σ H,W i m σ H →
   ((Itz K a b).stop i H∧D.nx σ H)∨((Itz K a b).go i H∧∃ N:St→Hp→Prop,(∀ σ' H',N σ' H'→∃ m',m' < m∧W (i+1) m' σ' H')∧∀ x H',(Itz K a b).yld i H x H'→g x σ H' fun σ2 H2=>tb { D with nx:=N,ct:=N,bk:=D.nx } σ2 H2):=by
 refine ⟨fun i m σ H=>m=xs.length-i∧i≤xs.length∧Pv i σ H,⟨xs.length,by simp,Nat.zero_le _,h0⟩,?_⟩
 rintro i m σ H ⟨rfl,hi,p⟩
 obtain ⟨q,q'⟩:=hl i σ H hi p
 by_cases hlt:i<xs.length
 ·refine .inr ⟨⟨xs,zs,xs[i],zs[i],q,q',by simp [hlt],by simp [he,hlt]⟩,Pv (i+1),fun σ' H' p'=>⟨xs.length-(i+1),by omega,rfl,hlt,p'⟩,fun x H' y=>?_⟩
  obtain ⟨r,u,v,rfl,hr,rfl,y1,y2⟩:=y
  exact hs i u v σ _ r (y1 xs q) (y2 zs q') p hr
 ·have e:i=xs.length:=by omega
  subst e
  exact .inl ⟨⟨xs,zs,q,q',.inl (Nat.le_refl _)⟩,hd σ H p⟩
section
variable {X:Cx}
theorem zkm:∀ {zs:List Int} {us:List Value},Vals (zs.map V.int) us→∀ (i:Nat) (v:Value),us[i]? = some v→∃ z t,zs[i]? = some z∧v=.int z t
 | [],_,.nil,i,v,e=>by simp at e
 | b::bs,_,.cons r t,i,v,e=>by
  cases i with
  | zero =>
   simp at e
   subst e
   obtain ⟨t,rfl⟩:=r
   exact ⟨b,t,rfl,rfl⟩
  | succ i=>simpa using zkm t i v (by simpa using e)
end
end L2
namespace L2
open PySem PySem.Spec PySem.W PyProof.Rows PySem.Calls
section
variable {X:Cx}
theorem zjg (hc:X.calm=true):zf0 X (.builtin "sum") (fun xs H Q=>∃ (p:Addr) (zs:List Int),xs=[.ref p]∧SqL X.K H p (zs.map V.int)∧Q (.int zs.sum) H):=by
 intro pins s σ H vs us Q I r h
 obtain ⟨p,zs,rfl,sq,q⟩:=h
 cases r with
 | cons r0 rr =>
  cases rr
  cases (show _=Value.ref p from r0)
  obtain ⟨its,rv,pl,_⟩:=I.list sq
  have hl:=pl.isList
  obtain ⟨ol,hol,_⟩:=id hl
  have hlt:p<s.heap.objs.size:=Heap.lt_size hol
  have len:its.length=zs.length:=by have:=rv.length;simpa using this.symm
  have W:=(Walks.list (prog:=X.prog) (w:=X.w) (A:=X.A.in1) (I.ok.hd hc) s.heap.objs.size p (Nat.ne_of_lt hlt) its.toArray).toS
  refine call_sum_walkAnyS (wpAny_pyIter_list hl ⟨s.heap.objs.size,_,_,_,_,_,_,fun i=>zs.getD i 0,rfl,W,⟨⟨_,Heap.get?_push_size _ rfl,rfl,rfl⟩,hl.push _⟩,fun b hb=>?_,fun i v hP=>?_,fun s' t' hm=>?_⟩)
  ·rcases List.mem_cons.mp hb with rfl | hb
   ·exact Heap.lt_size (Heap.get?_push_size _ rfl)
   ·obtain rfl:=List.mem_singleton.mp hb
    exact Heap.lt_size (Heap.get?_push_of_some _ hol)
  ·obtain ⟨z,t,e,rfl⟩:=zkm rv i v (by simpa using hP)
   exact ⟨t,by show Value.int z t=Value.int (zs.getD i 0) t;rw [List.getD_eq_getElem?_getD,e];rfl⟩
  ·obtain ⟨h',g',d',tk',os'⟩:=s'
   have e1:g'=s.gens:=hm.gens
   have e2:d'=s.drawn:=hm.drawn
   have e3:os'=s.os:=hm.os
   subst e1 e2 e3
   refine ⟨.int zs.sum,H,I.kept (t':=tk') (h':=h') fun b o e=>hm.heap b o (fun hb=>absurd (Heap.lt_size e) ((List.mem_singleton.mp hb)▸Nat.lt_irrefl _)) (Heap.get?_push_of_some _ e),⟨t',?_⟩,q⟩
   rw [List.size_toArray,len,PyProof.Rows.preSum_getD,List.take_length]
theorem zpm (hu:X.A.units+64<cLine):OpR X (compareOp .In) (fun x y H Q=>∃ (r p r1 r2:Addr) (a b c1 d1 c2 d2:Int),x=.ref r∧y=.ref p∧SqT X.K H r [.int a,.int b]∧SqT X.K H p [.ref r1,.ref r2]∧r1≠r2∧SqT X.K H r1 [.int c1,.int d1]∧SqT X.K H r2 [.int c2,.int d2] ∧
  Q (.bl ((decide (a=c1)&&decide (b=d1))||(decide (a=c2)&&decide (b=d2)))) H):=by
 intro pins s σ H x y v u Q I rx ry h
 obtain ⟨r,p,r1,r2,a,b,c1,d1,c2,d2,rfl,rfl,h0,hp,hne,h1,h2,q⟩:=h
 cases rx
 cases ry
 have rd:∀ {r:Addr} {a b:Int},SqT X.K H r [.int a,.int b]→∃ as,Reads s.heap (.ref r) (.tuple [.int a,.int b]) as:=fun h=>Rep.reads I (Rep.tup h (.cons (.int _) (.cons (.int _) .nil))) _ rfl
 have hin:∀ k,k≤63→X.A.in1.units+k<cLine:=fun k hk=>by
  have:X.A.in1.units=X.A.units+1:=rfl
  omega
 obtain ⟨as0,z0⟩:=rd h0
 obtain ⟨as1,z1⟩:=rd h1
 obtain ⟨as2,z2⟩:=rd h2
 obtain ⟨its,rv,pt,_⟩:=I.tuple hp
 cases rv with
 | cons ra rr =>
  cases rr with
  | cons rb rr =>
   cases rr
   cases ra
   cases rb
   let e:Value→Bool:=fun u=>if u=.ref r1 then PyData.eqv (.tuple [.int c1,.int d1]) (.tuple [.int a,.int b]) else PyData.eqv (.tuple [.int c2,.int d2]) (.tuple [.int a,.int b])
   have e1:e (.ref r1)=PyData.eqv (.tuple [.int c1,.int d1]) (.tuple [.int a,.int b]):=if_pos rfl
   have e2:e (.ref r2)=PyData.eqv (.tuple [.int c2,.int d2]) (.tuple [.int a,.int b]):=if_neg fun z=>hne (by injection z with z;exact z.symm)
   refine SeqAt.in_tupleAt e pt (fun w hw=>?_) ⟨.bl _,H,I,rfl,?_⟩
   ·have hw':w=.ref r1∨w=.ref r2:=by simpa using hw
    rcases hw' with rfl | rfl
    ·rw [e1]
     exact SeqAt.eqAt_reads _ _ _ _ _ _ _ _ z1 z0 rfl rfl (hin _ (by show 1+0≤63 ;decide))
    ·rw [e2]
     exact SeqAt.eqAt_reads _ _ _ _ _ _ _ _ z2 z0 rfl rfl (hin _ (by show 1+0≤63 ;decide))
   ·have ev:∀ c d:Int,PyData.eqv (.tuple [.int c,.int d]) (.tuple [.int a,.int b])=(decide (a=c)&&decide (b=d)):=fun c d=>by
     show ((c==a)&&((d==b)&&true))=_
     by_cases x1:a=c
     ·subst x1
      by_cases x2:b=d
      ·subst x2;simp
      ·have x3:¬ d=b:=fun z=>x2 z.symm
       simp [x2,x3]
     ·have x3:¬ c=a:=fun z=>x1 z.symm
      simp [x1,x3]
    have:(#[Value.ref r1,Value.ref r2]:Array Value).any e=((decide (a=c1)&&decide (b=d1))||(decide (a=c2)&&decide (b=d2))):=by
     have:(#[Value.ref r1,Value.ref r2]:Array Value).any e=(e (.ref r1)||e (.ref r2)):=by simp
     rw [this,e1,e2,ev,ev]
    rw [show ([Value.ref r1,Value.ref r2].toArray:Array Value)=#[Value.ref r1,Value.ref r2] from rfl,this]
    exact q
end
end L2
namespace L2
theorem zdz {t1 t2:TS} {D:Ends} {σ:St} {H:Hp} (I:St→Hp→Prop) (h2:∀ σ H,I σ H→t2 D σ H) (h1:∀ NX:St→Hp→Prop,(∀ σ H,I σ H→NX σ H)→t1 { D with nx:=NX } σ H):tSeq t1 t2 D σ H:=h1 _ h2
end L2
namespace L2
open PySem PySem.Spec PyProof.Rows
def zqc (C C':Addr) (m:Str) (sp sp':Sp) (E:XK) (ta:TE) (t:TA):TE:=fun σ H Q=>ta σ H fun x H1 =>
 (∃ a dx fs,x=.ref a∧H1 a=some (.ins C dx fs)∧fs.lookup m=none∧t σ H1 fun vs H2=>sp (x::(vs++[])) H2 Q E) ∨
 (∃ a dx fs,x=.ref a∧H1 a=some (.ins C' dx fs)∧fs.lookup m=none∧t σ H1 fun vs H2=>sp' (x::(vs++[])) H2 Q E)
section
variable {X:Cx} {o e:Expr} {es:List Expr} {ta:TE} {t:TA} {m:Str} {C C' f f':Addr} {fd fd':FuncData} {ps ps':List Str} {sp sp':Sp} {k k':Nat} {CX:CXT} {E:XK} {apos pos:Pos}
theorem zgh {pl:Sem Bool} (he:PE X o ta) (c:Cls X.K C) (hm:Meth X.K C m f) (F:FnOk X.prog X.w X.K X.mg X.base CX k f fd ps sp) (hr:Room k X.A) (hb:Binds X.K fd ps [])
  (c':Cls X.K C') (hm':Meth X.K C' m f') (F':FnOk X.prog X.w X.K X.mg X.base CX k' f' fd' ps' sp') (hr':Room k' X.A) (hb':Binds X.K fd' ps' []) (hx:Passes CX X E) (ha:PA X (e::es) t)
  (hst:starEach (e::es) X.env=(false,eval e X.env)::starEach es X.env:=by rfl) (hpl:(backTo pos (starEach es X.env)).any (·.1)=false:=by rfl)
  (ht:eval (.Call (.Attribute o m apos) (e::es) [] pos) X.env=(do
   let ov ← eval o X.env
   standAt apos.atName
   let (f,first) ← holding [ov] (getMethod ov m pl)
   callWith pos f first (backTo pos (starEach (e::es) X.env)) (backToKw pos (keywordEach [] X.env))):=by rfl) :
  PE X (.Call (.Attribute o m apos) (e::es) [] pos) (zqc C C' m sp sp' E ta t):=by
 intro pins s σ H Q I h
 refine PySem.W.methodCall_KW (pl:=pl) (thn (he pins s σ H _ I h) fun u s1 ⟨x,H1,I1,rx,q0⟩=>?_) ht
 rcases q0 with ⟨a,dx,fs,ex,ea,l,q⟩ | ⟨a,dx,fs,ex,ea,l,q⟩
 ·subst ex
  obtain rfl:u=Value.ref a:=rx
  refine zew I1 ea c hm l ?_
  refine PySem.W.callWith_K (first:=[.ref a]) (h₀:=X.base) I.ok.mod.kin hm.kp (thn (ha pos pins s1 σ H1 _ I1 q) fun us s2 ⟨vs,H2,I2,r,q2⟩=>⟨I2.kIn,?_⟩) hst hpl
  exact ziF (us:=.ref a::us) (vs:=.ref a::vs) F hr hb .nil hx I2 (.cons rfl r) q2
 ·subst ex
  obtain rfl:u=Value.ref a:=rx
  refine zew I1 ea c' hm' l ?_
  refine PySem.W.callWith_K (first:=[.ref a]) (h₀:=X.base) I.ok.mod.kin hm'.kp (thn (ha pos pins s1 σ H1 _ I1 q) fun us s2 ⟨vs,H2,I2,r,q2⟩=>⟨I2.kIn,?_⟩) hst hpl
  exact ziF (us:=.ref a::us) (vs:=.ref a::vs) F' hr' hb' .nil hx I2 (.cons rfl r) q2
end
end L2
namespace L2
open PySem PySem.Spec PyProof.Rows
section
variable {X:Cx}
def zpd:V→List V→Hp→VK→Prop:=fun x vs H Q=>∃ (l:Addr) (xs:List V) (k:Int) (j:Nat),x=.ref l∧vs=[.int k]∧H l=some (.lst xs)∧(∀ v∈xs,∃ i:Int,v=.int i)∧xs[j]? = some (.int k) ∧
 (∀ i,i<j→xs[i]?≠some (.int k))∧Q .non (upd H l (.lst (xs.eraseIdx j)))
theorem zmf:MtM X "list.remove" zpd:=by
 intro pins s σ H x vs v us Q I rx rv h
 obtain ⟨l,xs,k,j,rfl,rfl,hH,hi,hj,hb,q⟩:=h
 cases rx
 obtain ⟨u,rfl,ru⟩:=rv.one
 obtain ⟨t,rfl⟩:=ru
 obtain ⟨z,its,n,r,hl,e⟩:=I.lstM hH
 have intsAt:∀ (i:Nat) (y:Value),its[i]? = some y→∃ (m:Int) (t':Tok),y=.int m t'∧xs[i]? = some (.int m):=by
  intro i y hy
  have hlt:i<xs.length:=by
   have:=(List.getElem?_eq_some_iff.mp hy).1
   omega
  obtain ⟨m,hm⟩:=hi xs[i] (List.getElem_mem hlt)
  have hx:xs[i]? = some (.int m):=by rw [List.getElem?_eq_getElem hlt,hm]
  obtain ⟨w',hw,rw'⟩:=r.get hx
  rw [hy] at hw
  cases hw
  obtain ⟨t',rfl⟩:=rw'
  exact ⟨m,t',rfl,hx⟩
 obtain ⟨w',hw,rw'⟩:=r.get hj
 obtain ⟨t',rfl⟩:=rw'
 have hjl:=(List.getElem?_eq_some_iff.mp hw).1
 have key:∀ y∈its,MeetsSeq.EqGives y (.int k t) (isInt k y):=by
  intro y hy
  obtain ⟨i,hi2⟩:=List.mem_iff_getElem?.mp hy
  obtain ⟨m,t2,rfl,_⟩:=intsAt i y hi2
  exact MeetsSeq.EqGives.int _ _ _ _
 refine call_meets F.slot_list_remove ⟨_,e,rfl⟩ F.entry_list_remove (F.args_list_remove_2 _ _)
  (MeetsSeq.list_remove l its.toArray n (.int k t) (isInt k) (fun y hy=>key y (by simpa using hy)) j (by rw [List.size_toArray];exact hjl) ?_ ?_ (by rw [List.size_toArray];omega)) ⟨e,?_⟩
 ·have:its[j]=.int k t':=(List.getElem?_eq_some_iff.mp hw).2
  simp [this,isInt]
 ·intro m hm hlt
  rw [List.size_toArray] at hm
  obtain ⟨a,t2,e2,hx⟩:=intsAt m its[m] (List.getElem?_eq_getElem hm)
  have:a≠k:=fun q=>hb m hlt (by rw [hx,q])
  simp [e2,isInt,this]
 ·refine ⟨.non,_,I.lset (its':=its.eraseIdx j) hH e ?_ (r.eraseIdx j) ?_,rfl,q⟩
  ·show its.toArray.eraseIdxIfInBounds j=(its.eraseIdx j).toArray
   rw [List.eraseIdxIfInBounds_toArray]
  ·have:=ziZ xs j
   omega
end
end L2
namespace L2
open PySem PySem.Spec PyProof.Rows
section
variable {X:Cx}
theorem zlT:OpR X (compareOp .IsNot) (fun x y H Q=>∃ a b,x=.bl a∧y=.bl b∧Q (.bl (a != b)) H):=by
 intro pins s σ H x y v u Q I rx ry h
 obtain ⟨a,b,rfl,rfl,q⟩:=h
 cases rx
 cases ry
 exact isnot_bool (zaT I q rfl)
end
end L2
namespace L2
open PySem PySem.Spec PyProof.Rows
section
variable {X:Cx}
end
end L2
namespace My
theorem zk2 (x y:Int) (hx:0≤x) (hy:0<y):Nat.gcd y.natAbs (x % y).natAbs=Nat.gcd x.natAbs y.natAbs:=by
 obtain ⟨m,rfl⟩:=Int.eq_ofNat_of_zero_le hx
 obtain ⟨n,rfl⟩:=Int.eq_ofNat_of_zero_le (Int.le_of_lt hy)
 have e:((m:Int) % (n:Int))=((m % n:Nat):Int):=(Int.natCast_emod m n).symm
 rw [e]
 simp only [Int.natAbs_natCast]
 rw [Nat.gcd_comm n,← Nat.gcd_rec,Nat.gcd_comm]
theorem zjX (a b:Int) (hb:b≠0):0<Int.gcd a b:=Int.gcd_pos_of_ne_zero_right a hb
def dv (a b:Int):Int:=if b<0 then -(Int.gcd a b:Int) else (Int.gcd a b:Int)
theorem zqM (a b:Int) (hb:b≠0):dv a b≠0:=by
 have:=zjX a b hb
 unfold dv
 split <;> omega
theorem zqN (a b:Int):(dv a b).natAbs=Int.gcd a b:=by
 unfold dv
 split <;> simp
theorem zda {a d:Int} (h:d∣a):a.fdiv d=a/d:=by
 rw [Int.fdiv_eq_ediv_of_dvd h]
theorem zhZ (a b:Int) (hb:b≠0):a.fdiv (dv a b)=(Rat.divInt a b).num:=by
 have hg:(Int.gcd a b:Int)∣a:=Int.gcd_dvd_left a b
 have g0:=zjX a b hb
 rw [Rat.num_divInt,Int.gcd_comm b a]
 unfold dv
 by_cases h:b<0
 ·rw [if_pos h,Int.sign_eq_neg_one_of_neg h,zda (Int.neg_dvd.mpr hg),Int.ediv_neg,Int.neg_one_mul,Int.neg_ediv_of_dvd hg]
 ·rw [if_neg h,Int.sign_eq_one_of_pos (by omega),zda hg,Int.one_mul]
theorem zia (a b:Int) (hb:b≠0):b.fdiv (dv a b)=((Rat.divInt a b).den:Int):=by
 have hg:(Int.gcd a b:Int)∣b:=Int.gcd_dvd_right a b
 have g0:=zjX a b hb
 rw [Rat.den_divInt,if_neg hb,Int.gcd_comm b a]
 unfold dv
 rw [Int.natCast_ediv]
 by_cases h:b<0
 ·rw [if_pos h,zda (Int.neg_dvd.mpr hg),Int.ediv_neg]
  rw [← Int.neg_ediv_of_dvd hg]
  congr 1
  omega
 ·rw [if_neg h,zda hg]
  congr 1
  omega
theorem zh6 (a b:Int) (hb:b≠0):(Rat.divInt a b).num.natAbs≤a.natAbs:=by
 rw [← zhZ a b hb]
 have hg:dv a b∣a:=by
  have h:=Int.gcd_dvd_left a b
  unfold dv
  split
  ·exact Int.neg_dvd.mpr h
  ·exact h
 rw [zda hg,Int.natAbs_ediv_of_dvd hg]
 exact Nat.div_le_self _ _
theorem zhE (a b:Int) (hb:b≠0):(Rat.divInt a b).den≤b.natAbs:=by
 have e:=zia a b hb
 have hg:dv a b∣b:=by
  have h:=Int.gcd_dvd_right a b
  unfold dv
  split
  ·exact Int.neg_dvd.mpr h
  ·exact h
 have:((Rat.divInt a b).den:Int).natAbs≤b.natAbs:=by
  rw [← e,zda hg,Int.natAbs_ediv_of_dvd hg]
  exact Nat.div_le_self _ _
 simpa using this
theorem add_div (a b c d:Int) (hb:b≠0) (hd:d≠0):Rat.divInt a b+Rat.divInt c d=Rat.divInt (a*d+c*b) (b*d):=Rat.divInt_add_divInt _ _ hb hd
theorem zoR (a b c d:Int) (hb:b≠0) (hd:d≠0):Rat.divInt a b-Rat.divInt c d=Rat.divInt (a*d-c*b) (b*d):=Rat.divInt_sub_divInt _ _ hb hd
theorem mul_div (a b c d:Int):Rat.divInt a b*Rat.divInt c d=Rat.divInt (a*c) (b*d):=Rat.divInt_mul_divInt _ _ ..
theorem zpI (a b c d:Int):Rat.divInt a b/Rat.divInt c d=Rat.divInt (a*d) (b*c):=by
 rw [Rat.div_def,Rat.inv_divInt,mul_div]
theorem same (q:Rat):Rat.divInt q.num q.den=q:=Rat.num_divInt_den q
end My
namespace Mp
structure Pipe where
 u:Int
 w:Int
 a:Int
 b:Int
def Adj (ps:List Pipe) (x y:Int):Prop:=∃ p∈ps,(p.u=x∧p.w=y)∨(p.w=x∧p.u=y)
inductive Reach (ps:List Pipe) (s:Int):Int→Prop
 | refl:Reach ps s s
 | step {x y:Int}:Reach ps s x→Adj ps x y→Reach ps s y
def zfu (ps:List Pipe) (s:Int) (ms:List Int):Prop:=ms.Pairwise (· < ·)∧∀ x,x∈ms↔Reach ps s x
theorem ziG:∀ {a b:List Int},a.Pairwise (· < ·)→b.Pairwise (· < ·)→(∀ x,x∈a↔x∈b)→a=b
 | [],[],_,_,_=>rfl
 | [],y::_,_,_,h=>by have:=(h y).mpr (by simp);simp at this
 | x::_,[],_,_,h=>by have:=(h x).mp (by simp);simp at this
 | x::a,y::b,pa,pb,h=>by
  obtain ⟨xa,pa'⟩:=List.pairwise_cons.mp pa
  obtain ⟨yb,pb'⟩:=List.pairwise_cons.mp pb
  have e:x=y:=by
   have h1:=(h x).mp (by simp)
   have h2:=(h y).mpr (by simp)
   rcases List.mem_cons.mp h1 with z | z
   ·exact z
   ·rcases List.mem_cons.mp h2 with z' | z'
    ·exact z'.symm
    ·have:=yb x z;have:=xa y z';omega
  subst e
  have e2:a=b:=ziG pa' pb' fun z=>by
   constructor
   ·intro hz
    have:=(h z).mp (by simp [hz])
    rcases List.mem_cons.mp this with q | q
    ·have:=xa z hz;omega
    ·exact q
   ·intro hz
    have:=(h z).mpr (by simp [hz])
    rcases List.mem_cons.mp this with q | q
    ·have:=yb z hz;omega
    ·exact q
  rw [e2]
theorem zfu.unique {ps:List Pipe} {s:Int} {a b:List Int} (h:zfu ps s a) (k:zfu ps s b):a=b:=ziG h.1 k.1 fun x=>(h.2 x).trans (k.2 x).symm
theorem zlM {l:List Int} (h:l.Pairwise (·≤·)) (nd:l.Nodup):l.Pairwise (· < ·):=by
 induction l with
 | nil=>exact .nil
 | cons x l ih =>
  obtain ⟨h1,h2⟩:=List.pairwise_cons.mp h
  obtain ⟨n1,n2⟩:=List.nodup_cons.mp nd
  refine List.pairwise_cons.mpr ⟨fun y hy=>?_,ih h2 n2⟩
  have:=h1 y hy
  have:x≠y:=fun e=>n1 (e▸hy)
  omega
theorem zfV {ps:List Pipe} {s:Int} {S:List Int} (hs:s∈S) (hr:∀ x∈S,Reach ps s x) (hc:∀ x∈S,∀ y,Adj ps x y→y∈S):∀ x,x∈S↔Reach ps s x:=fun x=>⟨hr x,fun h=>by
 induction h with
 | refl=>exact hs
 | step _ a ih=>exact hc _ ih _ a⟩
theorem zeV {ps:List Pipe} {s:Int} {S ms:List Int} (nd:S.Nodup) (h:∀ x,x∈S↔Reach ps s x) (p:ms.Perm S) (o:ms.Pairwise (·≤·)):zfu ps s ms :=
 ⟨zlM o (p.nodup_iff.mpr nd),fun x=>(p.mem_iff).trans (h x)⟩
theorem few:∀ (n:Nat) (l:List Int),l.Nodup→(∀ x∈l,0≤x∧x<n)→l.length≤n
 | 0,l,_,h=>by
  cases l with
  | nil=>exact Nat.le_refl _
  | cons x l=>have:=h x (by simp);omega
 | n+1,l,nd,h=>by
  by_cases hm:(n:Int)∈l
  ·have h1:=few n (l.erase (n:Int)) (nd.erase _) fun x hx=>by
    have h2:=(nd.mem_erase_iff).mp hx
    have h3:=h x h2.2
    have:=h2.1
    omega
   rw [List.length_erase_of_mem hm] at h1
   omega
  ·have h1:=few n l nd fun x hx=>by
    have h3:=h x hx
    have:x≠n:=fun e=>hm (e▸hx)
    omega
   omega
def Fits (n:Int) (ps:List Pipe):Prop:=∀ p∈ps,(0≤p.u∧p.u<n)∧(0≤p.w∧p.w<n)
theorem Adj.fits {n:Int} {ps:List Pipe} (f:Fits n ps) {x y:Int} (h:Adj ps x y):0≤y∧y<n:=by
 obtain ⟨p,hp,q⟩:=h
 have:=f p hp
 rcases q with ⟨_,rfl⟩ | ⟨_,rfl⟩
 ·exact this.2
 ·exact this.1
theorem Adj.symm {ps:List Pipe} {x y:Int} (h:Adj ps x y):Adj ps y x:=by
 obtain ⟨p,hp,q⟩:=h
 rcases q with ⟨a,b⟩ | ⟨a,b⟩
 ·exact ⟨p,hp,.inr ⟨b,a⟩⟩
 ·exact ⟨p,hp,.inl ⟨b,a⟩⟩
theorem Reach.trans {ps:List Pipe} {x y z:Int} (h:Reach ps x y) (k:Reach ps y z):Reach ps x z:=by
 induction k with
 | refl=>exact h
 | step _ a ih=>exact .step ih a
theorem Reach.symm {ps:List Pipe} {x y:Int} (h:Reach ps x y):Reach ps y x:=by
 induction h with
 | refl=>exact .refl
 | step _ a ih=>exact Reach.trans (.step .refl a.symm) ih
theorem Reach.fits {n:Int} {ps:List Pipe} (f:Fits n ps) {s x:Int} (hs:0≤s∧s<n) (h:Reach ps s x):0≤x∧x<n:=by
 cases h with
 | refl=>exact hs
 | step _ a=>exact a.fits f
def zbl (S:List Int) (p:Pipe):List Int:=if (decide (p.u∈S)) != (decide (p.w∈S)) then S++[if p.u∈S then p.w else p.u] else S
structure Good (n:Int) (ps:List Pipe) (s:Int) (S:List Int):Prop where
 has:s∈S
 nd:S.Nodup
 rch:∀ x∈S,Reach ps s x
 fit:∀ x∈S,0≤x∧x<n
theorem Good.zbl {n:Int} {ps:List Pipe} {s:Int} {S:List Int} (f:Fits n ps) (g:Good n ps s S) {p:Pipe} (hp:p∈ps):Good n ps s (zbl S p):=by
 unfold Mp.zbl
 by_cases hu:p.u∈S <;> by_cases hw:p.w∈S <;> simp only [hu,hw,decide_true,decide_false,if_true,if_false,bne_self_eq_false,Bool.false_eq_true]
 ·exact g
 ·have a:Adj ps p.u p.w:=⟨p,hp,.inl ⟨rfl,rfl⟩⟩
  refine ⟨by simp [g.has],?_,fun x hx=>?_,fun x hx=>?_⟩
  ·exact List.nodup_append.mpr ⟨g.nd,by simp,fun x hx y hy e=>hw (by simp at hy;rw [← hy,← e];exact hx)⟩
  ·rcases List.mem_append.mp hx with h | h
   ·exact g.rch x h
   ·rw [List.mem_singleton.mp h];exact .step (g.rch _ hu) a
  ·rcases List.mem_append.mp hx with h | h
   ·exact g.fit x h
   ·rw [List.mem_singleton.mp h];exact (f p hp).2
 ·have a:Adj ps p.w p.u:=⟨p,hp,.inr ⟨rfl,rfl⟩⟩
  refine ⟨by simp [g.has],?_,fun x hx=>?_,fun x hx=>?_⟩
  ·exact List.nodup_append.mpr ⟨g.nd,by simp,fun x hx y hy e=>hu (by simp at hy;rw [← hy,← e];exact hx)⟩
  ·rcases List.mem_append.mp hx with h | h
   ·exact g.rch x h
   ·rw [List.mem_singleton.mp h];exact .step (g.rch _ hw) a
  ·rcases List.mem_append.mp hx with h | h
   ·exact g.fit x h
   ·rw [List.mem_singleton.mp h];exact (f p hp).1
 ·exact g
theorem zkw (S:List Int) (p:Pipe):S.length≤(zbl S p).length:=by
 unfold zbl
 split
 ·simp
 ·exact Nat.le_refl _
theorem zkN {S:List Int} {p:Pipe} (h:(zbl S p).length=S.length):zbl S p=S∧(p.u∈S↔p.w∈S):=by
 unfold zbl at *
 by_cases hu:p.u∈S <;> by_cases hw:p.w∈S <;> simp_all
theorem zit:∀ (qs:List Pipe) (S:List Int),S.length≤(qs.foldl zbl S).length
 | [],_=>Nat.le_refl _
 | q::qs,S=>Nat.le_trans (zkw S q) (zit qs (zbl S q))
theorem zhB:∀ (qs:List Pipe) (S:List Int),(qs.foldl zbl S).length=S.length→qs.foldl zbl S=S∧∀ q∈qs,(q.u∈S↔q.w∈S)
 | [],_,_=>⟨rfl,fun _ h=>by cases h⟩
 | q::qs,S,h=>by
  have h1:=zkw S q
  have h2:=zit qs (zbl S q)
  have h3:(qs.foldl zbl (zbl S q)).length=S.length:=h
  obtain ⟨e1,c1⟩:=zkN (S:=S) (p:=q) (by omega)
  obtain ⟨e2,c2⟩:=zhB qs (zbl S q) (by omega)
  rw [e1] at e2 c2
  refine ⟨by show qs.foldl zbl (zbl S q)=S;rw [e1];exact e2,fun p hp=>?_⟩
  rcases List.mem_cons.mp hp with rfl | hp
  ·exact c1
  ·exact c2 p hp
def Far (ps:List Pipe) (i:Nat) (S:List Int):Prop:=(∀ q∈ps,(q.u∈S↔q.w∈S))∨i<S.length
theorem zoh {ps:List Pipe} {i:Nat} {S:List Int} (h:Far ps i S):Far ps (i+1) (ps.foldl zbl S):=by
 have h1:=zit ps S
 by_cases e:(ps.foldl zbl S).length=S.length
 ·obtain ⟨e1,c⟩:=zhB ps S e
  left
  rw [e1]
  exact c
 ·rcases h with c | h
  ·exfalso
   apply e
   have:∀ (qs:List Pipe),(∀ q∈qs,q∈ps)→qs.foldl zbl S=S:=by
    intro qs
    induction qs with
    | nil=>intro _;rfl
    | cons q qs ih =>
     intro hq
     have hc:=c q (hq q (by simp))
     have:zbl S q=S:=by
      unfold zbl
      by_cases hu:q.u∈S
      ·have hw:=hc.mp hu;simp [hu,hw]
      ·have hw:¬ q.w∈S:=fun z=>hu (hc.mpr z)
       simp [hu,hw]
     show qs.foldl zbl (zbl S q)=S
     rw [this]
     exact ih fun p hp=>hq p (by simp [hp])
   rw [this ps fun q h=>h]
  ·right
   omega
theorem zpG {n:Nat} {ps:List Pipe} {s:Int} {S:List Int} (g:Good n ps s S) (h:Far ps n S):∀ x,x∈S↔Reach ps s x:=by
 have hl:=few n S g.nd g.fit
 rcases h with c | h
 ·refine zfV g.has g.rch fun x hx y ⟨p,hp,q⟩=>?_
  rcases q with ⟨rfl,rfl⟩ | ⟨rfl,rfl⟩
  ·exact (c p hp).mp hx
  ·exact (c p hp).mpr hx
 ·omega
end Mp
namespace Mp
def nb (ps:List Pipe) (x:Int):List Int:=(ps.filter fun p=>decide (p.u=x)).map (·.w)++(ps.filter fun p=>decide (p.w=x)).map (·.u)
theorem zoE {ps:List Pipe} {x y:Int}:y∈nb ps x↔Adj ps x y:=by
 unfold nb Adj
 simp only [List.mem_append,List.mem_map,List.mem_filter,decide_eq_true_eq]
 constructor
 ·rintro (⟨p,⟨h1,h2⟩,h3⟩ | ⟨p,⟨h1,h2⟩,h3⟩)
  ·exact ⟨p,h1,.inl ⟨h2,h3⟩⟩
  ·exact ⟨p,h1,.inr ⟨h2,h3⟩⟩
 ·rintro ⟨p,h1,⟨h2,h3⟩ | ⟨h2,h3⟩⟩
  ·exact .inl ⟨p,⟨h1,h2⟩,h3⟩
  ·exact .inr ⟨p,⟨h1,h2⟩,h3⟩
theorem zq2 (ps:List Pipe) (x:Int):(nb ps x).length≤2*ps.length:=by
 unfold nb
 rw [List.length_append,List.length_map,List.length_map]
 have h1:=List.length_filter_le (fun p:Pipe=>decide (p.u=x)) ps
 have h2:=List.length_filter_le (fun p:Pipe=>decide (p.w=x)) ps
 omega
structure Walk (n:Int) (ps:List Pipe) (s:Int) (R W:List Int):Prop where
 good:Good n ps s R
 sub:∀ x∈W,x∈R
 don:∀ x∈R,x∉W→∀ y,Adj ps x y→y∈R
theorem Walk.start {n:Int} {ps:List Pipe} {s:Int} (h:0≤s∧s<n):Walk n ps s [s] [s] :=
 ⟨⟨by simp,by simp,fun x hx=>by rw [List.mem_singleton.mp hx];exact .refl,fun x hx=>by rw [List.mem_singleton.mp hx];exact h⟩,fun _ h=>h,fun _ h k=>absurd h k⟩
theorem Walk.stop {n:Int} {ps:List Pipe} {s:Int} {R:List Int} (h:Walk n ps s R []):∀ x,x∈R↔Reach ps s x:=zfV h.good.has h.good.rch fun x hx=>h.don x hx (by simp)
structure Turn (n:Int) (ps:List Pipe) (s:Int) (z:Int) (i:Nat) (R W:List Int):Prop where
 good:Good n ps s R
 sub:∀ x∈W,x∈R
 inn:z∈R
 don:∀ x∈R,x∉W→x=z∨∀ y,Adj ps x y→y∈R
 saw:∀ j,j<i→∀ y,(nb ps z)[j]? = some y→y∈R
theorem Walk.pop {n:Int} {ps:List Pipe} {s z:Int} {R W:List Int} (h:Walk n ps s R (W++[z])):Turn n ps s z 0 R W :=
 ⟨h.good,fun x hx=>h.sub x (by simp [hx]),h.sub z (by simp),fun x hx hw=>by
  by_cases e:x=z
  ·exact .inl e
  ·exact .inr (h.don x hx (by simp [hw,e])),fun _ h=>absurd h (Nat.not_lt_zero _)⟩
theorem Turn.old {n:Int} {ps:List Pipe} {s z:Int} {i:Nat} {R W:List Int} {y:Int} (h:Turn n ps s z i R W) (hy:(nb ps z)[i]? = some y) (hin:y∈R):Turn n ps s z (i+1) R W :=
 ⟨h.good,h.sub,h.inn,h.don,fun j hj y' hy'=>by
  by_cases e:j=i
  ·subst e;rw [hy] at hy';cases hy';exact hin
  ·exact h.saw j (by omega) y' hy'⟩
theorem Turn.new {n:Int} {ps:List Pipe} {s z:Int} {i:Nat} {R W:List Int} {y:Int} (f:Fits n ps) (h:Turn n ps s z i R W) (hy:(nb ps z)[i]? = some y) (hout:y∉R):Turn n ps s z (i+1) (R++[y]) (W++[y]):=by
 have a:Adj ps z y:=zoE.mp (List.mem_of_getElem? hy)
 refine ⟨⟨by simp [h.good.has],List.nodup_append.mpr ⟨h.good.nd,by simp,fun x hx y' hy' e=>hout (by simp at hy';rw [← hy',← e];exact hx)⟩,fun x hx=>?_,fun x hx=>?_⟩,fun x hx=>?_,by simp [h.inn],fun x hx hw=>?_,fun j hj y' hy'=>?_⟩
 ·rcases List.mem_append.mp hx with q | q
  ·exact h.good.rch x q
  ·rw [List.mem_singleton.mp q];exact .step (h.good.rch z h.inn) a
 ·rcases List.mem_append.mp hx with q | q
  ·exact h.good.fit x q
  ·rw [List.mem_singleton.mp q];exact a.fits f
 ·rcases List.mem_append.mp hx with q | q
  ·exact List.mem_append.mpr (.inl (h.sub x q))
  ·exact List.mem_append.mpr (.inr q)
 ·have hw':x∉W:=fun q=>hw (List.mem_append.mpr (.inl q))
  rcases List.mem_append.mp hx with q | q
  ·rcases h.don x q hw' with e | e
   ·exact .inl e
   ·exact .inr fun y' ha=>List.mem_append.mpr (.inl (e y' ha))
  ·exact absurd (List.mem_append.mpr (.inr q)) hw
 ·by_cases e:j=i
  ·subst e;rw [hy] at hy';cases hy';simp
  ·exact List.mem_append.mpr (.inl (h.saw j (by omega) y' hy'))
theorem Turn.stop {n:Int} {ps:List Pipe} {s z:Int} {R W:List Int} (h:Turn n ps s z (nb ps z).length R W):Walk n ps s R W :=
 ⟨h.good,h.sub,fun x hx hw y ha=>by
  rcases h.don x hx hw with e | e
  ·subst e
   obtain ⟨j,hj⟩:=List.mem_iff_getElem?.mp (zoE.mpr ha)
   exact h.saw j (List.getElem?_eq_some_iff.mp hj).1 y hj
  ·exact e y ha⟩
theorem Good.len {n:Nat} {ps:List Pipe} {s:Int} {S:List Int} (g:Good n ps s S):S.length≤n:=few n S g.nd g.fit
end Mp
namespace Mp
end Mp
namespace Bz
abbrev Vec:=Nat→Rat
def ex (F:List Vec→Rat) (k:Nat):List Vec→List Vec→Rat
 | _,[]=>0
 | pre,v::vs=>v k*F (pre++vs)-ex F k (pre++[v]) vs
def D0:List Vec→Rat
 | []=>1
 | _::_=>0
def D:Nat→List Vec→Rat
 | 0,vs=>D0 vs
 | k+1,vs=>ex (D k) k [] vs
theorem zna (xs:List Vec) (a:Vec) (ys:List Vec):D0 (xs++a::ys)=0:=by cases xs <;> rfl
def lc (s:Rat) (a b:Vec):Vec:=fun r=>s*a r+b r
theorem zgO {F:List Vec→Rat} {k:Nat} (hF:∀ xs a b ys,F (xs++a::b::ys) = - F (xs++b::a::ys)) (a b:Vec):∀ (ys pre post:List Vec),ex F k (pre++a::b::post) ys = - ex F k (pre++b::a::post) ys
 | [],_,_=>by simp [ex]
 | y::ys,pre,post=>by
  have h1:=hF pre a b (post++ys)
  have h2:=zgO (k:=k) hF a b ys pre (post++[y])
  simp only [ex,List.append_assoc,List.cons_append] at h1 h2 ⊢
  rw [h1,h2]
  grind
theorem zm8 {F:List Vec→Rat} {k:Nat} (hF:∀ xs a b ys,F (xs++a::b::ys) = - F (xs++b::a::ys)) (a b:Vec) (ys:List Vec):∀ (xs pre:List Vec),ex F k pre (xs++a::b::ys) = - ex F k pre (xs++b::a::ys)
 | [],pre=>by
  have h2:=zgO (k:=k) hF a b ys pre []
  simp only [ex,List.nil_append,List.append_assoc,List.cons_append] at h2 ⊢
  rw [h2]
  grind
 | x::xs,pre=>by
  have h1:=hF (pre++xs) a b ys
  have h2:=zm8 (k:=k) hF a b ys xs (pre++[x])
  simp only [ex,List.append_assoc,List.cons_append] at h1 h2 ⊢
  rw [h1,h2]
  grind
theorem zmZ:∀ (n:Nat) (xs:List Vec) (a b:Vec) (ys:List Vec),D n (xs++a::b::ys) = - D n (xs++b::a::ys)
 | 0,xs,a,b,ys=>by simp only [D,zna];grind
 | n+1,xs,a,b,ys=>zm8 (zmZ n) a b ys xs []
theorem zhC {F:List Vec→Rat} {k:Nat} {s:Rat} {a b:Vec} (hF:∀ xs ys,F (xs++lc s a b::ys)=s*F (xs++a::ys)+F (xs++b::ys)):∀ (ys pre post:List Vec),ex F k (pre++lc s a b::post) ys=s*ex F k (pre++a::post) ys+ex F k (pre++b::post) ys
 | [],_,_=>by simp only [ex];grind
 | y::ys,pre,post=>by
  have h1:=hF pre (post++ys)
  have h2:=zhC (k:=k) hF ys pre (post++[y])
  simp only [ex,List.append_assoc,List.cons_append] at h1 h2 ⊢
  rw [h1,h2]
  grind
theorem zoG {F:List Vec→Rat} {k:Nat} {s:Rat} {a b:Vec} (hF:∀ xs ys,F (xs++lc s a b::ys)=s*F (xs++a::ys)+F (xs++b::ys)) (ys:List Vec):∀ (xs pre:List Vec),ex F k pre (xs++lc s a b::ys)=s*ex F k pre (xs++a::ys)+ex F k pre (xs++b::ys)
 | [],pre=>by
  have h2:=zhC (k:=k) hF ys pre []
  simp only [ex,List.nil_append] at h2 ⊢
  rw [h2]
  simp only [lc]
  grind
 | x::xs,pre=>by
  have h1:=hF (pre++xs) ys
  have h2:=zoG (k:=k) hF ys xs (pre++[x])
  simp only [ex,List.append_assoc,List.cons_append] at h1 h2 ⊢
  rw [h1,h2]
  grind
theorem zov (s:Rat) (a b:Vec):∀ (n:Nat) (xs ys:List Vec),D n (xs++lc s a b::ys)=s*D n (xs++a::ys)+D n (xs++b::ys)
 | 0,xs,ys=>by simp only [D,zna];grind
 | n+1,xs,ys=>zoG (zov s a b n) ys xs []
theorem zgP {F:List Vec→Rat} {k:Nat} {a b:Vec} (hF:∀ xs ys,F (xs++a::ys)=F (xs++b::ys)):∀ (ys pre post:List Vec),ex F k (pre++a::post) ys=ex F k (pre++b::post) ys
 | [],_,_=>rfl
 | y::ys,pre,post=>by
  have h1:=hF pre (post++ys)
  have h2:=zgP (k:=k) hF ys pre (post++[y])
  simp only [ex,List.append_assoc,List.cons_append] at h1 h2 ⊢
  rw [h1,h2]
theorem zm9 {F:List Vec→Rat} {k:Nat} {a b:Vec} (hF:∀ xs ys,F (xs++a::ys)=F (xs++b::ys)) (hk:a k=b k) (ys:List Vec):∀ (xs pre:List Vec),ex F k pre (xs++a::ys)=ex F k pre (xs++b::ys)
 | [],pre=>by
  have h2:=zgP (k:=k) hF ys pre []
  simp only [ex,List.nil_append] at h2 ⊢
  rw [h2,hk]
 | x::xs,pre=>by
  have h1:=hF (pre++xs) ys
  have h2:=zm9 hF hk ys xs (pre++[x])
  simp only [ex,List.append_assoc,List.cons_append] at h1 h2 ⊢
  rw [h1,h2]
theorem zkG {a b:Vec}:∀ (n:Nat),(∀ r,r<n→a r=b r)→∀ (xs ys:List Vec),D n (xs++a::ys)=D n (xs++b::ys)
 | 0,_,xs,ys=>by simp only [D,zna]
 | n+1,h,xs,ys=>zm9 (zkG n fun r hr=>h r (by omega)) (h n (by omega)) ys xs []
theorem zoN (n:Nat) {a:Vec} (h:∀ r,r<n→a r=0) (xs ys:List Vec):D n (xs++a::ys)=0:=by
 have h1:=zov 1 a a n xs ys
 have h2:=zkG (a:=lc 1 a a) (b:=a) n (fun r hr=>by simp only [lc,h r hr];grind) xs ys
 grind
theorem zkF (n:Nat) (a:Vec) (zs:List Vec):∀ (ys xs:List Vec),D n (xs++a::(ys++a::zs))=0
 | [],xs=>by
  have:=zmZ n xs a a zs
  simp only [List.nil_append]
  grind
 | y::ys,xs=>by
  have h1:=zmZ n xs a y (ys++a::zs)
  have h2:=zkF n a zs ys (xs++[y])
  simp only [List.append_assoc,List.cons_append,List.nil_append] at h1 h2 ⊢
  rw [h1,h2]
  grind
def sm:Nat→(Nat→Rat)→Rat
 | 0,_=>0
 | n+1,f=>sm n f+f n
theorem zbF {f g:Nat→Rat}:∀ (n:Nat),(∀ i,i<n→f i=g i)→sm n f=sm n g
 | 0,_=>rfl
 | n+1,h=>by simp only [sm];rw [zbF n fun i hi=>h i (by omega),h n (by omega)]
theorem zdY:∀ (n:Nat) {f:Nat→Rat},(∀ i,i<n→f i=0)→sm n f=0
 | 0,_,_=>rfl
 | n+1,f,h=>by simp only [sm];rw [zdY n fun i hi=>h i (by omega),h n (by omega)];grind
theorem zoA (f g:Nat→Rat):∀ (n:Nat),sm n (fun i=>f i+g i)=sm n f+sm n g
 | 0=>by simp only [sm];grind
 | n+1=>by simp only [sm];rw [zoA f g n];grind
theorem zfN (f g:Nat→Rat):∀ (n:Nat),sm n (fun i=>f i-g i)=sm n f-sm n g
 | 0=>by simp only [sm];grind
 | n+1=>by simp only [sm];rw [zfN f g n];grind
theorem zhw (c:Rat) (f:Nat→Rat):∀ (n:Nat),sm n (fun i=>c*f i)=c*sm n f
 | 0=>by simp only [sm];grind
 | n+1=>by simp only [sm];rw [zhw c f n];grind
theorem zhQ (c:Rat) (f:Nat→Rat):∀ (n:Nat),sm n (fun i=>f i*c)=sm n f*c
 | 0=>by simp only [sm];grind
 | n+1=>by simp only [sm];rw [zhQ c f n];grind
theorem zhv {f:Nat→Rat} {k:Nat}:∀ (n:Nat),k<n→(∀ i,i<n→i≠k→f i=0)→sm n f=f k
 | 0,h,_=>by omega
 | n+1,h,z=>by
  simp only [sm]
  by_cases e:k=n
  ·subst e
   rw [zdY k fun i hi=>z i (by omega) (by omega)]
   grind
  ·rw [zhv n (by omega) fun i hi hk=>z i (by omega) hk,z n (by omega) (by omega)]
   grind
theorem zpV (n:Nat) (c:Nat→Rat) (v:Nat→Vec) (xs ys:List Vec):∀ (k:Nat),D n (xs++(fun r=>sm k (fun l=>c l*v l r))::ys)=sm k (fun l=>c l*D n (xs++v l::ys))
 | 0=>zoN n (fun _ _=>rfl) xs ys
 | k+1=>by
  have h1:=zov (c k) (v k) (fun r=>sm k (fun l=>c l*v l r)) n xs ys
  have h2:=zkG (a:=fun r=>sm (k+1) (fun l=>c l*v l r)) (b:=lc (c k) (v k) (fun r=>sm k (fun l=>c l*v l r))) n (fun r _=>by simp only [sm,lc];grind) xs ys
  rw [h2,h1,zpV n c v xs ys k]
  simp only [sm]
  grind
section
variable (A:Nat→Nat→Rat)
def col (l:Nat):Vec:=fun r=>A r l
def zaB (i:Nat):Nat→List Vec
 | 0=>[]
 | k+1=>if k<i then [] else col A k::zaB i k
abbrev cols (k:Nat):List Vec:=zaB A 0 k
theorem zgS (i:Nat):∀ k,k≤i→zaB A i k=[]
 | 0,_=>rfl
 | k+1,h=>by simp only [zaB];rw [if_pos (by omega)]
theorem zey (i:Nat):∀ k,i<k→cols A k=zaB A (i+1) k++col A i::cols A i
 | 0,h=>by omega
 | k+1,h=>by
  by_cases e:i=k
  ·subst e
   rw [zgS A (i+1) (i+1) (Nat.le_refl _)]
   simp only [cols,zaB]
   rw [if_neg (by omega)]
   rfl
  ·have:=zey i k (by omega)
   simp only [cols,zaB] at this ⊢
   rw [if_neg (by omega),if_neg (by omega),this]
   rfl
theorem zpW (n k i l:Nat) (hi:i<k) (hl:l<k) (hne:l≠i):D n (zaB A (i+1) k++col A l::cols A i)=0:=by
 by_cases h:l<i
 ·rw [zey A l i h]
  exact zkF n _ _ _ _
 ·have key:∀ k,l<k→zaB A (i+1) k=zaB A (l+1) k++col A l::zaB A (i+1) l:=by
   intro k
   induction k with
   | zero=>intro h;omega
   | succ k ih =>
    intro hk
    by_cases e:l=k
    ·subst e
     rw [zgS A (l+1) (l+1) (Nat.le_refl _)]
     simp only [zaB]
     rw [if_neg (by omega)]
     rfl
    ·simp only [zaB]
     rw [if_neg (by omega),if_neg (by omega),ih (by omega)]
     rfl
  rw [key k hl]
  have:=zkF n (col A l) (cols A i) (zaB A (i+1) l) (zaB A (l+1) k)
  simp only [List.append_assoc,List.cons_append] at this ⊢
  exact this
theorem zqS (k i:Nat) (hi:i<k) (x:Nat→Rat) (b:Vec) (h:∀ r,r<k→b r=sm k (fun l=>A r l*x l)):D k (zaB A (i+1) k++b::cols A i)=x i*D k (cols A k):=by
 have h1:=zkG (a:=b) (b:=fun r=>sm k (fun l=>x l*col A l r)) k (fun r hr=>by rw [h r hr];exact zbF k fun l _=>by simp only [col];grind) (zaB A (i+1) k) (cols A i)
 rw [h1,zpV,zhv (k:=i) k hi,← zey A i k hi]
 intro l hl hne
 rw [zpW A k k i l hi hl hne]
 grind
theorem zm7 {F:List Vec→Rat} {k:Nat} {c:Vec} (hF:∀ ys,F (c::ys)=0):∀ (vs pre:List Vec),ex F k (c::pre) vs=0
 | [],_=>rfl
 | v::vs,pre=>by
  have h2:=zm7 (k:=k) hF vs (pre++[v])
  simp only [ex,List.cons_append] at h2 ⊢
  rw [hF,h2]
  grind
theorem zri (k:Nat) (x:Nat→Rat) (h:∀ r,r<k→A r k=sm k (fun l=>A r l*x l)):D (k+1) (cols A (k+1))=(A k k-sm k (fun l=>A k l*x l))*D k (cols A k):=by
 let b:Vec:=fun r=>sm k (fun l=>x l*col A l r)
 have e1:D (k+1) (b::cols A k)=0:=by
  have:=zpV (k+1) x (col A) [] (cols A k) k
  simp only [List.nil_append] at this
  show D (k+1) ((fun r=>sm k (fun l=>x l*col A l r))::cols A k)=0
  rw [this]
  refine zdY k fun l hl=>?_
  have h3:=zkF (k+1) (col A l) (cols A l) (zaB A (l+1) k) []
  rw [List.nil_append,← zey A l k hl] at h3
  rw [h3]
  grind
 have e2:=zov (-1) b (col A k) (k+1) [] (cols A k)
 simp only [List.nil_append] at e2
 have e3:cols A (k+1)=col A k::cols A k:=rfl
 have e4:∀ r,r<k→lc (-1) b (col A k) r=0:=fun r hr=>by
  have h1:=h r hr
  have h2:b r=sm k (fun l=>A r l*x l):=zbF k fun l _=>by simp only [col];grind
  simp only [lc,col]
  rw [h2,h1]
  grind
 have e5:D (k+1) (lc (-1) b (col A k)::cols A k)=lc (-1) b (col A k) k*D k (cols A k):=by
  show ex (D k) k [] (lc (-1) b (col A k)::cols A k)=_
  simp only [ex,List.nil_append]
  rw [zm7 (fun ys=>zoN k e4 [] ys)]
  grind
 have e6:lc (-1) b (col A k) k=A k k-sm k (fun l=>A k l*x l):=by
  have h2:b k=sm k (fun l=>A k l*x l):=zbF k fun l _=>by simp only [col];grind
  simp only [lc,col]
  rw [h2]
  grind
 rw [e3]
 grind
end
end Bz
namespace Bz
def Zb (B:Nat) (q:Rat):Prop:=∃ z:Int,q=(z:Rat)∧z.natAbs≤B
theorem Zb.mono {B C:Nat} {q:Rat} (h:Zb B q) (hc:B≤C):Zb C q:=by
 obtain ⟨z,e,b⟩:=h
 exact ⟨z,e,Nat.le_trans b hc⟩
theorem Zb.of (z:Int):Zb z.natAbs z:=⟨z,rfl,Nat.le_refl _⟩
theorem Zb.mul {B C:Nat} {q r:Rat} (h:Zb B q) (k:Zb C r):Zb (B*C) (q*r):=by
 obtain ⟨z,rfl,b⟩:=h
 obtain ⟨y,rfl,c⟩:=k
 exact ⟨z*y,by rw [Rat.intCast_mul],by rw [Int.natAbs_mul];exact Nat.mul_le_mul b c⟩
theorem Zb.sub {B C:Nat} {q r:Rat} (h:Zb B q) (k:Zb C r):Zb (B+C) (q-r):=by
 obtain ⟨z,rfl,b⟩:=h
 obtain ⟨y,rfl,c⟩:=k
 exact ⟨z-y,by rw [Rat.intCast_sub],by omega⟩
theorem Zb.add {B C:Nat} {q r:Rat} (h:Zb B q) (k:Zb C r):Zb (B+C) (q+r):=by
 obtain ⟨z,rfl,b⟩:=h
 obtain ⟨y,rfl,c⟩:=k
 exact ⟨z+y,by rw [Rat.intCast_add],by omega⟩
theorem Zb.sm {B:Nat} {f:Nat→Rat}:∀ (n:Nat),(∀ i,i<n→Zb B (f i))→Zb (n*B) (sm n f)
 | 0,_=>by simp only [Bz.sm];exact ⟨0,rfl,by simp⟩
 | n+1,h=>by
  have:=(Zb.sm n fun i hi=>h i (by omega)).add (h n (by omega))
  rw [Nat.succ_mul]
  exact this
theorem zqK {F:List Vec→Rat} {k M B:Nat}:∀ (vs pre:List Vec),(∀ us:List Vec,us.length+1=(pre++vs).length→(∀ u∈us,u∈pre++vs)→Zb B (F us))→(∀ v∈vs,Zb M (v k))→Zb (vs.length*(M*B)) (ex F k pre vs)
 | [],_,_,_=>by simp only [ex];exact ⟨0,rfl,by simp⟩
 | v::vs,pre,hF,hv=>by
  have h1:=(hv v (by simp)).mul (hF (pre++vs) (by simp;omega) (fun u hu=>by
   rcases List.mem_append.mp hu with h | h <;> simp [h]))
  have h2:=zqK (F:=F) (k:=k) (M:=M) (B:=B) vs (pre++[v]) (fun us hl hm=>hF us (by simp at hl ⊢;omega) (fun u hu=>by
   have:=hm u hu
   simp at this ⊢
   rcases this with h | h | h <;> simp [h])) (fun u hu=>hv u (by simp [hu]))
  simp only [ex,List.length_cons]
  rw [Nat.succ_mul]
  have:=h1.sub h2
  rw [Nat.add_comm]
  exact this
theorem D_Zb {M L:Nat}:∀ (n:Nat) (vs:List Vec),vs.length≤L→1≤L*M→(∀ v∈vs,∀ r,r<n→Zb M (v r))→Zb ((L*M)^n) (D n vs)
 | 0,vs,_,_,_=>by
  cases vs with
  | nil=>exact ⟨1,rfl,by simp⟩
  | cons v vs=>exact ⟨0,rfl,by simp⟩
 | n+1,vs,hl,h1,h=>by
  have:=zqK (F:=D n) (k:=n) (M:=M) (B:=(L*M)^n) vs [] (fun us hu hm=>D_Zb n us (by simp at hu;omega) h1 (fun v hv r hr=>h v (by simpa using hm v hv) r (by omega))) (fun v hv=>h v hv n (by omega))
  refine Zb.mono this ?_
  rw [Nat.pow_succ,← Nat.mul_assoc,Nat.mul_comm ((L*M)^n)]
  exact Nat.mul_le_mul (Nat.mul_le_mul hl (Nat.le_refl _)) (Nat.le_refl _)
def st (R:Nat→Nat→Int) (k:Nat) (d:Int):Nat→Nat→Int:=fun i j=>if i=k then R k j else (R k k*R i j-R i k*R k j).fdiv d
def RD (A:Nat→Nat→Int):Nat→(Nat→Nat→Int)×Int
 | 0=>(A,1)
 | k+1=>(st (RD A k).1 k (RD A k).2,(RD A k).1 k k)
abbrev toQ (A:Nat→Nat→Int):Nat→Nat→Rat:=fun i j=>(A i j:Rat)
def zlv (m:Nat) (A:Nat→Nat→Rat):Prop:=∀ x:Nat→Rat,sm m (fun i=>x i*sm m (fun j=>A i j*x j))=0→∀ i,i<m→x i=0
structure Elim (A:Nat→Nat→Int) (m k:Nat) (ρ:Nat→Nat→Rat):Prop where
 sol:∀ j r,r<k→(A r j:Rat)=sm k (fun l=>(A r l:Rat)*ρ l j)
 det:((RD A k).2:Rat)=D k (cols (toQ A) k)
 nz:(RD A k).2≠0
 up:∀ i j,i<k→j≤m→((RD A k).1 i j:Rat)=((RD A k).2:Rat)*ρ i j
 lo:∀ i j,k≤i→i<m→j≤m→((RD A k).1 i j:Rat)=((RD A k).2:Rat)*((A i j:Rat)-sm k (fun l=>(A i l:Rat)*ρ l j))
theorem zo9 {f:Nat→Rat} {k:Nat}:∀ {m:Nat},k≤m→(∀ i,k≤i→i<m→f i=0)→sm m f=sm k f
 | 0,h,_=>by rw [Nat.le_zero.mp h]
 | m+1,h,z=>by
  by_cases e:k=m+1
  ·rw [e]
  ·simp only [sm]
   rw [zo9 (by omega) fun i h1 h2=>z i h1 (by omega),z m (by omega) (by omega)]
   grind
theorem zeB {z:Int} (h:z≠0):(z:Rat)≠0:=fun e=>h (by exact_mod_cast e)
theorem zpc {A:Nat→Nat→Rat} {m k:Nat} (an:zlv m A) (hk:k<m) {x:Nat→Rat} (h:∀ r,r<k→A r k=sm k (fun l=>A r l*x l)):A k k-sm k (fun l=>A k l*x l)≠0:=by
 intro hs
 let y:Nat→Rat:=fun l=>if l<k then-x l else if l=k then 1 else 0
 have hy:∀ r,sm m (fun j=>A r j*y j)=A r k-sm k (fun l=>A r l*x l):=fun r=>by
  rw [zo9 (k:=k+1) (by omega) fun i h1 _=>by
   have:y i=0:=by show (if i<k then-x i else if i=k then (1:Rat) else 0)=0;rw [if_neg (by omega),if_neg (by omega)]
   rw [this];grind]
  simp only [sm]
  have h1:y k=1:=by show (if k<k then-x k else if k=k then (1:Rat) else 0)=1;rw [if_neg (by omega),if_pos rfl]
  have h2:sm k (fun j=>A r j*y j)=sm k (fun l=>(-1)*(A r l*x l)):=zbF k fun i hi=>by
   have:y i = - x i:=by show (if i<k then-x i else if i=k then (1:Rat) else 0) = - x i;rw [if_pos hi]
   rw [this];grind
  rw [h1,h2,zhw]
  grind
 have:=an y (zdY m fun i hi=>by
  rw [hy i]
  by_cases h1:i<k
  ·rw [h i h1];grind
  ·by_cases h2:i=k
   ·rw [h2,hs];grind
   ·have:y i=0:=by show (if i<k then-x i else if i=k then (1:Rat) else 0)=0;rw [if_neg h1,if_neg h2]
    rw [this];grind) k hk
 have h1:y k=1:=by show (if k<k then-x k else if k=k then (1:Rat) else 0)=1;rw [if_neg (by omega),if_pos rfl]
 rw [h1] at this
 grind
theorem zgm (A:Nat→Nat→Rat) (i:Nat):∀ k,(zaB A i k).length≤k-i
 | 0=>by simp [zaB]
 | k+1=>by
  simp only [zaB]
  have:=zgm A i k
  split
  ·simp
  ·simp;omega
theorem zgl (A:Nat→Nat→Rat) (i:Nat):∀ k v,v∈zaB A i k→∃ l,l<k∧v=col A l
 | 0,v,h=>by simp [zaB] at h
 | k+1,v,h=>by
  simp only [zaB] at h
  split at h
  ·simp at h
  ·rcases List.mem_cons.mp h with e | e
   ·exact ⟨k,by omega,e⟩
   ·obtain ⟨l,h1,h2⟩:=zgl A i k v e
    exact ⟨l,by omega,h2⟩
theorem zkl {A:Nat→Nat→Int} {k M:Nat} {ρ:Nat→Nat→Rat} (hk:k≤8) (hM:1≤M) {m:Nat} (hkm:k≤m) (hA:∀ i j,i<m→j≤m→(A i j).natAbs≤M) (sol:∀ j r,r<k→(A r j:Rat)=sm k (fun l=>(A r l:Rat)*ρ l j)) (i j:Nat) (hi:i<k) (hj:j≤m):Zb ((8*M)^k) (D k (cols (toQ A) k)*ρ i j):=by
 have h:=zqS (toQ A) k i hi (fun l=>ρ l j) (fun r=>(A r j:Rat)) (fun r hr=>sol j r hr)
 have e:D k (cols (toQ A) k)*ρ i j=D k (zaB (toQ A) (i+1) k++(fun r=>(A r j:Rat))::cols (toQ A) i):=by rw [h];grind
 rw [e]
 refine D_Zb k _ ?_ (by omega) ?_
 ·rw [List.length_append,List.length_cons]
  have h1:=zgm (toQ A) (i+1) k
  have h2:=zgm (toQ A) 0 i
  show (zaB (toQ A) (i+1) k).length+((zaB (toQ A) 0 i).length+1)≤8
  omega
 ·intro v hv r hr
  have key:∀ l,l≤m→Zb M ((A r l:Int):Rat):=fun l hl=>(Zb.of (A r l)).mono (hA r l (by omega) hl)
  rcases List.mem_append.mp hv with h1 | h1
  ·obtain ⟨l,hl,rfl⟩:=zgl _ _ _ _ h1
   exact key l (by omega)
  ·rcases List.mem_cons.mp h1 with h2 | h2
   ·rw [h2]
    exact key j hj
   ·obtain ⟨l,hl,rfl⟩:=zgl _ _ _ _ h2
    exact key l (by omega)
theorem zlw {A:Nat→Nat→Int} {k M:Nat} (hk:k≤8) (hM:1≤M) {m:Nat} (hkm:k≤m) (hA:∀ i j,i<m→j≤m→(A i j).natAbs≤M):Zb ((8*M)^k) (D k (cols (toQ A) k)):=by
 refine D_Zb k _ (Nat.le_trans (zgm _ _ _) (by omega)) (by omega) ?_
 intro v hv r hr
 obtain ⟨l,hl,rfl⟩:=zgl _ _ _ _ hv
 exact (Zb.of (A r l)).mono (hA r l (by omega) (by omega))
theorem zm5 {N d z:Int} (hd:d≠0) (h:(N:Rat)=d*z):N.fdiv d=z:=by
 have e:N=d*z:=by exact_mod_cast h
 rw [e,Int.mul_comm]
 exact Int.mul_fdiv_cancel z hd
theorem Elim.zero (A:Nat→Nat→Int) (m:Nat):Elim A m 0 (fun _ _=>0) where
 sol:=fun _ _ h=>absurd h (by omega)
 det:=rfl
 nz:=by show (1:Int)≠0;decide
 up:=fun _ _ h=>absurd h (by omega)
 lo:=fun i j _ _ _=>by
  show ((A i j:Int):Rat)=((1:Int):Rat)*(((A i j:Int):Rat)-0)
  grind
theorem Elim.step {A:Nat→Nat→Int} {k M m:Nat} {ρ:Nat→Nat→Rat} (E:Elim A m k ρ) (an:zlv m (toQ A)) (hk:k<m) (hm:m≤7) (hM:1≤M) (hA:∀ i j,i<m→j≤m→(A i j).natAbs≤M):∃ ρ',Elim A m (k+1) ρ':=by
 have hs:=zpc an hk (x:=fun l=>ρ l k) (fun r hr=>E.sol k r hr)
 have hdet:=zri (toQ A) k (fun l=>ρ l k) (fun r hr=>E.sol k r hr)
 have hp:=E.lo k k (Nat.le_refl _) hk (by omega)
 rw [E.det] at hp
 obtain ⟨s,es⟩:∃ s,s=toQ A k k-sm k (fun l=>toQ A k l*ρ l k):=⟨_,rfl⟩
 rw [← es] at hs hdet
 have hp':(((RD A k).1 k k:Int):Rat)=D (k+1) (cols (toQ A) (k+1)):=by
  rw [hp,hdet,es]
  grind
 let t:Nat→Rat:=fun j=>((A k j:Rat)-sm k (fun l=>(A k l:Rat)*ρ l j))/s
 have ht:∀ j,s*t j=(A k j:Rat)-sm k (fun l=>(A k l:Rat)*ρ l j):=fun j=>by
  show s*(_/s)=_
  rw [Rat.mul_comm,Rat.div_mul_cancel hs]
 let ρ':Nat→Nat→Rat:=fun l j=>if l<k then ρ l j-ρ l k*t j else t j
 have r1:∀ l j,l<k→ρ' l j=ρ l j-ρ l k*t j:=fun l j h=>if_pos h
 have r2:∀ j,ρ' k j=t j:=fun j=>if_neg (by omega)
 have hsum:∀ r j,sm (k+1) (fun l=>(A r l:Rat)*ρ' l j)=sm k (fun l=>(A r l:Rat)*ρ l j)-sm k (fun l=>(A r l:Rat)*ρ l k)*t j+(A r k:Rat)*t j:=fun r j=>by
  simp only [sm]
  rw [r2,zbF (g:=fun l=>(A r l:Rat)*ρ l j-(A r l:Rat)*ρ l k*t j) k (fun l hl=>by rw [r1 l j hl];grind),zfN,zhQ]
 have sol:∀ j r,r<k+1→(A r j:Rat)=sm (k+1) (fun l=>(A r l:Rat)*ρ' l j):=fun j r hr=>by
  rw [hsum r j]
  by_cases e:r<k
  ·have h1:=E.sol j r e
   have h2:=E.sol k r e
   rw [← h1,← h2]
   grind
  ·have e':r=k:=by omega
   subst e'
   have h1:=ht j
   rw [es] at h1
   simp only [toQ] at h1
   grind
 have nz:((RD A k).1 k k)≠0:=fun e=>by
  have h1:D k (cols (toQ A) k)≠0:=by rw [← E.det];exact zeB E.nz
  have h2:s*D k (cols (toQ A) k)=0:=by rw [← hdet,← hp',e];rfl
  rcases Rat.mul_eq_zero.mp h2 with h | h
  ·exact hs h
  ·exact h1 h
 have hd0:((RD A k).2:Rat)≠0:=zeB E.nz
 have hpd:(((RD A k).1 k k:Int):Rat)=((RD A k).2:Rat)*s:=by
  rw [E.lo k k (Nat.le_refl _) hk (by omega),es]
 have hkj:∀ j,j≤m→(((RD A k).1 k j:Int):Rat)=(((RD A k).1 k k:Int):Rat)*t j:=fun j hj=>by
  rw [E.lo k j (Nat.le_refl _) hk hj,hpd,← ht j]
  grind
 have up:∀ i j,i<k→j≤m→(((RD A k).1 k k*(RD A k).1 i j-(RD A k).1 i k*(RD A k).1 k j:Int):Rat)=((RD A k).2:Rat)*((((RD A k).1 k k:Int):Rat)*ρ' i j):=fun i j hi hj=>by
  rw [Rat.intCast_sub,Rat.intCast_mul,Rat.intCast_mul,E.up i j hi hj,E.up i k hi (by omega),hkj j hj,r1 i j hi]
  grind
 have lo:∀ i j,k<i→i<m→j≤m→(((RD A k).1 k k*(RD A k).1 i j-(RD A k).1 i k*(RD A k).1 k j:Int):Rat)=((RD A k).2:Rat)*((((RD A k).1 k k:Int):Rat)*((A i j:Rat)-sm (k+1) (fun l=>(A i l:Rat)*ρ' l j))):=fun i j hi him hj=>by
  rw [Rat.intCast_sub,Rat.intCast_mul,Rat.intCast_mul,E.lo i j (by omega) him hj,E.lo i k (by omega) him (by omega),hkj j hj,hsum i j]
  grind
 have wu:∀ i j,i<k+1→j≤m→Zb ((8*M)^(k+1)) ((((RD A k).1 k k:Int):Rat)*ρ' i j):=fun i j hi hj=>by
  rw [hp']
  exact zkl (by omega) hM (by omega) hA sol i j hi hj
 have wl:∀ i j,k<i→i<m→j≤m→∃ z:Int,(((RD A k).1 k k:Int):Rat)*((A i j:Rat)-sm (k+1) (fun l=>(A i l:Rat)*ρ' l j))=z:=fun i j hi him hj=>by
  have e:(((RD A k).1 k k:Int):Rat)*((A i j:Rat)-sm (k+1) (fun l=>(A i l:Rat)*ρ' l j))=(((RD A k).1 k k:Int):Rat)*(A i j:Rat)-sm (k+1) (fun l=>(A i l:Rat)*((((RD A k).1 k k:Int):Rat)*ρ' l j)):=by
   have:=zhw (((RD A k).1 k k:Int):Rat) (fun l=>(A i l:Rat)*ρ' l j) (k+1)
   have h2:sm (k+1) (fun l=>(A i l:Rat)*((((RD A k).1 k k:Int):Rat)*ρ' l j))=sm (k+1) (fun l=>(((RD A k).1 k k:Int):Rat)*((A i l:Rat)*ρ' l j)):=zbF _ fun l _=>by grind
   rw [h2,this]
   grind
  rw [e]
  have h1:=((Zb.of ((RD A k).1 k k)).mul (Zb.of (A i j))).sub (Zb.sm (k+1) (fun l hl=>((Zb.of (A i l)).mono (hA i l him (by omega))).mul (wu l j hl hj)))
  obtain ⟨z,hz,_⟩:=h1
  exact ⟨z,hz⟩
 refine ⟨ρ',sol,hp',nz,?_,?_⟩
 ·intro i j hi hj
  show ((st (RD A k).1 k (RD A k).2 i j:Int):Rat)=(((RD A k).1 k k:Int):Rat)*ρ' i j
  unfold st
  by_cases e:i=k
  ·rw [if_pos e,e,r2,hkj j hj]
  ·rw [if_neg e]
   obtain ⟨z,hz,_⟩:=wu i j hi hj
   have h1:=up i j (by omega) hj
   rw [hz] at h1
   rw [zm5 E.nz h1,hz]
 ·intro i j hi him hj
  show ((st (RD A k).1 k (RD A k).2 i j:Int):Rat)=(((RD A k).1 k k:Int):Rat)*((A i j:Rat)-sm (k+1) (fun l=>(A i l:Rat)*ρ' l j))
  unfold st
  rw [if_neg (by omega)]
  obtain ⟨z,hz⟩:=wl i j (by omega) him hj
  have h1:=lo i j (by omega) him hj
  rw [hz] at h1
  rw [zm5 E.nz h1,hz]
theorem ziw {A:Nat→Nat→Int} {M m:Nat} (an:zlv m (toQ A)) (hm:m≤7) (hM:1≤M) (hA:∀ i j,i<m→j≤m→(A i j).natAbs≤M):∀ k,k≤m→∃ ρ,Elim A m k ρ
 | 0,_=>⟨_,Elim.zero A m⟩
 | k+1,h=>by
  obtain ⟨ρ,E⟩:=ziw an hm hM hA k (by omega)
  exact E.step an (by omega) hm hM hA
theorem Elim.small {A:Nat→Nat→Int} {k M m:Nat} {ρ:Nat→Nat→Rat} (E:Elim A m k ρ) (hk:k≤m) (hm:m≤7) (hM:1≤M) (hA:∀ i j,i<m→j≤m→(A i j).natAbs≤M):(∀ i j,i<m→j≤m→((RD A k).1 i j).natAbs≤(8*M)^(k+1))∧((RD A k).2).natAbs≤(8*M)^k:=by
 have key:∀ {z:Int} {B:Nat},Zb B (z:Rat)→z.natAbs≤B:=fun {z B} h=>by
  obtain ⟨y,e,b⟩:=h
  have:z=y:=by exact_mod_cast e
  rw [this];exact b
 have hu:∀ i j,i<k→j≤m→Zb ((8*M)^k) (((RD A k).2:Rat)*ρ i j):=fun i j hi hj=>by
  rw [E.det]
  exact zkl (by omega) hM hk hA E.sol i j hi hj
 have hd:Zb ((8*M)^k) ((RD A k).2:Rat):=by
  rw [E.det]
  exact zlw (by omega) hM hk hA
 refine ⟨fun i j hi hj=>key ?_,key hd⟩
 by_cases h:i<k
 ·rw [E.up i j h hj]
  refine (hu i j h hj).mono (Nat.pow_le_pow_right (by omega) (by omega))
 ·rw [E.lo i j (by omega) hi hj]
  have e:((RD A k).2:Rat)*((A i j:Rat)-sm k (fun l=>(A i l:Rat)*ρ l j))=((RD A k).2:Rat)*(A i j:Rat)-sm k (fun l=>(A i l:Rat)*(((RD A k).2:Rat)*ρ l j)):=by
   have:=zhw ((RD A k).2:Rat) (fun l=>(A i l:Rat)*ρ l j) k
   have h2:sm k (fun l=>(A i l:Rat)*(((RD A k).2:Rat)*ρ l j))=sm k (fun l=>((RD A k).2:Rat)*((A i l:Rat)*ρ l j)):=zbF _ fun l _=>by grind
   rw [h2,this]
   grind
  rw [e]
  have h1:=(hd.mul ((Zb.of (A i j)).mono (hA i j hi hj))).sub (Zb.sm k (fun l hl=>((Zb.of (A i l)).mono (hA i l hi (by omega))).mul (hu l j hl hj)))
  refine h1.mono ?_
  rw [Nat.pow_succ]
  have e3:(8*M)^k*M+k*(M*(8*M)^k)=(k+1)*(M*(8*M)^k):=by rw [Nat.add_mul,Nat.one_mul,Nat.mul_comm ((8*M)^k) M,Nat.add_comm]
  have e4:(8*M)^k*(8*M)=8*(M*(8*M)^k):=by rw [Nat.mul_comm,Nat.mul_assoc]
  rw [e3,e4]
  exact Nat.mul_le_mul (by omega) (Nat.le_refl _)
theorem zol {A:Nat→Nat→Int} {M m:Nat} (an:zlv m (toQ A)) (hm:m≤7) (hM:1≤M) (hA:∀ i j,i<m→j≤m→(A i j).natAbs≤M):∃ x:Nat→Rat,(∀ r,r<m→sm m (fun l=>(A r l:Rat)*x l)=(A r m:Rat))∧(∀ i,i<m→(RD A m).1 i i=(RD A m).2∧(((RD A m).1 i m:Int):Rat)=((RD A m).2:Rat)*x i)∧(RD A m).2≠0:=by
 obtain ⟨ρ,E⟩:=ziw an hm hM hA m (Nat.le_refl _)
 refine ⟨fun l=>ρ l m,fun r hr=>(E.sol m r hr).symm,fun i hi=>⟨?_,E.up i m hi (Nat.le_refl _)⟩,E.nz⟩
 have h1:ρ i i=1:=by
  have:=an (fun l=>ρ l i-if l=i then 1 else 0) (zdY m fun r hr=>by
   have h2:sm m (fun j=>toQ A r j*(ρ j i-if j=i then 1 else 0))=0:=by
    rw [zbF (g:=fun j=>toQ A r j*ρ j i-toQ A r j*(if j=i then 1 else 0)) m (fun j _=>by grind),zfN,← E.sol i r hr,zhv (k:=i) m hi (fun j _ hj=>by rw [if_neg hj];grind),if_pos rfl]
    simp only [toQ]
    grind
   rw [h2]
   grind) i hi
  simp only [if_pos] at this
  grind
 have h2:=E.up i i hi (by omega)
 rw [h1] at h2
 have:(((RD A m).1 i i:Int):Rat)=(((RD A m).2:Int):Rat):=by rw [h2];grind
 exact_mod_cast this
end Bz
namespace St
open Mp Bz
def sp {α:Type}:List α→(α→Rat)→Rat
 | [],_=>0
 | p::r,f=>f p+sp r f
theorem zdb {α:Type} {f g:α→Rat}:∀ {ps:List α},(∀ p∈ps,f p=g p)→sp ps f=sp ps g
 | [],_=>rfl
 | p::r,h=>by simp only [sp];rw [h p (by simp),zdb fun q hq=>h q (by simp [hq])]
theorem zl5 {α:Type} (f g:α→Rat):∀ (ps:List α),sp ps (fun p=>f p-g p)=sp ps f-sp ps g
 | []=>by simp only [sp];grind
 | p::r=>by simp only [sp];rw [zl5 f g r];grind
theorem zhs {α:Type} (c:Rat) (f:α→Rat):∀ (ps:List α),sp ps (fun p=>c*f p)=c*sp ps f
 | []=>by simp only [sp];grind
 | p::r=>by simp only [sp];rw [zhs c f r];grind
theorem zgs {α:Type} {f:α→Rat}:∀ {ps:List α},(∀ p∈ps,f p=0)→sp ps f=0
 | [],_=>rfl
 | p::r,h=>by simp only [sp];rw [h p (by simp),zgs fun q hq=>h q (by simp [hq])];grind
theorem zi6 {α:Type} {f:α→Rat}:∀ {ps:List α},(∀ p∈ps,0≤f p)→0≤sp ps f
 | [],_=>by simp only [sp];grind
 | p::r,h=>by
  have h1:=h p (by simp)
  have h2:=zi6 (f:=f) (ps:=r) fun q hq=>h q (List.mem_cons_of_mem _ hq)
  simp only [sp]
  grind
theorem zgu {α:Type} {f:α→Rat}:∀ {ps:List α},(∀ p∈ps,0≤f p)→sp ps f=0→∀ p∈ps,f p=0
 | [],_,_,p,hp=>by simp at hp
 | q::r,h,e,p,hp=>by
  have h1:=h q (by simp)
  have h2:=zi6 (f:=f) (ps:=r) fun q' hq=>h q' (List.mem_cons_of_mem _ hq)
  simp only [sp] at e
  rcases List.mem_cons.mp hp with rfl | hp
  ·grind
  ·exact zgu (fun q' hq=>h q' (by simp [hq])) (by grind) p hp
theorem zgt {α:Type} (f:α→Rat):∀ (ps qs:List α),sp (ps++qs) f=sp ps f+sp qs f
 | [],qs=>by simp only [sp,List.nil_append];grind
 | p::r,qs=>by simp only [sp,List.cons_append];rw [zgt f r qs];grind
theorem znj {α:Type} (f:Nat→α→Rat) (n:Nat):∀ (ps:List α),sm n (fun i=>sp ps (f i))=sp ps (fun p=>sm n (fun i=>f i p))
 | []=>zdY n fun _ _=>rfl
 | p::r=>by simp only [sp];rw [zoA,znj f n r]
def ind (c:Prop) [Decidable c]:Rat:=if c then 1 else 0
theorem zdF {c:Prop} [Decidable c] (h:c):ind c=1:=if_pos h
theorem zcC {c:Prop} [Decidable c] (h:¬ c):ind c=0:=if_neg h
def ease (p:Pipe):Rat:=(p.b:Rat)/(p.a:Rat)
def hard (p:Pipe):Rat:=(p.a:Rat)/(p.b:Rat)
def sg (p:Pipe) (i:Int):Rat:=ind (p.u=i)-ind (p.w=i)
def Lap (ps:List Pipe) (h:Int→Rat) (i:Int):Rat:=sp ps (fun p=>sg p i*(ease p*(h p.u-h p.w)))
structure Nice (n:Nat) (ps:List Pipe):Prop where
 fits:Fits n ps
 ne:∀ p∈ps,p.u≠p.w
 a1:∀ p∈ps,1≤p.a
 b1:∀ p∈ps,1≤p.b
theorem zfT {a:Int} (h:1≤a):(0:Rat)<(a:Rat):=by exact_mod_cast (show (0:Int)<a by omega)
theorem zk6 {p:Pipe} (ha:1≤p.a) (hb:1≤p.b):0<ease p:=by
 have h1:=zfT ha
 have h2:=zfT hb
 unfold ease
 rw [Rat.div_def]
 exact Rat.mul_pos h2 (Rat.inv_pos.mpr h1)
theorem zk1 {p:Pipe} (ha:1≤p.a) (hb:1≤p.b):0<hard p:=by
 have h1:=zfT ha
 have h2:=zfT hb
 unfold hard
 rw [Rat.div_def]
 exact Rat.mul_pos h1 (Rat.inv_pos.mpr h2)
theorem zfk {p:Pipe} (ha:1≤p.a) (hb:1≤p.b):ease p*hard p=1:=by
 have h1:=zfT ha
 have h2:=zfT hb
 unfold ease hard
 grind
theorem zks (n:Nat) (g:Int→Rat) {x:Int} (hx:0≤x∧x<n):sm n (fun i=>g i*ind (x=(i:Int)))=g x:=by
 obtain ⟨k,rfl⟩:=Int.eq_ofNat_of_zero_le hx.1
 rw [zhv (k:=k) n (by omega) fun i _ hne=>by rw [zcC (by omega)];grind]
 rw [zdF rfl]
 grind
theorem zrh (n:Nat) (g:Int→Rat) {p:Pipe} (hu:0≤p.u∧p.u<n) (hw:0≤p.w∧p.w<n):sm n (fun i=>g i*sg p i)=g p.u-g p.w:=by
 have h1:=zks n g hu
 have h2:=zks n g hw
 rw [← h1,← h2,← zfN]
 exact zbF n fun i _=>by unfold sg;grind
theorem green {n:Nat} {ps:List Pipe} (f:Fits n ps) (g h:Int→Rat):sm n (fun i=>g i*Lap ps h i)=sp ps (fun p=>ease p*(h p.u-h p.w)*(g p.u-g p.w)):=by
 have e:sm n (fun i=>g i*Lap ps h i)=sm n (fun i=>sp ps (fun p=>g i*sg p i*(ease p*(h p.u-h p.w)))):=zbF n fun i _=>by
  unfold Lap
  rw [← zhs]
  exact zdb fun p _=>by grind
 rw [e,znj]
 refine zdb fun p hp=>?_
 rw [zhQ,zrh n g (f p hp).1 (f p hp).2]
 grind
theorem sq_nonneg (x:Rat):0≤x*x:=by
 by_cases h:0≤x
 ·exact Rat.mul_nonneg h h
 ·have:0≤-x:=by grind
  have:=Rat.mul_nonneg this this
  grind
theorem zoY {x:Rat} (h:x*x=0):x=0:=by
 rcases Rat.mul_eq_zero.mp h with h | h <;> exact h
theorem zpQ (ps:List Pipe) (g h:Int→Rat) (i:Int):Lap ps (fun x=>g x-h x) i=Lap ps g i-Lap ps h i:=by
 unfold Lap
 rw [← zl5]
 exact zdb fun p _=>by grind
theorem zpS (ps:List Pipe) (c:Rat) (h:Int→Rat) (i:Int):Lap ps (fun x=>c*h x) i=c*Lap ps h i:=by
 unfold Lap
 rw [← zhs]
 exact zdb fun p _=>by grind
theorem zm4 {n:Nat} {ps:List Pipe} (nc:Nice n ps) {g:Int→Rat} (e:sp ps (fun p=>ease p*(g p.u-g p.w)*(g p.u-g p.w))=0) {x y:Int} (r:Reach ps x y):g y=g x:=by
 have h:=zgu (fun p hp=>by
  have h1:=sq_nonneg (g p.u-g p.w)
  have h2:=Rat.mul_nonneg (Rat.le_of_lt (zk6 (nc.a1 p hp) (nc.b1 p hp))) h1
  grind) e
 have key:∀ p∈ps,g p.u=g p.w:=fun p hp=>by
  have h1:=h p hp
  have h2:=zk6 (nc.a1 p hp) (nc.b1 p hp)
  have h3:ease p*((g p.u-g p.w)*(g p.u-g p.w))=0:=by grind
  rcases Rat.mul_eq_zero.mp h3 with z | z
  ·rw [z] at h2;grind
  ·have:=zoY z
   grind
 induction r with
 | refl=>rfl
 | step _ a ih =>
  obtain ⟨p,hp,q⟩:=a
  rcases q with ⟨rfl,rfl⟩ | ⟨rfl,rfl⟩
  ·rw [← ih,key p hp]
  ·rw [← ih,key p hp]
structure IsH (n:Nat) (ps:List Pipe) (one other:Int) (h:Int→Rat):Prop where
 far:∀ x,x=other∨¬ Reach ps other x→h x=0
 har:∀ i:Int,0≤i∧i<n→Lap ps h i=ind (i=one)-ind (i=other)
theorem IsH.unique {n:Nat} {ps:List Pipe} (nc:Nice n ps) {one other:Int} {g h:Int→Rat} (hg:IsH n ps one other g) (hh:IsH n ps one other h):g=h:=by
 have e0:∀ i:Nat,i<n→(g i-h i)*Lap ps (fun x=>g x-h x) i=0:=fun i hi=>by
  rw [zpQ,hg.har i (by omega),hh.har i (by omega)]
  grind
 have e1:=green nc.fits (fun x=>g x-h x) (fun x=>g x-h x)
 rw [zdY n e0] at e1
 funext x
 by_cases r:Reach ps other x
 ·have h1:=zm4 nc (g:=fun x=>g x-h x) e1.symm r
  have h2:=hg.far other (.inl rfl)
  have h3:=hh.far other (.inl rfl)
  grind
 ·rw [hg.far x (.inr r),hh.far x (.inr r)]
def lk:List Int→(Nat→Rat)→Int→Rat
 | [],_,_=>0
 | a::r,x,y=>if y=a then x 0 else lk r (fun i=>x (i+1)) y
theorem zh8 {fr:List Int}:∀ {x:Nat→Rat} {y:Int},y∉fr→lk fr x y=0:=by
 induction fr with
 | nil=>intro _ _ _;rfl
 | cons a r ih =>
  intro x y h
  simp only [lk]
  rw [if_neg (fun e=>h (by simp [e])),ih (fun e=>h (by simp [e]))]
theorem zlc {fr:List Int}:∀ {x:Nat→Rat} {i:Nat} {y:Int},fr.Nodup→fr[i]? = some y→lk fr x y=x i:=by
 induction fr with
 | nil=>intro _ _ _ _ h;simp at h
 | cons a r ih =>
  intro x i y nd h
  obtain ⟨n1,n2⟩:=List.nodup_cons.mp nd
  cases i with
  | zero=>simp at h;subst h;exact if_pos rfl
  | succ i =>
   simp at h
   have hm:y∈r:=List.mem_of_getElem? h
   simp only [lk]
   rw [if_neg (fun e:y=a=>n1 (e▸hm)),ih n2 h]
theorem znk {fr:List Int} (nd:fr.Nodup) (x:Nat→Rat) (y:Int):sm fr.length (fun j=>ind (y=fr.getD j 0)*x j)=lk fr x y:=by
 by_cases h:y∈fr
 ·obtain ⟨i,hi⟩:=List.mem_iff_getElem?.mp h
  rw [zlc nd hi]
  have hl:=(List.getElem?_eq_some_iff.mp hi).1
  rw [zhv (k:=i) _ hl fun j hj hne=>by
   rw [zcC fun e=>hne ?_]
   ·grind
   ·have h1:fr[j]? = some y:=by rw [e,List.getD_eq_getElem?_getD,List.getElem?_eq_getElem hj];rfl
    exact (List.getElem?_inj hj nd).mp (h1.trans hi.symm)]
  rw [zdF (by rw [List.getD_eq_getElem?_getD,hi];rfl)]
  grind
 ·rw [zh8 h]
  refine zdY _ fun j hj=>?_
  rw [zcC fun e=>h ?_]
  ·grind
  ·rw [e,List.getD_eq_getElem?_getD,List.getElem?_eq_getElem hj]
   exact List.getElem_mem hj
def zs:List Pipe→(Pipe→Int)→Int
 | [],_=>0
 | p::r,f=>f p+zs r f
def cz (S:Int) (p:Pipe):Int:=S/p.a*p.b
def touch (y:Int) (p:Pipe):Bool:=decide (y=p.u)||decide (y=p.w)
def betw (y z:Int) (p:Pipe):Bool:=(decide (p.u=y)&&decide (p.w=z))||(decide (p.u=z)&&decide (p.w=y))
def zca (ps:List Pipe) (S:Int) (y z:Int):Int:=if y=z then zs (ps.filter (touch y)) (cz S) else-zs (ps.filter (betw y z)) (cz S)
theorem zoj {ps:List Pipe} (hne:∀ p∈ps,p.u≠p.w) (S y z:Int):((zca ps S y z:Int):Rat)=sp ps (fun p=>(cz S p:Rat)*(sg p y*sg p z)):=by
 induction ps with
 | nil=>unfold zca;split <;> rfl
 | cons p r ih =>
  have ih:=ih fun q hq=>hne q (by simp [hq])
  have hp:=hne p (by simp)
  unfold zca at ih ⊢
  simp only [sp]
  rw [← ih]
  unfold touch betw sg ind
  by_cases e:y=z
  ·subst e
   rw [if_pos rfl,if_pos rfl,List.filter_cons]
   by_cases h1:p.u=y
   ·have h2:¬ p.w=y:=fun e=>hp (h1.trans e.symm)
    rw [if_pos (by simp [h1])]
    simp only [zs,h1,h2,if_true,if_false]
    rw [Rat.intCast_add]
    grind
   ·by_cases h2:p.w=y
    ·rw [if_pos (by simp [h2])]
     simp only [zs,h1,h2,if_true,if_false]
     rw [Rat.intCast_add]
     grind
    ·rw [if_neg (by simp;exact ⟨fun e=>h1 e.symm,fun e=>h2 e.symm⟩)]
     simp only [h1,h2,if_false]
     grind
  ·rw [if_neg e,if_neg e,List.filter_cons]
   by_cases h1:p.u=y
   ·have h2:¬ p.w=y:=fun e=>hp (h1.trans e.symm)
    have h3:¬ p.u=z:=fun e'=>e (h1.symm.trans e')
    by_cases h4:p.w=z
    ·rw [if_pos (by simp [h1,h4])]
     simp only [zs,h1,h2,h3,h4,e,if_true,if_false]
     rw [Rat.intCast_neg,Rat.intCast_add,Rat.intCast_neg]
     have e':¬ z=y:=fun q=>e q.symm
     simp only [e',if_false]
     grind
    ·rw [if_neg (by simp [h1,h4,e])]
     simp only [h1,h2,h3,h4,e,if_true,if_false]
     grind
   ·by_cases h2:p.w=y
    ·have h3:¬ p.w=z:=fun e'=>e (h2.symm.trans e')
     by_cases h4:p.u=z
     ·rw [if_pos (by simp [h2,h4])]
      simp only [zs,h1,h2,h3,h4,e,if_true,if_false]
      rw [Rat.intCast_neg,Rat.intCast_add,Rat.intCast_neg]
      have e':¬ z=y:=fun q=>e q.symm
      simp only [e',if_false]
      grind
     ·rw [if_neg (by simp [h1,h4])]
      simp only [h1,h2,h3,h4,e,if_true,if_false]
      grind
    ·rw [if_neg (by simp [h1,h2])]
     simp only [h1,h2,if_false]
     grind
theorem zmH {S:Int} {p:Pipe} (ha:1≤p.a) (hd:p.a∣S):((cz S p:Int):Rat)=(S:Rat)*ease p:=by
 obtain ⟨k,rfl⟩:=hd
 have h1:=zfT ha
 unfold cz ease
 rw [Int.mul_ediv_cancel_left k (by omega),Rat.intCast_mul,Rat.intCast_mul]
 grind
section
variable {n:Nat} {ps:List Pipe} {other:Int} {fr:List Int} {S:Int}
structure Free (ps:List Pipe) (other:Int) (fr:List Int):Prop where
 nd:fr.Nodup
 mem:∀ x,x∈fr↔Reach ps other x∧x≠other
theorem zlL (nc:Nice n ps) (hS:∀ p∈ps,p.a∣S) (nd:fr.Nodup) (x:Nat→Rat) (y:Int):sm fr.length (fun j=>((zca ps S y (fr.getD j 0):Int):Rat)*x j)=(S:Rat)*Lap ps (lk fr x) y:=by
 rw [zbF (g:=fun j=>sp ps (fun p=>(cz S p:Rat)*(sg p y*sg p (fr.getD j 0))*x j)) _ (fun j _=>by
  rw [zoj nc.ne,Rat.mul_comm,← zhs]
  exact zdb fun p _=>by grind),znj]
 unfold Lap
 rw [← zhs]
 refine zdb fun p hp=>?_
 have h1:sm fr.length (fun j=>(cz S p:Rat)*(sg p y*sg p (fr.getD j 0))*x j)=sm fr.length (fun j=>((cz S p:Rat)*sg p y)*(ind (p.u=fr.getD j 0)*x j-ind (p.w=fr.getD j 0)*x j)):=zbF _ fun j _=>by unfold sg;grind
 rw [h1,zhw,zfN,znk nd,znk nd,zmH (nc.a1 p hp) (hS p hp)]
 grind
theorem zor (nc:Nice n ps) (hS:∀ p∈ps,p.a∣S) (h0:0<S) (hfr:Free ps other fr) (A:Nat→Nat→Int) (hA:∀ i j,i<fr.length→j<fr.length→A i j=zca ps S (fr.getD i 0) (fr.getD j 0)):zlv fr.length (toQ A):=by
 intro x e
 have hS0:(S:Rat)≠0:=zeB (by omega)
 have e1:sm fr.length (fun i=>x i*sm fr.length (fun j=>toQ A i j*x j))=(S:Rat)*sm fr.length (fun i=>x i*Lap ps (lk fr x) (fr.getD i 0)):=by
  rw [← zhw]
  refine zbF _ fun i hi=>?_
  have:sm fr.length (fun j=>toQ A i j*x j)=(S:Rat)*Lap ps (lk fr x) (fr.getD i 0):=by
   rw [← zlL nc hS hfr.nd x (fr.getD i 0)]
   exact zbF _ fun j hj=>by simp only [toQ];rw [hA i j hi hj]
  rw [this]
  grind
 have e2:sm fr.length (fun i=>x i*Lap ps (lk fr x) (fr.getD i 0))=sp ps (fun p=>ease p*(lk fr x p.u-lk fr x p.w)*(lk fr x p.u-lk fr x p.w)):=by
  unfold Lap
  rw [zbF (g:=fun i=>sp ps (fun p=>(ind (p.u=fr.getD i 0)*x i-ind (p.w=fr.getD i 0)*x i)*(ease p*(lk fr x p.u-lk fr x p.w)))) _ (fun i _=>by
   rw [← zhs]
   exact zdb fun p _=>by unfold sg;grind),znj]
  refine zdb fun p _=>?_
  rw [zhQ,zfN,znk hfr.nd,znk hfr.nd]
  grind
 rw [e1] at e
 rcases Rat.mul_eq_zero.mp e with z | z
 ·exact absurd z hS0
 ·rw [e2] at z
  intro i hi
  have hy:fr[i]? = some (fr.getD i 0):=by rw [List.getD_eq_getElem?_getD,List.getElem?_eq_getElem hi];rfl
  have hm:=(hfr.mem _).mp (List.mem_of_getElem? hy)
  have h1:=zm4 nc z hm.1
  have h2:lk fr x other=0:=zh8 fun q=>((hfr.mem _).mp q).2 rfl
  rw [h2,zlc hfr.nd hy] at h1
  exact h1
theorem zqF (nc:Nice n ps) (hS:∀ p∈ps,p.a∣S) (h0:0<S) (hfr:Free ps other fr) {one:Int} (ho:0≤other∧other<n) (hr:Reach ps other one) (x:Nat→Rat) (hx:∀ i,i<fr.length→sm fr.length (fun j=>((zca ps S (fr.getD i 0) (fr.getD j 0):Int):Rat)*x j)=(S:Rat)*ind (fr.getD i 0=one)):IsH n ps one other (lk fr x):=by
 have hS0:(S:Rat)≠0:=zeB (by omega)
 have far:∀ y,y=other∨¬ Reach ps other y→lk fr x y=0:=fun y hy=>zh8 fun q=>by
  have:=(hfr.mem _).mp q
  rcases hy with h | h
  ·exact this.2 h
  ·exact h this.1
 have key:∀ i:Int,(0≤i∧i<n)→i≠other→Lap ps (lk fr x) i=ind (i=one):=fun i hi hne=>by
  by_cases r:Reach ps other i
  ·obtain ⟨k,hk⟩:=List.mem_iff_getElem?.mp ((hfr.mem i).mpr ⟨r,hne⟩)
   have hl:=(List.getElem?_eq_some_iff.mp hk).1
   have hg:fr.getD k 0=i:=by rw [List.getD_eq_getElem?_getD,hk];rfl
   have h1:=hx k hl
   rw [zlL nc hS hfr.nd,hg] at h1
   grind
  ·rw [zcC fun e:i=one=>r (e▸hr)]
   unfold Lap
   refine zgs fun p hp=>?_
   by_cases hu:p.u=i
   ·have h1:¬ Reach ps other p.w:=fun q=>r (.step q ⟨p,hp,.inr ⟨rfl,hu⟩⟩)
    rw [far p.u (.inr (hu▸r)),far p.w (.inr h1)]
    grind
   ·by_cases hw:p.w=i
    ·have h1:¬ Reach ps other p.u:=fun q=>r (.step q ⟨p,hp,.inl ⟨rfl,hw⟩⟩)
     rw [far p.w (.inr (hw▸r)),far p.u (.inr h1)]
     grind
    ·unfold sg
     rw [zcC hu,zcC hw]
     grind
 have hone:=hr.fits nc.fits ho
 refine ⟨far,fun i hi=>?_⟩
 by_cases hne:i=other
 ·subst hne
  have e1:=green nc.fits (fun _=>1) (lk fr x)
  rw [zgs (fun p _=>by grind)] at e1
  have e2:sm n (fun j=>Lap ps (lk fr x) j-(1*ind (one=(j:Int))-1*ind (i=(j:Int))))=0:=by
   rw [zfN,zfN,zks n (fun _=>1) hone,zks n (fun _=>1) hi]
   have:sm n (fun j=>Lap ps (lk fr x) j)=sm n (fun j=>1*Lap ps (lk fr x) j):=zbF n fun _ _=>by grind
   rw [this,e1]
   grind
  obtain ⟨k,rfl⟩:=Int.eq_ofNat_of_zero_le hi.1
  rw [zhv (k:=k) n (by omega) fun j hj hjk=>by
   rw [key j (by omega) (by omega),zcC (show ¬ ((k:Int)=(j:Int)) by omega)]
   have:ind ((j:Int)=one)=ind (one=(j:Int)):=by
    by_cases q:(j:Int)=one
    ·rw [zdF q,zdF q.symm]
    ·rw [zcC q,zcC fun z=>q z.symm]
   rw [this]
   grind] at e2
  have:ind ((k:Int)=one)=ind (one=(k:Int)):=by
   by_cases q:(k:Int)=one
   ·rw [zdF q,zdF q.symm]
   ·rw [zcC q,zcC fun z=>q z.symm]
  rw [this,zdF (show (k:Int)=(k:Int) from rfl)] at *
  grind
 ·rw [key i hi hne,zcC hne]
  grind
end
end St
namespace St
open Mp Bz
open Classical in
noncomputable def hOf (n:Nat) (ps:List Pipe) (one other:Int):Int→Rat:=if h:∃ g,IsH n ps one other g then Classical.choose h else fun _=>0
theorem zm2 {n:Nat} {ps:List Pipe} (nc:Nice n ps) {one other:Int} {g:Int→Rat} (h:IsH n ps one other g):hOf n ps one other=g:=by
 unfold hOf
 have e:∃ g,IsH n ps one other g:=⟨g,h⟩
 rw [dif_pos e]
 exact IsH.unique nc (Classical.choose_spec e) h
def zez (s:Int) (p:Pipe):Int:=(s*p.a).fdiv (Int.gcd s p.a:Int)
def zaD (ps:List Pipe):Int:=ps.foldl zez 1
theorem zqq {g c x:Int} (hg:0<g) (hx:0<x) (e:x=g*c):0<c:=by
 rcases Int.lt_trichotomy 0 c with q | q | q
 ·exact q
 ·rw [← q,Int.mul_zero] at e;omega
 ·have:=Int.mul_neg_of_pos_of_neg hg q;omega
theorem zng {s:Int} {p:Pipe} (hs:0<s) (ha:1≤p.a):0<zez s p∧s∣zez s p∧p.a∣zez s p∧zez s p≤s*p.a:=by
 have hg:0<(Int.gcd s p.a:Int):=by
  have:=Int.gcd_pos_of_ne_zero_left p.a (show s≠0 by omega)
  omega
 obtain ⟨c,hc⟩:=Int.gcd_dvd_left s p.a
 obtain ⟨d,hd⟩:=Int.gcd_dvd_right s p.a
 have e:zez s p=s*d:=by
  unfold zez
  have:s*p.a=(Int.gcd s p.a:Int)*(s*d):=by
   rw [show (Int.gcd s p.a:Int)*(s*d)=s*((Int.gcd s p.a:Int)*d) by grind,← hd]
  rw [this]
  exact Int.mul_fdiv_cancel_left _ (by omega)
 have d0:0<d:=zqq hg (by omega) hd
 have da:d≤p.a:=by
  have:=Int.mul_le_mul_of_nonneg_right (show (1:Int)≤(Int.gcd s p.a:Int) by omega) (Int.le_of_lt d0)
  omega
 rw [e]
 refine ⟨Int.mul_pos hs d0,⟨d,rfl⟩,⟨c,?_⟩,Int.mul_le_mul_of_nonneg_left da (by omega)⟩
 have:s*d=(Int.gcd s p.a:Int)*c*d:=by rw [← hc]
 rw [this]
 have h2:p.a*c=(Int.gcd s p.a:Int)*d*c:=by rw [← hd]
 rw [h2]
 grind
theorem zhx (ka:Nat):∀ (ps:List Pipe) (s:Int),0<s→(∀ p∈ps,1≤p.a∧p.a≤2^ka)→0<ps.foldl zez s∧s∣ps.foldl zez s∧(∀ p∈ps,p.a∣ps.foldl zez s)∧ps.foldl zez s≤s*2^(ka*ps.length)
 | [],s,hs,_=>⟨hs,Int.dvd_refl _,fun _ h=>by simp at h,by simp⟩
 | p::r,s,hs,h=>by
  obtain ⟨h1,h2⟩:=h p (by simp)
  obtain ⟨a1,a2,a3,a4⟩:=zng hs h1
  obtain ⟨b1,b2,b3,b4⟩:=zhx ka r (zez s p) a1 fun q hq=>h q (by simp [hq])
  refine ⟨b1,Int.dvd_trans a2 b2,fun q hq=>?_,?_⟩
  ·rcases List.mem_cons.mp hq with rfl | hq
   ·exact Int.dvd_trans a3 b2
   ·exact b3 q hq
  ·show r.foldl zez (zez s p)≤s*2^(ka*(r.length+1))
   have h5:zez s p≤s*2^ka:=Int.le_trans a4 (Int.mul_le_mul_of_nonneg_left h2 (by omega))
   have h6:(0:Int)≤2^(ka*r.length):=Int.le_of_lt (Int.pow_pos (by decide))
   have h7:=Int.mul_le_mul_of_nonneg_right h5 h6
   rw [Nat.mul_succ,Nat.add_comm,Int.pow_add,← Int.mul_assoc]
   omega
theorem zgy {ps:List Pipe} {ka:Nat} (h:∀ p∈ps,1≤p.a∧p.a≤2^ka):0<zaD ps∧(∀ p∈ps,p.a∣zaD ps)∧zaD ps≤2^(ka*ps.length):=by
 obtain ⟨a,_,b,c⟩:=zhx ka ps 1 (by decide) h
 exact ⟨a,b,by rw [Int.one_mul] at c;exact c⟩
theorem zj6 {ps:List Pipe} {i:Nat} {p:Pipe} (h:ps[i]? = some p):zaD (ps.take (i+1))=zez (zaD (ps.take i)) p:=by
 unfold zaD
 rw [List.take_succ,h,List.foldl_append]
 rfl
theorem zpY {f:Pipe→Int} {B:Nat}:∀ (ps:List Pipe),(∀ p∈ps,(f p).natAbs≤B)→(zs ps f).natAbs≤ps.length*B
 | [],_=>by simp [zs]
 | p::r,h=>by
  have h1:=h p (by simp)
  have h2:=zpY r fun q hq=>h q (by simp [hq])
  simp only [zs,List.length_cons]
  rw [Nat.succ_mul]
  omega
theorem zqR {S:Int} {p:Pipe} {ks kb:Nat} (h0:0<S) (hS:S≤2^ks) (ha:1≤p.a) (hb:1≤p.b) (hb2:p.b≤2^kb):(cz S p).natAbs≤2^(ks+kb):=by
 have h1:0≤S/p.a:=Int.ediv_nonneg (by omega) (by omega)
 have h2:S/p.a≤S:=Int.ediv_le_self _ (by omega)
 have h3:S/p.a*p.b≤2^ks*2^kb:=Int.mul_le_mul (Int.le_trans h2 hS) hb2 (by omega) (Int.le_of_lt (Int.pow_pos (by decide)))
 have h4:0≤S/p.a*p.b:=Int.mul_nonneg h1 (by omega)
 unfold cz
 have h5:(2:Int)^ks*2^kb=((2^(ks+kb):Nat):Int):=by rw [← Int.pow_add];norm_cast
 omega
theorem zok {ps:List Pipe} {S:Int} {ks kb:Nat} (h0:0<S) (hS:S≤2^ks) (ha:∀ p∈ps,1≤p.a) (hb:∀ p∈ps,1≤p.b∧p.b≤2^kb) (hl:ps.length≤31) (y z:Int):(zca ps S y z).natAbs≤2^(ks+kb+5):=by
 have key:∀ (f:Pipe→Bool),(zs (ps.filter f) (cz S)).natAbs≤2^(ks+kb+5):=fun f=>by
  have h1:=zpY (f:=cz S) (B:=2^(ks+kb)) (ps.filter f) fun p hp=>by
   have:=(List.mem_filter.mp hp).1
   exact zqR h0 hS (ha p this) (hb p this).1 (hb p this).2
  have h2:=List.length_filter_le f ps
  refine Nat.le_trans h1 ?_
  have e5:2^(ks+kb+5)=32*2^(ks+kb):=by rw [Nat.pow_add 2 (ks+kb) 5,Nat.mul_comm]
  rw [e5]
  exact Nat.mul_le_mul (by omega) (Nat.le_refl _)
 unfold zca
 split
 ·exact key _
 ·rw [Int.natAbs_neg]
  exact key _
def aug (ps:List Pipe) (S:Int) (fr:List Int) (one:Int):Nat→Nat→Int:=fun i j=>if j<fr.length then zca ps S (fr.getD i 0) (fr.getD j 0) else if fr.getD i 0=one then S else 0
theorem znO {a b:Nat} (h:a≤b):(2:Nat)^a≤2^b:=Nat.pow_le_pow_right (by decide) h
section
variable {n:Nat} {ps:List Pipe} {other one:Int} {fr:List Int} {S:Int} {ks kb:Nat}
structure zjs (ps:List Pipe) (S:Int) (ks kb:Nat):Prop where
 pos:0<S
 le:S≤2^ks
 dv:∀ p∈ps,p.a∣S
 b2:∀ p∈ps,p.b≤2^kb
 len:ps.length≤31
theorem zmP (nc:Nice n ps) (sz:zjs ps S ks kb) (i j:Nat):(aug ps S fr one i j).natAbs≤2^(ks+kb+5):=by
 unfold aug
 split
 ·exact zok sz.pos sz.le nc.a1 (fun p hp=>⟨nc.b1 p hp,sz.b2 p hp⟩) sz.len _ _
 ·split
  ·have h1:S.natAbs≤2^ks:=by
    have:=sz.le
    have h0:=sz.pos
    have h5:(2:Int)^ks=((2^ks:Nat):Int):=by norm_cast
    omega
   exact Nat.le_trans h1 (znO (by omega))
  ·simp
theorem zjr (nc:Nice n ps) (sz:zjs ps S ks kb) (hfr:Free ps other fr):zlv fr.length (toQ (aug ps S fr one)) :=
 zor nc sz.dv sz.pos hfr _ fun i j _ hj=>by unfold aug;rw [if_pos hj]
theorem Free.len (nc:Nice n ps) (ho:0≤other∧other<n) (hfr:Free ps other fr):fr.length+1≤n:=by
 have h1:(other::fr).Nodup:=List.nodup_cons.mpr ⟨fun h=>((hfr.mem _).mp h).2 rfl,hfr.nd⟩
 have:=few n (other::fr) h1 fun x hx=>by
  rcases List.mem_cons.mp hx with rfl | hx
  ·exact ho
  ·exact ((hfr.mem _).mp hx).1.fits nc.fits ho
 simpa using this
noncomputable def xOf (ps:List Pipe) (S:Int) (fr:List Int) (one:Int) (i:Nat):Rat:=Rat.divInt ((RD (aug ps S fr one) fr.length).1 i fr.length) ((RD (aug ps S fr one) fr.length).1 i i)
theorem zhP (nc:Nice n ps) (h8:n≤8) (sz:zjs ps S ks kb) (hfr:Free ps other fr) (ho:0≤other∧other<n) (hr:Reach ps other one):IsH n ps one other (lk fr (xOf ps S fr one))∧(∀ i,i<fr.length→(RD (aug ps S fr one) fr.length).1 i i=(RD (aug ps S fr one) fr.length).2)∧(RD (aug ps S fr one) fr.length).2≠0:=by
 have hm:fr.length≤7:=by have:=hfr.len nc ho;omega
 obtain ⟨x,h1,h2,h3⟩:=zol (A:=aug ps S fr one) (M:=2^(ks+kb+5)) (zjr nc sz hfr) hm (Nat.one_le_two_pow) (fun i j _ _=>zmP nc sz i j)
 refine ⟨?_,fun i hi=>(h2 i hi).1,h3⟩
 have hx:∀ i,i<fr.length→xOf ps S fr one i=x i:=fun i hi=>by
  obtain ⟨e1,e2⟩:=h2 i hi
  unfold xOf
  rw [e1,Rat.divInt_eq_div,e2]
  have:=zeB h3
  grind
 refine zqF nc sz.dv sz.pos hfr ho hr _ fun i hi=>?_
 have h4:=h1 i hi
 have e3:((aug ps S fr one i fr.length:Int):Rat)=(S:Rat)*ind (fr.getD i 0=one):=by
  unfold aug ind
  rw [if_neg (by omega)]
  split
  ·grind
  ·have:((0:Int):Rat)=0:=rfl
   rw [this]
   grind
 rw [e3] at h4
 rw [← h4]
 refine zbF _ fun j hj=>?_
 rw [hx j hj]
 unfold aug
 rw [if_pos hj]
theorem zgx (nc:Nice n ps) (h8:n≤8) (sz:zjs ps S ks kb) (hfr:Free ps other fr) (ho:0≤other∧other<n) (k:Nat) (hk:k≤fr.length):(∀ i j,i<fr.length→j≤fr.length→((RD (aug ps S fr one) k).1 i j).natAbs≤2^(8*(ks+kb+8)))∧((RD (aug ps S fr one) k).2).natAbs≤2^(7*(ks+kb+8))∧(RD (aug ps S fr one) k).2≠0:=by
 have hm:fr.length≤7:=by have:=hfr.len nc ho;omega
 obtain ⟨ρ,E⟩:=ziw (A:=aug ps S fr one) (M:=2^(ks+kb+5)) (zjr nc sz hfr) hm (Nat.one_le_two_pow) (fun i j _ _=>zmP nc sz i j) k hk
 obtain ⟨h1,h2⟩:=E.small hk hm (Nat.one_le_two_pow) (fun i j _ _=>zmP nc sz i j)
 have e:8*2^(ks+kb+5)=2^(ks+kb+8):=by
  rw [show (8:Nat)=2^3 from rfl,← Nat.pow_add]
  congr 1
  omega
 rw [e] at h1 h2
 have q:∀ m,m≤8→(2^(ks+kb+8))^m≤2^(8*(ks+kb+8)):=fun m h=>by
  rw [← Nat.pow_mul,Nat.mul_comm]
  exact znO (Nat.mul_le_mul h (Nat.le_refl _))
 refine ⟨fun i j hi hj=>Nat.le_trans (h1 i j hi hj) (q _ (by omega)),Nat.le_trans h2 ?_,E.nz⟩
 rw [← Nat.pow_mul,Nat.mul_comm]
 exact znO (Nat.mul_le_mul (by omega) (Nat.le_refl _))
theorem zpC (nc:Nice n ps) (h8:n≤8) (sz:zjs ps S ks kb) (hfr:Free ps other fr) (ho:0≤other∧other<n) (hr:Reach ps other one):∃ N:Int,N≠0∧N.natAbs≤2^(7*(ks+kb+8))∧∀ y,∃ z:Int,hOf n ps one other y*(N:Rat)=z∧z.natAbs≤2^(8*(ks+kb+8)):=by
 obtain ⟨h1,h2,h3⟩:=zhP nc h8 sz hfr ho hr
 obtain ⟨s1,s2,_⟩:=zgx (one:=one) nc h8 sz hfr ho fr.length (Nat.le_refl _)
 refine ⟨(RD (aug ps S fr one) fr.length).2,h3,s2,fun y=>?_⟩
 rw [zm2 nc h1]
 by_cases hy:y∈fr
 ·obtain ⟨i,hi⟩:=List.mem_iff_getElem?.mp hy
  have hl:=(List.getElem?_eq_some_iff.mp hi).1
  refine ⟨(RD (aug ps S fr one) fr.length).1 i fr.length,?_,s1 i _ hl (Nat.le_refl _)⟩
  rw [zlc hfr.nd hi]
  unfold xOf
  rw [h2 i hl,Rat.divInt_eq_div,Rat.div_mul_cancel (zeB h3)]
 ·exact ⟨0,by rw [zh8 hy];grind,by simp⟩
theorem zpB (nc:Nice n ps) (h8:n≤8) (sz:zjs ps S ks kb) (hfr:Free ps other fr) (ho:0≤other∧other<n) (hr:Reach ps other one):IsH n ps one other (hOf n ps one other):=by
 have h1:=(zhP nc h8 sz hfr ho hr).1
 rw [zm2 nc h1]
 exact h1
end
end St
namespace St
open Mp Bz
theorem zp4 {fr:List Int} (nd:fr.Nodup) {i:Nat} {z:Int} (h:fr[i]? = some z) (x:Nat→Rat) (y:Int):lk (fr.take (i+1)) x y=if y=z then x i else lk (fr.take i) x y:=by
 have hl:=(List.getElem?_eq_some_iff.mp h).1
 have nd1:∀ k,(fr.take k).Nodup:=fun k=>List.Sublist.nodup (List.take_sublist k fr) nd
 by_cases e:y=z
 ·rw [if_pos e,e]
  exact zlc (nd1 _) (by rw [List.getElem?_take,if_pos (by omega),h])
 ·rw [if_neg e]
  by_cases hy:y∈fr.take i
  ·obtain ⟨k,hk⟩:=List.mem_iff_getElem?.mp hy
   rw [zlc (nd1 _) hk]
   have hk2:k<i∧fr[k]? = some y:=by
    rw [List.getElem?_take] at hk
    by_cases q:k<i
    ·rw [if_pos q] at hk;exact ⟨q,hk⟩
    ·rw [if_neg q] at hk;cases hk
   exact zlc (nd1 _) (by rw [List.getElem?_take,if_pos (by omega)];exact hk2.2)
  ·rw [zh8 hy,zh8]
   rw [List.take_succ,h]
   intro q
   rcases List.mem_append.mp q with q | q
   ·exact hy q
   ·exact e (by simpa using q)
theorem zpE {ps:List Pipe} {other:Int} {ms:List Int} (h:zfu ps other ms):Free ps other (ms.filter fun x=>!decide (x=other)):=by
 refine ⟨List.Pairwise.filter _ (List.Pairwise.imp (fun {a b} (q:a<b)=>by omega) h.1),fun x=>?_⟩
 rw [List.mem_filter,h.2 x]
 simp
theorem zkt {ps:List Pipe} {ka kb:Nat} (ha:∀ p∈ps,1≤p.a∧p.a≤2^ka) (hb:∀ p∈ps,p.b≤2^kb) {L:Nat} (hl:ps.length≤L) (h31:L≤31):zjs ps (zaD ps) (ka*L) kb:=by
 obtain ⟨h1,h2,h3⟩:=zgy ha
 refine ⟨h1,Int.le_trans h3 ?_,h2,hb,by omega⟩
 have:(2:Nat)^(ka*ps.length)≤2^(ka*L):=znO (Nat.mul_le_mul (Nat.le_refl _) hl)
 exact_mod_cast this
end St
namespace St
open Mp Bz
section
variable {n:Nat} {ps:List Pipe} {one other:Int} {g h:Int→Rat}
open Classical in
theorem IsH.rev (nc:Nice n ps) (hh:IsH n ps one other h) (hr:Reach ps other one):IsH n ps other one (fun x=>if Reach ps other x then h one-h x else 0):=by
 refine ⟨fun x hx=>?_,fun i hi=>?_⟩
 ·rcases hx with rfl | hx
  ·show (if Reach ps other x then h x-h x else 0)=0
   split <;> grind
  ·show (if Reach ps other x then h one-h x else 0)=0
   rw [if_neg fun r=>hx (hr.symm.trans r)]
 ·have hL:Lap ps (fun x=>if Reach ps other x then h one-h x else 0) i = - Lap ps h i:=by
   have:Lap ps (fun x=>if Reach ps other x then h one-h x else 0) i=Lap ps (fun x=>(-1)*h x) i:=by
    unfold Lap
    refine zdb fun p hp=>?_
    by_cases r:Reach ps other p.u
    ·have r2:Reach ps other p.w:=.step r ⟨p,hp,.inl ⟨rfl,rfl⟩⟩
     simp only [r,r2,if_true]
     grind
    ·have r2:¬ Reach ps other p.w:=fun z=>r (.step z ⟨p,hp,.inr ⟨rfl,rfl⟩⟩)
     simp only [r,r2,if_false]
     rw [hh.far _ (.inr r),hh.far _ (.inr r2)]
     grind
   rw [this,zpS]
   grind
  rw [hL,hh.har i hi]
  grind
end
def Dn (N:Int) (B:Nat) (q:Rat):Prop:=∃ z:Int,q*(N:Rat)=(z:Rat)∧z.natAbs≤B
theorem Dn.mono {N:Int} {B C:Nat} {q:Rat} (h:Dn N B q) (hc:B≤C):Dn N C q:=by
 obtain ⟨z,e,b⟩:=h
 exact ⟨z,e,Nat.le_trans b hc⟩
theorem Dn.add {N:Int} {B C:Nat} {q r:Rat} (h:Dn N B q) (k:Dn N C r):Dn N (B+C) (q+r):=by
 obtain ⟨z,e,b⟩:=h
 obtain ⟨y,e',c⟩:=k
 exact ⟨z+y,by rw [Rat.intCast_add,← e,← e'];grind,by omega⟩
theorem Dn.sub {N:Int} {B C:Nat} {q r:Rat} (h:Dn N B q) (k:Dn N C r):Dn N (B+C) (q-r):=by
 obtain ⟨z,e,b⟩:=h
 obtain ⟨y,e',c⟩:=k
 exact ⟨z-y,by rw [Rat.intCast_sub,← e,← e'];grind,by omega⟩
theorem Dn.mul {N M:Int} {B C:Nat} {q r:Rat} (h:Dn N B q) (k:Dn M C r):Dn (N*M) (B*C) (q*r):=by
 obtain ⟨z,e,b⟩:=h
 obtain ⟨y,e',c⟩:=k
 exact ⟨z*y,by rw [Rat.intCast_mul,Rat.intCast_mul,← e,← e'];grind,by rw [Int.natAbs_mul];exact Nat.mul_le_mul b c⟩
theorem Dn.sum {N:Int} {B:Nat}:∀ {qs:List Rat},(∀ q∈qs,Dn N B q)→Dn N (qs.length*B) qs.sum
 | [],_=>⟨0,by rw [List.sum_nil];grind,by simp⟩
 | q::r,h=>by
  have h1:=(h q (by simp)).add (Dn.sum (qs:=r) fun x hx=>h x (by simp [hx]))
  rw [List.sum_cons,List.length_cons,Nat.succ_mul,Nat.add_comm]
  exact h1
theorem Dn.le {N:Int} {B:Nat} {q:Rat} (h:Dn N B q) (h0:N≠0):q.num.natAbs≤B∧q.den≤N.natAbs:=by
 obtain ⟨z,e,b⟩:=h
 have:q=Rat.divInt z N:=by
  rw [Rat.divInt_eq_div,← e]
  have:=zeB h0
  grind
 rw [this]
 exact ⟨Nat.le_trans (My.zh6 z N h0) b,My.zhE z N h0⟩
end St
namespace St
open Mp Bz
section
variable {n:Nat} {ps ps':List Pipe} {one other third:Int} {g h h':Int→Rat}
theorem Adj.mono {ps ps':List Pipe} (hs:∀ p∈ps,p∈ps') {x y:Int} (h:Adj ps x y):Adj ps' x y:=by
 obtain ⟨p,hp,q⟩:=h
 exact ⟨p,hs p hp,q⟩
theorem Reach.zp2 {ps ps':List Pipe} (hs:∀ x y,Adj ps x y→Adj ps' x y) {x y:Int} (h:Reach ps x y):Reach ps' x y:=by
 induction h with
 | refl=>exact .refl
 | step _ a ih=>exact .step ih (hs _ _ a)
theorem zlo (ps qs:List Pipe) (g:Int→Rat) (i:Int):Lap (ps++qs) g i=Lap ps g i+Lap qs g i:=zgt _ ps qs
theorem zpR (p:Pipe) (g:Int→Rat) (i:Int):Lap [p] g i=sg p i*(ease p*(g p.u-g p.w)):=by
 unfold Lap
 simp only [sp]
 grind
open Classical in
theorem zqG (nc:Nice n ps) (hr:¬ Reach ps one other) {p:Pipe} (hu:p.u=one) (hw:p.w=other) (ha:1≤p.a) (hb:1≤p.b):IsH n (ps++[p]) one other (fun x=>if Reach ps one x then hard p else 0):=by
 have e1:=zfk ha hb
 have hp:Adj (ps++[p]) other one:=⟨p,by simp,.inr ⟨hw,hu⟩⟩
 refine ⟨fun x hx=>?_,fun i hi=>?_⟩
 ·show (if Reach ps one x then hard p else 0)=0
  rw [if_neg fun r=>?_]
  rcases hx with rfl | hx
  ·exact hr r
  ·exact hx ((Reach.step .refl hp).trans (Reach.zp2 (fun _ _=>Adj.mono fun _ h=>List.mem_append_left _ h) r))
 ·have hL:Lap ps (fun x=>if Reach ps one x then hard p else 0) i=0:=zgs fun q hq=>by
   by_cases r:Reach ps one q.u
   ·have r2:Reach ps one q.w:=.step r ⟨q,hq,.inl ⟨rfl,rfl⟩⟩
    simp only [r,r2,if_true]
    grind
   ·have r2:¬ Reach ps one q.w:=fun z=>r (.step z ⟨q,hq,.inr ⟨rfl,rfl⟩⟩)
    simp only [r,r2,if_false]
    grind
  rw [zlo,hL,zpR,hu,hw]
  have e2:(if Reach ps one one then hard p else 0)=hard p:=if_pos .refl
  have e3:(if Reach ps one other then hard p else 0)=0:=if_neg hr
  rw [e2,e3]
  have e5:∀ a b:Int,ind (a=b)=ind (b=a):=fun a b=>by
   by_cases q:a=b
   ·rw [zdF q,zdF q.symm]
   ·rw [zcC q,zcC fun z=>q z.symm]
  unfold sg
  rw [hu,hw,e5 one i,e5 other i]
  grind
theorem zpX {p q:Pipe} (hu:q.u=p.u) (hw:q.w=p.w) {ps:List Pipe} {k:Nat} (hk:ps[k]? = some p) {x y:Int}:Adj (ps.set k q) x y↔Adj ps x y:=by
 constructor
 ·rintro ⟨r,hr,c⟩
  rcases List.mem_or_eq_of_mem_set hr with h | h
  ·exact ⟨r,h,c⟩
  ·rw [h,hu,hw] at c
   exact ⟨p,List.mem_of_getElem? hk,c⟩
 ·rintro ⟨r,hr,c⟩
  obtain ⟨j,hj⟩:=List.mem_iff_getElem?.mp hr
  by_cases e:k=j
  ·subst e
   rw [hk] at hj
   cases hj
   refine ⟨q,?_,by rw [hu,hw];exact c⟩
   exact List.mem_of_getElem? (i:=k) (by rw [List.getElem?_set,if_pos rfl,if_pos (List.getElem?_eq_some_iff.mp hk).1])
  ·exact ⟨r,List.mem_of_getElem? (i:=j) (by rw [List.getElem?_set,if_neg e];exact hj),c⟩
end
end St
namespace St
open Mp Bz
section
variable {n:Nat} {ps:List Pipe} {h:Int→Rat}
end
end St
namespace St
open Mp Bz
abbrev Zp:=List (Pipe×Rat)
def dvg (zp:Zp) (i:Int):Rat:=sp zp (fun z=>sg z.1 i*z.2)
theorem zo1 {α:Type} (zs:List α) (f:α→Rat):(zs.map f).sum=sp zs f:=by
 induction zs with
 | nil=>rfl
 | cons p r ih=>rw [List.map_cons,List.sum_cons,ih];rfl
theorem zeN {α:Type} (c:α→Bool) (f:α→Rat):∀ (zs:List α),sp (zs.filter c) f=sp zs (fun z=>ind (c z=true)*f z)
 | []=>rfl
 | z::r=>by
  rw [List.filter_cons]
  by_cases h:c z=true
  ·rw [if_pos h]
   simp only [sp]
   rw [zeN c f r,zdF h]
   grind
  ·rw [if_neg h]
   simp only [sp]
   rw [zeN c f r,zcC h]
   grind
theorem zoI (zp:Zp) (i:Int):dvg zp i=((zp.filter fun z=>decide (z.1.u=i)).map (·.2)).sum-((zp.filter fun z=>decide (z.1.w=i)).map (·.2)).sum:=by
 rw [zo1,zo1,zeN,zeN,← zl5]
 unfold dvg
 refine zdb fun z _=>?_
 have e:∀ (c:Prop) [Decidable c],ind (decide c=true)=ind c:=fun c _=>by
  by_cases h:c
  ·rw [zdF (decide_eq_true h),zdF h]
  ·rw [zcC (by simpa using h),zcC h]
 rw [e,e]
 unfold sg
 grind
def strm (ps:List Pipe) (h:Int→Rat):Zp:=ps.map fun p=>(p,ease p*(h p.u-h p.w))
theorem zom (ps:List Pipe) (h:Int→Rat) (i:Int):dvg (strm ps h) i=Lap ps h i:=by
 unfold dvg strm Lap
 induction ps with
 | nil=>rfl
 | cons p r ih=>simp only [List.map_cons,sp];rw [ih]
section
variable {n:Nat} {ps:List Pipe} {one other:Int} {h:Int→Rat}
end
end St
namespace K2
open PySem L2 Mp
def top (i:Nat):Stmt:=PySem.Challenge.pw_splitstream_k03_whole_stream.main.body.getD i (.Pass ⟨0,0,0,0⟩)
abbrev zcW:Stmt:=top 8
theorem zj9:zau ["value"] ["value"] (zab zcW):=⟨rfl,rfl,rfl,by decide +kernel,rfl,by decide +kernel,by decide +kernel⟩
abbrev zbM:Stmt:=top 9
theorem zhc:zau ["value"] ["value"] (zab zbM):=⟨rfl,rfl,rfl,by decide +kernel,rfl,by decide +kernel,by decide +kernel⟩
abbrev zaZ:Stmt:=top 10
theorem zaU:zau ["a","b","one","other","rest"] ["a","b"] (zab zaZ):=⟨rfl,rfl,rfl,by decide +kernel,rfl,by decide +kernel,by decide +kernel⟩
abbrev zh0:Stmt:=top 11
theorem zj8:zau ["a","b","divisor"] ["a","b"] (zab zh0):=⟨rfl,rfl,rfl,by decide +kernel,rfl,by decide +kernel,by decide +kernel⟩
abbrev zhy:Stmt:=top 12
theorem zpa:zau ["one","other"] ["one","other"] (zab zhy):=⟨rfl,rfl,rfl,by decide +kernel,rfl,by decide +kernel,by decide +kernel⟩
abbrev zf5:Stmt:=top 13
theorem zno:zau ["one","other"] ["one","other"] (zab zf5):=⟨rfl,rfl,rfl,by decide +kernel,rfl,by decide +kernel,by decide +kernel⟩
abbrev zf4:Stmt:=top 14
theorem znn:zau ["one","other"] ["one","other"] (zab zf4):=⟨rfl,rfl,rfl,by decide +kernel,rfl,by decide +kernel,by decide +kernel⟩
abbrev zhz:Stmt:=top 15
theorem zpb:zau ["one","other"] ["one","other"] (zab zhz):=⟨rfl,rfl,rfl,by decide +kernel,rfl,by decide +kernel,by decide +kernel⟩
abbrev zf3:Stmt:=top 16
theorem zgg:zau ["fractions","result","fraction"] ["fractions"] (zab zf3):=⟨rfl,rfl,rfl,by decide +kernel,rfl,by decide +kernel,by decide +kernel⟩
abbrev zbm:Stmt:=top 21
theorem zfX:zau ["value","many"] ["value","many"] (zab zbm):=⟨rfl,rfl,rfl,by decide +kernel,rfl,by decide +kernel,by decide +kernel⟩
abbrev zbL:Stmt:=top 22
theorem zhb:zau ["value"] ["value"] (zab zbL):=⟨rfl,rfl,rfl,by decide +kernel,rfl,by decide +kernel,by decide +kernel⟩
abbrev zdC:Stmt:=top 23
theorem zkK:zau ["value","places"] ["value","places"] (zab zdC):=⟨rfl,rfl,rfl,by decide +kernel,rfl,by decide +kernel,by decide +kernel⟩
abbrev zes:Stmt:=top 24
theorem zlK:zau ["places","pipes"] ["places","pipes"] (zab zes):=⟨rfl,rfl,rfl,by decide +kernel,rfl,by decide +kernel,by decide +kernel⟩
abbrev zci:Stmt:=top 25
theorem zdL:zau ["pipes","at","behind","ahead"] ["pipes","at"] (zab zci):=⟨rfl,rfl,rfl,by decide +kernel,rfl,by decide +kernel,by decide +kernel⟩
abbrev zbE:Stmt:=inClass (top 26) 0
theorem zg5:zau ["self","places","pipes"] ["self","places","pipes"] (zab zbE):=⟨rfl,rfl,rfl,by decide +kernel,rfl,by decide +kernel,by decide +kernel⟩
abbrev zc8:Stmt:=inClass (top 26) 1
theorem ziE:zau ["self"] ["self"] (zab zc8):=⟨rfl,rfl,rfl,by decide +kernel,rfl,by decide +kernel,by decide +kernel⟩
abbrev zcZ:Stmt:=inClass (top 26) 2
theorem zdc:zau ["self","at","reached","waiting","place","neighbour"] ["self","at"] (zab zcZ):=⟨rfl,rfl,rfl,by decide +kernel,rfl,by decide +kernel,by decide +kernel⟩
abbrev zcV:Stmt:=top 28
theorem zc0:zau ["pipes","scale","start","end","hardness"] ["pipes"] (zab zcV):=⟨rfl,rfl,rfl,by decide +kernel,rfl,by decide +kernel,by decide +kernel⟩
abbrev zbJ:Stmt:=top 29
theorem zgZ:zau ["hardness","scale"] ["hardness","scale"] (zab zbJ):=⟨rfl,rfl,rfl,by decide +kernel,rfl,by decide +kernel,by decide +kernel⟩
abbrev zf7:Stmt:=top 30
theorem zku:zau ["pipes","scale","one","other","ways"] ["pipes","scale","one","other"] (zab zf7):=⟨rfl,rfl,rfl,by decide +kernel,rfl,by decide +kernel,by decide +kernel⟩
abbrev zc2:Stmt:=top 31
theorem ziC:zau ["pipes","scale","one","places"] ["pipes","scale","one","places"] (zab zc2):=⟨rfl,rfl,rfl,by decide +kernel,rfl,by decide +kernel,by decide +kernel⟩
abbrev zcU:Stmt:=top 32
theorem zj7:zau ["pipes","scale","places"] ["pipes","scale","places"] (zab zcU):=⟨rfl,rfl,rfl,by decide +kernel,rfl,by decide +kernel,by decide +kernel⟩
abbrev zbK:Stmt:=top 33
theorem zha:zau ["row","by","at","divisor"] ["row","by","at","divisor"] (zab zbK):=⟨rfl,rfl,rfl,by decide +kernel,rfl,by decide +kernel,by decide +kernel⟩
abbrev zdD:Stmt:=top 34
theorem zc1:zau ["rows","result","divisor","at","by"] ["rows"] (zab zdD):=⟨rfl,rfl,rfl,by decide +kernel,rfl,by decide +kernel,by decide +kernel⟩
abbrev zer:Stmt:=top 35
theorem ziB:zau ["rows","amounts","done"] ["rows","amounts"] (zab zer):=⟨rfl,rfl,rfl,by decide +kernel,rfl,by decide +kernel,by decide +kernel⟩
abbrev zbn:Stmt:=top 37
theorem zfY:zau ["value","many"] ["value","many"] (zab zbn):=⟨rfl,rfl,rfl,by decide +kernel,rfl,by decide +kernel,by decide +kernel⟩
abbrev zck:Stmt:=top 38
theorem zhT:zau ["net","places"] ["net","places"] (zab zck):=⟨rfl,rfl,rfl,by decide +kernel,rfl,by decide +kernel,by decide +kernel⟩
abbrev zbA:Stmt:=top 39
theorem zg1:zau ["net","places"] ["net","places"] (zab zbA):=⟨rfl,rfl,rfl,by decide +kernel,rfl,by decide +kernel,by decide +kernel⟩
abbrev zbO:Stmt:=top 40
theorem zhe:zau ["net","flows"] ["net","flows"] (zab zbO):=⟨rfl,rfl,rfl,by decide +kernel,rfl,by decide +kernel,by decide +kernel⟩
abbrev zep:Stmt:=top 41
theorem zgz:zau ["pipes","flows","place","away","coming"] ["pipes","flows","place"] (zab zep):=⟨rfl,rfl,rfl,by decide +kernel,rfl,by decide +kernel,by decide +kernel⟩
abbrev zdB:Stmt:=top 42
theorem zkJ:zau ["net","flows"] ["net","flows"] (zab zdB):=⟨rfl,rfl,rfl,by decide +kernel,rfl,by decide +kernel,by decide +kernel⟩
abbrev zc3:Stmt:=top 43
theorem ziD:zau ["place","one","other"] ["place","one","other"] (zab zc3):=⟨rfl,rfl,rfl,by decide +kernel,rfl,by decide +kernel,by decide +kernel⟩
abbrev zcj:Stmt:=top 44
theorem zhS:zau ["net","one","other"] ["net","one","other"] (zab zcj):=⟨rfl,rfl,rfl,by decide +kernel,rfl,by decide +kernel,by decide +kernel⟩
abbrev zf6:Stmt:=top 45
theorem znp:zau ["net","heights"] ["net","heights"] (zab zf6):=⟨rfl,rfl,rfl,by decide +kernel,rfl,by decide +kernel,by decide +kernel⟩
abbrev zcX:Stmt:=top 46
theorem zg0:zau ["net","other","part"] ["net","other"] (zab zcX):=⟨rfl,rfl,rfl,by decide +kernel,rfl,by decide +kernel,by decide +kernel⟩
abbrev zaW:Stmt:=inClass (top 48) 0
theorem zeQ:zau ["self","flows","heights"] ["self","flows","heights"] (zab zaW):=⟨rfl,rfl,rfl,by decide +kernel,rfl,by decide +kernel,by decide +kernel⟩
abbrev zbQ:Stmt:=inClass (top 48) 1
theorem zhf:zau ["self","net"] ["self","net"] (zab zbQ):=⟨rfl,rfl,rfl,by decide +kernel,rfl,by decide +kernel,by decide +kernel⟩
abbrev zbD:Stmt:=inClass (top 48) 2
theorem zg4:zau ["self","net","one","other"] ["self","net","one","other"] (zab zbD):=⟨rfl,rfl,rfl,by decide +kernel,rfl,by decide +kernel,by decide +kernel⟩
abbrev zbb:Stmt:=inClass (top 49) 0
theorem zf2:zau ["self","places"] ["self","places"] (zab zbb):=⟨rfl,rfl,rfl,by decide +kernel,rfl,by decide +kernel,by decide +kernel⟩
abbrev zbR:Stmt:=inClass (top 49) 1
theorem zhg:zau ["self","net","one","other"] ["self","net","one","other"] (zab zbR):=⟨rfl,rfl,rfl,by decide +kernel,rfl,by decide +kernel,by decide +kernel⟩
abbrev zaV:Stmt:=top 50
theorem zaC:zau ["net","one","other","pipes","scale","free","amounts","heights","place","height"] ["net","one","other"] (zab zaV):=⟨rfl,rfl,rfl,by decide +kernel,rfl,by decide +kernel,by decide +kernel⟩
abbrev zeq:Stmt:=top 51
theorem zeP:zau ["net","one","other","part","heights","flows"] ["net","one","other"] (zab zeq):=⟨rfl,rfl,rfl,by decide +kernel,rfl,by decide +kernel,by decide +kernel⟩
abbrev zbN:Stmt:=top 52
theorem zhd:zau ["net","one","other"] ["net","one","other"] (zab zbN):=⟨rfl,rfl,rfl,by decide +kernel,rfl,by decide +kernel,by decide +kernel⟩
abbrev zbC:Stmt:=top 54
theorem zg3:zau ["_law_script","_law_k"] ["_law_script","_law_k"] (zab zbC):=⟨rfl,rfl,rfl,by decide +kernel,rfl,by decide +kernel,by decide +kernel⟩
abbrev zc6:Stmt:=top 55
theorem zdZ:zau ["_law_cell","_law_k","_law_many","_law_primes","_law_blend"] ["_law_cell","_law_k","_law_many"] (zab zc6):=⟨rfl,rfl,rfl,by decide +kernel,rfl,by decide +kernel,by decide +kernel⟩
abbrev zcn:Stmt:=top 56
theorem zdM:zau ["_law_a","_law_b","_law_one","_law_other"] ["_law_a","_law_b"] (zab zcn):=⟨rfl,rfl,rfl,by decide +kernel,rfl,by decide +kernel,by decide +kernel⟩
abbrev zc4:Stmt:=top 57
theorem zbc:zau ["_law_script","_law_first","_law_most","_law_cell","_law_other","_law_third","_law_places","_law_pipes","_law_k","_law_here","_law_there"] ["_law_script","_law_first","_law_most"] (zab zc4):=⟨rfl,rfl,rfl,by decide +kernel,rfl,by decide +kernel,by decide +kernel⟩
abbrev zc5:Stmt:=top 58
theorem zch:zau ["_law_told_here","_law_at","_law_found","_law_turn","_law_here","_law_there","_law_hardness"] ["_law_told_here","_law_at"] (zab zc5):=⟨rfl,rfl,rfl,by decide +kernel,rfl,by decide +kernel,by decide +kernel⟩
abbrev zcY:Stmt:=top 59
theorem zg2:zau ["_law_script","_law_told_here","_law_first","_law_one"] ["_law_script","_law_told_here","_law_first"] (zab zcY):=⟨rfl,rfl,rfl,by decide +kernel,rfl,by decide +kernel,by decide +kernel⟩
abbrev zba:Stmt:=top 60
theorem zdA:zau ["_law_things","_law_many","_law_thing"] ["_law_things","_law_many"] (zab zba):=⟨rfl,rfl,rfl,by decide +kernel,rfl,by decide +kernel,by decide +kernel⟩
abbrev zbB:Stmt:=top 61
theorem zaH:zau ["_law_told_here","_law_one","_law_other","_law_found","_law_sums","_law_k","_law_here","_law_there","_law_hardness","_law_part_here","_law_place","_law_due"] ["_law_told_here","_law_one","_law_other","_law_found"] (zab zbB):=⟨rfl,rfl,rfl,by decide +kernel,rfl,by decide +kernel,by decide +kernel⟩
abbrev zco:Stmt:=top 62
theorem zaR:zau ["_law_script","_law_first","_law_cell","_law_other","_law_places","_law_pipes","_law_k","_law_hardness","_law_here"] ["_law_script","_law_first"] (zab zco):=⟨rfl,rfl,rfl,by decide +kernel,rfl,by decide +kernel,by decide +kernel⟩
abbrev zcm:Stmt:=top 63
theorem zcR:zau ["_law_net","_law_told_here","_law_one","_law_other","_law_found","_law_part_here","_law_due"] ["_law_net","_law_told_here","_law_one","_law_other"] (zab zcm):=⟨rfl,rfl,rfl,by decide +kernel,rfl,by decide +kernel,by decide +kernel⟩
abbrev zbP:Stmt:=top 64
theorem zd0:zau ["_law_told_here","_law_cell","_law_pipes","_law_k"] ["_law_told_here","_law_cell"] (zab zbP):=⟨rfl,rfl,rfl,by decide +kernel,rfl,by decide +kernel,by decide +kernel⟩
abbrev zc7:Stmt:=top 65
theorem zbt:zau ["_law_net","_law_told_here","_law_one","_law_other","_law_cell","_law_found","_law_bend","_law_flows","_law_heights","_law_bent_here"] ["_law_net","_law_told_here","_law_one","_law_other","_law_cell"] (zab zc7):=⟨rfl,rfl,rfl,by decide +kernel,rfl,by decide +kernel,by decide +kernel⟩
abbrev zcl:Stmt:=top 66
theorem zaA:zau ["_law_net","_law_told_here","_law_one","_law_other","_law_cell","_law_part_here","_law_bent_here","_law_shown_here","_law_none","_law_places","_law_due","_law_here","_law_there","_law_hardness"] ["_law_net","_law_told_here","_law_one","_law_other","_law_cell"] (zab zcl):=⟨rfl,rfl,rfl,by decide +kernel,rfl,by decide +kernel,by decide +kernel⟩
abbrev zfZ:Stmt:=top 67
theorem zfO:zau ["_law_script","_law_told_here","_law_net","_law_first","_law_one","_law_other","_law_found"] ["_law_script"] (zab zfZ):=⟨rfl,rfl,rfl,by decide +kernel,rfl,by decide +kernel,by decide +kernel⟩
theorem zfW:bootBuiltins "int" = some (.type "int"):=by decide +kernel
theorem zgT:bootBuiltins "bool" = some (.type "bool"):=by decide +kernel
theorem zgo:bootBuiltins "tuple" = some (.type "tuple"):=by decide +kernel
theorem zdm:bootBuiltins "list" = some (.type "list"):=by decide +kernel
theorem zkC:bootBuiltins "abs" = some (.builtin "abs"):=by decide +kernel
theorem zcr:bootBuiltins "len" = some (.builtin "len"):=by decide +kernel
theorem zqT:bootBuiltins "min" = some (.builtin "min"):=by decide +kernel
theorem zqU:bootBuiltins "max" = some (.builtin "max"):=by decide +kernel
theorem zjk:bootBuiltins "all" = some (.builtin "all"):=by decide +kernel
theorem zjj:bootBuiltins "sorted" = some (.builtin "sorted"):=by decide +kernel
theorem zoK:bootBuiltins "sum" = some (.builtin "sum"):=by decide +kernel
theorem zeS {X:Cx} {st:Stmt}:PS X st (fun _ _ _=>False):=fun _ _ _ _ _ _ h=>h.elim
structure Txt (K:W.Frag) (mg:Str→Option Value) (C:Addr) (t1 t2 t3:Tok):Prop where
 n_isinstance:mg "isinstance" = none
 n_int:mg "int" = none
 n_bool:mg "bool" = none
 n_abs:mg "abs" = none
 n_len:mg "len" = none
 n_tuple:mg "tuple" = none
 n_list:mg "list" = none
 n_min:mg "min" = none
 n_max:mg "max" = none
 n_range:mg "range" = none
 n_all:mg "all" = none
 n_sorted:mg "sorted" = none
 n_enumerate:mg "enumerate" = none
 n_reversed:mg "reversed" = none
 n_zip:mg "zip" = none
 n_sum:mg "sum" = none
 n_any:mg "any" = none
 n_ValueError:mg "ValueError" = none
 zif:mg "MOST_PLACES" = some (.int 8 t1)
 ziR:mg "MOST_PIPES" = some (.int 28 t2)
 zfc:mg "MOST_IN_HARDNESS" = some (.int 1000000000 t3)
 c_Net:Cls K C
 a_size:zdo K C "size"
 a_laid:zdo K C "laid"
def zdx (K:W.Frag) (H:Hp) (v:V) (p:Pipe):Prop:=∃ x y,v=.ref x∧SqT K H x [.int p.u,.int p.w,.ref y]∧SqT K H y [.int p.a,.int p.b]
abbrev zam (K:W.Frag) (H:Hp):List V→List Pipe→Prop:=Paired (zdx K H)
structure zdJ (n:Int) (p:Pipe):Prop where
 u0:0≤p.u
 un:p.u<n
 w0:0≤p.w
 wn:p.w<n
 ne:p.u≠p.w
 a1:1≤p.a
 aM:p.a≤1000000000
 b1:1≤p.b
 bM:p.b≤1000000000
 gc:Int.gcd p.a p.b=1
structure zbV (n:Int) (ps:List Pipe):Prop where
 n1:1≤n
 n8:n≤8
 ok:∀ p∈ps,zdJ n p
 le:ps.length≤28
def zgv:Sp:=fun vs H Q _=>∃ i:Int,vs=[.int i]∧Q (.bl true) H
def zni:Sp:=fun vs H Q _=>∃ a b:Int,vs=[.int a,.int b]∧Q (.int (Int.gcd a b:Int)) H
def zf1 (K:W.Frag):Sp:=fun vs H Q _=>∃ (y:Addr) (a b:Int),vs=[.ref y]∧SqT K H y [.int a,.int b]∧0<b∧Int.gcd a b=1∧Q (.bl true) H
def zge:Sp:=fun vs H Q _=>∃ i n:Int,vs=[.int i,.int n]∧0≤i∧i<n∧Q (.bl true) H
def zo5 (K:W.Frag):Sp:=fun vs H Q _=>∃ (y:Addr) (a b:Int),vs=[.ref y]∧SqT K H y [.int a,.int b]∧(1≤a∧a≤1000000000)∧(1≤b∧b≤1000000000)∧Int.gcd a b=1∧Q (.bl true) H
def zo4 (K:W.Frag):Sp:=fun vs H Q _=>∃ (v:V) (n:Int) (p:Pipe),vs=[v,.int n]∧zdx K H v p∧zdJ n p∧Q (.bl true) H
def zqh (K:W.Frag):Sp:=fun vs H Q _=>∃ (n:Int) (l:Addr) (us:List V) (ps:List Pipe),vs=[.int n,.ref l]∧SqL K H l us∧zam K H us ps∧zbV n ps∧∀ H',Same H H'→Q (.bl true) H'
section
variable {K:W.Frag}
theorem ty_int {H:Hp} (i:Int):TyX K H (.int i) (.type "int"):=.of (.int i)
theorem ii:W.kitOne K (.type "int") (.type "int")=some true:=by rfl
theorem ib:W.kitOne K (.type "int") (.type "bool")=some false:=by rfl
theorem tt:W.kitOne K (.type "tuple") (.type "tuple")=some true:=by rfl
theorem ll:W.kitOne K (.type "list") (.type "list")=some true:=by rfl
end
section
variable {P:Program} {w:World} {K:W.Frag} {mg:Str→Option Value} {base:Heap} {C f fw fg ff fc fh fp:Addr} {fd fdw fdg fdf fdc fdh fdp:FuncData} {t1 t2 t3:Tok}
theorem zn2 (F:Fun K "is_whole" "is_whole" zcW f fd) (T:Txt K mg C t1 t2 t3):FnOk P w K mg base CX0 1 f fd ["value"] zgv:=by
 refine F.ok zj9 (fun vs H Q E h=>?_) (fun cdv A outer s H vs Q E hr h=>?_)
 ·obtain ⟨i,rfl,_⟩:=h
  rfl
 ·obtain ⟨i,rfl,q⟩:=h
  refine ⟨_,(zaj (zas (zds (zct rfl T.n_isinstance (pv 0) rfl T.n_int zfW) (zeb (zqt (zct rfl T.n_isinstance (pv 0) rfl T.n_bool zgT)))))),?_⟩
  exact ⟨_,rfl,_,_,_,_,_,rfl,rfl,ty_int i,ii,_,rfl,iteT ⟨_,rfl,_,_,_,_,_,rfl,rfl,ty_int i,ib,_,rfl,q⟩⟩
theorem zq0 (F:Fun K "common_divisor" "common_divisor" zaZ f fd) (T:Txt K mg C t1 t2 t3):FnOk P w K mg base CX0 1 f fd ["a","b"] zni:=by
 refine F.ok zaU (fun vs H Q E h=>?_) (fun cdv A outer s H vs Q E hr h=>?_)
 ·obtain ⟨a,b,rfl,_⟩:=h
  rfl
 ·obtain ⟨a,b,rfl,q⟩:=h
  refine ⟨_,(zaf (zax (i:=2) zaU.nd rfl (Or.inl rfl) (za2 zgn (by rfl) T.n_abs zkC (zaa (pv 0) zac)))
   (zaf (zax (i:=3) zaU.nd rfl (Or.inl rfl) (za2 zgn (by rfl) T.n_abs zkC (zaa (pv 1) zac)))
   (zaf (zhV PassesOwn.never (zat zhh (pv 3) zag (za0 _)) (zaf (zax (i:=4) zaU.nd rfl (Or.inl rfl) (za1 zbk (pv 2) (pv 3)))
   (zaf (zax (i:=2) zaU.nd rfl (Or.inl rfl) (pv 3))
   (zaj (zax (i:=3) zaU.nd rfl (Or.inl rfl) (pv 4))))))
   (zaj (zas (pv 2)))))),?_⟩
  refine ⟨_,rfl,a,rfl,_,rfl,b,rfl,?_⟩
  refine zhI (fun σ H'=>∃ (x y:Int) (z:Option V),σ=[some (.int a),some (.int b),some (.int x),some (.int y),z]∧H'=H∧0≤x∧0≤y∧Nat.gcd x.natAbs y.natAbs=Int.gcd a b)
   (fun σ _=>match σ with | [_,_,_,some (.int y),_]=>y.natAbs | _=>0) ⟨_,_,none,rfl,rfl,?_,?_,?_⟩ ?_ ?_
  ·split <;> omega
  ·split <;> omega
  ·unfold Int.gcd
   congr 1 <;> (split <;> omega)
  ·rintro σ H' ⟨x,y,z,rfl,rfl,hx,hy,hg⟩
   refine ⟨_,rfl,rfl,_,rfl,?_⟩
   refine ite2 (fun h=>?_) (fun h=>?_)
   ·have hy':0<y:=by
     have:¬ y=0:=by simpa using h
     omega
    refine ⟨_,rfl,_,rfl,_,_,rfl,rfl,hy',_,rfl,_,rfl,⟨y,x % y,_,rfl,rfl,hy,Int.emod_nonneg _ (by omega),?_⟩,?_⟩
    ·rw [My.zk2 x y hx hy',hg]
    ·show (x % y).natAbs<y.natAbs
     have h1:=Int.emod_nonneg x (show y≠0 by omega)
     have h2:=Int.emod_lt_of_pos x hy'
     omega
   ·have hy':y=0:=by
     have:¬ ¬ y=0:=by simpa using h
     exact Classical.not_not.mp this
    subst hy'
    have e:x=(Int.gcd a b:Int):=by
     simp at hg
     omega
    subst e
    exact ⟨_,rfl,q⟩
  ·rintro σ H' Q1 Q2 f ⟨v,e1,e2,k',e3,q'⟩
   exact ⟨v,e1,e2,k',e3,f _ _ q'⟩
theorem zjE (F:Fun K "is_fraction" "is_fraction" zbM f fd) (T:Txt K mg C t1 t2 t3) (zbS:mg "is_whole" = some (.ref fw)) (zbT:W.keepIn K (.ref fw)=true) (zbU:Binds K fdw ["value"] []) (zbW:FnOk P w K mg base CX0 1 fw fdw ["value"] zgv)
  (zb6:mg "common_divisor" = some (.ref fg)) (zb7:W.keepIn K (.ref fg)=true) (zb8:Binds K fdg ["a","b"] []) (zb9:FnOk P w K mg base CX0 1 fg fdg ["a","b"] zni):FnOk P w K mg base CX0 2 f fd ["value"] (zf1 K):=by
 refine F.ok zhc (fun vs H Q E h=>?_) (fun cdv A outer s H vs Q E hr h=>?_)
 ·obtain ⟨y,a,b,rfl,_⟩:=h
  rfl
 ·obtain ⟨y,a,b,rfl,hy,hb,hg,q⟩:=h
  refine ⟨_,(zaf (zaP (PW.pt (pw_or (zbj (zaX (zct rfl T.n_isinstance (pv 0) rfl T.n_tuple zgo))) (pw_or1 (zat zhh (za2 za4 (by rfl) T.n_len zcr (zaa (pv 0) zac)) zag (za0 _))))) (zaj (zas zcs)) zaz)
   (zaf (zaP (PW.pt (pw_or (zbj (zaX (zak zbW (hr.mono (by decide)) rfl zbS zbT zbU .nil zaq (zaa (zay zav (pv 0) zag (fun _ _=>rfl)) zac)))) (pw_or1 (zbj (zaX (zak zbW (hr.mono (by decide)) rfl zbS zbT zbU .nil zaq (zaa (zay zav (pv 0) zag (fun _ _=>rfl)) zac))))))) (zaj (zas zcs)) zaz)
   (zaj (zas (zds (zaM zlU (zay zav (pv 0) zag (fun _ _=>rfl)) zag (za0 _)) (zeb (zaM zcd (zak zb9 (hr.mono (by decide)) rfl zb6 zb7 zb8 .nil zaq (zaa (zay zav (pv 0) zag (fun _ _=>rfl)) (zaa (zay zav (pv 0) zag (fun _ _=>rfl)) zac))) zag (za0 _)))))))),?_⟩
  refine ⟨_,rfl,_,_,_,_,_,rfl,rfl,TyX.tupS hy,tt,_,rfl,iteF ?_⟩
  refine ⟨_,rfl,y,_,rfl,.inr hy,rfl,_,rfl,iteF ?_⟩
  refine ⟨_,rfl,y,_,_,_,rfl,rfl,hy,rfl,a,rfl,_,rfl,iteF ?_⟩
  refine ⟨_,rfl,y,_,_,_,rfl,rfl,hy,rfl,b,rfl,_,rfl,iteF ?_⟩
  refine ⟨_,rfl,y,_,_,_,rfl,rfl,hy,rfl,_,_,rfl,rfl,_,rfl,?_⟩
  rw [decide_eq_true hb]
  refine iteT ?_
  refine ⟨_,rfl,y,_,_,_,rfl,rfl,hy,rfl,_,rfl,y,_,_,_,rfl,rfl,hy,rfl,a,b,rfl,rfl,?_⟩
  have e:decide (V.int (Int.gcd a b:Int)=V.int 1)=true:=decide_eq_true (by rw [hg];rfl)
  rw [e]
  exact q
theorem zmc (F:Fun K "counts_one_of" "counts_one_of" zbm f fd) (T:Txt K mg C t1 t2 t3) (zbS:mg "is_whole" = some (.ref fw)) (zbT:W.keepIn K (.ref fw)=true) (zbU:Binds K fdw ["value"] []) (zbW:FnOk P w K mg base CX0 1 fw fdw ["value"] zgv):FnOk P w K mg base CX0 2 f fd ["value","many"] zge:=by
 refine F.ok zfX (fun vs H Q E h=>?_) (fun cdv A outer s H vs Q E hr h=>?_)
 ·obtain ⟨i,n,rfl,_⟩:=h
  rfl
 ·obtain ⟨i,n,rfl,h0,hn,q⟩:=h
  refine ⟨_,(zaj (zas (zds (zak zbW (hr.mono (by decide)) rfl zbS zbT zbU .nil zaq (zaa (pv 0) zac)) (zeb (zny zn0 znz zag (pv 0) (pv 1)))))),?_⟩
  refine ⟨_,rfl,i,rfl,_,rfl,iteT ?_⟩
  refine ⟨_,rfl,_,_,rfl,rfl,_,rfl,?_⟩
  rw [decide_eq_true h0]
  refine iteT ⟨_,rfl,_,_,rfl,rfl,?_⟩
  show Q (.bl (decide (i<n))) H
  rw [decide_eq_true hn]
  exact q
theorem zpv (F:Fun K "is_hardness" "is_hardness" zbL f fd) (T:Txt K mg C t1 t2 t3) (zdN:mg "is_fraction" = some (.ref ff)) (zdP:W.keepIn K (.ref ff)=true) (zdR:Binds K fdf ["value"] []) (zdS:FnOk P w K mg base CX0 2 ff fdf ["value"] (zf1 K)):FnOk P w K mg base CX0 3 f fd ["value"] (zo5 K):=by
 refine F.ok zhb (fun vs H Q E h=>?_) (fun cdv A outer s H vs Q E hr h=>?_)
 ·obtain ⟨y,a,b,rfl,_⟩:=h
  rfl
 ·obtain ⟨y,a,b,rfl,hy,⟨a1,aM⟩,⟨b1,bM⟩,hg,q⟩:=h
  refine ⟨_,(zaj (zas (zds (zak zdS (hr.mono (by decide)) rfl zdN zdP zdR .nil zaq (zaa (pv 0) zac)) (zds (zaM zrn (za2 (zmI rfl) (by rfl) T.n_min zqT (zaa (pv 0) zac)) zag (za0 _)) (zeb (zaM zn0 (za2 (zmJ rfl) (by rfl) T.n_max zqU (zaa (pv 0) zac)) (zhX (v:=.int 1000000000) rfl T.zfc ⟨_,rfl⟩) (za0 _))))))),?_⟩
  refine ⟨_,rfl,y,a,b,rfl,hy,by omega,hg,_,rfl,iteT ?_⟩
  refine ⟨_,rfl,y,a,b,rfl,hy,_,_,rfl,rfl,_,rfl,?_⟩
  rw [decide_eq_true (show (if b<a then b else a)≥1 by split <;> omega)]
  refine iteT ?_
  refine ⟨_,rfl,y,a,b,rfl,hy,_,_,rfl,rfl,?_⟩
  show Q (.bl (decide ((if b>a then b else a)≤1000000000))) H
  rw [decide_eq_true (show (if b>a then b else a)≤1000000000 by split <;> omega)]
  exact q
theorem zpq (F:Fun K "is_pipe" "is_pipe" zdC f fd) (T:Txt K mg C t1 t2 t3) (zbp:mg "counts_one_of" = some (.ref fc)) (zbq:W.keepIn K (.ref fc)=true) (zbr:Binds K fdc ["value","many"] []) (zbs:FnOk P w K mg base CX0 2 fc fdc ["value","many"] zge)
  (zic:mg "is_hardness" = some (.ref fh)) (zio:W.keepIn K (.ref fh)=true) (ziz:Binds K fdh ["value"] []) (zi3:FnOk P w K mg base CX0 3 fh fdh ["value"] (zo5 K)):FnOk P w K mg base CX0 4 f fd ["value","places"] (zo4 K):=by
 refine F.ok zkK (fun vs H Q E h=>?_) (fun cdv A outer s H vs Q E hr h=>?_)
 ·obtain ⟨v,n,p,rfl,_⟩:=h
  rfl
 ·obtain ⟨v,n,p,rfl,⟨x,y,rfl,hx,hy⟩,ok,q⟩:=h
  refine ⟨_,(zaf (zaP (PW.pt (pw_or (zbj (zaX (zct rfl T.n_isinstance (pv 0) rfl T.n_tuple zgo))) (pw_or1 (zat zhh (za2 za4 (by rfl) T.n_len zcr (zaa (pv 0) zac)) zag (za0 _))))) (zaj (zas zcs)) zaz)
   (zaf (zaP (PW.pt (pw_or (zbj (zaX (zak zbs (hr.mono (by decide)) rfl zbp zbq zbr .nil zaq (zaa (zay zav (pv 0) zag (fun _ _=>rfl)) (zaa (pv 1) zac))))) (pw_or1 (zbj (zaX (zak zbs (hr.mono (by decide)) rfl zbp zbq zbr .nil zaq (zaa (zay zav (pv 0) zag (fun _ _=>rfl)) (zaa (pv 1) zac)))))))) (zaj (zas zcs)) zaz)
   (zaj (zas (zds (zaM zhh (zay zav (pv 0) zag (fun _ _=>rfl)) (zay zav (pv 0) zag (fun _ _=>rfl)) (za0 _)) (zeb (zak zi3 (hr.mono (by decide)) rfl zic zio ziz .nil zaq (zaa (zay zav (pv 0) zag (fun _ _=>rfl)) zac)))))))),?_⟩
  refine ⟨_,rfl,_,_,_,_,_,rfl,rfl,TyX.tupS hx,tt,_,rfl,iteF ?_⟩
  refine ⟨_,rfl,x,_,rfl,.inr hx,rfl,_,rfl,iteF ?_⟩
  refine ⟨_,rfl,x,_,_,_,rfl,rfl,hx,rfl,_,rfl,p.u,n,rfl,ok.u0,ok.un,_,rfl,iteF ?_⟩
  refine ⟨_,rfl,x,_,_,_,rfl,rfl,hx,rfl,_,rfl,p.w,n,rfl,ok.w0,ok.wn,_,rfl,iteF ?_⟩
  refine ⟨_,rfl,x,_,_,_,rfl,rfl,hx,rfl,_,rfl,x,_,_,_,rfl,rfl,hx,rfl,rfl,_,rfl,?_⟩
  have e:decide (V.int p.u=V.int p.w)=false:=decide_eq_false fun z=>by injection z with z;exact ok.ne z
  rw [e]
  refine iteT ?_
  exact ⟨_,rfl,x,_,_,_,rfl,rfl,hx,rfl,y,p.a,p.b,rfl,hy,⟨ok.a1,ok.aM⟩,⟨ok.b1,ok.bM⟩,ok.gc,q⟩
end
end K2
namespace K2
open PySem L2 Mp
theorem zdx.same {K:W.Frag} {H H':Hp} {v:V} {p:Pipe} (s:Same H H') (h:zdx K H v p):zdx K H' v p:=by
 obtain ⟨x,y,rfl,hx,hy⟩:=h
 exact ⟨x,y,rfl,Same.tup s hx,Same.tup s hy⟩
theorem zam.same {K:W.Frag} {H H':Hp} (s:Same H H'):∀ {us:List V} {ps:List Pipe},zam K H us ps→zam K H' us ps
 | _,_,.nil=>.nil
 | _,_,.cons a b=>.cons (a.same s) (zam.same s b)
theorem zam.get {K:W.Frag} {H:Hp}:∀ {us:List V} {ps:List Pipe} {i:Nat} {v:V},zam K H us ps→us[i]? = some v→∃ p,ps[i]? = some p∧zdx K H v p
 | _,_,_,_,.nil,e=>by simp at e
 | _,_,0,_,.cons a _,e=>by simp at e;subst e;exact ⟨_,rfl,a⟩
 | _,_,i+1,_,.cons _ b,e=>by simpa using zam.get b (by simpa using e)
section
variable {P:Program} {w:World} {K:W.Frag} {mg:Str→Option Value} {base:Heap} {C f fw fg ff fc fh fp:Addr} {fd fdw fdg fdf fdc fdh fdp:FuncData} {t1 t2 t3:Tok}
theorem zqy (F:Fun K "is_net" "is_net" zes f fd) (T:Txt K mg C t1 t2 t3) (zbS:mg "is_whole" = some (.ref fw)) (zbT:W.keepIn K (.ref fw)=true) (zbU:Binds K fdw ["value"] []) (zbW:FnOk P w K mg base CX0 1 fw fdw ["value"] zgv)
  (zmh:mg "is_pipe" = some (.ref fp)) (zmu:W.keepIn K (.ref fp)=true) (zmM:Binds K fdp ["value","places"] []) (zmW:FnOk P w K mg base CX0 4 fp fdp ["value","places"] (zo4 K)):FnOk P w K mg base CX0 5 f fd ["places","pipes"] (zqh K):=by
 refine F.ok zlK (fun vs H Q E h=>?_) (fun cdv A outer s H vs Q E hr h=>?_)
 ·obtain ⟨n,l,us,ps,rfl,_⟩:=h
  rfl
 ·obtain ⟨n,l,us,ps,rfl,hl,hp,ok,q⟩:=h
  have hlen:us.length=ps.length:=Paired.length hp
  have hle:=ok.le
  refine ⟨_,(zaf (zaP (PW.pt (pw_or (zbj (zaX (zak zbW (hr.mono (by decide)) rfl zbS zbT zbU .nil zaq (zaa (pv 0) zac)))) (pw_or1 (zbj (znw zn0 zn0 zag (pv 0) (zhX (v:=.int 8) rfl T.zif ⟨_,rfl⟩)))))) (zaj (zas zcs)) zaz)
   (zaf (zaP (PW.pt (pw_or (zbj (zaX (zct rfl T.n_isinstance (pv 1) rfl T.n_list zdm))) (pw_or1 (zat zlU (za2 za4 (by rfl) T.n_len zcr (zaa (pv 1) zac)) (zhX (v:=.int 28) rfl T.ziR ⟨_,rfl⟩) (za0 _))))) (zaj (zas zcs)) zaz)
   (zaj (zas (za2 (zfo rfl) (by rfl) T.n_all zjk (zaa (zaY ["pipe"] [0] rfl rfl (by kernel_rfl) (zaS (pv 1)) (fun _ _ _ _=>(zan (i:=0) (show (["pipe","places"]:List Str).Nodup by decide +kernel) rfl (Or.inl rfl))) (fun _ _ _ _=>zaw) (fun _ _ _ _=>zbI) (fun _ _ _ _=>(zak zmW (hr.mono (by decide)) rfl zmh zmu zmM .nil zaq (zaa (pv 0) (zaa (pv 1) zac))))) zac)))))),?_⟩
  refine ⟨_,rfl,n,rfl,_,rfl,iteF ?_⟩
  refine ⟨_,rfl,_,_,rfl,rfl,_,rfl,?_⟩
  rw [decide_eq_true ok.n1]
  refine iteT ?_
  refine ⟨_,_,rfl,rfl,_,rfl,?_⟩
  rw [decide_eq_true ok.n8]
  refine iteF ?_
  refine ⟨_,rfl,_,_,_,_,_,rfl,rfl,TyX.lstS hl,ll,_,rfl,iteF ?_⟩
  refine ⟨_,rfl,l,_,rfl,.inl hl,_,_,rfl,rfl,_,rfl,?_⟩
  rw [decide_eq_false (show ¬ ((us.length:Int)>28) by omega)]
  refine iteF ?_
  refine ⟨_,rfl,l,rfl,⟨_,hl⟩,zaN (K:=K) (a:=l) (xs:=us) (fun i ys H'=>H'=H∧ys=List.replicate i (.bl true)) ⟨rfl,rfl⟩ (zao (by omega)) (fun i ys H' hi ⟨e,e'⟩=>⟨by rw [e',List.length_replicate];exact Nat.le_refl _,e▸hl⟩) ?_ ?_⟩
  ·rintro i x ys H' N hx ⟨rfl,rfl⟩ hN C s₀ H₀ ex
   obtain ⟨p,hpi,hpp⟩:=hp.get hx
   dsimp only [zaQ,zcy]
   refine iteT ?_
   refine ⟨_,rfl,_,rfl,x,n,p,rfl,hpp,ok.ok p (List.mem_of_getElem? hpi),?_⟩
   exact hN _ _ ⟨rfl,by rw [List.replicate_succ']⟩
  ·rintro ys H' ⟨rfl,rfl⟩ p hp'
   refine ⟨p,List.replicate us.length true,rfl,SqL.of (by rw [List.map_replicate];exact zae),?_⟩
   have e:(List.replicate us.length true).all id=true:=by simp
   rw [e]
   exact q _ (zad hp')
def spNb (K:W.Frag):Sp:=fun vs H Q _=>∃ (l:Addr) (us:List V) (ps:List Pipe) (z:Int),vs=[.ref l,.int z]∧SqL K H l us∧zam K H us ps∧ps.length≤28∧∀ (H':Hp) (r:Addr),Same H H'→H r=none→H' r=some (.lst ((nb ps z).map V.int))→Q (.ref r) H'
theorem zro (F:Fun K "neighbours" "neighbours" zci f fd):FnOk P w K mg base CX0 1 f fd ["pipes","at"] (spNb K):=by
 refine F.ok zdL (fun vs H Q E h=>?_) (fun cdv A outer s H vs Q E hr h=>?_)
 ·obtain ⟨l,us,ps,z,rfl,_⟩:=h
  rfl
 ·obtain ⟨l,us,ps,z,rfl,hl,hp,hle,q⟩:=h
  have hlen:us.length=ps.length:=Paired.length hp
  refine ⟨_,(zaf (zd1 (i:=2) ["one","other","hardness"] [1] rfl rfl (by kernel_rfl) zdL.nd rfl rfl (zaS (pv 0)) (fun _ _ _ _=>(zbZ (n:=3) rfl (zap (zan (i:=0) (show (["one","other","hardness","at"]:List Str).Nodup by decide +kernel) rfl (Or.inl rfl)) (zap (zan (i:=1) (show (["one","other","hardness","at"]:List Str).Nodup by decide +kernel) rfl (Or.inl rfl)) (zap (zan (i:=2) (show (["one","other","hardness","at"]:List Str).Nodup by decide +kernel) rfl (Or.inl rfl)) zbg))))) (fun _ _ _ _=>(zdi (za3 zaw (za3 zaw (za3 zaw zce))))) (fun _ _ _ _=>(zeU (zat zcd (pv 0) (pv 3) (za0 _)))) (fun _ _ _ _=>(pv 1)))
   (zaf (zd1 (i:=3) ["one","other","hardness"] [1] rfl rfl (by kernel_rfl) zdL.nd rfl rfl (zaS (pv 0)) (fun _ _ _ _=>(zbZ (n:=3) rfl (zap (zan (i:=0) (show (["one","other","hardness","at"]:List Str).Nodup by decide +kernel) rfl (Or.inl rfl)) (zap (zan (i:=1) (show (["one","other","hardness","at"]:List Str).Nodup by decide +kernel) rfl (Or.inl rfl)) (zap (zan (i:=2) (show (["one","other","hardness","at"]:List Str).Nodup by decide +kernel) rfl (Or.inl rfl)) zbg))))) (fun _ _ _ _=>(zdi (za3 zaw (za3 zaw (za3 zaw zce))))) (fun _ _ _ _=>(zeU (zat zcd (pv 1) (pv 3) (za0 _)))) (fun _ _ _ _=>(pv 0)))
   (zaj (zas (za1 zoC (pv 2) (pv 3)))))),?_⟩
  refine ⟨_,rfl,l,rfl,⟨_,hl⟩,zaN (K:=K) (a:=l) (xs:=us) (fun i ys H'=>H'=H∧ys=((ps.take i).filter fun p=>decide (p.u=z)).map (fun p=>V.int p.w)) ⟨rfl,rfl⟩ (zao (by omega)) ?_ ?_ ?_⟩
  ·rintro i ys H' hi ⟨rfl,rfl⟩
   refine ⟨?_,hl⟩
   rw [List.length_map]
   exact Nat.le_trans (List.length_filter_le _ _) (by rw [List.length_take];omega)
  ·rintro i x ys H' N hx ⟨rfl,rfl⟩ hN C s₀ H₀ ex
   obtain ⟨p,hpi,⟨x,y,rfl,hx3,hy⟩⟩:=hp.get hx
   have ht:ps.take (i+1)=ps.take i++[p]:=by rw [List.take_succ,hpi];rfl
   refine ⟨x,_,rfl,hx3,rfl,_,_,rfl,_,_,rfl,_,_,rfl,rfl,?_⟩
   refine ⟨_,rfl,_,rfl,rfl,_,rfl,?_⟩
   by_cases e:p.u=z
   ·rw [decide_eq_true (show V.int p.u=V.int z by rw [e])]
    refine iteT ?_
    refine ⟨_,rfl,hN _ _ ⟨rfl,?_⟩⟩
    rw [ht,List.filter_append,List.map_append]
    simp [e]
   ·rw [decide_eq_false (show ¬ V.int p.u=V.int z from fun h=>e (by injection h))]
    refine iteF (hN _ _ ⟨rfl,?_⟩)
    rw [ht,List.filter_append,List.map_append]
    simp [e]
  ·rintro ys H' ⟨rfl,rfl⟩ p1 hp1
   have s1:=zad (o:=.lst (((ps.take us.length).filter fun p=>decide (p.u=z)).map (fun p=>V.int p.w))) hp1
   generalize hA:upd H' p1 (.lst (((ps.take us.length).filter fun p=>decide (p.u=z)).map (fun p=>V.int p.w)))=HA at s1
   have hA1:HA p1=some (.lst (((ps.take us.length).filter fun p=>decide (p.u=z)).map (fun p=>V.int p.w))):=by rw [← hA];exact zae
   rw [hlen,List.take_length] at hA1
   have hp2:=zam.same s1 hp
   refine ⟨_,rfl,l,rfl,⟨_,s1.seq hl⟩,zaN (K:=K) (a:=l) (xs:=us) (fun i ys H2=>H2=HA∧ys=((ps.take i).filter fun p=>decide (p.w=z)).map (fun p=>V.int p.u)) ⟨rfl,rfl⟩ (zao (by omega)) ?_ ?_ ?_⟩
   ·rintro i ys H2 hi ⟨rfl,rfl⟩
    refine ⟨?_,s1.seq hl⟩
    rw [List.length_map]
    exact Nat.le_trans (List.length_filter_le _ _) (by rw [List.length_take];omega)
   ·rintro i x ys H2 N hx ⟨rfl,rfl⟩ hN C s₀ H₀ ex
    obtain ⟨p,hpi,⟨x,y,rfl,hx3,hy⟩⟩:=hp2.get hx
    have ht:ps.take (i+1)=ps.take i++[p]:=by rw [List.take_succ,hpi];rfl
    refine ⟨x,_,rfl,hx3,rfl,_,_,rfl,_,_,rfl,_,_,rfl,rfl,?_⟩
    refine ⟨_,rfl,_,rfl,rfl,_,rfl,?_⟩
    by_cases e:p.w=z
    ·rw [decide_eq_true (show V.int p.w=V.int z by rw [e])]
     refine iteT ?_
     refine ⟨_,rfl,hN _ _ ⟨rfl,?_⟩⟩
     rw [ht,List.filter_append,List.map_append]
     simp [e]
    ·rw [decide_eq_false (show ¬ V.int p.w=V.int z from fun h=>e (by injection h))]
     refine iteF (hN _ _ ⟨rfl,?_⟩)
     rw [ht,List.filter_append,List.map_append]
     simp [e]
   ·rintro ys H2 ⟨rfl,rfl⟩ p2 hp2'
    have s2:=zad (o:=.lst (((ps.take us.length).filter fun p=>decide (p.w=z)).map (fun p=>V.int p.u))) hp2'
    have hB:(upd H2 p2 (.lst (((ps.take us.length).filter fun p=>decide (p.w=z)).map (fun p=>V.int p.u)))) p2=some (.lst ((ps.filter fun p=>decide (p.w=z)).map (fun p=>V.int p.u))):=by rw [hlen,List.take_length];exact zae
    have l1:=zq2 ps z
    have e0:(nb ps z).map V.int=(ps.filter fun p=>decide (p.u=z)).map (fun p=>V.int p.w)++(ps.filter fun p=>decide (p.w=z)).map (fun p=>V.int p.u):=by
     unfold nb
     rw [List.map_append,List.map_map,List.map_map]
     rfl
    have l2:=congrArg List.length e0
    rw [List.length_map,List.length_append] at l2
    refine ⟨_,rfl,_,rfl,p1,p2,_,_,rfl,rfl,s2 _ _ hA1,hB,Nat.le_of_lt (zao (by omega)),fun r hr'=>?_⟩
    rw [← e0]
    exact q _ r ((s1.trans s2).trans (zad hr')) ((s1.trans s2).free hr') zae
end
end K2
namespace K2
open PySem L2 Mp
theorem sl:¬ (("size" : Str) = "laid"):=by decide +kernel
def flds (n:Int) (L:Addr):List (Str×V):=putF "laid" (.ref L) (putF "size" (.int n) [])
theorem zdk (n:Int) (L:Addr):(flds n L).lookup ("size" : Str)=some (.int n):=by
 unfold flds
 rw [zaJ,if_neg sl,zaJ,if_pos rfl]
theorem zjd (n:Int) (L:Addr):(flds n L).lookup ("laid" : Str)=some (.ref L):=by
 unfold flds
 rw [zaJ,if_pos rfl]
theorem zcP (n:Int) (L:Addr) {m:Str} (h1:¬ m = "laid") (h2:¬ m = "size"):(flds n L).lookup m=none:=by
 unfold flds
 rw [zaJ,if_neg h1,zaJ,if_neg h2]
 all_goals rfl
structure zdp (K:W.Frag) (C:Addr) (H:Hp) (x L:Addr) (n:Int) (ps:List Pipe):Prop where
 ob:∃ dx,H x=some (.ins C dx (flds n L))
 pi:∃ us,H L=some (.lst us)∧zam K H us ps
theorem zdp.same {K:W.Frag} {C:Addr} {H H':Hp} {x L:Addr} {n:Int} {ps:List Pipe} (s:Same H H') (h:zdp K C H x L n ps):zdp K C H' x L n ps:=by
 obtain ⟨⟨dx,h1⟩,us,h2,h3⟩:=h
 exact ⟨⟨dx,s _ _ h1⟩,us,s _ _ h2,zam.same s h3⟩
def zlF (K:W.Frag) (C:Addr):Sp:=fun vs H Q _=>∃ (x dx l:Addr) (n:Int) (us:List V) (ps:List Pipe),vs=[.ref x,.int n,.ref l]∧H x=some (.ins C dx [])∧SqL K H l us∧zam K H us ps∧zbV n ps ∧
 ∀ (H':Hp) (L:Addr),H L=none→zdp K C H' x L n ps→(∀ b o,H b=some o→b≠x→H' b=some o)→Q .non H'
def zdK (K:W.Frag) (C:Addr):Sp:=fun vs H Q _=>∃ (x L:Addr) (n:Int) (ps:List Pipe),vs=[.ref x]∧zdp K C H x L n ps∧∀ (r:Addr) (us:List V),H r=none→zam K H us ps→Q (.ref r) (upd H r (.lst us))
section
variable {P:Program} {w:World} {K:W.Frag} {mg:Str→Option Value} {base:Heap} {C f fn fb fc:Addr} {fd fdn fdb fdc:FuncData} {t1 t2 t3:Tok}
theorem zdx.ne {H:Hp} {v:V} {p:Pipe} {x:Addr} {o o':HO} (h:zdx K H v p) (hx:H x=some o) (n1:∀ ys,o≠.tup ys) (n2:∀ ob ys,o≠.frz ob (.tup ys)):zdx K (upd H x o') v p:=by
 obtain ⟨a,b,rfl,h1,h2⟩:=h
 have key:∀ {c:Addr} {xs:List V},SqT K H c xs→SqT K (upd H x o') c xs:=fun {c xs} h=>by
  rcases h with (z | ⟨ob,z⟩) | z
  ·exact .inl (.inl (by rw [zar (zjF z hx (fun e=>n1 _ e.symm))];exact z))
  ·exact .inl (.inr ⟨ob,by rw [zar (zjF z hx (fun e=>n2 _ _ e.symm))];exact z⟩)
  ·exact .inr z
 exact ⟨a,b,rfl,key h1,key h2⟩
theorem zam.ne {H:Hp} {x:Addr} {o o':HO} (hx:H x=some o) (n1:∀ ys,o≠.tup ys) (n2:∀ ob ys,o≠.frz ob (.tup ys)):∀ {us:List V} {ps:List Pipe},zam K H us ps→zam K (upd H x o') us ps
 | _,_,.nil=>.nil
 | _,_,.cons a b=>.cons (a.ne hx n1 n2) (zam.ne hx n1 n2 b)
theorem zam.snoc {H:Hp}:∀ {us:List V} {ps:List Pipe} {v:V} {p:Pipe},zam K H us ps→zdx K H v p→zam K H (us++[v]) (ps++[p])
 | _,_,_,_,.nil,h=>.cons h .nil
 | _,_,_,_,.cons a b,h=>.cons a (zam.snoc b h)
theorem SqL.ne {H:Hp} {x l:Addr} {o o':HO} {xs:List V} (h:SqL K H l xs) (hx:H x=some o) (n1:∀ ys,o≠.lst ys) (n2:∀ ob ys,o≠.frz ob (.lst ys)):SqL K (upd H x o') l xs:=by
 rcases h with (z | ⟨ob,z⟩) | z
 ·exact .inl (.inl (by rw [zar (zjF z hx (fun e=>n1 _ e.symm))];exact z))
 ·exact .inl (.inr ⟨ob,by rw [zar (zjF z hx (fun e=>n2 _ _ e.symm))];exact z⟩)
 ·exact .inr z
theorem zpu (F:Fun K "__init__" "Net.__init__" zbE f fd) (T:Txt K mg C t1 t2 t3) (znS:mg "is_net" = some (.ref fn)) (zod:W.keepIn K (.ref fn)=true) (zoq:Binds K fdn ["places","pipes"] []) (zou:FnOk P w K mg base CX0 5 fn fdn ["places","pipes"] (zqh K)):FnOk P w K mg base CX0 6 f fd ["self","places","pipes"] (zlF K C):=by
 refine F.ok zg5 (fun vs H Q E h=>?_) (fun cdv A outer s H vs Q E hr h=>?_)
 ·obtain ⟨x,dx,l,n,us,ps,rfl,_⟩:=h
  rfl
 ·obtain ⟨x,dx,l,n,us,ps,rfl,hx,hl,hp,ok,q⟩:=h
  have hlen:us.length=ps.length:=Paired.length hp
  have hle:=ok.le
  refine ⟨_,(zaf (zaP (zbj (zaX (zak zou (hr.mono (by decide)) rfl znS zod zoq .nil zaq (zaa (pv 1) (zaa (pv 2) zac))))) (zaj zeS) zaz)
   (zaf (ziI (pv 0) (pv 1) rfl)
   (zaj (ziI (pv 0) (zaY ["one","other","hardness"] [] rfl rfl (by kernel_rfl) (zaS (pv 2)) (fun _ _ _ _=>(zbZ (n:=3) rfl (zap (zan (i:=0) (show (["one","other","hardness"]:List Str).Nodup by decide +kernel) rfl (Or.inl rfl)) (zap (zan (i:=1) (show (["one","other","hardness"]:List Str).Nodup by decide +kernel) rfl (Or.inl rfl)) (zap (zan (i:=2) (show (["one","other","hardness"]:List Str).Nodup by decide +kernel) rfl (Or.inl rfl)) zbg))))) (fun _ _ _ _=>(zdi (za3 zaw (za3 zaw (za3 zaw zce))))) (fun _ _ _ _=>zbI) (fun _ _ _ _=>(zaI (zaa (pv 0) (zaa (pv 1) (zaa (zbd zix (by rfl) T.n_tuple zgo (zaa (pv 2) zac)) zac)))))) rfl)))),?_⟩
  refine ⟨_,rfl,_,rfl,n,l,us,ps,rfl,hl,hp,ok,fun H1 s1=>⟨_,rfl,iteF ?_⟩⟩
  refine ⟨_,rfl,_,rfl,x,C,dx,[],rfl,s1 _ _ hx,T.c_Net,T.a_size,(by show 0<1000;decide),?_⟩
  have hx2:(upd H1 x (.ins C dx (putF "size" (.int n) []))) x=some (.ins C dx (putF "size" (.int n) [])):=zae
  have hl2:SqL K (upd H1 x (.ins C dx (putF "size" (.int n) []))) l us:=SqL.ne (s1.seq hl) (s1 _ _ hx) (fun _=>nofun) (fun _ _=>nofun)
  have hp2:zam K (upd H1 x (.ins C dx (putF "size" (.int n) []))) us ps:=zam.ne (s1 _ _ hx) (fun _=>nofun) (fun _ _=>nofun) (zam.same s1 hp)
  have s2:∀ b o,H b=some o→b≠x→(upd H1 x (.ins C dx (putF "size" (.int n) []))) b=some o:=fun b o e hb=>by rw [zar hb];exact s1 _ _ e
  generalize upd H1 x (.ins C dx (putF "size" (.int n) []))=H2 at hx2 hl2 hp2 s2 ⊢
  refine ⟨_,rfl,l,rfl,⟨_,hl2⟩,zaN (K:=K) (a:=l) (xs:=us) (fun i ys H'=>Same H2 H'∧zam K H' ys (ps.take i)∧ys.length=i) ⟨Same.refl _,.nil,rfl⟩ (zao (by omega)) ?_ ?_ ?_⟩
  ·rintro i ys H' hi ⟨s3,_,e⟩
   exact ⟨by omega,s3.seq hl2⟩
  ·rintro i v ys H' N hv ⟨s3,h3,e3⟩ hN C' s₀ H₀ ex
   obtain ⟨p,hpi,⟨y,z,rfl,hy,hz⟩⟩:=hp2.get hv
   have ht:ps.take (i+1)=ps.take i++[p]:=by rw [List.take_succ,hpi];rfl
   refine ⟨y,_,rfl,Same.tup s3 hy,rfl,_,_,rfl,_,_,rfl,_,_,rfl,rfl,?_⟩
   dsimp only [zaQ]
   refine iteT ?_
   refine ⟨_,rfl,_,rfl,_,rfl,z,_,rfl,.inr ⟨Same.tup s3 hz,(by show 3≤sizeLine;decide),fun t ht'=>?_⟩⟩
   have s4:=zad (o:=.tup [.int p.u,.int p.w,.ref z]) ht'
   exact hN _ _ ⟨s3.trans s4,by rw [ht];exact zam.snoc (zam.same s4 h3) ⟨t,z,rfl,SqT.of zae,Same.tup (s3.trans s4) hz⟩,by rw [List.length_append];simp;omega⟩
  ·rintro ys H' ⟨s3,h3,e3⟩ L hL
   rw [hlen,List.take_length] at h3
   have s4:=zad (o:=.lst ys) hL
   refine ⟨_,rfl,x,C,dx,_,rfl,s4 _ _ (s3 _ _ hx2),T.c_Net,T.a_laid,(by show 1<1000;decide),?_⟩
   have nx:L≠x:=(zal (s3 _ _ hx2) hL).symm
   have hLn:H L=none:=by
    cases e:H L with
    | none=>rfl
    | some o=>exact absurd hL (by rw [s3 _ _ (s2 _ _ e nx)];exact nofun)
   refine q _ L hLn ⟨⟨dx,zae⟩,ys,by rw [zar nx];exact zae,zam.ne (s4 _ _ (s3 _ _ hx2)) (fun _=>nofun) (fun _ _=>nofun) (zam.same s4 h3)⟩ fun b o e hb=>?_
   rw [zar hb]
   exact s4 _ _ (s3 _ _ (s2 _ _ e hb))
theorem znD (F:Fun K "pipes" "Net.pipes" zc8 f fd) (T:Txt K mg C t1 t2 t3):FnOk P w K mg base CX0 1 f fd ["self"] (zdK K C):=by
 refine F.ok ziE (fun vs H Q E h=>?_) (fun cdv A outer s H vs Q E hr h=>?_)
 ·obtain ⟨x,L,n,ps,rfl,_⟩:=h
  rfl
 ·obtain ⟨x,L,n,ps,rfl,⟨⟨dx,h1⟩,us,h2,h3⟩,q⟩:=h
  refine ⟨_,(zaj (zas (zbd zbv (by rfl) T.n_list zdm (zaa (zaL (pv 0) rfl) zac)))),?_⟩
  exact ⟨_,rfl,x,C,dx,_,_,rfl,h1,T.c_Net,T.a_laid,zjd _ _,L,us,rfl,.inl (SqL.of h2),fun r hr'=>q r us hr' h3⟩
end
end K2
namespace K2
open PySem L2 Mp
theorem zbV.fits {n:Int} {ps:List Pipe} (h:zbV n ps):Fits n ps:=fun p hp=>⟨⟨(h.ok p hp).u0,(h.ok p hp).un⟩,⟨(h.ok p hp).w0,(h.ok p hp).wn⟩⟩
def zi7 (K:W.Frag) (C:Addr):Sp:=fun vs H Q _=>∃ (x L:Addr) (n a:Int) (ps:List Pipe),vs=[.ref x,.int a]∧zdp K C H x L n ps∧zbV n ps∧0≤a∧a<n ∧
 ∀ (H':Hp) (r:Addr) (ms:List Int),Same H H'→H r=none→zfu ps a ms→H' r=some (.lst (ms.map V.int))→Q (.ref r) H'
structure Mid (H H':Hp) (d l:Addr) (R W:List Int):Prop where
 se:Same H H'
 di:∃ kvs:List (Key×V),H' d=some (.dK kvs)∧kvs.map (·.1)=R.map Sum.inl
 li:H' l=some (.lst (W.map V.int))
def muP (d l:Addr) (H:Hp):Nat:=match H d,H l with
 | some (.dK kvs),some (.lst us)=>2*(8-kvs.length)+us.length
 | _,_=>0
theorem Mid.mu {H H':Hp} {d l:Addr} {R W:List Int} (m:Mid H H' d l R W):muP d l H'=2*(8-R.length)+W.length:=by
 obtain ⟨_,⟨kvs,h1,h2⟩,h3⟩:=m
 have e:=congrArg List.length h2
 rw [List.length_map,List.length_map] at e
 unfold muP
 rw [h1,h3]
 show 2*(8-kvs.length)+(W.map V.int).length=_
 rw [List.length_map,e]
section
variable {P:Program} {w:World} {K:W.Frag} {mg:Str→Option Value} {base:Heap} {C f fn fb fc:Addr} {fd fdn fdb fdc:FuncData} {t1 t2 t3:Tok}
theorem zpr (F:Fun K "part" "Net.part" zcZ f fd) (T:Txt K mg C t1 t2 t3) (zbp:mg "counts_one_of" = some (.ref fc)) (zbq:W.keepIn K (.ref fc)=true) (zbr:Binds K fdc ["value","many"] []) (zbs:FnOk P w K mg base CX0 2 fc fdc ["value","many"] zge)
  (ziO:mg "neighbours" = some (.ref fb)) (zja:W.keepIn K (.ref fb)=true) (zjp:Binds K fdb ["pipes","at"] []) (zju:FnOk P w K mg base CX0 1 fb fdb ["pipes","at"] (spNb K)):FnOk P w K mg base CX0 3 f fd ["self","at"] (zi7 K C):=by
 refine F.ok zdc (fun vs H Q E h=>?_) (fun cdv A outer s H vs Q E hr h=>?_)
 ·obtain ⟨x,L,n,a,ps,rfl,_⟩:=h
  rfl
 ·obtain ⟨x,L,n,a,ps,rfl,net,ok,a0,an,q⟩:=h
  have hu:=zrv hr
  obtain ⟨⟨dx,h1⟩,us,h2,h3⟩:=id net
  have n8:=ok.n8
  have n1:=ok.n1
  obtain ⟨m,rfl⟩:∃ m:Nat,n=m:=⟨n.toNat,by omega⟩
  refine ⟨_,(zaf (zaP (zbj (zaX (zak zbs (hr.mono (by decide)) rfl zbp zbq zbr .nil zaq (zaa (pv 1) (zaa (zaL (pv 0) rfl) zac))))) (zaj zeS) zaz)
   (zaf (zax (i:=2) zdc.nd rfl (Or.inl rfl) (zpj (znx (pv 1) zcs zpg) rfl rfl (fun z=>nomatch z) (by decide)))
   (zaf (zax (i:=3) zdc.nd rfl (Or.inl rfl) (zdE (zaa (pv 1) zac)))
   (zaf (zhV PassesOwn.never (zat zlU (za2 za4 (by rfl) T.n_len zcr (zaa (pv 3) zac)) zag (za0 _)) (zaf (zax (i:=4) zdc.nd rfl (Or.inl rfl) (ziK PySem.F.plainAttrs_list PySem.F.slot_list_pop PySem.F.type_list_pop zq4 (pv 3)))
   (zaj (zdd PassesOwn.never rfl (zaS (zak zju (hr.mono (by decide)) rfl ziO zja zjp .nil zaq (zaa (zaL (pv 0) rfl) (zaa (pv 4) zac)))) (zan (i:=5) zdc.nd rfl (Or.inl rfl)) (zaj (zaP (zqo (zlS hu (pv 5) (pv 2))) (zaf (zpf hu (pv 2) (pv 5) zcs rfl)
   (zaj (zcc (ziL PySem.F.plainAttrs_list PySem.F.slot_list_append PySem.F.type_list_append zde (pv 3) (zaa (pv 5) zac))))) zaz))))))
   (zaj (zas (za2 (zji rfl) (by rfl) T.n_sorted zjj (zaa (pv 2) zac)))))))),?_⟩
  refine ⟨_,rfl,_,rfl,x,C,dx,_,_,rfl,h1,T.c_Net,T.a_size,zdk _ _,a,m,rfl,a0,an,_,rfl,iteF ?_⟩
  intro d hd
  refine ⟨_,rfl,zae,[(Sum.inl a,.bl true)],rfl,by show 1≤15;decide,?_⟩
  have eD:(upd (upd H d (.dK [])) d (.dK (zfR [] [(Sum.inl a,V.bl true)]))) d=some (.dK [(Sum.inl a,V.bl true)]):=by rw [zae];rfl
  have sD:Same H (upd (upd H d (.dK [])) d (.dK (zfR [] [(Sum.inl a,V.bl true)]))):=fun b o e=>by
   rw [zar (zal e hd),zar (zal e hd)]
   exact e
  generalize upd (upd H d (.dK [])) d (.dK (zfR [] [(Sum.inl a,V.bl true)]))=HD at eD sD ⊢
  refine ⟨_,rfl,by show 1≤sizeLine;decide,fun l hl=>?_⟩
  have sL:=zad (o:=.lst [.int a]) hl
  have nd:d≠l:=zal eD hl
  have hlH:H l=none:=sD.free hl
  refine zhI (fun σ H'=>∃ (R W:List Int) (v4 v5:Option V),σ=[some (.ref x),some (.int a),some (.ref d),some (.ref l),v4,v5]∧Mid H H' d l R W∧Walk m ps a R W∧2*(8-R.length)+W.length≤15)
   (fun _ H'=>muP d l H') ⟨[a],[a],none,none,rfl,⟨sD.trans sL,⟨_,sL _ _ eD,rfl⟩,zae⟩,Walk.start ⟨a0,an⟩,by show 2*(8-1)+1≤15;decide⟩ ?_ ?_
  ·rintro σ H' ⟨R,W,v4,v5,rfl,mid,wk,h15⟩
   obtain ⟨se,⟨kvs,hd1,hk⟩,hl1⟩:=id mid
   have hmu:=mid.mu
   refine ⟨_,rfl,l,_,rfl,.inl (SqL.of hl1),_,_,rfl,rfl,_,rfl,?_⟩
   rw [List.length_map]
   rcases List.eq_nil_or_concat W with rfl | ⟨W',z,rfl⟩
   ·refine iteF ?_
    have hR:=wk.good.len
    refine ⟨_,rfl,d,R,kvs,rfl,hd1,hk,by omega,fun r ms hr' hs=>?_⟩
    exact q _ r ms (se.trans (zad hr')) (se.free hr') (zeV wk.good.nd wk.stop hs.1 hs.2) zae
   ·rw [List.concat_eq_append] at *
    rw [decide_eq_true (show (((W'++[z]).length:Nat):Int)>0 by rw [List.length_append];simp)]
    refine iteT ?_
    have eW:(W'++[z]).map V.int=W'.map V.int++[.int z]:=by rw [List.map_append];rfl
    refine ⟨_,rfl,.inl ⟨rfl,_,SqL.of hl1⟩,l,_,.int z,rfl,rfl,hl1,by rw [eW];simp,?_⟩
    rw [eW,List.dropLast_concat]
    have m1:Mid H (upd H' l (.lst (W'.map V.int))) d l R W':=⟨fun b o e=>by rw [zar (zal e hlH)];exact se _ _ e,⟨kvs,by rw [zar nd];exact hd1,hk⟩,zae⟩
    have tk:=wk.pop
    generalize upd H' l (.lst (W'.map V.int))=H1 at m1 ⊢
    refine ⟨_,rfl,x,C,dx,_,_,rfl,m1.se _ _ h1,T.c_Net,T.a_laid,zjd _ _,_,rfl,L,us,ps,z,rfl,SqL.of (m1.se _ _ h2),zam.same m1.se h3,ok.le,fun H2 r s2 hr2 h2r=>⟨r,rfl,⟨_,SqL.of h2r⟩,?_⟩⟩
    have m2:Mid H H2 d l R W':=⟨m1.se.trans s2,⟨m1.di.choose,s2 _ _ m1.di.choose_spec.1,m1.di.choose_spec.2⟩,s2 _ _ m1.li⟩
    have nlr:l≠r:=zal m1.li hr2
    have ndr:d≠r:=zal m1.di.choose_spec.1 hr2
    have hRl:=wk.good.len
    refine zdQ (K:=K) (a:=r) (xs:=(nb ps z).map V.int) (fun i σ H3=>∃ (R3 W3:List Int) (v:Option V),σ=[some (.ref x),some (.int a),some (.ref d),some (.ref l),some (.int z),v]∧Mid H H3 d l R3 W3∧Turn m ps a z i R3 W3∧H3 r=some (.lst ((nb ps z).map V.int))∧2*(8-R3.length)+W3.length≤2*(8-R.length)+W'.length)
     ⟨R,W',_,rfl,m2,tk,h2r,Nat.le_refl _⟩ (fun i σ H3 _ ⟨_,_,_,_,_,_,z,_⟩=>SqL.of z) ?_ ?_
    ·rintro i v σ H3 hv ⟨R3,W3,v5',rfl,m3,t3,hr3,hb3⟩
     obtain ⟨se3,⟨kv3,hd3,hk3⟩,hl3⟩:=id m3
     rw [List.getElem?_map] at hv
     cases hy:(nb ps z)[i]? with
     | none=>rw [hy] at hv;cases hv
     | some y =>
      rw [hy] at hv
      cases hv
      have hl8:=t3.good.len
      have ek:=congrArg List.length hk3
      rw [List.length_map,List.length_map] at ek
      refine ⟨_,rfl,_,rfl,d,_,rfl,DGet.k (k:=Sum.inl y) hd3,_,rfl,?_⟩
      cases e:valV kv3 (Sum.inl y:Key) with
      | some u =>
       refine iteF ?_
       have hin:y∈R3:=by
        have:=zoP e
        rw [hk3] at this
        obtain ⟨y',h1,h2⟩:=List.mem_map.mp this
        cases h2
        exact h1
       exact ⟨R3,W3,_,rfl,m3,t3.old hy hin,hr3,hb3⟩
      | none =>
       refine iteT ?_
       have hout:y∉R3:=fun h=>znb e (by rw [hk3];exact List.mem_map.mpr ⟨y,h,rfl⟩)
       have t4:=t3.new ok.fits hy hout
       have hl9:=t4.good.len
       rw [List.length_append] at hl9
       have:([y]:List Int).length=1:=rfl
       refine ⟨_,rfl,_,rfl,d,_,rfl,DPut.k (k:=Sum.inl y) hd3 (zao (by omega)),?_⟩
       rw [znv _ e]
       have hl4:(upd H3 d (.dK (kv3++[(Sum.inl y,V.bl true)]))) l=some (.lst (W3.map V.int)):=by rw [zar nd.symm];exact hl3
       have hWl:W3.length≤1000:=by
        rw [List.length_append] at h15
        omega
       refine ⟨_,rfl,.inl ⟨rfl,_,SqL.of hl4⟩,_,rfl,l,_,_,rfl,rfl,hl4,by rw [List.length_map];exact zao hWl,?_⟩
       refine ⟨R3++[y],W3++[y],_,rfl,⟨fun b o eb=>?_,⟨_,by rw [zar nd];exact zae,by rw [List.map_append,hk3,List.map_append];rfl⟩,by rw [zae,List.map_append];rfl⟩,t4,?_,by rw [List.length_append,List.length_append];omega⟩
       ·rw [zar (zal eb hlH),zar (zal eb hd)]
        exact se3 _ _ eb
       ·rw [zar nlr.symm,zar ndr.symm]
        exact hr3
    ·rintro σ H3 ⟨R3,W3,v5',rfl,m3,t3,hr3,hb3⟩
     rw [List.length_map] at t3
     refine ⟨⟨R3,W3,_,_,rfl,m3,t3.stop,by rw [List.length_append] at h15;omega⟩,?_⟩
     show muP d l H3<muP d l H'
     rw [m3.mu,hmu,List.length_append]
     simp
     omega
  ·rintro σ H' Q1 Q2 f ⟨v,e1,p,ys,e2,e3,i,j,e4,e5,k',e6,q'⟩
   exact ⟨v,e1,p,ys,e2,e3,i,j,e4,e5,k',e6,f _ _ q'⟩
end
end K2
namespace K2
open PySem L2 Mp
section
variable {P:Program} {w:World} {K:W.Frag} {mg:Str→Option Value} {base:Heap} {C f fi fp fc:Addr} {fd fdi fdp fdc:FuncData} {t1 t2 t3:Tok}
theorem zdf {H H':Hp} {x' dx':Addr} {n:Int} (nx:H x'=none) (ndx:H dx'=none) (kp:∀ b o,(upd (upd H dx' (.own x')) x' (.ins C dx' [])) b=some o→b≠x'→H' b=some o):Same H H':=fun b o e=>by
 refine kp b o ?_ (zal e nx)
 rw [zar (zal e nx),zar (zal e ndx)]
 exact e
theorem ze3 {H:Hp} {x' dx':Addr} (nx:H x'=none) (ndx:H dx'=none):Same H (upd (upd H dx' (.own x')) x' (.ins C dx' [])):=fun b o e=>by
 rw [zar (zal e nx),zar (zal e ndx)]
 exact e
end
end K2
namespace K2
open PySem L2 Mp
theorem zbG (x:Int) (S:List Int):inV (.int x) (S.map V.int)=decide (x∈S):=by
 unfold inV
 rw [List.any_map]
 show S.any (fun a=>a==x)=decide (x∈S)
 induction S with
 | nil=>simp
 | cons a S ih =>
  rw [List.any_cons,ih]
  by_cases e:a=x
  ·simp [e]
  ·have e':¬ x=a:=fun h=>e h.symm
   simp [e,e']
theorem zaE (S:List Int):(S.map V.int).all ziu=true:=by
 rw [List.all_map]
 exact List.all_eq_true.mpr fun _ _=>rfl
def Fq (K:W.Frag) (H:Hp) (v:V) (q:Rat):Prop:=∃ p,v=.ref p∧SqT K H p [.int q.num,.int (q.den:Int)]
def zht (K:W.Frag):Sp:=fun vs H Q _=>∃ (a b:Int) (k:Nat),vs=[.int a,.int b]∧b≠0∧k≤9000∧Bt k b∧∀ p,H p=none→Q (.ref p) (upd H p (.tup [.int (Rat.divInt a b).num,.int ((Rat.divInt a b).den:Int)]))
section
variable {P:Program} {w:World} {K:W.Frag} {mg:Str→Option Value} {base:Heap} {C f:Addr} {fd:FuncData} {t1 t2 t3:Tok}
theorem zpt {f1 f2:Addr} {fd1 fd2:FuncData} (F:Fun K "made" "made" zh0 f fd) (T:Txt K mg C t1 t2 t3) (zbS:mg "is_whole" = some (.ref f1)) (zbT:W.keepIn K (.ref f1)=true) (zbU:Binds K fd1 ["value"] []) (zbW:FnOk P w K mg base CX0 1 f1 fd1 ["value"] zgv)
  (zb6:mg "common_divisor" = some (.ref f2)) (zb7:W.keepIn K (.ref f2)=true) (zb8:Binds K fd2 ["a","b"] []) (zb9:FnOk P w K mg base CX0 1 f2 fd2 ["a","b"] zni) :
  FnOk P w K mg base CX0 2 f fd ["a","b"] (zht K):=by
 refine F.ok zj8 (fun vs H Q E h=>?_) (fun cdv A outer s H vs Q E hr h=>?_)
 ·obtain ⟨a,b,k,rfl,_⟩:=h
  rfl
 ·obtain ⟨a,b,k,rfl,hb,hk,hB,q⟩:=h
  refine ⟨_,(zaf (zaP (PW.pt (pw_or (zbj (zaX (zak zbW (hr.mono (by decide)) rfl zbS zbT zbU .nil zaq (zaa (pv 0) zac)))) (pw_or (zbj (zaX (zak zbW (hr.mono (by decide)) rfl zbS zbT zbU .nil zaq (zaa (pv 1) zac)))) (pw_or1 (zat zcd (pv 1) zag (za0 _)))))) (zaj zeS) zaz)
   (zaf (zax (i:=2) zj8.nd rfl (Or.inl rfl) (zak zb9 (hr.mono (by decide)) rfl zb6 zb7 zb8 .nil zaq (zaa (pv 0) (zaa (pv 1) zac))))
   (zaf (zaP (zat znz (pv 1) zag (za0 _)) (zaj (zax (i:=2) zj8.nd rfl (Or.inl rfl) (zpi zly (pv 2)))) zaz)
   (zaj (zas (zaI (zaa (za1 zet (pv 0) (pv 2)) (zaa (za1 zet (pv 1) (pv 2)) zac)))))))),?_⟩
  refine ⟨_,rfl,a,rfl,_,rfl,iteF ?_⟩
  refine ⟨_,rfl,b,rfl,_,rfl,iteF ?_⟩
  refine ⟨_,rfl,rfl,_,rfl,?_⟩
  refine ite2 (fun h=>?_) (fun _=>?_)
  ·have h':=of_decide_eq_true h
   injection h' with h'
   exact absurd h' hb
  ·refine ⟨_,rfl,_,rfl,a,b,rfl,?_⟩
   have hd:Bt k (My.dv a b):=Bt.le (by rw [My.zqN];exact Nat.le_of_dvd (by omega) (Int.gcd_dvd_natAbs_right a b)) hB
   have fin:∀ σ:St,σ=[some (.int a),some (.int b),some (.int (My.dv a b))]→tRet (tTup (zjy (tOp (rI zlu fun i j=>.int (i.fdiv j)) (tVar 0) (tVar 2)) (zjy (tOp (rI zlu fun i j=>.int (i.fdiv j)) (tVar 1) (tVar 2)) tNil))) { nx:=fun _ H'=>Q .non H',rt:=Q } σ H:=by
    rintro σ rfl
    refine ⟨_,rfl,_,rfl,_,_,rfl,rfl,⟨My.zqM a b hb,k,hk,hd⟩,_,rfl,_,rfl,_,_,rfl,rfl,⟨My.zqM a b hb,k,hk,hd⟩,by show 2≤sizeLine;decide,fun p hp=>?_⟩
    dsimp only
    rw [My.zhZ a b hb,My.zia a b hb]
    exact q p hp
   refine ⟨_,rfl,_,_,rfl,rfl,_,rfl,?_⟩
   refine ite2 (fun h=>?_) (fun h=>?_)
   ·have h':b<0:=of_decide_eq_true h
    refine ⟨_,rfl,_,rfl,?_⟩
    exact fin _ (by unfold My.dv;rw [if_pos h'];rfl)
   ·have h':¬ b<0:=fun z=>h (decide_eq_true z)
    exact fin _ (by unfold My.dv;rw [if_neg h'];rfl)
end
def BtQ (k:Nat) (q:Rat):Prop:=Bt k q.num∧Bt k (q.den:Int)
theorem zdl (q:Rat):(q.den:Int)≠0:=by have:=q.den_nz;omega
def zeO (K:W.Frag) (op:Rat→Rat→Rat) (ok:Rat→Prop):Sp:=fun vs H Q _=>∃ (u v:V) (q r:Rat) (k:Nat),vs=[u,v]∧Fq K H u q∧Fq K H v r∧ok r∧k≤4000∧BtQ k q∧BtQ k r∧∀ p,H p=none→Q (.ref p) (upd H p (.tup [.int (op q r).num,.int ((op q r).den:Int)]))
theorem zoM (q r:Rat):Rat.divInt (q.num*r.den+r.num*q.den) (q.den*r.den)=q+r:=by
 rw [← My.add_div _ _ _ _ (zdl q) (zdl r),My.same,My.same]
theorem zo2 (q r:Rat):Rat.divInt (q.num*r.den-r.num*q.den) (q.den*r.den)=q-r:=by
 rw [← My.zoR _ _ _ _ (zdl q) (zdl r),My.same,My.same]
theorem zq3 (q r:Rat):Rat.divInt (q.num*r.num) (q.den*r.den)=q*r:=by
 rw [← My.mul_div,My.same,My.same]
theorem zqQ (q r:Rat):Rat.divInt (q.num*r.den) (q.den*r.num)=q/r:=by
 rw [← My.zpI,My.same,My.same]
theorem zkS {a b:Int} (ha:a≠0) (hb:b≠0):a*b≠0:=Int.mul_ne_zero ha hb
theorem zq1 {r:Rat} (h:r≠0):r.num≠0:=fun z=>h (Rat.num_eq_zero.mp z)
section
variable {P:Program} {w:World} {K:W.Frag} {mg:Str→Option Value} {base:Heap} {f fm:Addr} {fd fdm:FuncData}
theorem zpp (F:Fun K "plus" "plus" zhy f fd) (zfa:mg "made" = some (.ref fm)) (k_made:W.keepIn K (.ref fm)=true) (zfr:Binds K fdm ["a","b"] []) (zfx:FnOk P w K mg base CX0 2 fm fdm ["a","b"] (zht K)):FnOk P w K mg base CX0 3 f fd ["one","other"] (zeO K (·+·) fun _=>True):=by
 refine F.ok zpa (fun vs H Q E h=>?_) (fun cdv A outer s H vs Q E hr h=>?_)
 ·obtain ⟨u,v,q,r,k,rfl,_⟩:=h
  rfl
 ·obtain ⟨u,v,q,r,k,rfl,⟨p,rfl,hp⟩,⟨p',rfl,hp'⟩,_,hk,⟨q1,q2⟩,⟨r1,r2⟩,kq⟩:=h
  refine ⟨_,(zaj (zas (zak zfx (hr.mono (by decide)) rfl zfa k_made zfr .nil zaq (zaa (za1 zb5 (za1 zcO (zay zav (pv 0) zag (fun _ _=>rfl)) (zay zav (pv 1) zag (fun _ _=>rfl))) (za1 zcO (zay zav (pv 1) zag (fun _ _=>rfl)) (zay zav (pv 0) zag (fun _ _=>rfl)))) (zaa (za1 zcO (zay zav (pv 0) zag (fun _ _=>rfl)) (zay zav (pv 1) zag (fun _ _=>rfl))) zac))))),?_⟩
  refine ⟨_,rfl,p,_,_,_,rfl,rfl,hp,rfl,_,rfl,p',_,_,_,rfl,rfl,hp',rfl,_,_,rfl,rfl,⟨k,k,by omega,by omega,q1,r2⟩,_,rfl,p',_,_,_,rfl,rfl,hp',rfl,_,rfl,p,_,_,_,rfl,rfl,hp,rfl,_,_,rfl,rfl,⟨k,k,by omega,by omega,r1,q2⟩,_,_,rfl,rfl,?_⟩
  refine ⟨_,rfl,p,_,_,_,rfl,rfl,hp,rfl,_,rfl,p',_,_,_,rfl,rfl,hp',rfl,_,_,rfl,rfl,⟨k,k,by omega,by omega,q2,r2⟩,?_⟩
  refine ⟨_,_,k+k,rfl,zkS (zdl q) (zdl r),by omega,q2.mul r2,fun a ha=>?_⟩
  rw [zoM]
  exact kq a ha
theorem znF (F:Fun K "minus" "minus" zf5 f fd) (zfa:mg "made" = some (.ref fm)) (k_made:W.keepIn K (.ref fm)=true) (zfr:Binds K fdm ["a","b"] []) (zfx:FnOk P w K mg base CX0 2 fm fdm ["a","b"] (zht K)):FnOk P w K mg base CX0 3 f fd ["one","other"] (zeO K (· - ·) fun _=>True):=by
 refine F.ok zno (fun vs H Q E h=>?_) (fun cdv A outer s H vs Q E hr h=>?_)
 ·obtain ⟨u,v,q,r,k,rfl,_⟩:=h
  rfl
 ·obtain ⟨u,v,q,r,k,rfl,⟨p,rfl,hp⟩,⟨p',rfl,hp'⟩,_,hk,⟨q1,q2⟩,⟨r1,r2⟩,kq⟩:=h
  refine ⟨_,(zaj (zas (zak zfx (hr.mono (by decide)) rfl zfa k_made zfr .nil zaq (zaa (za1 zh4 (za1 zcO (zay zav (pv 0) zag (fun _ _=>rfl)) (zay zav (pv 1) zag (fun _ _=>rfl))) (za1 zcO (zay zav (pv 1) zag (fun _ _=>rfl)) (zay zav (pv 0) zag (fun _ _=>rfl)))) (zaa (za1 zcO (zay zav (pv 0) zag (fun _ _=>rfl)) (zay zav (pv 1) zag (fun _ _=>rfl))) zac))))),?_⟩
  refine ⟨_,rfl,p,_,_,_,rfl,rfl,hp,rfl,_,rfl,p',_,_,_,rfl,rfl,hp',rfl,_,_,rfl,rfl,⟨k,k,by omega,by omega,q1,r2⟩,_,rfl,p',_,_,_,rfl,rfl,hp',rfl,_,rfl,p,_,_,_,rfl,rfl,hp,rfl,_,_,rfl,rfl,⟨k,k,by omega,by omega,r1,q2⟩,_,_,rfl,rfl,?_⟩
  refine ⟨_,rfl,p,_,_,_,rfl,rfl,hp,rfl,_,rfl,p',_,_,_,rfl,rfl,hp',rfl,_,_,rfl,rfl,⟨k,k,by omega,by omega,q2,r2⟩,?_⟩
  refine ⟨_,_,k+k,rfl,zkS (zdl q) (zdl r),by omega,q2.mul r2,fun a ha=>?_⟩
  rw [zo2]
  exact kq a ha
theorem zn4 (F:Fun K "times" "times" zf4 f fd) (zfa:mg "made" = some (.ref fm)) (k_made:W.keepIn K (.ref fm)=true) (zfr:Binds K fdm ["a","b"] []) (zfx:FnOk P w K mg base CX0 2 fm fdm ["a","b"] (zht K)):FnOk P w K mg base CX0 3 f fd ["one","other"] (zeO K (·*·) fun _=>True):=by
 refine F.ok znn (fun vs H Q E h=>?_) (fun cdv A outer s H vs Q E hr h=>?_)
 ·obtain ⟨u,v,q,r,k,rfl,_⟩:=h
  rfl
 ·obtain ⟨u,v,q,r,k,rfl,⟨p,rfl,hp⟩,⟨p',rfl,hp'⟩,_,hk,⟨q1,q2⟩,⟨r1,r2⟩,kq⟩:=h
  refine ⟨_,(zaj (zas (zak zfx (hr.mono (by decide)) rfl zfa k_made zfr .nil zaq (zaa (za1 zcO (zay zav (pv 0) zag (fun _ _=>rfl)) (zay zav (pv 1) zag (fun _ _=>rfl))) (zaa (za1 zcO (zay zav (pv 0) zag (fun _ _=>rfl)) (zay zav (pv 1) zag (fun _ _=>rfl))) zac))))),?_⟩
  refine ⟨_,rfl,p,_,_,_,rfl,rfl,hp,rfl,_,rfl,p',_,_,_,rfl,rfl,hp',rfl,_,_,rfl,rfl,⟨k,k,by omega,by omega,q1,r1⟩,?_⟩
  refine ⟨_,rfl,p,_,_,_,rfl,rfl,hp,rfl,_,rfl,p',_,_,_,rfl,rfl,hp',rfl,_,_,rfl,rfl,⟨k,k,by omega,by omega,q2,r2⟩,?_⟩
  refine ⟨_,_,k+k,rfl,zkS (zdl q) (zdl r),by omega,q2.mul r2,fun a ha=>?_⟩
  rw [zq3]
  exact kq a ha
theorem zps (F:Fun K "over" "over" zhz f fd) (zfa:mg "made" = some (.ref fm)) (k_made:W.keepIn K (.ref fm)=true) (zfr:Binds K fdm ["a","b"] []) (zfx:FnOk P w K mg base CX0 2 fm fdm ["a","b"] (zht K)):FnOk P w K mg base CX0 3 f fd ["one","other"] (zeO K (· / ·) fun r=>r≠0):=by
 refine F.ok zpb (fun vs H Q E h=>?_) (fun cdv A outer s H vs Q E hr h=>?_)
 ·obtain ⟨u,v,q,r,k,rfl,_⟩:=h
  rfl
 ·obtain ⟨u,v,q,r,k,rfl,⟨p,rfl,hp⟩,⟨p',rfl,hp'⟩,h0,hk,⟨q1,q2⟩,⟨r1,r2⟩,kq⟩:=h
  refine ⟨_,(zaj (zas (zak zfx (hr.mono (by decide)) rfl zfa k_made zfr .nil zaq (zaa (za1 zcO (zay zav (pv 0) zag (fun _ _=>rfl)) (zay zav (pv 1) zag (fun _ _=>rfl))) (zaa (za1 zcO (zay zav (pv 0) zag (fun _ _=>rfl)) (zay zav (pv 1) zag (fun _ _=>rfl))) zac))))),?_⟩
  refine ⟨_,rfl,p,_,_,_,rfl,rfl,hp,rfl,_,rfl,p',_,_,_,rfl,rfl,hp',rfl,_,_,rfl,rfl,⟨k,k,by omega,by omega,q1,r2⟩,?_⟩
  refine ⟨_,rfl,p,_,_,_,rfl,rfl,hp,rfl,_,rfl,p',_,_,_,rfl,rfl,hp',rfl,_,_,rfl,rfl,⟨k,k,by omega,by omega,q2,r1⟩,?_⟩
  refine ⟨_,_,k+k,rfl,zkS (zdl q) (zq1 h0),by omega,q2.mul r1,fun a ha=>?_⟩
  rw [zqQ]
  exact kq a ha
end
theorem Fq.same {K:W.Frag} {H H':Hp} {v:V} {q:Rat} (h:Fq K H v q) (e:Same H H'):Fq K H' v q:=by
 obtain ⟨p,rfl,sq⟩:=h
 exact ⟨p,rfl,Same.tup e sq⟩
theorem Fq.new {K:W.Frag} {H:Hp} {p:Addr} {q:Rat}:Fq K (upd H p (.tup [.int q.num,.int (q.den:Int)])) (.ref p) q:=⟨p,rfl,SqT.of zae⟩
abbrev Fqs (K:W.Frag) (H:Hp):List V→List Rat→Prop:=Paired (Fq K H)
theorem Fqs.same {K:W.Frag} {H H':Hp} {vs:List V} {qs:List Rat} (h:Fqs K H vs qs) (e:Same H H'):Fqs K H' vs qs:=Paired.mapP h fun _ _ z=>z.same e
theorem Fqs.get {K:W.Frag} {H:Hp}:∀ {vs:List V} {qs:List Rat} {i:Nat} {v:V},Fqs K H vs qs→vs[i]? = some v→∃ q,qs[i]? = some q∧Fq K H v q
 | _,_,_,_,.nil,e=>by simp at e
 | _,_,0,_,.cons r _,e=>by simp at e;subst e;exact ⟨_,rfl,r⟩
 | _,_,i+1,_,.cons _ t,e=>by simpa using Fqs.get (i:=i) t (by simpa using e)
theorem Fqs.at {K:W.Frag} {H:Hp}:∀ {vs:List V} {qs:List Rat} {i:Nat} {q:Rat},Fqs K H vs qs→qs[i]? = some q→∃ v,vs[i]? = some v∧Fq K H v q
 | _,_,_,_,.nil,e=>by simp at e
 | _,_,0,_,.cons r _,e=>by simp at e;subst e;exact ⟨_,rfl,r⟩
 | _,_,i+1,_,.cons _ t,e=>by simpa using Fqs.at (i:=i) t (by simpa using e)
theorem Fqs.snoc {K:W.Frag} {H:Hp}:∀ {us:List V} {ps:List Rat} {v:V} {p:Rat},Fqs K H us ps→Fq K H v p→Fqs K H (us++[v]) (ps++[p])
 | _,_,_,_,.nil,h=>.cons h .nil
 | _,_,_,_,.cons a b,h=>.cons a (Fqs.snoc b h)
theorem Fqs.len {K:W.Frag} {H:Hp} {vs:List V} {qs:List Rat} (h:Fqs K H vs qs):vs.length=qs.length:=Paired.length h
theorem BtQ.mono {k l:Nat} {q:Rat} (a:BtQ k q) (h:k≤l):BtQ l q:=⟨a.1.mono h,a.2.mono h⟩
theorem BtQ.add {k l:Nat} {q r:Rat} (a:BtQ k q) (b:BtQ l r):BtQ (k+l+1) (q+r):=by
 have hz:=zkS (zdl q) (zdl r)
 rw [← zoM]
 refine ⟨Bt.le (My.zh6 _ _ hz) ?_,Bt.le (by have:=My.zhE (q.num*r.den+r.num*q.den) (q.den*r.den) hz;simpa using this) ?_⟩
 ·exact Bt.add (a.1.mul b.2) ((b.1.mul a.2).mono (by omega))
 ·exact (a.2.mul b.2).mono (by omega)
theorem BtQ.sub {k l:Nat} {q r:Rat} (a:BtQ k q) (b:BtQ l r):BtQ (k+l+1) (q-r):=by
 have hz:=zkS (zdl q) (zdl r)
 rw [← zo2]
 refine ⟨Bt.le (My.zh6 _ _ hz) ?_,Bt.le (by have:=My.zhE (q.num*r.den-r.num*q.den) (q.den*r.den) hz;simpa using this) ?_⟩
 ·exact Bt.sub (a.1.mul b.2) ((b.1.mul a.2).mono (by omega))
 ·exact (a.2.mul b.2).mono (by omega)
theorem zjY (q r:Rat):PyData.eqv (.tuple [.int q.num,.int (q.den:Int)]) (.tuple [.int r.num,.int (r.den:Int)])=decide (q=r):=by
 show ((q.num==r.num)&&(((q.den:Int)==(r.den:Int))&&true))=_
 by_cases e:q=r
 ·subst e;simp
 ·have:¬ (q.num=r.num∧q.den=r.den):=fun h=>e (Rat.ext h.1 h.2)
  rw [decide_eq_false e]
  by_cases h1:q.num=r.num
  ·have h2:¬ q.den=r.den:=fun z=>this ⟨h1,z⟩
   simp [h1]
   omega
  ·simp [h1]
theorem Fq.rep {K:W.Frag} {H:Hp} {v:V} {q:Rat} (h:Fq K H v q):Rep K H v (.tuple [.int q.num,.int (q.den:Int)]):=by
 obtain ⟨p,rfl,hp⟩:=h
 exact .tup hp (.cons (.int _) (.cons (.int _) .nil))
theorem znu {K:W.Frag} {H:Hp} {u v:V} {q r:Rat} {Q:V→Hp→Prop} (hu:Fq K H u q) (hv:Fq K H v r) (k:Q (.bl (decide (q=r))) H):rEqD K false u v H Q :=
 ⟨_,_,hu.rep,hv.rep,rfl,rfl,(by show 0+1≤40;decide),by rw [if_neg Bool.false_ne_true,zjY];exact k⟩
theorem zeR {K:W.Frag} {H:Hp} {u v:V} {q r:Rat} {Q:V→Hp→Prop} (hu:Fq K H u q) (hv:Fq K H v r) (k:Q (.bl (!decide (q=r))) H):rEqD K true u v H Q :=
 ⟨_,_,hu.rep,hv.rep,rfl,rfl,(by show 0+1≤40;decide),by rw [if_pos rfl,zjY];exact k⟩
theorem btq0:BtQ 1 (0:Rat):=⟨by show (0:Int).natAbs<2;decide,by show (1:Int).natAbs<2;decide⟩
theorem znf (qs:List Rat) (i:Nat) (q:Rat) (h:qs[i]? = some q):(qs.take (i+1)).sum=(qs.take i).sum+q:=by
 rw [List.take_add_one,h]
 simp [List.sum_append,Rat.add_zero]
def zl6 (K:W.Frag):Sp:=fun vs H Q _=>∃ (p:Addr) (us:List V) (qs:List Rat),vs=[.ref p]∧SqL K H p us∧Fqs K H us qs∧(∀ q∈qs,BtQ 4000 q)∧(∀ i,i≤qs.length→BtQ 4000 (qs.take i).sum)∧∀ v H',Same H H'→Fq K H' v qs.sum→Q v H'
section
variable {P:Program} {w:World} {K:W.Frag} {mg:Str→Option Value} {base:Heap} {f fm:Addr} {fd fdm:FuncData}
theorem zn3 (F:Fun K "total" "total" zf3 f fd) (zeZ:mg "plus" = some (.ref fm)) (zfh:W.keepIn K (.ref fm)=true) (zfq:Binds K fdm ["one","other"] []) (zfw:FnOk P w K mg base CX0 3 fm fdm ["one","other"] (zeO K (·+·) fun _=>True)):FnOk P w K mg base CX0 4 f fd ["fractions"] (zl6 K):=by
 refine F.ok zgg (fun vs H Q E h=>?_) (fun cdv A outer s H vs Q E hr h=>?_)
 ·obtain ⟨p,us,qs,rfl,_⟩:=h
  rfl
 ·obtain ⟨p,us,qs,rfl,sq,fq,hb,hs,k⟩:=h
  refine ⟨_,(zaf (zax (i:=1) zgg.nd rfl (Or.inl rfl) (zaI (zaa zag (zaa zag zac))))
   (zaf (zdd PassesOwn.never rfl (zaS (pv 0)) (zan (i:=2) zgg.nd rfl (Or.inl rfl)) (zaj (zax (i:=1) zgg.nd rfl (Or.inl rfl) (zak zfw (hr.mono (by decide)) rfl zeZ zfh zfq .nil zaq (zaa (pv 1) (zaa (pv 2) zac))))))
   (zaj (zas (pv 1))))),?_⟩
  refine ⟨by show 2≤sizeLine;decide,fun p0 hp0=>?_⟩
  have s0:Same H (upd H p0 (.tup [.int 0,.int 1])):=zad hp0
  refine ⟨_,rfl,p,rfl,⟨_,s0.seq sq⟩,zdQ (K:=K) (a:=p) (xs:=us) (fun i σ H'=>∃ (v:V) (x:Option V),σ=[some (.ref p),some v,x]∧Same H H'∧Fq K H' v (qs.take i).sum)
   ⟨.ref p0,none,rfl,s0,⟨p0,rfl,SqT.of zae⟩⟩ (fun i σ H' _ ⟨_,_,_,z,_⟩=>z.seq sq) ?_ ?_⟩
  ·rintro i x σ H' hi ⟨v,y,rfl,se,fv⟩
   obtain ⟨q,hq,fx⟩:=(fq.same se).get hi
   have hil:i<qs.length:=(List.getElem?_eq_some_iff.mp hq).1
   refine ⟨_,rfl,_,rfl,v,x,_,_,4000,rfl,fv,fx,trivial,Nat.le_refl _,hs i (by omega),hb q (List.mem_of_getElem? hq),fun a ha=>?_⟩
   refine ⟨.ref a,_,rfl,se.trans (zad ha),?_⟩
   rw [znf qs i q hq]
   exact Fq.new
  ·rintro σ H' ⟨v,y,rfl,se,fv⟩
   refine ⟨_,rfl,k v H' se ?_⟩
   rw [fq.len,List.take_length] at fv
   exact fv
end
end K2
namespace K2
open PySem L2 Mp St Bz
theorem zph:(1000000000:Int)≤2^30:=by decide
def zlB (K:W.Frag):Sp:=fun vs H Q _=>∃ (l:Addr) (us:List V) (ps:List Pipe),vs=[.ref l]∧SqL K H l us∧zam K H us ps∧(∀ p∈ps,1≤p.a∧p.a≤1000000000)∧Q (.int (zaD ps)) H
def zo7 (K:W.Frag):Sp:=fun vs H Q _=>∃ (y:Addr) (S:Int) (p:Pipe),vs=[.ref y,.int S]∧SqT K H y [.int p.a,.int p.b]∧(1≤p.a∧p.a≤1000000000)∧(1≤p.b∧p.b≤1000000000)∧Q (.int (cz S p)) H
def zlG (K:W.Frag):Sp:=fun vs H Q _=>∃ (l:Addr) (us:List V) (n:Int) (ps:List Pipe) (S y z:Int),vs=[.ref l,.int S,.int y,.int z]∧SqL K H l us∧zam K H us ps∧zbV n ps∧∀ H',Same H H'→Q (.int (zca ps S y z)) H'
theorem inV2 (y u w:Int):inV (.int y) [.int u,.int w]=(decide (y=u)||decide (y=w)):=by
 have:=zbG y [u,w]
 simp only [List.map_cons,List.map_nil] at this
 rw [this]
 by_cases h1:y=u <;> by_cases h2:y=w <;> simp [h1,h2]
theorem zow (ps:List Pipe) (f:Pipe→Int):(ps.map f).sum=zs ps f:=by
 induction ps with
 | nil=>rfl
 | cons p r ih=>rw [List.map_cons,List.sum_cons,ih];rfl
section
variable {P:Program} {w:World} {K:W.Frag} {mg:Str→Option Value} {base:Heap} {C f fg fe fn:Addr} {fd fdg fde fdn:FuncData} {t1 t2 t3:Tok}
theorem znA (F:Fun K "scale_of" "scale_of" zcV f fd) (zb6:mg "common_divisor" = some (.ref fg)) (zb7:W.keepIn K (.ref fg)=true) (zb8:Binds K fdg ["a","b"] []) (zb9:FnOk P w K mg base CX0 1 fg fdg ["a","b"] zni):FnOk P w K mg base CX0 2 f fd ["pipes"] (zlB K):=by
 refine F.ok zc0 (fun vs H Q E h=>?_) (fun cdv A outer s H vs Q E hr h=>?_)
 ·obtain ⟨l,us,ps,rfl,_⟩:=h
  rfl
 ·obtain ⟨l,us,ps,rfl,hl,hp,ha,q⟩:=h
  have hus:us.length=ps.length:=Paired.length hp
  refine ⟨_,(zaf (zax (i:=1) zc0.nd rfl (Or.inl rfl) zag)
   (zaf (zdd PassesOwn.never rfl (zaS (pv 0)) (zbZ (n:=3) rfl (zap (zan (i:=2) zc0.nd rfl (Or.inl rfl)) (zap (zan (i:=3) zc0.nd rfl (Or.inl rfl)) (zap (zan (i:=4) zc0.nd rfl (Or.inl rfl)) zbg)))) (zaj (zax (i:=1) zc0.nd rfl (Or.inl rfl) (za1 zet (za1 zh5 (pv 1) (zay zav (pv 4) zag (fun _ _=>rfl))) (zak zb9 (hr.mono (by decide)) rfl zb6 zb7 zb8 .nil zaq (zaa (pv 1) (zaa (zay zav (pv 4) zag (fun _ _=>rfl)) zac)))))))
   (zaj (zas (pv 1))))),?_⟩
  refine ⟨_,rfl,l,rfl,⟨_,hl⟩,?_⟩
  refine zdQ (K:=K) (a:=l) (xs:=us) (fun i σ H'=>∃ (v2 v3 v4:Option V),σ=[some (.ref l),some (.int (zaD (ps.take i))),v2,v3,v4]∧H'=H)
   ⟨none,none,none,rfl,rfl⟩ (fun i σ H' _ ⟨_,_,_,_,e⟩=>e▸hl) ?_ ?_
  ·rintro i v σ H' hv ⟨v2,v3,v4,rfl,rfl⟩
   obtain ⟨p,hpi,⟨x,y,rfl,hx,hy⟩⟩:=hp.get hv
   have pa:=ha p (List.mem_of_getElem? hpi)
   have hpos:=(zgy (ps:=ps.take i) (ka:=30) fun q hq=>⟨(ha q (List.mem_of_mem_take hq)).1,Int.le_trans (ha q (List.mem_of_mem_take hq)).2 zph⟩).1
   have hB:zlu (zaD (ps.take i)*p.a) (Int.gcd (zaD (ps.take i)) p.a:Int):=by
    have g0:=Int.gcd_pos_of_ne_zero_right (zaD (ps.take i)) (show p.a≠0 by omega)
    have g1:(Int.gcd (zaD (ps.take i)) p.a:Int)≤p.a:=Int.le_of_dvd (by omega) (Int.gcd_dvd_right _ _)
    refine ⟨by omega,31,by decide,?_⟩
    show ((Int.gcd (zaD (ps.take i)) p.a:Int)).natAbs<2^31
    rw [Int.natAbs_natCast]
    have:(2:Nat)^31=2147483648:=by decide
    omega
   refine ⟨x,_,rfl,hx,rfl,_,_,rfl,_,_,rfl,_,_,rfl,rfl,?_⟩
   refine ⟨_,rfl,_,rfl,y,_,_,_,rfl,rfl,hy,rfl,_,_,rfl,rfl,.inr ⟨by omega,by omega⟩,?_⟩
   refine ⟨_,rfl,_,rfl,y,_,_,_,rfl,rfl,hy,rfl,_,_,rfl,_,_,rfl,rfl,hB,?_⟩
   exact ⟨_,_,_,by rw [zj6 hpi];rfl,rfl⟩
  ·rintro σ H' ⟨v2,v3,v4,rfl,rfl⟩
   refine ⟨_,rfl,?_⟩
   rw [hus,List.take_length]
   exact q
theorem zpx (F:Fun K "scaled_ease" "scaled_ease" zbJ f fd):FnOk P w K mg base CX0 1 f fd ["hardness","scale"] (zo7 K):=by
 refine F.ok zgZ (fun vs H Q E h=>?_) (fun cdv A outer s H vs Q E hr h=>?_)
 ·obtain ⟨y,S,p,rfl,_⟩:=h
  rfl
 ·obtain ⟨y,S,p,rfl,hy,pa,pb,q⟩:=h
  refine ⟨_,(zaj (zas (za1 zh5 (za1 zc9 (pv 1) (zay zav (pv 0) zag (fun _ _=>rfl))) (zay zav (pv 0) zag (fun _ _=>rfl))))),?_⟩
  exact ⟨_,rfl,_,rfl,y,_,_,_,rfl,rfl,hy,rfl,_,_,rfl,rfl,⟨by omega,by omega⟩,_,rfl,y,_,_,_,rfl,rfl,hy,rfl,_,_,rfl,rfl,.inr ⟨by omega,by omega⟩,q⟩
theorem znJ (F:Fun K "entry" "entry" zf7 f fd) (T:Txt K mg C t1 t2 t3) (zeY:mg "scaled_ease" = some (.ref fe)) (zfg:W.keepIn K (.ref fe)=true) (zfp:Binds K fde ["hardness","scale"] []) (zfv:FnOk P w K mg base CX0 1 fe fde ["hardness","scale"] (zo7 K)):FnOk P w K mg base CX0 2 f fd ["pipes","scale","one","other"] (zlG K):=by
 refine F.ok zku (fun vs H Q E h=>?_) (fun cdv A outer s H vs Q E hr h=>?_)
 ·obtain ⟨l,us,n,ps,S,y,z,rfl,_⟩:=h
  rfl
 ·obtain ⟨l,us,n,ps,S,y,z,rfl,hl,hp,ok,q⟩:=h
  have hus:us.length=ps.length:=Paired.length hp
  have hle:=ok.le
  refine ⟨_,(zaf (zaP (zat zcd (pv 2) (pv 3) (za0 _)) (zaj (zas (za2 (zjg rfl) (by rfl) T.n_sum zoK (zaa (zaY ["start","end","hardness"] [1,2] rfl rfl (by kernel_rfl) (zaS (pv 0)) (fun _ _ _ _=>(zbZ (n:=3) rfl (zap (zan (i:=0) (show (["start","end","hardness","scale","one"]:List Str).Nodup by decide +kernel) rfl (Or.inl rfl)) (zap (zan (i:=1) (show (["start","end","hardness","scale","one"]:List Str).Nodup by decide +kernel) rfl (Or.inl rfl)) (zap (zan (i:=2) (show (["start","end","hardness","scale","one"]:List Str).Nodup by decide +kernel) rfl (Or.inl rfl)) zbg))))) (fun _ _ _ _=>(zdi (za3 zaw (za3 zaw (za3 zaw zce))))) (fun _ _ _ _=>(zeU (zat zb4 (pv 4) (zaI (zaa (pv 0) (zaa (pv 1) zac))) rfl))) (fun _ _ _ _=>(zak zfv (hr.mono (by decide)) rfl zeY zfg zfp .nil zaq (zaa (pv 2) (zaa (pv 3) zac))))) zac)))) zaz)
   (zaf (zax (i:=4) zku.nd rfl (Or.inr rfl) (zaI (zaa (zaI (zaa (pv 2) (zaa (pv 3) zac))) (zaa (zaI (zaa (pv 3) (zaa (pv 2) zac))) zac))))
   (zaj (zas (zpi zly (za2 (zjg rfl) (by rfl) T.n_sum zoK (zaa (zaY ["start","end","hardness"] [1,4] rfl rfl (by kernel_rfl) (zaS (pv 0)) (fun _ _ _ _=>(zbZ (n:=3) rfl (zap (zan (i:=0) (show (["start","end","hardness","scale","ways"]:List Str).Nodup by decide +kernel) rfl (Or.inl rfl)) (zap (zan (i:=1) (show (["start","end","hardness","scale","ways"]:List Str).Nodup by decide +kernel) rfl (Or.inl rfl)) (zap (zan (i:=2) (show (["start","end","hardness","scale","ways"]:List Str).Nodup by decide +kernel) rfl (Or.inl rfl)) zbg))))) (fun _ _ _ _=>(zdi (za3 zaw (za3 zaw (za3 zaw zce))))) (fun _ _ _ _=>(zeU (zat (zpm hr.units) (zaI (zaa (pv 0) (zaa (pv 1) zac))) (pv 4) rfl))) (fun _ _ _ _=>(zak zfv (hr.mono (by decide)) rfl zeY zfg zfp .nil zaq (zaa (pv 2) (zaa (pv 3) zac))))) zac))))))),?_⟩
  refine ⟨_,rfl,_,rfl,rfl,_,rfl,?_⟩
  refine ite2 (fun h=>?_) (fun h=>?_)
  ·have e:y=z:=by
    have h':=of_decide_eq_true h
    injection h'
   subst e
   refine ⟨_,rfl,l,rfl,⟨_,hl⟩,zaN (K:=K) (a:=l) (xs:=us) (fun i ys H'=>Same H H'∧ys=(((ps.take i).filter (touch y)).map (cz S)).map V.int) ⟨Same.refl _,rfl⟩ (zao (by omega)) ?_ ?_ ?_⟩
   ·rintro i ys H' hi ⟨s1,rfl⟩
    refine ⟨?_,s1.seq hl⟩
    rw [List.length_map,List.length_map]
    exact Nat.le_trans (List.length_filter_le _ _) (by rw [List.length_take];omega)
   ·rintro i x ys H' N hx ⟨s1,rfl⟩ hN C' s₀ H₀ ex
    obtain ⟨p,hpi,⟨x,yy,rfl,hx3,hy⟩⟩:=(zam.same s1 hp).get hx
    have pok:=ok.ok p (List.mem_of_getElem? hpi)
    have ht:ps.take (i+1)=ps.take i++[p]:=by rw [List.take_succ,hpi];rfl
    refine ⟨x,_,rfl,hx3,rfl,_,_,rfl,_,_,rfl,_,_,rfl,rfl,?_⟩
    refine ⟨_,rfl,_,rfl,_,rfl,by show 2≤sizeLine;decide,fun t htt=>?_⟩
    have s2:=zad (o:=.tup [.int p.u,.int p.w]) htt
    refine ⟨t,_,rfl,.inr (SqT.of zae),rfl,rfl,_,rfl,?_⟩
    show if inV (.int y) [.int p.u,.int p.w]=true then _ else _
    rw [inV2]
    show if touch y p=true then _ else _
    by_cases e:touch y p=true
    ·rw [e]
     refine iteT ?_
     refine ⟨_,rfl,_,rfl,yy,S,p,rfl,Same.tup s2 hy,⟨pok.a1,pok.aM⟩,⟨pok.b1,pok.bM⟩,hN _ _ ⟨s1.trans s2,?_⟩⟩
     rw [ht,List.filter_append,List.map_append,List.map_append]
     simp [e]
    ·have e':touch y p=false:=by simpa using e
     rw [e']
     refine iteF (hN _ _ ⟨s1.trans s2,?_⟩)
     rw [ht,List.filter_append,List.map_append,List.map_append]
     simp [e']
   ·rintro ys H' ⟨s1,rfl⟩ p hp'
    refine ⟨p,((ps.take us.length).filter (touch y)).map (cz S),rfl,SqL.of zae,?_⟩
    rw [hus,List.take_length,zow]
    have e0:zca ps S y y=zs (ps.filter (touch y)) (cz S):=by unfold zca;rw [if_pos rfl]
    rw [← e0]
    exact q _ (s1.trans (zad hp'))
  ·have e:¬ y=z:=fun e=>h (by rw [e];exact decide_eq_true rfl)
   refine ⟨_,rfl,_,rfl,by show 2≤sizeLine;decide,fun r1 hr1=>⟨_,rfl,_,rfl,by show 2≤sizeLine;decide,fun r2 hr2=>⟨by show 2≤sizeLine;decide,fun wt hwt=>?_⟩⟩⟩
   have s1:=zad (o:=.tup [.int y,.int z]) hr1
   have s2:=zad (o:=.tup [.int z,.int y]) hr2
   have s3:=zad (o:=.tup [.ref r1,.ref r2]) hwt
   have h1:=s3 _ _ (s2 _ _ (zae (H:=H) (a:=r1) (o:=.tup [.int y,.int z])))
   have h2:=s3 _ _ (zae (H:=upd H r1 (.tup [.int y,.int z])) (a:=r2) (o:=.tup [.int z,.int y]))
   have h3:(upd (upd (upd H r1 (.tup [.int y,.int z])) r2 (.tup [.int z,.int y])) wt (.tup [.ref r1,.ref r2])) wt=some (.tup [.ref r1,.ref r2]):=zae
   have hne:r1≠r2:=zal (zae (H:=H) (a:=r1) (o:=.tup [.int y,.int z])) hr2
   have s0:=(s1.trans s2).trans s3
   generalize upd (upd (upd H r1 (.tup [.int y,.int z])) r2 (.tup [.int z,.int y])) wt (.tup [.ref r1,.ref r2])=H1 at h1 h2 h3 s0 ⊢
   refine ⟨_,rfl,l,rfl,⟨_,s0.seq hl⟩,zaN (K:=K) (a:=l) (xs:=us) (fun i ys H'=>Same H1 H'∧ys=(((ps.take i).filter (betw y z)).map (cz S)).map V.int) ⟨Same.refl _,rfl⟩ (zao (by omega)) ?_ ?_ ?_⟩
   ·rintro i ys H' hi ⟨s4,rfl⟩
    refine ⟨?_,(s0.trans s4).seq hl⟩
    rw [List.length_map,List.length_map]
    exact Nat.le_trans (List.length_filter_le _ _) (by rw [List.length_take];omega)
   ·rintro i x ys H' N hx ⟨s4,rfl⟩ hN C' s₀ H₀ ex
    obtain ⟨p,hpi,⟨x,yy,rfl,hx3,hy⟩⟩:=(zam.same (s0.trans s4) hp).get hx
    have pok:=ok.ok p (List.mem_of_getElem? hpi)
    have ht:ps.take (i+1)=ps.take i++[p]:=by rw [List.take_succ,hpi];rfl
    refine ⟨x,_,rfl,hx3,rfl,_,_,rfl,_,_,rfl,_,_,rfl,rfl,?_⟩
    refine ⟨_,rfl,_,rfl,by show 2≤sizeLine;decide,fun t htt=>?_⟩
    have s5:=zad (o:=.tup [.int p.u,.int p.w]) htt
    have s45:=s4.trans s5
    refine ⟨_,rfl,t,wt,r1,r2,p.u,p.w,y,z,z,y,rfl,rfl,SqT.of zae,SqT.of (s45 _ _ h3),hne,SqT.of (s45 _ _ h1),SqT.of (s45 _ _ h2),_,rfl,?_⟩
    show if betw y z p=true then _ else _
    by_cases e:betw y z p=true
    ·rw [e]
     refine iteT ?_
     refine ⟨_,rfl,_,rfl,yy,S,p,rfl,Same.tup s5 hy,⟨pok.a1,pok.aM⟩,⟨pok.b1,pok.bM⟩,hN _ _ ⟨s45,?_⟩⟩
     rw [ht,List.filter_append,List.map_append,List.map_append]
     simp [e]
    ·have e':betw y z p=false:=by simpa using e
     rw [e']
     refine iteF (hN _ _ ⟨s45,?_⟩)
     rw [ht,List.filter_append,List.map_append,List.map_append]
     simp [e']
   ·rintro ys H' ⟨s4,rfl⟩ p hp'
    refine ⟨p,((ps.take us.length).filter (betw y z)).map (cz S),rfl,SqL.of zae,_,rfl,?_⟩
    rw [hus,List.take_length,zow]
    have e0:zca ps S y z = - zs (ps.filter (betw y z)) (cz S):=by unfold zca;rw [if_neg e]
    show Q (.int (- zs (ps.filter (betw y z)) (cz S))) _
    rw [← e0]
    exact q _ ((s0.trans s4).trans (zad hp'))
def zqg (K:W.Frag):Sp:=fun vs H Q _=>∃ (l g:Addr) (us:List V) (n:Int) (ps:List Pipe) (S y:Int) (fr:List Int),vs=[.ref l,.int S,.int y,.ref g]∧SqL K H l us∧zam K H us ps∧zbV n ps∧SqL K H g (fr.map V.int)∧fr.length≤8 ∧
 ∀ (H':Hp) (r:Addr),Same H H'→H r=none→H' r=some (.lst (fr.map fun z=>V.int (zca ps S y z)))→Q (.ref r) H'
theorem zqx (F:Fun K "sheet_row" "sheet_row" zc2 f fd) (zp3:mg "entry" = some (.ref fn)) (zp9:W.keepIn K (.ref fn)=true) (zpL:Binds K fdn ["pipes","scale","one","other"] []) (zpT:FnOk P w K mg base CX0 2 fn fdn ["pipes","scale","one","other"] (zlG K)):FnOk P w K mg base CX0 3 f fd ["pipes","scale","one","places"] (zqg K):=by
 refine F.ok ziC (fun vs H Q E h=>?_) (fun cdv A outer s H vs Q E hr h=>?_)
 ·obtain ⟨l,g,us,n,ps,S,y,fr,rfl,_⟩:=h
  rfl
 ·obtain ⟨l,g,us,n,ps,S,y,fr,rfl,hl,hp,ok,hg,h8,q⟩:=h
  refine ⟨_,(zaj (zas (zaY ["other"] [0,1,2] rfl rfl (by kernel_rfl) (zaS (pv 3)) (fun _ _ _ _=>(zan (i:=0) (show (["other","pipes","scale","one"]:List Str).Nodup by decide +kernel) rfl (Or.inl rfl))) (fun _ _ _ _=>zaw) (fun _ _ _ _=>zbI) (fun _ _ _ _=>(zak zpT (hr.mono (by decide)) rfl zp3 zp9 zpL .nil zaq (zaa (pv 1) (zaa (pv 2) (zaa (pv 3) (zaa (pv 0) zac))))))))),?_⟩
  refine ⟨_,rfl,g,rfl,⟨_,hg⟩,zaN (K:=K) (a:=g) (xs:=fr.map V.int) (fun i ys H'=>Same H H'∧ys=(fr.take i).map fun z=>V.int (zca ps S y z)) ⟨Same.refl _,rfl⟩ (zao (by rw [List.length_map];omega)) ?_ ?_ ?_⟩
  ·rintro i ys H' hi ⟨s1,rfl⟩
   refine ⟨?_,s1.seq hg⟩
   rw [List.length_map,List.length_take]
   omega
  ·rintro i x ys H' N hx ⟨s1,rfl⟩ hN C' s₀ H₀ ex
   rw [List.getElem?_map] at hx
   cases e:fr[i]? with
   | none=>rw [e] at hx;cases hx
   | some z =>
    rw [e] at hx
    cases hx
    dsimp only [zaQ,zcy]
    refine iteT ?_
    refine ⟨_,rfl,_,rfl,_,rfl,_,rfl,l,us,n,ps,S,y,z,rfl,s1.seq hl,zam.same s1 hp,ok,fun H2 s2=>hN _ _ ⟨s1.trans s2,?_⟩⟩
    rw [List.take_succ,e,List.map_append]
    rfl
  ·rintro ys H' ⟨s1,rfl⟩ r hr'
   rw [List.length_map,List.take_length]
   exact q _ r (s1.trans (zad hr')) (s1.free hr') zae
def zcQ (H:Hp) (as:List Addr) (A:Nat→Nat→Int) (m wd:Nat):Prop:=as.length=m∧∀ (i:Nat) (a:Addr),as[i]? = some a→H a=some (.lst ((List.range wd).map fun j=>V.int (A i j)))
theorem zcQ.same {H H':Hp} {as:List Addr} {A:Nat→Nat→Int} {m wd:Nat} (s:Same H H') (h:zcQ H as A m wd):zcQ H' as A m wd:=⟨h.1,fun i a e=>s _ _ (h.2 i a e)⟩
def zlA (K:W.Frag):Sp:=fun vs H Q _=>∃ (l g:Addr) (us:List V) (n:Int) (ps:List Pipe) (S:Int) (fr:List Int),vs=[.ref l,.int S,.ref g]∧SqL K H l us∧zam K H us ps∧zbV n ps∧SqL K H g (fr.map V.int)∧fr.length≤8 ∧
 ∀ (H':Hp) (r:Addr) (as:List Addr),Same H H'→H r=none→H' r=some (.lst (as.map V.ref))→zcQ H' as (fun i j=>zca ps S (fr.getD i 0) (fr.getD j 0)) fr.length fr.length→Q (.ref r) H'
theorem map_range (fr:List Int) (g:Int→V):fr.map g=(List.range fr.length).map fun j=>g (fr.getD j 0):=by
 refine List.ext_getElem? fun i=>?_
 rw [List.getElem?_map,List.getElem?_map]
 by_cases h:i<fr.length
 ·rw [List.getElem?_range h,List.getElem?_eq_getElem h]
  show some (g fr[i])=some (g (fr.getD i 0))
  rw [List.getD_eq_getElem?_getD,List.getElem?_eq_getElem h]
  rfl
 ·rw [List.getElem?_eq_none (by omega),List.getElem?_eq_none (by rw [List.length_range];omega)]
  rfl
theorem zn9 (F:Fun K "sheet_of" "sheet_of" zcU f fd) (zjJ:mg "sheet_row" = some (.ref fn)) (zjU:W.keepIn K (.ref fn)=true) (zkb:Binds K fdn ["pipes","scale","one","places"] []) (zkh:FnOk P w K mg base CX0 3 fn fdn ["pipes","scale","one","places"] (zqg K)):FnOk P w K mg base CX0 4 f fd ["pipes","scale","places"] (zlA K):=by
 refine F.ok zj7 (fun vs H Q E h=>?_) (fun cdv A outer s H vs Q E hr h=>?_)
 ·obtain ⟨l,g,us,n,ps,S,fr,rfl,_⟩:=h
  rfl
 ·obtain ⟨l,g,us,n,ps,S,fr,rfl,hl,hp,ok,hg,h8,q⟩:=h
  refine ⟨_,(zaj (zas (zaY ["one"] [0,1,2] rfl rfl (by kernel_rfl) (zaS (pv 2)) (fun _ _ _ _=>(zan (i:=0) (show (["one","pipes","scale","places"]:List Str).Nodup by decide +kernel) rfl (Or.inl rfl))) (fun _ _ _ _=>zaw) (fun _ _ _ _=>zbI) (fun _ _ _ _=>(zak zkh (hr.mono (by decide)) rfl zjJ zjU zkb .nil zaq (zaa (pv 1) (zaa (pv 2) (zaa (pv 0) (zaa (pv 3) zac))))))))),?_⟩
  refine ⟨_,rfl,g,rfl,⟨_,hg⟩,zaN (K:=K) (a:=g) (xs:=fr.map V.int) (fun i ys H'=>∃ as:List Addr,Same H H'∧ys=as.map V.ref∧zcQ H' as (fun i j=>zca ps S (fr.getD i 0) (fr.getD j 0)) i fr.length) ⟨[],Same.refl _,rfl,rfl,fun i a e=>by simp at e⟩ (zao (by rw [List.length_map];omega)) ?_ ?_ ?_⟩
  ·rintro i ys H' hi ⟨as,s1,rfl,hR⟩
   refine ⟨?_,s1.seq hg⟩
   rw [List.length_map,hR.1]
   exact Nat.le_refl _
  ·rintro i x ys H' N hx ⟨as,s1,rfl,hR⟩ hN C' s₀ H₀ ex
   rw [List.getElem?_map] at hx
   cases e:fr[i]? with
   | none=>rw [e] at hx;cases hx
   | some z =>
    rw [e] at hx
    cases hx
    dsimp only [zaQ,zcy]
    refine iteT ?_
    refine ⟨_,rfl,_,rfl,_,rfl,_,rfl,l,g,us,n,ps,S,z,fr,rfl,s1.seq hl,zam.same s1 hp,ok,s1.seq hg,h8,fun H2 r s2 hr2 h2=>hN _ _ ⟨as++[r],s1.trans s2,by rw [List.map_append];rfl,by rw [List.length_append,hR.1];rfl,fun j a ea=>?_⟩⟩
    by_cases hj:j<i
    ·rw [List.getElem?_append_left (by rw [hR.1];exact hj)] at ea
     exact s2 _ _ (hR.2 j a ea)
    ·have hj':=(List.getElem?_eq_some_iff.mp ea).1
     rw [List.length_append,hR.1] at hj'
     have:j=i:=by simp at hj';omega
     subst this
     rw [List.getElem?_append_right (by rw [hR.1];exact Nat.le_refl _),hR.1] at ea
     simp at ea
     subst ea
     rw [h2,map_range fr (fun z'=>V.int (zca ps S z z'))]
     have hz:fr.getD j 0=z:=by rw [List.getD_eq_getElem?_getD,e];rfl
     show _=some (HO.lst ((List.range fr.length).map fun l=>V.int (zca ps S (fr.getD j 0) (fr.getD l 0))))
     rw [hz]
  ·rintro ys H' ⟨as,s1,rfl,hR⟩ r hr'
   rw [List.length_map] at hR
   exact q _ r as (s1.trans (zad hr')) (s1.free hr') zae (hR.same (zad hr'))
end
end K2
namespace K2
open PySem L2 Mp St Bz
theorem zh1 {wd j:Nat} {g:Nat→V} (h:j<wd):((List.range wd).map g)[j]? = some (g j):=by
 rw [List.getElem?_map,List.getElem?_range h]
 rfl
theorem zjA {wd j:Nat} {g:Nat→V} {v:V} (h:((List.range wd).map g)[j]? = some v):j<wd∧v=g j:=by
 have hl:=(List.getElem?_eq_some_iff.mp h).1
 rw [List.length_map,List.length_range] at hl
 rw [zh1 hl] at h
 cases h
 exact ⟨hl,rfl⟩
def zlC (K:W.Frag):Sp:=fun vs H Q _=>∃ (r b:Addr) (wd k:Nat) (ro by':Nat→Int) (d:Int),vs=[.ref r,.ref b,.int k,.int d]∧H r=some (.lst ((List.range wd).map fun j=>V.int (ro j)))∧H b=some (.lst ((List.range wd).map fun j=>V.int (by' j)))∧k<wd∧wd≤9∧d≠0∧Bt 8000 d∧(∀ j,j<wd→Bt 8000 (ro j)∧Bt 8000 (by' j)) ∧
 ∀ (H':Hp) (p:Addr),Same H H'→H p=none→H' p=some (.lst ((List.range wd).map fun j=>V.int ((by' k*ro j-ro k*by' j).fdiv d)))→Q (.ref p) H'
def zmR (A:Nat→Nat→Int) (m:Nat):Prop:=∀ k,k≤m→(∀ i j,i<m→j≤m→Bt 8000 ((RD A k).1 i j))∧Bt 8000 (RD A k).2∧(RD A k).2≠0
def zi8 (K:W.Frag):Sp:=fun vs H Q _=>∃ (r:Addr) (as:List Addr) (A:Nat→Nat→Int) (m wd:Nat),vs=[.ref r]∧H r=some (.lst (as.map V.ref))∧zcQ H as A m wd∧m≤wd∧wd≤m+1∧m≤8∧zmR A m ∧
 ∀ (H':Hp) (p:Addr) (bs:List Addr),Same H H'→H' p=some (.lst (bs.map V.ref))→zcQ H' bs (RD A m).1 m wd→Q (.ref p) H'
section
variable {P:Program} {w:World} {K:W.Frag} {mg:Str→Option Value} {base:Heap} {C f fr fc fm:Addr} {fd fdr fdc fdm:FuncData} {t1 t2 t3:Tok}
theorem znB (F:Fun K "row_without" "row_without" zbK f fd) (T:Txt K mg C t1 t2 t3):FnOk P w K mg base CX0 1 f fd ["row","by","at","divisor"] (zlC K):=by
 refine F.ok zha (fun vs H Q E h=>?_) (fun cdv A outer s H vs Q E hr h=>?_)
 ·obtain ⟨r,b,wd,k,ro,by',d,rfl,_⟩:=h
  rfl
 ·obtain ⟨r,b,wd,k,ro,by',d,rfl,h1,h2,hk,h9,d0,hd,hb,q⟩:=h
  refine ⟨_,(zaj (zas (zaY ["mine","its"] [3,1,2,0] rfl rfl (by kernel_rfl) (zg8 rfl T.n_zip (zaa (pv 0) (zaa (pv 1) zac))) (fun _ _ _ _=>(zbZ (n:=2) rfl (zap (zan (i:=0) (show (["mine","its","divisor","by","at","row"]:List Str).Nodup by decide +kernel) rfl (Or.inl rfl)) (zap (zan (i:=1) (show (["mine","its","divisor","by","at","row"]:List Str).Nodup by decide +kernel) rfl (Or.inl rfl)) zbg)))) (fun _ _ _ _=>(zdi (za3 zaw (za3 zaw zce)))) (fun _ _ _ _=>zbI) (fun _ _ _ _=>(za1 zet (za1 zh4 (za1 zcO (zay zaK (pv 3) (pv 4) (fun _ _=>rfl)) (pv 0)) (za1 zcO (zay zaK (pv 5) (pv 4) (fun _ _=>rfl)) (pv 1))) (pv 2)))))),?_⟩
  refine ⟨_,rfl,_,rfl,r,b,rfl,⟨_,SqL.of h1⟩,⟨_,SqL.of h2⟩,zex (K:=K) (a:=r) (b:=b) (xs:=(List.range wd).map fun j=>V.int (ro j)) (zs:=(List.range wd).map fun j=>V.int (by' j)) (fun i ys H'=>Same H H'∧ys=(List.range i).map fun j=>V.int ((by' k*ro j-ro k*by' j).fdiv d)) ⟨Same.refl _,rfl⟩ (zao (by rw [List.length_map,List.length_range];omega)) (by rw [List.length_map,List.length_map]) ?_ ?_ ?_⟩
  ·rintro i ys H' hi ⟨s1,rfl⟩
   exact ⟨by rw [List.length_map,List.length_range];exact Nat.le_refl _,SqL.of (s1 _ _ h1),SqL.of (s1 _ _ h2)⟩
  ·rintro i x z ys H' N p hx hz ⟨s1,rfl⟩ hp hN C' s₀ H₀ ex
   obtain ⟨hi,rfl⟩:=zjA hx
   obtain ⟨_,rfl⟩:=zjA hz
   have s2:=zad (o:=.tup [.int (ro i),.int (by' i)]) hp
   have s12:=s1.trans s2
   refine ⟨p,_,rfl,SqT.of zae,rfl,_,_,rfl,_,_,rfl,rfl,?_⟩
   dsimp only [zaQ]
   refine iteT ?_
   refine ⟨_,rfl,_,rfl,b,_,_,_,rfl,rfl,SqL.of (s12 _ _ h2),zaO (j:=k) (zh1 hk),_,rfl,_,_,rfl,rfl,⟨8000,8000,by decide,by decide,(hb k hk).2,(hb i hi).1⟩,?_⟩
   refine ⟨_,rfl,_,rfl,r,_,_,_,rfl,rfl,SqL.of (s12 _ _ h1),zaO (j:=k) (zh1 hk),_,rfl,_,_,rfl,rfl,⟨8000,8000,by decide,by decide,(hb k hk).1,(hb i hi).2⟩,?_⟩
   refine ⟨_,_,rfl,rfl,_,rfl,_,_,rfl,rfl,⟨d0,8000,by decide,hd⟩,hN _ _ ⟨s12,?_⟩⟩
   rw [List.range_succ,List.map_append]
   rfl
  ·rintro ys H' ⟨s1,rfl⟩ p hp
   refine q _ p (s1.trans (zad hp)) (s1.free hp) ?_
   rw [List.length_map,List.length_range]
   exact zae
theorem zcQ.get {H:Hp} {as:List Addr} {A:Nat→Nat→Int} {m wd i:Nat} (h:zcQ H as A m wd) (hi:i<m):∃ a,as[i]? = some a∧H a=some (.lst ((List.range wd).map fun j=>V.int (A i j))):=by
 have hl:i<as.length:=by rw [h.1];exact hi
 exact ⟨as[i],List.getElem?_eq_getElem hl,h.2 i _ (List.getElem?_eq_getElem hl)⟩
theorem zcQ.snoc {H:Hp} {as:List Addr} {A:Nat→Nat→Int} {i wd:Nat} {a:Addr} (h:zcQ H as A i wd) (ha:H a=some (.lst ((List.range wd).map fun j=>V.int (A i j)))):zcQ H (as++[a]) A (i+1) wd:=by
 refine ⟨by rw [List.length_append,h.1];rfl,fun j b eb=>?_⟩
 by_cases hj:j<i
 ·rw [List.getElem?_append_left (by rw [h.1];exact hj)] at eb
  exact h.2 j b eb
 ·have hj':=(List.getElem?_eq_some_iff.mp eb).1
  rw [List.length_append,h.1] at hj'
  have:j=i:=by simp at hj';omega
  subst this
  rw [List.getElem?_append_right (by rw [h.1];exact Nat.le_refl _),h.1] at eb
  simp at eb
  subst eb
  exact ha
theorem zkP (F:Fun K "cleared" "cleared" zdD f fd) (T:Txt K mg C t1 t2 t3) (zib:mg "row_without" = some (.ref fr)) (zin:W.keepIn K (.ref fr)=true) (ziy:Binds K fdr ["row","by","at","divisor"] []) (zi2:FnOk P w K mg base CX0 1 fr fdr ["row","by","at","divisor"] (zlC K)):FnOk P w K mg base CX0 2 f fd ["rows"] (zi8 K):=by
 refine F.ok zc1 (fun vs H Q E h=>?_) (fun cdv A outer s H vs Q E hr h=>?_)
 ·obtain ⟨r,as,A,m,wd,rfl,_⟩:=h
  rfl
 ·obtain ⟨r,as,A',m,wd,rfl,h0,hR,hw1,hw2,h8,sm,q⟩:=h
  have hlen:(as.map V.ref).length=m:=by rw [List.length_map,hR.1]
  refine ⟨_,(zaf (zax (i:=1) zc1.nd rfl (Or.inl rfl) (pv 0))
   (zaf (zax (i:=2) zc1.nd rfl (Or.inr rfl) zag)
   (zaf (zdd PassesOwn.never rfl (zbo rfl T.n_range (zaa (za2 za4 (by rfl) T.n_len zcr (zaa (pv 0) zac)) zac)) (zan (i:=3) zc1.nd rfl (Or.inr rfl)) (zaf (zax (i:=4) zc1.nd rfl (Or.inr rfl) (zay zaK (pv 1) (pv 3) (fun _ _=>rfl)))
   (zaf (zd1 (i:=1) ["number","row"] [3,4,2] rfl rfl (by kernel_rfl) zc1.nd rfl rfl (zlR rfl T.n_enumerate (zaa (pv 1) zac)) (fun _ _ _ _=>(zbZ (n:=2) rfl (zap (zan (i:=0) (show (["number","row","at","by","divisor"]:List Str).Nodup by decide +kernel) rfl (Or.inl rfl)) (zap (zan (i:=1) (show (["number","row","at","by","divisor"]:List Str).Nodup by decide +kernel) rfl (Or.inl rfl)) zbg)))) (fun _ _ _ _=>(zdi (za3 zaw (za3 zaw zce)))) (fun _ _ _ _=>zbI) (fun _ _ _ _=>(zhW (zat zcd (pv 0) (pv 2) (za0 _)) (pv 1) (zak zi2 (hr.mono (by decide)) rfl zib zin ziy .nil zaq (zaa (pv 1) (zaa (pv 3) (zaa (pv 2) (zaa (pv 4) zac))))))))
   (zaj (zax (i:=2) zc1.nd rfl (Or.inr rfl) (zay zaK (pv 4) (pv 3) (fun _ _=>rfl)))))))
   (zaj (zas (pv 1)))))),?_⟩
  refine ⟨_,rfl,_,rfl,r,_,rfl,.inl (SqL.of h0),((as.map V.ref).length:Int),rfl,by omega,by omega,?_⟩
  rw [hlen,Int.toNat_natCast]
  refine zdG (lo:=0) (n:=m) (fun i σ H'=>∃ (rk:Addr) (bs:List Addr) (v3 v4:Option V),σ=[some (.ref r),some (.ref rk),some (.int (RD A' i).2),v3,v4]∧Same H H'∧H' rk=some (.lst (bs.map V.ref))∧zcQ H' bs (RD A' i).1 m wd)
   ⟨r,as,none,none,rfl,Same.refl _,h0,hR⟩ ?_ ?_
  ·rintro i σ H1 hi ⟨rk,bs,v3,v4,rfl,s1,hk,hB⟩
   obtain ⟨a,ea,ha⟩:=hB.get hi
   obtain ⟨sm1,sm2,sm3⟩:=sm i (by omega)
   have hbl:(bs.map V.ref).length=m:=by rw [List.length_map,hB.1]
   refine ⟨_,rfl,_,rfl,rk,_,_,.ref a,rfl,rfl,SqL.of hk,by rw [Int.zero_add];exact zaO (j:=i) (by rw [List.getElem?_map,ea];rfl),?_⟩
   refine ⟨_,rfl,rk,rfl,⟨_,SqL.of hk⟩,zje (K:=K) (a:=rk) (xs:=bs.map V.ref) (fun j ys H2=>∃ cs:List Addr,Same H1 H2∧ys=cs.map V.ref∧zcQ H2 cs (RD A' (i+1)).1 j wd) ⟨[],Same.refl _,rfl,rfl,fun i a e=>by simp at e⟩ (zao (by omega)) ?_ ?_ ?_⟩
   ·rintro j ys H2 hj ⟨cs,s2,rfl,hC⟩
    exact ⟨by rw [List.length_map,hC.1];exact Nat.le_refl _,SqL.of (s2 _ _ hk)⟩
   ·rintro j v ys H2 N p hv ⟨cs,s2,rfl,hC⟩ hp hN C' s₀ H₀ ex
    rw [List.getElem?_map] at hv
    cases e:bs[j]? with
    | none=>rw [e] at hv;cases hv
    | some b =>
     rw [e] at hv
     cases hv
     have hjm:j<m:=by have:=(List.getElem?_eq_some_iff.mp e).1;rw [hB.1] at this;exact this
     have hb:=hB.2 j b e
     have s3:=zad (o:=.tup [.int j,.ref b]) hp
     have s23:=s2.trans s3
     have hrow:(RD A' (i+1)).1=st (RD A' i).1 i (RD A' i).2:=rfl
     refine ⟨p,_,rfl,SqT.of zae,rfl,_,_,rfl,_,_,rfl,rfl,?_⟩
     dsimp only [zaQ]
     refine iteT ?_
     refine ⟨_,rfl,_,rfl,rfl,_,rfl,?_⟩
     by_cases ej:j=i
     ·rw [decide_eq_true (show V.int (j:Int)=V.int (0+(i:Int)) by rw [ej,Int.zero_add])]
      refine iteT ?_
      refine ⟨_,rfl,hN _ _ ⟨cs++[b],s23,by rw [List.map_append];rfl,(hC.same s3).snoc ?_⟩⟩
      rw [s23 _ _ hb,hrow]
      congr 2
      refine List.map_congr_left fun l _=>?_
      unfold st
      rw [if_pos ej,ej]
     ·rw [decide_eq_false (show ¬ V.int (j:Int)=V.int (0+(i:Int)) from fun z=>ej (by injection z with z;omega))]
      refine iteF ?_
      refine ⟨_,rfl,_,rfl,_,rfl,_,rfl,b,a,wd,i,(RD A' i).1 j,(RD A' i).1 i,(RD A' i).2,by rw [Int.zero_add];rfl,s23 _ _ hb,s23 _ _ ha,by omega,by omega,sm3,sm2,fun l hl=>⟨sm1 j l hjm (by omega),sm1 i l hi (by omega)⟩,fun H4 c s4 hc h4=>?_⟩
      refine hN _ _ ⟨cs++[c],s23.trans s4,by rw [List.map_append];rfl,(hC.same (s3.trans s4)).snoc ?_⟩
      rw [h4,hrow]
      congr 2
      refine List.map_congr_left fun l _=>?_
      unfold st
      rw [if_neg ej]
   ·rintro ys H2 ⟨cs,s2,rfl,hC⟩ p hp
    rw [hbl] at hC
    have s3:=zad (o:=.lst (cs.map V.ref)) hp
    refine ⟨_,rfl,_,rfl,a,_,_,_,rfl,rfl,SqL.of ((s2.trans s3) _ _ ha),by rw [Int.zero_add];exact zaO (j:=i) (zh1 (by omega)),?_⟩
    exact ⟨p,cs,_,_,rfl,(s1.trans s2).trans s3,zae,hC.same s3⟩
  ·rintro σ H1 ⟨rk,bs,v3,v4,rfl,s1,hk,hB⟩
   exact ⟨_,rfl,q _ rk bs s1 hk hB⟩
def augR (A:Nat→Nat→Int) (b:Nat→Int) (m:Nat):Nat→Nat→Int:=fun i j=>if j<m then A i j else b i
def zko (K:W.Frag):Sp:=fun vs H Q _=>∃ (r am:Addr) (as:List Addr) (A:Nat→Nat→Int) (b:Nat→Int) (m:Nat),vs=[.ref r,.ref am]∧H r=some (.lst (as.map V.ref))∧zcQ H as A m m∧H am=some (.lst ((List.range m).map fun i=>V.int (b i)))∧m≤7∧zmR (augR A b m) m∧(∀ i,i<m→(RD (augR A b m) m).1 i i≠0) ∧
 ∀ (H':Hp) (p:Addr) (us:List V),Same H H'→H p=none→H' p=some (.lst us)→Fqs K H' us ((List.range m).map fun i=>Rat.divInt ((RD (augR A b m) m).1 i m) ((RD (augR A b m) m).1 i i))→Q (.ref p) H'
theorem zlX (F:Fun K "solved" "solved" zer f fd) (T:Txt K mg C t1 t2 t3) (zmi:mg "cleared" = some (.ref fc)) (zmv:W.keepIn K (.ref fc)=true) (zmN:Binds K fdc ["rows"] []) (zmX:FnOk P w K mg base CX0 2 fc fdc ["rows"] (zi8 K))
  (zfa:mg "made" = some (.ref fm)) (k_made:W.keepIn K (.ref fm)=true) (zfr:Binds K fdm ["a","b"] []) (zfx:FnOk P w K mg base CX0 2 fm fdm ["a","b"] (zht K)):FnOk P w K mg base CX0 3 f fd ["rows","amounts"] (zko K):=by
 refine F.ok ziB (fun vs H Q E h=>?_) (fun cdv A outer s H vs Q E hr h=>?_)
 ·obtain ⟨r,am,as,A,b,m,rfl,_⟩:=h
  rfl
 ·obtain ⟨r,am,as,A',b,m,rfl,h0,hR,hA,h7,sm,hnz,q⟩:=h
  have hlen:(as.map V.ref).length=m:=by rw [List.length_map,hR.1]
  refine ⟨_,(zaf (zax (i:=2) ziB.nd rfl (Or.inl rfl) (zak zmX (hr.mono (by decide)) rfl zmi zmv zmN .nil zaq (zaa (zaY ["row","amount"] [] rfl rfl (by kernel_rfl) (zg8 rfl T.n_zip (zaa (pv 0) (zaa (pv 1) zac))) (fun _ _ _ _=>(zbZ (n:=2) rfl (zap (zan (i:=0) (show (["row","amount"]:List Str).Nodup by decide +kernel) rfl (Or.inl rfl)) (zap (zan (i:=1) (show (["row","amount"]:List Str).Nodup by decide +kernel) rfl (Or.inl rfl)) zbg)))) (fun _ _ _ _=>(zdi (za3 zaw (za3 zaw zce)))) (fun _ _ _ _=>zbI) (fun _ _ _ _=>(za1 zoC (pv 0) (zdE (zaa (pv 1) zac))))) zac)))
   (zaj (zas (zaY ["at","row"] [0] rfl rfl (by kernel_rfl) (zlR rfl T.n_enumerate (zaa (pv 2) zac)) (fun _ _ _ _=>(zbZ (n:=2) rfl (zap (zan (i:=0) (show (["at","row","rows"]:List Str).Nodup by decide +kernel) rfl (Or.inl rfl)) (zap (zan (i:=1) (show (["at","row","rows"]:List Str).Nodup by decide +kernel) rfl (Or.inl rfl)) zbg)))) (fun _ _ _ _=>(zdi (za3 zaw (za3 zaw zce)))) (fun _ _ _ _=>zbI) (fun _ _ _ _=>(zak zfx (hr.mono (by decide)) rfl zfa k_made zfr .nil zaq (zaa (zay zaK (pv 1) (za2 za4 (by rfl) T.n_len zcr (zaa (pv 2) zac)) (fun _ _=>rfl)) (zaa (zay zaK (pv 1) (pv 0) (fun _ _=>rfl)) zac)))))))),?_⟩
  refine ⟨_,rfl,_,rfl,r,am,rfl,⟨_,SqL.of h0⟩,⟨_,SqL.of hA⟩,zex (K:=K) (a:=r) (b:=am) (xs:=as.map V.ref) (zs:=(List.range m).map fun i=>V.int (b i)) (fun i ys H'=>∃ cs:List Addr,Same H H'∧ys=cs.map V.ref∧zcQ H' cs (augR A' b m) i (m+1)) ⟨[],Same.refl _,rfl,rfl,fun i a e=>by simp at e⟩ (zao (by omega)) (by rw [List.length_map,List.length_range,hlen]) ?_ ?_ ?_⟩
  ·rintro i ys H' hi ⟨cs,s1,rfl,hC⟩
   exact ⟨by rw [List.length_map,hC.1];exact Nat.le_refl _,SqL.of (s1 _ _ h0),SqL.of (s1 _ _ hA)⟩
  ·rintro i x z ys H' N p hx hz ⟨cs,s1,rfl,hC⟩ hp hN C' s₀ H₀ ex
   obtain ⟨him,rfl⟩:=zjA hz
   rw [List.getElem?_map] at hx
   cases e:as[i]? with
   | none=>rw [e] at hx;cases hx
   | some a =>
    rw [e] at hx
    cases hx
    have ha:=hR.2 i a e
    have s2:=zad (o:=.tup [.ref a,.int (b i)]) hp
    refine ⟨p,_,rfl,SqT.of zae,rfl,_,_,rfl,_,_,rfl,rfl,?_⟩
    dsimp only [zaQ]
    refine iteT ?_
    refine ⟨_,rfl,_,rfl,by show 1≤sizeLine;decide,fun l hl=>?_⟩
    have s3:=zad (o:=.lst [.int (b i)]) hl
    refine ⟨a,l,_,_,rfl,rfl,s3 _ _ (s2 _ _ (s1 _ _ ha)),zae,Nat.le_of_lt (zao (by rw [List.length_map,List.length_range];show m+1≤1000;omega)),fun c hc=>?_⟩
    have s4:=zad (o:=.lst (((List.range m).map fun j=>V.int (A' i j))++[.int (b i)])) hc
    refine hN _ _ ⟨cs++[c],((s1.trans s2).trans s3).trans s4,by rw [List.map_append];rfl,(hC.same ((s2.trans s3).trans s4)).snoc ?_⟩
    rw [zae,List.range_succ,List.map_append]
    congr 3
    ·refine List.map_congr_left fun l hl=>?_
     unfold augR
     rw [if_pos (List.mem_range.mp hl)]
    ·unfold augR
     rw [List.map_singleton,if_neg (by omega)]
  ·rintro ys H1 ⟨cs,s1,rfl,hC⟩ p hp
   rw [hlen] at hC
   have s2:=zad (o:=.lst (cs.map V.ref)) hp
   refine ⟨p,cs,augR A' b m,m,m+1,rfl,zae,hC.same s2,by omega,by omega,by omega,sm,fun H3 d bs s3 hd hB=>?_⟩
   have s13:=(s1.trans s2).trans s3
   have hbl:(bs.map V.ref).length=m:=by rw [List.length_map,hB.1]
   obtain ⟨sm1,sm2,sm3⟩:=sm m (Nat.le_refl _)
   refine ⟨_,rfl,d,rfl,⟨_,SqL.of hd⟩,zje (K:=K) (a:=d) (xs:=bs.map V.ref) (fun j ys H4=>Same H3 H4∧Fqs K H4 ys ((List.range j).map fun i=>Rat.divInt ((RD (augR A' b m) m).1 i m) ((RD (augR A' b m) m).1 i i))) ⟨Same.refl _,.nil⟩ (zao (by omega)) ?_ ?_ ?_⟩
   ·rintro j ys H4 hj ⟨s4,hF⟩
    exact ⟨by rw [hF.len,List.length_map,List.length_range];exact Nat.le_refl _,SqL.of (s4 _ _ hd)⟩
   ·rintro j v ys H4 N pp hv ⟨s4,hF⟩ hpp hN C' s₀ H₀ ex
    rw [List.getElem?_map] at hv
    cases e:bs[j]? with
    | none=>rw [e] at hv;cases hv
    | some a =>
     rw [e] at hv
     cases hv
     have hjm:j<m:=by have:=(List.getElem?_eq_some_iff.mp e).1;rw [hB.1] at this;exact this
     have ha:=hB.2 j a e
     have s5:=zad (o:=.tup [.int j,.ref a]) hpp
     have s45:=s4.trans s5
     refine ⟨pp,_,rfl,SqT.of zae,rfl,_,_,rfl,_,_,rfl,rfl,?_⟩
     dsimp only [zaQ]
     refine iteT ?_
     refine ⟨_,rfl,_,rfl,r,_,rfl,.inl (SqL.of ((s13.trans s45) _ _ h0)),a,_,_,_,rfl,rfl,SqL.of (s45 _ _ ha),by rw [hlen];exact zaO (j:=m) (zh1 (by omega)),?_⟩
     refine ⟨_,rfl,_,rfl,a,_,_,_,rfl,rfl,SqL.of (s45 _ _ ha),zaO (j:=j) (zh1 (by omega)),?_⟩
     refine ⟨_,_,8000,rfl,hnz j hjm,by decide,sm1 j j hjm (by omega),fun c hc=>hN _ _ ⟨s45.trans (zad hc),?_⟩⟩
     rw [List.range_succ,List.map_append]
     exact Fqs.snoc (hF.same (s5.trans (zad hc))) Fq.new
   ·rintro ys H4 ⟨s4,hF⟩ pp hpp
    rw [hbl] at hF
    exact q _ pp ys ((s13.trans s4).trans (zad hpp)) ((s13.trans s4).free hpp) zae (hF.same (zad hpp))
def askZ (x one other:Int):Int:=if one=other∨(x≠one∧x≠other) then 0 else if x=one then 1 else -1
def zj2:Sp:=fun vs H Q _=>∃ x one other:Int,vs=[.int x,.int one,.int other]∧∀ (H':Hp) (p:Addr),Same H H'→H p=none→H' p=some (.tup [.int (askZ x one other),.int 1])→Q (.ref p) H'
theorem znL (F:Fun K "asked_sum" "asked_sum" zc3 f fd):FnOk P w K mg base CX0 1 f fd ["place","one","other"] zj2:=by
 refine F.ok ziD (fun vs H Q E h=>?_) (fun cdv A outer s H vs Q E hr h=>?_)
 ·obtain ⟨x,one,other,rfl,_⟩:=h
  rfl
 ·obtain ⟨x,one,other,rfl,q⟩:=h
  refine ⟨_,(zaf (zaP (PW.pt (pw_or (zat zcd (pv 1) (pv 2) (za0 _)) (pw_or1 (zat zbu (pv 0) (zaI (zaa (pv 1) (zaa (pv 2) zac))) rfl)))) (zaj (zas (zaI (zaa zag (zaa zag zac))))) zaz)
   (zaj (zas (zhW (zat zcd (pv 0) (pv 1) (za0 _)) (zaI (zaa zag (zaa zag zac))) (zaI (zaa (zpi zly zag) (zaa zag zac))))))),?_⟩
  refine ⟨_,rfl,_,rfl,rfl,_,rfl,?_⟩
  refine ite2 (fun h=>?_) (fun h=>?_)
  ·have e:one=other:=by
    have h':=of_decide_eq_true h
    injection h'
   refine ⟨by show 2≤sizeLine;decide,fun p hp=>q _ p (zad hp) hp ?_⟩
   unfold askZ
   rw [if_pos (.inl e)]
   exact zae
  ·have e:¬ one=other:=fun e=>h (by rw [e];exact decide_eq_true rfl)
   refine ⟨_,rfl,_,rfl,_,rfl,by show 2≤sizeLine;decide,fun t ht=>?_⟩
   have s1:=zad (o:=.tup [.int one,.int other]) ht
   refine ⟨t,_,rfl,.inr (SqT.of zae),rfl,rfl,_,rfl,?_⟩
   show if (!inV (.int x) [.int one,.int other])=true then _ else _
   rw [inV2]
   by_cases e1:x=one
   ·rw [decide_eq_true e1]
    refine iteF ?_
    refine ⟨_,rfl,_,rfl,rfl,_,rfl,?_⟩
    rw [decide_eq_true (show V.int x=V.int one by rw [e1])]
    refine iteT ?_
    refine ⟨by show 2≤sizeLine;decide,fun p hp=>q _ p (s1.trans (zad hp)) (s1.free hp) ?_⟩
    unfold askZ
    rw [if_neg (by omega),if_pos e1]
    exact zae
   ·rw [decide_eq_false e1]
    by_cases e2:x=other
    ·rw [decide_eq_true e2]
     refine iteF ?_
     refine ⟨_,rfl,_,rfl,rfl,_,rfl,?_⟩
     rw [decide_eq_false (show ¬ V.int x=V.int one from fun z=>e1 (by injection z))]
     refine iteF ?_
     refine ⟨_,rfl,by show 2≤sizeLine;decide,fun p hp=>q _ p (s1.trans (zad hp)) (s1.free hp) ?_⟩
     unfold askZ
     rw [if_neg (by omega),if_neg e1]
     exact zae
    ·rw [decide_eq_false e2]
     refine iteT ?_
     refine ⟨by show 2≤sizeLine;decide,fun p hp=>q _ p (s1.trans (zad hp)) (s1.free hp) ?_⟩
     unfold askZ
     rw [if_pos (.inr ⟨e1,e2⟩)]
     exact zae
end
end K2
namespace K2
open PySem L2 Mp St Bz
theorem zbV.nice {n:Nat} {ps:List Pipe} (h:zbV n ps):Nice n ps:=⟨h.fits,fun p hp=>(h.ok p hp).ne,fun p hp=>(h.ok p hp).a1,fun p hp=>(h.ok p hp).b1⟩
theorem zbV.sized {n:Nat} {ps:List Pipe} (h:zbV n ps):zjs ps (zaD ps) (30*28) 30:=zkt (fun p hp=>⟨(h.ok p hp).a1,Int.le_trans (h.ok p hp).aM zph⟩) (fun p hp=>Int.le_trans (h.ok p hp).bM zph) h.le (by decide)
theorem zkB {z:Int} {k l:Nat} (h:z.natAbs≤2^k) (hk:k<l):Bt l z:=Nat.lt_of_le_of_lt h (Nat.pow_lt_pow_right (by decide) hk)
theorem SqT.ne {K:W.Frag} {H:Hp} {x c:Addr} {o o':HO} {xs:List V} (h:SqT K H c xs) (hx:H x=some o) (n1:∀ ys,o≠.tup ys) (n2:∀ ob ys,o≠.frz ob (.tup ys)):SqT K (upd H x o') c xs:=by
 rcases h with (z | ⟨ob,z⟩) | z
 ·exact .inl (.inl (by rw [zar (zjF z hx (fun e=>n1 _ e.symm))];exact z))
 ·exact .inl (.inr ⟨ob,by rw [zar (zjF z hx (fun e=>n2 _ _ e.symm))];exact z⟩)
 ·exact .inr z
theorem Fq.ne {K:W.Frag} {H:Hp} {x:Addr} {o o':HO} {v:V} {q:Rat} (h:Fq K H v q) (hx:H x=some o) (n1:∀ ys,o≠.tup ys) (n2:∀ ob ys,o≠.frz ob (.tup ys)):Fq K (upd H x o') v q:=by
 obtain ⟨p,rfl,h⟩:=h
 exact ⟨p,rfl,SqT.ne h hx n1 n2⟩
theorem Fqs.ne {K:W.Frag} {H:Hp} {x:Addr} {o o':HO} {vs:List V} {qs:List Rat} (h:Fqs K H vs qs) (hx:H x=some o) (n1:∀ ys,o≠.tup ys) (n2:∀ ob ys,o≠.frz ob (.tup ys)):Fqs K (upd H x o') vs qs:=Paired.mapP h fun _ _ z=>z.ne hx n1 n2
theorem Fqs.set {K:W.Frag} {H:Hp}:∀ {vs:List V} {qs:List Rat} (j:Nat) {v:V} {q:Rat},Fqs K H vs qs→Fq K H v q→Fqs K H (vs.set j v) (qs.set j q)
 | _,_,_,_,_,.nil,_=>.nil
 | _,_,0,_,_,.cons _ t,h=>.cons h t
 | _,_,j+1,_,_,.cons r t,h=>.cons r (Fqs.set j t h)
theorem Fqs.rep {K:W.Frag} {H:Hp} {v:V} {q:Rat} (h:Fq K H v q):∀ (k:Nat),Fqs K H (List.replicate k v) (List.replicate k q)
 | 0=>.nil
 | k+1=>.cons h (Fqs.rep h k)
theorem zk4 {α:Type} (v:α):∀ k,(List.replicate k [v]).flatten=List.replicate k v
 | 0=>rfl
 | k+1=>by rw [List.replicate_succ,List.flatten_cons,zk4 v k];rfl
theorem zfF {n j:Nat} (h:j<n):ixN n (j:Int)=some j:=by
 unfold ixN
 rw [if_pos (by omega),if_pos (by omega)]
 simp
noncomputable def hts (n:Nat) (ps:List Pipe) (one other:Int):List Rat:=(List.range n).map fun i:Nat=>hOf n ps one other (i:Int)
def spHB (K:W.Frag) (C:Addr):Sp:=fun vs H Q _=>∃ (x L:Addr) (n:Nat) (ps:List Pipe) (one other:Int),vs=[.ref x,.int one,.int other]∧zdp K C H x L n ps∧zbV n ps∧(0≤other∧other<n)∧Reach ps other one ∧
 ∀ (H':Hp) (r:Addr) (us:List V),Same H H'→H r=none→H' r=some (.lst us)→Fqs K H' us (hts n ps one other)→Q (.ref r) H'
section
variable {P:Program} {w:World} {K:W.Frag} {mg:Str→Option Value} {base:Heap} {C f fp fq fs fa fh fv:Addr} {fd fdp fdq fds fda fdh fdv:FuncData} {t1 t2 t3:Tok}
theorem zrp (F:Fun K "heights_between" "heights_between" zaV f fd) (T:Txt K mg C t1 t2 t3)
  (zcb:Meth K C "pipes" fp) (zcf:Binds K fdp ["self"] []) (zcg:FnOk P w K mg base CX0 1 fp fdp ["self"] (zdK K C))
  (zgq:Meth K C "part" fq) (zgV:Binds K fdq ["self","at"] []) (zgY:FnOk P w K mg base CX0 3 fq fdq ["self","at"] (zi7 K C))
  (zkX:mg "scale_of" = some (.ref fs)) (zlf:W.keepIn K (.ref fs)=true) (zlm:Binds K fds ["pipes"] []) (zlq:FnOk P w K mg base CX0 2 fs fds ["pipes"] (zlB K))
  (ze4:mg "asked_sum" = some (.ref fa)) (ze7:W.keepIn K (.ref fa)=true) (zeE:Binds K fda ["place","one","other"] []) (zeG:FnOk P w K mg base CX0 1 fa fda ["place","one","other"] zj2)
  (zkW:mg "sheet_of" = some (.ref fh)) (zle:W.keepIn K (.ref fh)=true) (zll:Binds K fdh ["pipes","scale","places"] []) (zlp:FnOk P w K mg base CX0 4 fh fdh ["pipes","scale","places"] (zlA K))
  (znR:mg "solved" = some (.ref fv)) (zoc:W.keepIn K (.ref fv)=true) (zop:Binds K fdv ["rows","amounts"] []) (zot:FnOk P w K mg base CX0 3 fv fdv ["rows","amounts"] (zko K)):FnOk P w K mg base CX0 6 f fd ["net","one","other"] (spHB K C):=by
 refine F.ok zaC (fun vs H Q E h=>?_) (fun cdv A outer s H vs Q E hr h=>?_)
 ·obtain ⟨x,L,n,ps,one,other,rfl,_⟩:=h
  rfl
 ·obtain ⟨x,L,n,ps,one,other,rfl,net,ok,ho,hro,q⟩:=h
  obtain ⟨⟨dx,h1⟩,_⟩:=id net
  have n8:=ok.n8
  have n1:=ok.n1
  refine ⟨_,(zaf (zax (i:=3) zaC.nd rfl (Or.inl rfl) (zdr (pv 0) T.c_Net zcb zcg (hr.mono (by decide)) zcf .nil zaq))
   (zaf (zax (i:=4) zaC.nd rfl (Or.inr rfl) (zak zlq (hr.mono (by decide)) rfl zkX zlf zlm .nil zaq (zaa (pv 3) zac)))
   (zaf (zd1 (i:=5) ["place"] [2] rfl rfl (by kernel_rfl) zaC.nd rfl rfl (zaS (zg9 (pv 0) T.c_Net zgq zgY (hr.mono (by decide)) zgV .nil zaq (zaa (pv 2) zac))) (fun _ _ _ _=>(zan (i:=0) (show (["place","other"]:List Str).Nodup by decide +kernel) rfl (Or.inl rfl))) (fun _ _ _ _=>zaw) (fun _ _ _ _=>(zeU (zat zhh (pv 0) (pv 1) (za0 _)))) (fun _ _ _ _=>(pv 0)))
   (zaf (zd1 (i:=6) ["place"] [4,1,2] rfl rfl (by kernel_rfl) zaC.nd rfl rfl (zaS (pv 5)) (fun _ _ _ _=>(zan (i:=0) (show (["place","scale","one","other"]:List Str).Nodup by decide +kernel) rfl (Or.inl rfl))) (fun _ _ _ _=>zaw) (fun _ _ _ _=>zbI) (fun _ _ _ _=>(za1 zh5 (zay zav (zak zeG (hr.mono (by decide)) rfl ze4 ze7 zeE .nil zaq (zaa (pv 0) (zaa (pv 2) (zaa (pv 3) zac)))) zag (fun _ _=>rfl)) (pv 1))))
   (zaf (zax (i:=7) zaC.nd rfl (Or.inl rfl) (za1 zqu (zdE (zaa (zaI (zaa zag (zaa zag zac))) zac)) (zaL (pv 0) rfl)))
   (zaf (zdd PassesOwn.never rfl (zg8 rfl T.n_zip (zaa (pv 5) (zaa (zak zot (hr.mono (by decide)) rfl znR zoc zop .nil zaq (zaa (zak zlp (hr.mono (by decide)) rfl zkW zle zll .nil zaq (zaa (pv 3) (zaa (pv 4) (zaa (pv 5) zac)))) (zaa (pv 6) zac))) zac))) (zbZ (n:=2) rfl (zap (zan (i:=8) zaC.nd rfl (Or.inl rfl)) (zap (zan (i:=9) zaC.nd rfl (Or.inl rfl)) zbg))) (zaj (zfP (pv 9) (zh3 (pv 7) (pv 8) set_list))))
   (zaj (zas (pv 7))))))))),?_⟩
  refine ⟨_,rfl,x,dx,_,rfl,h1,zcP _ _ (by decide +kernel) (by decide +kernel),x,L,n,ps,rfl,net,fun r us hr1 pa=>?_⟩
  have s1:=zad (o:=.lst us) hr1
  have hrl:(upd H r (.lst us)) r=some (.lst us):=zae
  have pa1:=zam.same s1 pa
  generalize upd H r (.lst us)=H1 at s1 hrl pa1 ⊢
  refine ⟨_,rfl,r,us,ps,rfl,SqL.of hrl,pa1,fun p hp=>⟨(ok.ok p hp).a1,(ok.ok p hp).aM⟩,?_⟩
  refine ⟨_,rfl,x,dx,_,rfl,s1 _ _ h1,zcP _ _ (by decide +kernel) (by decide +kernel),_,rfl,x,L,n,other,ps,rfl,net.same s1,ok,ho.1,ho.2,fun H2 rm ms s2 hrm pt h2=>?_⟩
  have s12:=s1.trans s2
  have hms:ms.length≤8:=by
   have:=few n ms (List.Pairwise.imp (fun {a b} (q:a<b)=>by omega) pt.1) fun y hy=>((pt.2 y).mp hy).fits ok.fits ho
   omega
  refine ⟨rm,rfl,⟨_,SqL.of h2⟩,zaN (K:=K) (a:=rm) (xs:=ms.map V.int) (fun i ys H'=>H'=H2∧ys=((ms.take i).filter fun y=>!decide (y=other)).map V.int) ⟨rfl,rfl⟩ (zao (by rw [List.length_map];omega)) ?_ ?_ ?_⟩
  ·rintro i ys H' hi ⟨rfl,rfl⟩
   refine ⟨?_,SqL.of h2⟩
   rw [List.length_map]
   exact Nat.le_trans (List.length_filter_le _ _) (by rw [List.length_take];omega)
  ·rintro i v ys H' N hv ⟨rfl,rfl⟩ hN C' s₀ H₀ ex
   rw [List.getElem?_map] at hv
   cases e:ms[i]? with
   | none=>rw [e] at hv;cases hv
   | some y =>
    rw [e] at hv
    cases hv
    have ht:ms.take (i+1)=ms.take i++[y]:=by rw [List.take_succ,e];rfl
    dsimp only [zcy]
    refine ⟨_,rfl,_,rfl,rfl,_,rfl,?_⟩
    by_cases ey:y=other
    ·rw [decide_eq_true (show V.int y=V.int other by rw [ey])]
     refine iteF ?_
     refine hN _ _ ⟨rfl,?_⟩
     rw [ht,List.filter_append,List.map_append]
     simp [ey]
    ·rw [decide_eq_false (show ¬ V.int y=V.int other from fun z=>ey (by injection z))]
     refine iteT ?_
     refine ⟨_,rfl,hN _ _ ⟨rfl,?_⟩⟩
     rw [ht,List.filter_append,List.map_append]
     simp [ey]
  ·rintro ys H' ⟨rfl,rfl⟩ rf hrf
   rw [List.length_map,List.take_length]
   have hfree:=zpE pt
   obtain ⟨fr,efr⟩:∃ fr,fr=ms.filter fun y=>!decide (y=other):=⟨_,rfl⟩
   rw [← efr] at hfree ⊢
   have hfl:fr.length≤7:=by have:=hfree.len ok.nice ho;omega
   have s3:=zad (o:=.lst (fr.map V.int)) hrf
   have hf3:(upd H' rf (.lst (fr.map V.int))) rf=some (.lst (fr.map V.int)):=zae
   have s13:=s12.trans s3
   generalize upd H' rf (.lst (fr.map V.int))=H3 at s3 hf3 s13 ⊢
   refine ⟨_,rfl,rf,rfl,⟨_,SqL.of hf3⟩,zaN (K:=K) (a:=rf) (xs:=fr.map V.int) (fun i ys H'=>Same H3 H'∧ys=(fr.take i).map fun z=>V.int (if z=one then zaD ps else 0)) ⟨Same.refl _,rfl⟩ (zao (by rw [List.length_map];omega)) ?_ ?_ ?_⟩
   ·rintro i ys H' hi ⟨s4,rfl⟩
    refine ⟨?_,SqL.of (s4 _ _ hf3)⟩
    rw [List.length_map,List.length_take]
    omega
   ·rintro i v ys H' N hv ⟨s4,rfl⟩ hN C' s₀ H₀ ex
    rw [List.getElem?_map] at hv
    cases e:fr[i]? with
    | none=>rw [e] at hv;cases hv
    | some y =>
     rw [e] at hv
     cases hv
     have hyo:y≠other:=((hfree.mem y).mp (List.mem_of_getElem? e)).2
     dsimp only [zaQ,zcy]
     refine iteT ?_
     refine ⟨_,rfl,_,rfl,_,rfl,y,one,other,rfl,fun H5 p s5 hp h5=>?_⟩
     have hz:askZ y one other=if y=one then 1 else 0:=by
      unfold askZ
      by_cases q1:y=one
      ·rw [if_neg (by omega),if_pos q1,if_pos q1]
      ·rw [if_pos (.inr ⟨q1,hyo⟩),if_neg q1]
     refine ⟨p,_,_,_,rfl,rfl,SqT.of h5,rfl,_,rfl,_,_,rfl,rfl,.inl (by rw [hz];split <;> omega),hN _ _ ⟨s4.trans s5,?_⟩⟩
     rw [List.take_succ,e,List.map_append,hz]
     by_cases q1:y=one
     ·simp [q1]
     ·simp [q1]
   ·rintro ys H' ⟨s4,rfl⟩ ra hra
    rw [List.length_map,List.take_length]
    have s5:=zad (o:=.lst (fr.map fun z=>V.int (if z=one then zaD ps else 0))) hra
    have ha5:(upd H' ra (.lst (fr.map fun z=>V.int (if z=one then zaD ps else 0)))) ra=some (.lst ((List.range fr.length).map fun i=>V.int (if fr.getD i 0=one then zaD ps else 0))):=by
     rw [zae,map_range fr fun z=>V.int (if z=one then zaD ps else 0)]
    have s15:=(s13.trans s4).trans s5
    have hf5:=(s4.trans s5) _ _ hf3
    generalize upd H' ra (.lst (fr.map fun z=>V.int (if z=one then zaD ps else 0)))=H5 at s5 ha5 s15 hf5 ⊢
    refine ⟨by show 2≤sizeLine;decide,fun tz htz=>⟨by show 1≤sizeLine;decide,fun lz hlz=>?_⟩⟩
    have s6:=zad (o:=.tup [.int 0,.int 1]) htz
    have s7:=zad (o:=.lst [.ref tz]) hlz
    have htz7:=s7 _ _ (zae (H:=H5) (a:=tz) (o:=.tup [.int 0,.int 1]))
    have s17:=(s15.trans s6).trans s7
    have hlz7:(upd (upd H5 tz (.tup [.int 0,.int 1])) lz (.lst [.ref tz])) lz=some (.lst [.ref tz]):=zae
    have s57:=s6.trans s7
    generalize upd (upd H5 tz (.tup [.int 0,.int 1])) lz (.lst [.ref tz])=H7 at s57 htz7 s17 hlz7 ⊢
    refine ⟨_,rfl,x,C,dx,_,_,rfl,s17 _ _ h1,T.c_Net,T.a_size,zdk _ _,lz,n,_,rfl,rfl,hlz7,by omega,by omega,?_,fun hl hhl=>?_⟩
    ·exact Nat.le_of_lt (zao (by show 1*(n:Int).toNat≤1000;omega))
    rw [Int.toNat_natCast,zk4]
    have s8:=zad (o:=.lst (List.replicate n (.ref tz))) hhl
    have hlH:H hl=none:=s17.free hhl
    have hh8:(upd H7 hl (.lst (List.replicate n (.ref tz)))) hl=some (.lst (List.replicate n (.ref tz))):=zae
    have hz8:Fqs K (upd H7 hl (.lst (List.replicate n (.ref tz)))) (List.replicate n (.ref tz)) (List.replicate n 0):=Fqs.rep ⟨tz,rfl,SqT.of (s8 _ _ htz7)⟩ n
    have s18:=s17.trans s8
    have s58:=s57.trans s8
    generalize upd H7 hl (.lst (List.replicate n (.ref tz)))=H8 at s8 hh8 hz8 s18 s58 ⊢
    refine ⟨_,rfl,_,rfl,_,rfl,_,rfl,r,rf,us,n,ps,zaD ps,fr,rfl,SqL.of ((((s2.trans s3).trans s4).trans s5 |>.trans s58) _ _ hrl),zam.same (((s2.trans s3).trans s4).trans s5 |>.trans s58) pa1,ok,SqL.of (s58 _ _ hf5),by omega,fun H9 rs as s9 hrs h9 hR=>?_⟩
    have small:=fun k hk=>zgx (one:=one) ok.nice (by omega) ok.sized hfree ho k hk
    have sok:=zhP (one:=one) ok.nice (by omega) ok.sized hfree ho hro
    have eaug:augR (fun i j=>zca ps (zaD ps) (fr.getD i 0) (fr.getD j 0)) (fun i=>if fr.getD i 0=one then zaD ps else 0) fr.length=aug ps (zaD ps) fr one:=rfl
    refine ⟨_,rfl,rs,ra,as,_,fun i=>if fr.getD i 0=one then zaD ps else 0,fr.length,rfl,h9,hR,(s58.trans s9) _ _ ha5,hfl,?_,?_,fun H10 rx xs s10 hrx h10 hX=>?_⟩
    ·rw [eaug]
     intro k hk
     obtain ⟨a1,a2,a3⟩:=small k hk
     exact ⟨fun i j hi hj=>zkB (a1 i j hi hj) (by decide),zkB a2 (by decide),a3⟩
    ·rw [eaug]
     intro i hi
     rw [sok.2.1 i hi]
     exact sok.2.2
    rw [eaug] at hX
    have s8a:=s9.trans s10
    have hx10:hl≠rx:=zal (s9 _ _ hh8) hrx
    have hf10:=(s58.trans s8a) _ _ hf5
    have hfne:hl≠rf:=(zal (s57 _ _ hf5) hhl).symm
    have hxl:xs.length=fr.length:=by rw [hX.len,List.length_map,List.length_range]
    have s1a:=s18.trans s8a
    have e0:List.replicate n (0:Rat)=(List.range n).map fun i:Nat=>lk (fr.take 0) (xOf ps (zaD ps) fr one) (i:Int):=by
     rw [List.take_zero]
     refine List.ext_getElem? fun i=>?_
     rw [List.getElem?_replicate,List.getElem?_map]
     by_cases hi:i<n
     ·rw [if_pos hi,List.getElem?_range hi];rfl
     ·rw [if_neg hi,List.getElem?_eq_none (by rw [List.length_range];omega)];rfl
    refine ⟨rf,rx,rfl,⟨_,SqL.of hf10⟩,⟨_,SqL.of h10⟩,zpF (K:=K) (a:=rf) (b:=rx) (xs:=fr.map V.int) (zs:=xs) (fun i σ H'=>∃ (ws:List V) (v8 v9:Option V),σ=[some (.ref x),some (.int one),some (.int other),some (.ref r),some (.int (zaD ps)),some (.ref rf),some (.ref ra),some (.ref hl),v8,v9]∧(∀ b o,b≠hl→H10 b=some o→H' b=some o)∧H' hl=some (.lst ws)∧Fqs K H' ws ((List.range n).map fun y:Nat=>lk (fr.take i) (xOf ps (zaD ps) fr one) (y:Int)))
     ⟨List.replicate n (.ref tz),none,none,rfl,fun b o _ e=>e,s8a _ _ hh8,by rw [← e0];exact hz8.same s8a⟩ (by rw [List.length_map];exact hxl) ?_ ?_ ?_⟩
    ·rintro i σ H' hi ⟨ws,v8,v9,rfl,kp,hw,hF⟩
     exact ⟨SqL.of (kp _ _ hfne.symm hf10),SqL.of (kp _ _ hx10.symm h10)⟩
    ·rintro i v z σ H' p hv hz ⟨ws,v8,v9,rfl,kp,hw,hF⟩ hp
     rw [List.getElem?_map] at hv
     cases e:fr[i]? with
     | none=>rw [e] at hv;cases hv
     | some y =>
      rw [e] at hv
      cases hv
      have hil:i<fr.length:=(List.getElem?_eq_some_iff.mp e).1
      obtain ⟨qz,hqz,fz⟩:=hX.get hz
      have eq:qz=xOf ps (zaD ps) fr one i:=by
       rw [List.getElem?_map,List.getElem?_range hil] at hqz
       cases hqz
       rfl
      subst eq
      have hy:=((hfree.mem y).mp (List.mem_of_getElem? e)).1.fits ok.fits ho
      obtain ⟨j,rfl⟩:=Int.eq_ofNat_of_zero_le hy.1
      have hjn:j<n:=by omega
      have s11:=zad (o:=.tup [.int (j:Int),z]) hp
      have hw11:=s11 _ _ hw
      have hphl:p≠hl:=(zal hw hp).symm
      have hF11:=hF.same s11
      have fz11:Fq K (upd H' p (.tup [.int (j:Int),z])) z (xOf ps (zaD ps) fr one i):=by
       obtain ⟨pz,rfl,hpz⟩:=fz
       refine ⟨pz,rfl,Same.tup s11 ?_⟩
       have hpne:∀ {o:HO},H10 pz=some o→(∀ ys,o≠.lst ys)→pz≠hl:=fun {o} eo no z=>by
        rw [z,s8a _ _ hh8] at eo
        cases eo
        exact no _ rfl
       rcases hpz with (z | ⟨ob,z⟩) | z
       ·exact .inl (.inl (kp _ _ (hpne z fun _=>nofun) z))
       ·exact .inl (.inr ⟨ob,kp _ _ (hpne z fun _=>nofun) z⟩)
       ·exact .inr z
      have kp11:∀ b o,b≠hl→H10 b=some o→(upd H' p (.tup [.int (j:Int),z])) b=some o:=fun b o nb eb=>s11 _ _ (kp b o nb eb)
      have hp11:(upd H' p (.tup [.int (j:Int),z])) p=some (.tup [.int (j:Int),z]):=zae
      generalize upd H' p (.tup [.int (j:Int),z])=H11 at s11 hw11 hF11 fz11 kp11 hp11 ⊢
      have hwl:ws.length=n:=by rw [hF11.len,List.length_map,List.length_range]
      refine ⟨p,_,rfl,SqT.of hp11,rfl,_,_,rfl,_,_,rfl,rfl,?_⟩
      refine ⟨_,rfl,_,rfl,_,rfl,hl,ws,j,j,rfl,rfl,hw11,by rw [hwl];exact zfF hjn,?_⟩
      refine ⟨ws.set j z,_,_,rfl,fun b o nb eb=>by rw [zar nb];exact kp11 b o nb eb,zae,?_⟩
      have e2:((List.range n).map fun y:Nat=>lk (fr.take (i+1)) (xOf ps (zaD ps) fr one) (y:Int))=((List.range n).map fun y:Nat=>lk (fr.take i) (xOf ps (zaD ps) fr one) (y:Int)).set j (xOf ps (zaD ps) fr one i):=by
       refine List.ext_getElem? fun k=>?_
       rw [List.getElem?_set,List.length_map,List.length_range,List.getElem?_map,List.getElem?_map]
       by_cases hk:k<n
       ·rw [List.getElem?_range hk]
        show some (lk (fr.take (i+1)) (xOf ps (zaD ps) fr one) (k:Int))=_
        rw [zp4 hfree.nd e]
        by_cases ek:j=k
        ·rw [if_pos (by omega),if_pos ek,if_pos (by omega)]
        ·rw [if_neg (by omega),if_neg ek];rfl
       ·rw [List.getElem?_eq_none (by rw [List.length_range];omega),if_neg (by omega)]
        rfl
      rw [e2]
      exact Fqs.set j (hF11.ne hw11 (fun _=>nofun) (fun _ _=>nofun)) (fz11.ne hw11 (fun _=>nofun) (fun _ _=>nofun))
    ·rintro σ H' ⟨ws,v8,v9,rfl,kp,hw,hF⟩
     rw [List.length_map,List.take_length] at hF
     refine ⟨_,rfl,q _ hl ws (fun b o e=>kp b o (zal e hlH) (s1a _ _ e)) hlH hw ?_⟩
     unfold hts
     rw [zm2 ok.nice sok.1]
     exact hF
end
end K2
namespace K2
open PySem L2 Mp St Bz
def zmS (n:Nat) (ps:List Pipe) (one other:Int):Prop:=∀ y,BtQ 1500 (hOf n ps one other y)
theorem zmK {q:Rat} {N:Int} {B k:Nat} (h:Dn N B q) (h0:N≠0) (hN:N.natAbs<2^k) (hB:B<2^k):BtQ k q:=by
 obtain ⟨a,b⟩:=h.le h0
 exact ⟨Nat.lt_of_le_of_lt a hB,by show ((q.den:Int)).natAbs<2^k;rw [Int.natAbs_natCast];exact Nat.lt_of_le_of_lt b hN⟩
theorem part_free {n:Nat} {ps:List Pipe} (ok:zbV n ps) {other:Int} (ho:0≤other∧other<n):∃ fr,Free ps other fr:=by
 obtain ⟨S,h⟩:∃ S:List Int,S.Nodup∧∀ x,x∈S↔Reach ps other x:=by
  classical
  refine ⟨((List.range n).map fun i:Nat=>(i:Int)).filter fun x=>decide (Reach ps other x),?_,fun x=>?_⟩
  ·refine List.Pairwise.filter _ (List.Pairwise.map _ (fun {a b} (q:a≠b)=>?_) List.nodup_range)
   exact fun e=>q (by omega)
  ·rw [List.mem_filter,decide_eq_true_eq]
   refine ⟨fun h=>h.2,fun h=>⟨?_,h⟩⟩
   have:=h.fits ok.fits ho
   exact List.mem_map.mpr ⟨x.toNat,List.mem_range.mpr (by omega),by omega⟩
 refine ⟨S.filter fun x=>!decide (x=other),List.Pairwise.filter _ h.1,fun x=>?_⟩
 rw [List.mem_filter,h.2 x]
 simp
theorem zbV.isH {n:Nat} {ps:List Pipe} (ok:zbV n ps) {one other:Int} (ho:0≤other∧other<n) (hr:Reach ps other one):IsH n ps one other (hOf n ps one other):=by
 obtain ⟨fr,hfr⟩:=part_free ok ho
 have n8:=ok.n8
 exact zpB ok.nice (by omega) ok.sized hfr ho hr
theorem zbV.den {n:Nat} {ps:List Pipe} (ok:zbV n ps) {ka kb L:Nat} (ha:∀ p∈ps,p.a≤2^ka) (hb:∀ p∈ps,p.b≤2^kb) (hl:ps.length≤L) (h31:L≤31) {one other:Int} (ho:0≤other∧other<n) (hr:Reach ps other one):∃ N:Int,N≠0∧N.natAbs≤2^(7*(ka*L+kb+8))∧∀ y,Dn N (2^(8*(ka*L+kb+8))) (hOf n ps one other y):=by
 obtain ⟨fr,hfr⟩:=part_free ok ho
 have n8:=ok.n8
 exact zpC ok.nice (by omega) (zkt (fun p hp=>⟨(ok.ok p hp).a1,ha p hp⟩) hb hl h31) hfr ho hr
theorem zh7 {m a k:Nat} (h:m≤2^a) (hk:a<k):m<2^k:=Nat.lt_of_le_of_lt h (Nat.pow_lt_pow_right (by decide) hk)
theorem zbV.zqj {n:Nat} {ps:List Pipe} (ok:zbV n ps) {ka kb L:Nat} (ha:∀ p∈ps,p.a≤2^ka) (hb:∀ p∈ps,p.b≤2^kb) (hl:ps.length≤L) (h31:L≤31) (hk:8*(ka*L+kb+8)<1500) {one other:Int} (ho:0≤other∧other<n) (hr:Reach ps other one):zmS n ps one other:=by
 obtain ⟨N,h0,hN,hd⟩:=ok.den ha hb hl h31 ho hr
 exact fun y=>zmK (hd y) h0 (zh7 hN (by omega)) (zh7 (Nat.le_refl _) hk)
def zj3 (K:W.Frag) (C:Addr):Sp:=fun vs H Q _=>∃ (x L l:Addr) (n:Nat) (ps:List Pipe) (zs:List Int),vs=[.ref x,.ref l]∧zdp K C H x L n ps∧SqL K H l (zs.map V.int)∧zs.length≤8∧(∀ z∈zs,0≤z∧z<n)∧∀ H',Same H H'→Q (.bl true) H'
def zgw (K:W.Frag) (C:Addr):Sp:=fun vs H Q _=>∃ (x L l:Addr) (n:Nat) (ps:List Pipe) (zs:List Int),vs=[.ref x,.ref l]∧zdp K C H x L n ps∧SqL K H l (zs.map V.int)∧zs.length≤8∧(∀ z∈zs,0≤z∧z<n)∧∀ H',Same H H'→Q .non H'
section
variable {P:Program} {w:World} {K:W.Frag} {mg:Str→Option Value} {base:Heap} {C f fc fa:Addr} {fd fdc fda:FuncData} {t1 t2 t3:Tok}
theorem znM (F:Fun K "are_places" "are_places" zck f fd) (T:Txt K mg C t1 t2 t3) (zbp:mg "counts_one_of" = some (.ref fc)) (zbq:W.keepIn K (.ref fc)=true) (zbr:Binds K fdc ["value","many"] []) (zbs:FnOk P w K mg base CX0 2 fc fdc ["value","many"] zge):FnOk P w K mg base CX0 3 f fd ["net","places"] (zj3 K C):=by
 refine F.ok zhT (fun vs H Q E h=>?_) (fun cdv A outer s H vs Q E hr h=>?_)
 ·obtain ⟨x,L,l,n,ps,zs,rfl,_⟩:=h
  rfl
 ·obtain ⟨x,L,l,n,ps,zs,rfl,net,hl,h8,hz,q⟩:=h
  obtain ⟨⟨dx,h1⟩,_⟩:=id net
  refine ⟨_,(zaj (zas (za2 (zfo rfl) (by rfl) T.n_all zjk (zaa (zaY ["place"] [0] rfl rfl (by kernel_rfl) (zaS (pv 1)) (fun _ _ _ _=>(zan (i:=0) (show (["place","net"]:List Str).Nodup by decide +kernel) rfl (Or.inl rfl))) (fun _ _ _ _=>zaw) (fun _ _ _ _=>zbI) (fun _ _ _ _=>(zak zbs (hr.mono (by decide)) rfl zbp zbq zbr .nil zaq (zaa (pv 0) (zaa (zaL (pv 1) rfl) zac))))) zac)))),?_⟩
  refine ⟨_,rfl,l,rfl,⟨_,hl⟩,zaN (K:=K) (a:=l) (xs:=zs.map V.int) (fun i ys H'=>H'=H∧ys=List.replicate i (.bl true)) ⟨rfl,rfl⟩ (zao (by rw [List.length_map];omega)) (fun i ys H' hi ⟨e,e'⟩=>⟨by rw [e',List.length_replicate];exact Nat.le_refl _,e▸hl⟩) ?_ ?_⟩
  ·rintro i v ys H' N hv ⟨rfl,rfl⟩ hN C' s₀ H₀ ex
   rw [List.getElem?_map] at hv
   cases e:zs[i]? with
   | none=>rw [e] at hv;cases hv
   | some z =>
    rw [e] at hv
    cases hv
    have hzz:=hz z (List.mem_of_getElem? e)
    dsimp only [zaQ,zcy]
    refine iteT ?_
    refine ⟨_,rfl,_,rfl,x,C,dx,_,_,rfl,h1,T.c_Net,T.a_size,zdk _ _,z,n,rfl,hzz.1,hzz.2,hN _ _ ⟨rfl,by rw [List.replicate_succ']⟩⟩
  ·rintro ys H' ⟨rfl,rfl⟩ p hp'
   refine ⟨p,List.replicate (zs.map V.int).length true,rfl,SqL.of (by rw [List.map_replicate];exact zae),?_⟩
   have e:(List.replicate (zs.map V.int).length true).all id=true:=by simp
   rw [e]
   exact q _ (zad hp')
theorem zkQ (F:Fun K "check_places" "check_places" zbA f fd) (zec:mg "are_places" = some (.ref fa)) (zef:W.keepIn K (.ref fa)=true) (zej:Binds K fda ["net","places"] []) (zem:FnOk P w K mg base CX0 3 fa fda ["net","places"] (zj3 K C)):FnOk P w K mg base CX0 4 f fd ["net","places"] (zgw K C):=by
 refine F.ok zg1 (fun vs H Q E h=>?_) (fun cdv A outer s H vs Q E hr h=>?_)
 ·obtain ⟨x,L,l,n,ps,zs,rfl,_⟩:=h
  rfl
 ·obtain ⟨x,L,l,n,ps,zs,rfl,net,hl,h8,hz,q⟩:=h
  refine ⟨_,(zaj (zaP (zbj (zaX (zak zem (hr.mono (by decide)) rfl zec zef zej .nil zaq (zaa (pv 0) (zaa (pv 1) zac))))) (zaj zeS) zaz)),?_⟩
  exact ⟨_,rfl,_,rfl,x,L,l,n,ps,zs,rfl,net,hl,h8,hz,fun H1 s1=>⟨_,rfl,iteF (q _ s1)⟩⟩
end
end K2
namespace K2
open PySem L2 Mp
def ziA (K:W.Frag):Sp:=fun vs H Q _=>∃ (a:Addr) (ns:List Int) (k:Int),vs=[.ref a,.int k]∧0≤k∧SqL K H a (ns.map V.int)∧∀ z,Q (.int z) H
def zlH:Sp:=fun vs H Q _=>∃ c k m:Int,vs=[.int c,.int k,.int m]∧0≤k∧k<2^60∧0<m∧∀ (r:Int) (H':Hp),Same H H'→0≤r→r<m→Q (.int r) H'
def zhN:Sp:=fun vs H Q _=>∃ a b:Int,vs=[.int a,.int b]∧0≤a∧1≤b∧(∃ k,k≤9000∧L2.Bt k b) ∧
 ∀ t:Addr,H t=none→Q (.ref t) (upd H t (.tup [.int (a.fdiv (Int.gcd a b:Int)),.int (b.fdiv (Int.gcd a b:Int))]))
abbrev zqp:List V:=[.int 1000003,.int 1000033,.int 1000037,.int 1000039,.int 1000081,.int 1000099,.int 1000117,.int 1000121]
theorem zlP:∀ j:Nat,j<8→∃ pr:Int,0<pr∧zqp[j]? = some (.int pr)
 | 0,_=>⟨_,by decide,rfl⟩
 | 1,_=>⟨_,by decide,rfl⟩
 | 2,_=>⟨_,by decide,rfl⟩
 | 3,_=>⟨_,by decide,rfl⟩
 | 4,_=>⟨_,by decide,rfl⟩
 | 5,_=>⟨_,by decide,rfl⟩
 | 6,_=>⟨_,by decide,rfl⟩
 | 7,_=>⟨_,by decide,rfl⟩
 | n+8,h=>by omega
theorem zk0 {a b:Int} (ha:1≤a) (hb:1≤b):∃ a' b':Int,a.fdiv (Int.gcd a b:Int)=a'∧b.fdiv (Int.gcd a b:Int)=b'∧1≤a'∧a'≤a∧1≤b'∧b'≤b∧Int.gcd a' b'=1∧a'*b=a*b':=by
 obtain ⟨a',ea⟩:=Int.gcd_dvd_left a b
 obtain ⟨b',eb⟩:=Int.gcd_dvd_right a b
 have hg:0<(Int.gcd a b:Int):=by
  have:=Int.gcd_pos_of_ne_zero_left b (show a≠0 by omega)
  omega
 generalize hgg:(Int.gcd a b:Int)=g at *
 have e1:a.fdiv g=a':=by rw [ea];exact Int.mul_fdiv_cancel_left _ (by omega)
 have e2:b.fdiv g=b':=by rw [eb];exact Int.mul_fdiv_cancel_left _ (by omega)
 have pos:∀ {c c':Int},1≤c→c=g*c'→0<c':=fun {c c'} h e=>by
  by_cases z:0<c'
  ·exact z
  ·have:=Int.mul_le_mul_of_nonneg_left (show c'≤0 by omega) (Int.le_of_lt hg)
   rw [Int.mul_zero,← e] at this
   omega
 have up:∀ {c c':Int},0<c'→c=g*c'→c'≤c:=fun {c c'} h e=>by
  have:=Int.mul_le_mul_of_nonneg_right (show (1:Int)≤g by omega) (Int.le_of_lt h)
  rw [Int.one_mul,← e] at this
  exact this
 have pa:0<a':=pos ha ea
 have pb:0<b':=pos hb eb
 refine ⟨a',b',e1,e2,by omega,?_,by omega,?_,?_,by rw [eb,show a*b'=(g*a')*b' by rw [← ea]];grind⟩
 ·exact up pa ea
 ·exact up pb eb
 ·have h1:Int.gcd (g*a') (g*b')=g.natAbs*Int.gcd a' b':=Int.gcd_mul_left ..
  rw [← ea,← eb] at h1
  have h2:Int.gcd a b=g.natAbs:=by omega
  rw [h2] at h1
  have h3:0<g.natAbs:=by omega
  exact (Nat.eq_of_mul_eq_mul_left h3 (by rw [Nat.mul_one];exact h1)).symm
theorem bt31 {b:Int} (b1:1≤b) (bM:b≤1000000000):∃ k,k≤9000∧L2.Bt k b:=by
 have hb31:b.natAbs<2^31:=by
  have:(2:Nat)^31=2147483648:=by decide
  omega
 exact ⟨31,by decide,hb31⟩
section
variable {P:Program} {w:World} {K:W.Frag} {mg:Str→Option Value} {base:Heap} {C f:Addr} {fd:FuncData} {t1 t2 t3:Tok}
theorem zpz (F:Fun K "_law_cell_at" "_law_cell_at" zbC f fd) (T:Txt K mg C t1 t2 t3):FnOk P w K mg base CX0 1 f fd ["_law_script","_law_k"] (ziA K):=by
 refine F.ok zg3 (fun vs H Q E h=>?_) (fun cdv A outer s H vs Q E hr h=>?_)
 ·obtain ⟨a,ns,k,rfl,_⟩:=h
  rfl
 ·obtain ⟨a,ns,k,rfl,k0,sq,q⟩:=h
  obtain ⟨k,rfl⟩:∃ m:Nat,k=m:=⟨k.toNat,by omega⟩
  refine ⟨_,(zaf (zaP (zat znz (pv 1) (za2 za4 (by rfl) T.n_len zcr (zaa (pv 0) zac)) (za0 _)) (zaj (zas (zay zaK (pv 0) (pv 1) (fun _ _=>rfl)))) zaz)
   (zaj (zas zag))),?_⟩
  refine ⟨_,rfl,_,rfl,a,_,rfl,.inl sq,_,_,rfl,rfl,_,rfl,?_⟩
  refine ite2 (fun h=>?_) (fun h=>?_)
  ·have h':(k:Int)<((ns.map V.int).length:Nat):=of_decide_eq_true h
   have hk:k<ns.length:=by rw [List.length_map] at h';omega
   refine ⟨_,rfl,_,rfl,a,_,_,_,rfl,rfl,sq,zaO (j:=k) (v:=.int (ns.getD k 0)) ?_,q _⟩
   rw [List.getElem?_map,List.getD_eq_getElem?_getD,List.getElem?_eq_getElem hk]
   rfl
  ·exact q _
theorem zpy (F:Fun K "_law_draw" "_law_draw" zc6 f fd):FnOk P w K mg base CX0 1 f fd ["_law_cell","_law_k","_law_many"] zlH:=by
 refine F.ok zdZ (fun vs H Q E h=>?_) (fun cdv A outer s H vs Q E hr h=>?_)
 ·obtain ⟨c,k,m,rfl,_⟩:=h
  rfl
 ·obtain ⟨c,k,m,rfl,k0,kM,hm,q⟩:=h
  obtain ⟨k,rfl⟩:∃ m:Nat,k=m:=⟨k.toNat,by omega⟩
  obtain ⟨pr,hpr,hat⟩:=zlP (k % 8) (by omega)
  refine ⟨_,(zaf (zax (i:=3) zdZ.nd rfl (Or.inl rfl) (zaI (zaa zag (zaa zag (zaa zag (zaa zag (zaa zag (zaa zag (zaa zag (zaa zag zac))))))))))
   (zaf (zax (i:=4) zdZ.nd rfl (Or.inl rfl) (za1 zb5 (za1 zb5 (za1 zh5 (pv 0) zag) (za1 zh5 (pv 1) zag)) (za1 zh5 (za1 zbk (za1 zc9 (pv 0) zag) zag) zag)))
   (zaj (zas (za1 zbk (za1 zbk (pv 4) (zay zav (pv 3) (za1 zbk (pv 1) zag) (fun _ _=>rfl))) (pv 2)))))),?_⟩
  refine ⟨by show 8≤sizeLine;decide,fun t ht=>?_⟩
  refine ⟨_,rfl,_,_,rfl,rfl,.inr ⟨by decide,by decide⟩,_,rfl,_,_,rfl,rfl,.inr ⟨by decide,by decide⟩,_,_,rfl,rfl,_,rfl,_,_,rfl,rfl,⟨by decide,by decide⟩,_,_,rfl,rfl,(by show (0:Int)<1000003;decide),_,_,rfl,rfl,.inr ⟨by decide,by decide⟩,_,_,rfl,rfl,?_⟩
  refine ⟨_,rfl,_,rfl,_,rfl,_,_,rfl,rfl,(by show (0:Int)<8;decide),t,_,_,.int pr,rfl,rfl,SqT.of zae,?_,_,_,rfl,rfl,hpr,_,rfl,_,_,rfl,rfl,hm,?_⟩
  ·exact zaO (j:=k % 8) hat
  ·exact q _ _ (zad ht) (Int.emod_nonneg _ (by omega)) (Int.emod_lt_of_pos _ hm)
theorem znH (F:Fun K "_law_least" "_law_least" zcn f fd):FnOk P w K mg base CX0 1 f fd ["_law_a","_law_b"] zhN:=by
 refine F.ok zdM (fun vs H Q E h=>?_) (fun cdv A outer s H vs Q E hr h=>?_)
 ·obtain ⟨a,b,rfl,_⟩:=h
  rfl
 ·obtain ⟨a,b,rfl,a0,b1,⟨kb,hk,hbt⟩,q⟩:=h
  refine ⟨_,(zaf (zlO (i:=2) (j:=3) rfl zdM.nd rfl rfl (by decide) rfl rfl (zaa (pv 0) (zaa (pv 1) zac)) rfl)
   (zaf (zhV PassesOwn.never (zat zlU (pv 3) zag (za0 _)) (zaj (zlO (i:=2) (j:=3) rfl zdM.nd rfl rfl (by decide) rfl rfl (zaa (pv 3) (zaa (za1 zbk (pv 2) (pv 3)) zac)) rfl)))
   (zaj (zas (zaI (zaa (za1 zet (pv 0) (pv 2)) (zaa (za1 zet (pv 1) (pv 2)) zac))))))),?_⟩
  refine ⟨_,rfl,_,rfl,_,_,rfl,?_⟩
  refine zhI (fun σ H'=>∃ (x y:Int),σ=[some (.int a),some (.int b),some (.int x),some (.int y)]∧H'=H∧0≤x∧0≤y∧Nat.gcd x.natAbs y.natAbs=Int.gcd a b)
   (fun σ _=>match σ with | [_,_,_,some (.int y)]=>y.natAbs | _=>0) ⟨a,b,rfl,rfl,by omega,by omega,rfl⟩ ?_ ?_
  ·rintro σ H' ⟨x,y,rfl,rfl,hx,hy,hg⟩
   refine ⟨_,rfl,_,_,rfl,rfl,_,rfl,?_⟩
   refine ite2 (fun h=>?_) (fun h=>?_)
   ·have hy':0<y:=of_decide_eq_true h
    refine ⟨_,rfl,_,rfl,_,rfl,_,_,rfl,rfl,hy',_,_,rfl,⟨y,x % y,rfl,rfl,hy,Int.emod_nonneg _ (by omega),?_⟩,?_⟩
    ·rw [My.zk2 x y hx hy',hg]
    ·show (x % y).natAbs<y.natAbs
     have h1:=Int.emod_nonneg x (show y≠0 by omega)
     have h2:=Int.emod_lt_of_pos x hy'
     omega
   ·have hy':y=0:=by
     have:¬ 0<y:=fun z=>h (decide_eq_true z)
     omega
    subst hy'
    have e:x=(Int.gcd a b:Int):=by
     simp at hg
     omega
    subst e
    have hg0:0<Int.gcd a b:=Int.gcd_pos_of_ne_zero_right a (show b≠0 by omega)
    have hgl:(Int.gcd a b:Int)≤b:=Int.le_of_dvd (by omega) (Int.gcd_dvd_right a b)
    have hB:L2.zlu a (Int.gcd a b:Int):=⟨by omega,kb,hk,Nat.lt_of_le_of_lt (by rw [Int.natAbs_natCast];omega) hbt⟩
    have hB':L2.zlu b (Int.gcd a b:Int):=⟨hB.1,hB.2⟩
    refine ⟨_,rfl,_,rfl,_,_,rfl,rfl,hB,_,rfl,_,rfl,_,_,rfl,rfl,hB',by show 2≤sizeLine;decide,fun t ht=>?_⟩
    exact q t ht
  ·rintro σ H' Q1 Q2 f ⟨v,e1,i,j,e2,e3,k',e4,q'⟩
   exact ⟨v,e1,i,j,e2,e3,k',e4,f _ _ q'⟩
end
end K2
namespace K2
open PySem L2 Mp
structure Told (K:W.Frag) (H:Hp) (t l:Addr) (n:Nat) (ps:List Pipe):Prop where
 tu:H t=some (.tup [.int n,.ref l])
 li:∃ us,H l=some (.lst us)∧zam K H us ps
 ok:zbV n ps
theorem Told.same {K:W.Frag} {H H':Hp} {t l:Addr} {n:Nat} {ps:List Pipe} (s:Same H H') (h:Told K H t l n ps):Told K H' t l n ps:=by
 obtain ⟨h1,⟨us,h2,h3⟩,h4⟩:=h
 exact ⟨s _ _ h1,⟨us,s _ _ h2,zam.same s h3⟩,h4⟩
def zo3 (K:W.Frag):Sp:=fun vs H Q _=>∃ (a:Addr) (ns:List Int) (i m:Int),vs=[.ref a,.int i,.int m]∧0≤i∧0≤m∧m≤12∧SqL K H a (ns.map V.int) ∧
 ∀ (H':Hp) (t l:Addr) (n:Nat) (ps:List Pipe),Same H H'→H l=none→(ps.length:Int)≤m→n≤5→(∀ p∈ps,p.a≤4∧p.b≤3)→Told K H' t l n ps→Q (.ref t) H'
abbrev sizes:List V:=[.int 3,.int 4,.int 2,.int 4,.int 5,.int 3,.int 1]
theorem znl:∀ j:Nat,j<7→∃ pl:Nat,1≤pl∧pl≤5∧sizes[j]? = some (.int pl)
 | 0,_=>⟨3,by decide,by decide,rfl⟩
 | 1,_=>⟨4,by decide,by decide,rfl⟩
 | 2,_=>⟨2,by decide,by decide,rfl⟩
 | 3,_=>⟨4,by decide,by decide,rfl⟩
 | 4,_=>⟨5,by decide,by decide,rfl⟩
 | 5,_=>⟨3,by decide,by decide,rfl⟩
 | 6,_=>⟨1,by decide,by decide,rfl⟩
 | n+7,h=>by omega
theorem zne {n:Nat} {x r:Int} (h2:2≤n) (h5:n≤5) (x0:0≤x) (xn:x<n) (r0:0≤r) (rn:r<(n:Int)-1):0≤(x+1+r) % (n:Int)∧(x+1+r) % (n:Int)<n∧x≠(x+1+r) % (n:Int):=by
 have:n=2∨n=3∨n=4∨n=5:=by omega
 rcases this with rfl | rfl | rfl | rfl <;> omega
section
variable {P:Program} {w:World} {K:W.Frag} {mg:Str→Option Value} {base:Heap} {C f fc fr fl:Addr} {fd fdc fdr fdl:FuncData} {t1 t2 t3:Tok}
theorem zpn (F:Fun K "_law_told" "_law_told" zc4 f fd) (T:Txt K mg C t1 t2 t3) (za6:mg "_law_cell_at" = some (.ref fc)) (za7:W.keepIn K (.ref fc)=true) (za8:Binds K fdc ["_law_script","_law_k"] []) (za9:FnOk P w K mg base CX0 1 fc fdc ["_law_script","_law_k"] (ziA K))
  (zbx:mg "_law_draw" = some (.ref fr)) (zbz:W.keepIn K (.ref fr)=true) (zb0:Binds K fdr ["_law_cell","_law_k","_law_many"] []) (zb2:FnOk P w K mg base CX0 1 fr fdr ["_law_cell","_law_k","_law_many"] zlH)
  (zcK:mg "_law_least" = some (.ref fl)) (zcL:W.keepIn K (.ref fl)=true) (zcM:Binds K fdl ["_law_a","_law_b"] []) (zcN:FnOk P w K mg base CX0 1 fl fdl ["_law_a","_law_b"] zhN):FnOk P w K mg base CX0 2 f fd ["_law_script","_law_first","_law_most"] (zo3 K):=by
 refine F.ok zbc (fun vs H Q E h=>?_) (fun cdv A outer s H vs Q E hr h=>?_)
 ·obtain ⟨a,ns,i,m,rfl,_⟩:=h
  rfl
 ·obtain ⟨a,ns,i0,m,rfl,hi0,hm0,hm,sq,q⟩:=h
  refine ⟨_,(zaf (zax (i:=3) zbc.nd rfl (Or.inl rfl) (zak za9 (hr.mono (by decide)) rfl za6 za7 za8 .nil zaq (zaa (pv 0) (zaa (pv 1) zac))))
   (zaf (zax (i:=4) zbc.nd rfl (Or.inl rfl) (zak za9 (hr.mono (by decide)) rfl za6 za7 za8 .nil zaq (zaa (pv 0) (zaa (za1 zb5 (pv 1) zag) zac))))
   (zaf (zax (i:=5) zbc.nd rfl (Or.inl rfl) (zak za9 (hr.mono (by decide)) rfl za6 za7 za8 .nil zaq (zaa (pv 0) (zaa (za1 zb5 (pv 1) zag) zac))))
   (zaf (zax (i:=6) zbc.nd rfl (Or.inl rfl) (zay zav (zaI (zaa zag (zaa zag (zaa zag (zaa zag (zaa zag (zaa zag (zaa zag zac)))))))) (za1 zbk (pv 3) zag) (fun _ _=>rfl)))
   (zaf (zax (i:=7) zbc.nd rfl (Or.inl rfl) (zdE zac))
   (zaf (zaP (zat zlU (pv 6) zag (za0 _)) (zaj (zdd PassesOwn.never rfl (zbo rfl T.n_range (zaa (za1 zbk (za1 zc9 (pv 3) zag) (za1 zb5 (pv 2) zag)) zac)) (zan (i:=8) zbc.nd rfl (Or.inl rfl)) (zaf (zax (i:=9) zbc.nd rfl (Or.inl rfl) (zak zb2 (hr.mono (by decide)) rfl zbx zbz zb0 .nil zaq (zaa (pv 4) (zaa (pv 8) (zaa (pv 6) zac)))))
   (zaf (zax (i:=10) zbc.nd rfl (Or.inl rfl) (za1 zbk (za1 zb5 (za1 zb5 (pv 9) zag) (zak zb2 (hr.mono (by decide)) rfl zbx zbz zb0 .nil zaq (zaa (pv 4) (zaa (za1 zb5 (pv 8) zag) (zaa (za1 zh4 (pv 6) zag) zac))))) (pv 6)))
   (zaj (zcc (ziL PySem.F.plainAttrs_list PySem.F.slot_list_append PySem.F.type_list_append zde (pv 7) (zaa (zaI (zaa (pv 9) (zaa (pv 10) (zaa (zak zcN (hr.mono (by decide)) rfl zcK zcL zcM .nil zaq (zaa (za1 zb5 zag (zak zb2 (hr.mono (by decide)) rfl zbx zbz zb0 .nil zaq (zaa (pv 5) (zaa (pv 8) (zaa zag zac))))) (zaa (za1 zb5 zag (zak zb2 (hr.mono (by decide)) rfl zbx zbz zb0 .nil zaq (zaa (pv 5) (zaa (za1 zb5 (pv 8) zag) (zaa zag zac))))) zac))) zac)))) zac)))))))) zaz)
   (zaj (zas (zaI (zaa (pv 6) (zaa (pv 7) zac))))))))))),?_⟩
  refine ⟨_,rfl,_,rfl,a,ns,i0,rfl,hi0,sq,fun c1=>?_⟩
  refine ⟨_,rfl,_,rfl,_,_,rfl,rfl,a,ns,i0+1,rfl,by omega,sq,fun c2=>?_⟩
  refine ⟨_,rfl,_,rfl,_,_,rfl,rfl,a,ns,i0+2,rfl,by omega,sq,fun c3=>?_⟩
  have h7:0≤c1 % 7∧c1 % 7<7:=by omega
  obtain ⟨n,n1,n5,hat⟩:=znl (c1 % 7).toNat (by omega)
  refine ⟨by show 7≤sizeLine;decide,fun tp htp=>⟨_,rfl,_,_,rfl,rfl,(by show (0:Int)<7;decide),tp,_,_,.int n,rfl,rfl,SqT.of zae,?_,?_⟩⟩
  ·have:=zaO (j:=(c1 % 7).toNat) hat
   rw [Int.toNat_of_nonneg h7.1] at this
   exact this
  have s1:=zad (o:=.tup sizes) htp
  refine ⟨by show 0≤sizeLine;decide,fun l hl=>?_⟩
  have s2:=s1.trans (zad (o:=.lst []) hl)
  have hlH:=s1.free hl
  have hl2:(upd (upd H tp (.tup sizes)) l (.lst [])) l=some (.lst []):=zae
  show _
  generalize upd (upd H tp (.tup sizes)) l (.lst [])=H2 at s2 hl2 ⊢
  have fin:∀ (H3:Hp) (us:List V) (ps:List Pipe),Same H H3→H3 l=some (.lst us)→zam K H3 us ps→(ps.length:Int)≤m→(∀ p∈ps,zdJ n p)→(∀ p∈ps,p.a≤4∧p.b≤3)→∀ t,H3 t=none→Q (.ref t) (upd H3 t (.tup [.int n,.ref l])):=fun H3 us ps s3 h3 p3 le ok smp t ht=>by
   have s4:=zad (o:=.tup [.int n,.ref l]) ht
   exact q _ t l n ps (s3.trans s4) hlH le n5 smp ⟨zae,⟨us,s4 _ _ h3,zam.same s4 p3⟩,⟨by omega,by omega,ok,by omega⟩⟩
  refine ⟨_,rfl,_,_,rfl,rfl,_,rfl,?_⟩
  refine ite2 (fun h=>?_) (fun h=>?_)
  ·have hn2:(n:Int)>1:=of_decide_eq_true h
   have hmod:0≤(c1/7) % (m+1)∧(c1/7) % (m+1)<m+1:=⟨Int.emod_nonneg _ (by omega),Int.emod_lt_of_pos _ (by omega)⟩
   refine ⟨_,rfl,_,_,rfl,rfl,⟨by decide,by decide⟩,_,rfl,_,_,rfl,rfl,_,_,rfl,rfl,(by omega),(c1/7) % (m+1),rfl,by omega,by omega,?_⟩
   refine zdG (lo:=0) (n:=((c1/7) % (m+1)).toNat) (fun i σ H3=>∃ (us:List V) (ps:List Pipe) (v8 v9 v10:Option V),σ=[some (.ref a),some (.int i0),some (.int m),some (.int c1),some (.int c2),some (.int c3),some (.int n),some (.ref l),v8,v9,v10]∧Same H H3∧H3 l=some (.lst us)∧zam K H3 us ps∧ps.length=i∧(∀ p∈ps,zdJ n p)∧∀ p∈ps,p.a≤4∧p.b≤3)
    ⟨[],[],none,none,none,rfl,s2,hl2,.nil,rfl,(fun _ h=>by cases h),fun _ h=>by cases h⟩ ?_ ?_
   ·rintro i σ H3 hi ⟨us,ps,v8,v9,v10,rfl,s3,h3,p3,le,ok,smp⟩
    refine ⟨_,rfl,_,rfl,_,rfl,c2,0+(i:Int),n,rfl,by omega,by omega,by omega,fun x H4 s4 x0 xn=>?_⟩
    refine ⟨_,rfl,_,_,rfl,rfl,_,rfl,_,rfl,_,_,rfl,rfl,_,rfl,_,_,rfl,rfl,c2,0+(i:Int)+3,(n:Int)-1,rfl,by omega,by omega,by omega,fun r H5 s5 r0 rn=>?_⟩
    refine ⟨_,_,rfl,rfl,_,rfl,_,_,rfl,rfl,by omega,?_⟩
    obtain ⟨y0,yn,xy⟩:=zne (by omega) n5 x0 xn r0 rn
    have s35:=s4.trans s5
    refine ⟨_,rfl,.inl ⟨rfl,_,SqL.of (s35 _ _ h3)⟩,_,rfl,_,rfl,_,rfl,_,rfl,c3,0+(i:Int),4,rfl,by omega,by omega,by decide,fun r3 H6 s6 r30 r3n=>?_⟩
    refine ⟨_,_,rfl,rfl,_,rfl,_,rfl,_,_,rfl,rfl,c3,0+(i:Int)+5,3,rfl,by omega,by omega,by decide,fun r4 H7 s7 r40 r4n=>?_⟩
    refine ⟨_,_,rfl,rfl,1+r3,1+r4,rfl,by omega,by omega,bt31 (by omega) (by omega),fun th hth=>?_⟩
    obtain ⟨a',b',e1,e2,a1,aM,b1,bM,gc,_⟩:=zk0 (a:=1+r3) (b:=1+r4) (by omega) (by omega)
    rw [e1,e2]
    refine ⟨by show 3≤sizeLine;decide,fun tt htt=>?_⟩
    have s8:=zad (o:=.tup [.int a',.int b']) hth
    have s9:=zad (o:=.tup [.int x,.int ((x+1+r) % (n:Int)),.ref th]) htt
    have s39:=(((s35.trans s6).trans s7).trans s8).trans s9
    have hth9:=s9 _ _ (zae (H:=H7) (a:=th) (o:=.tup [.int a',.int b']))
    have htt9:(upd (upd H7 th (.tup [.int a',.int b'])) tt (.tup [.int x,.int ((x+1+r) % (n:Int)),.ref th])) tt=some (.tup [.int x,.int ((x+1+r) % (n:Int)),.ref th]):=zae
    have hus:us.length=ps.length:=Paired.length p3
    generalize hH9:upd (upd H7 th (.tup [.int a',.int b'])) tt (.tup [.int x,.int ((x+1+r) % (n:Int)),.ref th])=H9 at s9 s39 hth9 htt9
    refine ⟨l,us,.ref tt,rfl,rfl,?_,zao (by omega),?_⟩
    ·exact s39 _ _ h3
    show ∃ (us':List V) (ps:List Pipe) (v8 v9 v10:Option V),_
    refine ⟨us++[.ref tt],ps++[⟨x,(x+1+r) % (n:Int),a',b'⟩],_,_,_,rfl,?_,?_,?_,by rw [List.length_append];simp;omega,?_,?_⟩
    ·intro b o e
     rw [zar (zal e hlH)]
     exact s39 _ _ (s3 _ _ e)
    ·exact zae
    ·exact zam.ne (s39 _ _ h3) (fun _=>nofun) (fun _ _=>nofun) (zam.snoc (zam.same s39 p3) ⟨tt,th,rfl,SqT.of htt9,SqT.of hth9⟩)
    ·intro p hp
     rcases List.mem_append.mp hp with h | h
     ·exact ok p h
     ·rw [List.mem_singleton.mp h]
      exact ⟨x0,xn,y0,yn,xy,a1,by show a'≤1000000000;omega,b1,by show b'≤1000000000;omega,gc⟩
    ·intro p hp
     rcases List.mem_append.mp hp with h | h
     ·exact smp p h
     ·rw [List.mem_singleton.mp h]
      exact ⟨by show a'≤4;omega,by show b'≤3;omega⟩
   ·rintro σ H3 ⟨us,ps,v8,v9,v10,rfl,s3,h3,p3,le,ok,smp⟩
    exact ⟨_,rfl,_,rfl,by show 2≤sizeLine;decide,fin H3 us ps s3 h3 p3 (by omega) ok smp⟩
  ·exact ⟨_,rfl,_,rfl,by show 2≤sizeLine;decide,fin H2 [] [] s2 hl2 .nil (by simp;omega) (fun _ h=>by cases h) (fun _ h=>by cases h)⟩
end
end K2
namespace K2
open PySem L2 Mp
def zhO (K:W.Frag):Sp:=fun vs H Q _=>∃ (t l:Addr) (n:Nat) (ps:List Pipe) (z:Int),vs=[.ref t,.int z]∧Told K H t l n ps∧0≤z∧z<n ∧
 ∀ (H':Hp) (r:Addr) (ms:List Int),Same H H'→H r=none→zfu ps z ms→H' r=some (.lst (ms.map V.int))→Q (.ref r) H'
section
variable {P:Program} {w:World} {K:W.Frag} {mg:Str→Option Value} {base:Heap} {C f:Addr} {fd:FuncData} {t1 t2 t3:Tok}
theorem znG (F:Fun K "_law_part" "_law_part" zc5 f fd) (T:Txt K mg C t1 t2 t3):FnOk P w K mg base CX0 1 f fd ["_law_told_here","_law_at"] (zhO K):=by
 refine F.ok zch (fun vs H Q E h=>?_) (fun cdv A outer s H vs Q E hr h=>?_)
 ·obtain ⟨t,l,n,ps,z,rfl,_⟩:=h
  rfl
 ·obtain ⟨t,l,n,ps,z,rfl,told,z0,zn,q⟩:=h
  obtain ⟨ht,⟨us,hl,hp⟩,ok⟩:=id told
  have n8:=ok.n8
  have hus:us.length=ps.length:=Paired.length hp
  refine ⟨_,(zaf (zax (i:=2) zch.nd rfl (Or.inl rfl) (zdE (zaa (pv 1) zac)))
   (zaf (zdd PassesOwn.never rfl (zbo rfl T.n_range (zaa (zay zav (pv 0) zag (fun _ _=>rfl)) zac)) (zan (i:=3) zch.nd rfl (Or.inl rfl)) (zaj (zdd PassesOwn.never rfl (zaS (zay zav (pv 0) zag (fun _ _=>rfl))) (zbZ (n:=3) rfl (zap (zan (i:=4) zch.nd rfl (Or.inl rfl)) (zap (zan (i:=5) zch.nd rfl (Or.inl rfl)) (zap (zan (i:=6) zch.nd rfl (Or.inl rfl)) zbg)))) (zaj (zaP (zat zhh (zaM zb4 (pv 4) (pv 2) rfl) (zaM zb4 (pv 5) (pv 2) rfl) (za0 _)) (zaj (zcc (ziL PySem.F.plainAttrs_list PySem.F.slot_list_append PySem.F.type_list_append zde (pv 2) (zaa (zhW (zat zb4 (pv 4) (pv 2) rfl) (pv 5) (pv 4)) zac)))) zaz)))))
   (zaj (zas (za2 zjh (by rfl) T.n_sorted zjj (zaa (pv 2) zac)))))),?_⟩
  refine ⟨_,rfl,by show 1≤sizeLine;decide,fun d hd=>?_⟩
  have s1:=zad (o:=.lst [.int z]) hd
  have hd1:(upd H d (.lst [.int z])) d=some (.lst [.int z]):=zae
  generalize upd H d (.lst [.int z])=H1 at s1 hd1 ⊢
  refine ⟨_,rfl,t,_,_,_,rfl,rfl,SqT.of (s1 _ _ ht),rfl,n,rfl,by omega,by omega,?_⟩
  rw [Int.toNat_natCast]
  refine zdG (lo:=0) (n:=n) (fun i σ H2=>∃ (S:List Int) (v3 v4 v5 v6:Option V),σ=[some (.ref t),some (.int z),some (.ref d),v3,v4,v5,v6]∧Same H H2∧H2 d=some (.lst (S.map V.int))∧Good n ps z S∧Far ps i S)
   ⟨[z],none,none,none,none,rfl,s1,hd1,⟨by simp,by simp,fun x hx=>by rw [List.mem_singleton.mp hx];exact .refl,fun x hx=>by rw [List.mem_singleton.mp hx];exact ⟨z0,zn⟩⟩,.inr (by simp)⟩ ?_ ?_
  ·rintro i σ H2 hi ⟨S,v3,v4,v5,v6,rfl,s2,hd2,g,fr⟩
   refine ⟨_,rfl,t,_,_,_,rfl,rfl,SqT.of (s2 _ _ ht),rfl,l,rfl,⟨_,SqL.of (s2 _ _ hl)⟩,?_⟩
   refine zdQ (K:=K) (a:=l) (xs:=us) (fun j σ H3=>∃ (v4 v5 v6:Option V),σ=[some (.ref t),some (.int z),some (.ref d),some (.int (0+(i:Int))),v4,v5,v6]∧Same H H3∧H3 d=some (.lst (((ps.take j).foldl zbl S).map V.int))∧Good n ps z ((ps.take j).foldl zbl S))
    ⟨v4,v5,v6,rfl,s2,hd2,g⟩ (fun j σ H3 _ ⟨_,_,_,_,s3,_⟩=>SqL.of (s3 _ _ hl)) ?_ ?_
   ·rintro j v σ H3 hv ⟨w4,w5,w6,rfl,s3,hd3,g3⟩
    obtain ⟨p,hpj,⟨x,y,rfl,hx,hy⟩⟩:=(zam.same s3 hp).get hv
    have htk:(ps.take (j+1)).foldl zbl S=zbl ((ps.take j).foldl zbl S) p:=by
     rw [List.take_succ,hpj,List.foldl_append]
     rfl
    have g4:=g3.zbl ok.fits (List.mem_of_getElem? hpj)
    rw [← htk] at g4
    have hl8:=g4.len
    generalize hS:(ps.take j).foldl zbl S=S3 at *
    refine ⟨x,_,rfl,hx,rfl,_,_,rfl,_,_,rfl,_,_,rfl,rfl,?_⟩
    refine ⟨_,rfl,_,rfl,d,_,rfl,.inl (SqL.of hd3),rfl,zaE _,_,rfl,_,rfl,d,_,rfl,.inl (SqL.of hd3),rfl,zaE _,rfl,_,rfl,?_⟩
    have e0:∀ b:Bool,(if false=true then !b else b)=b:=fun b=>rfl
    have put:∀ (y':Int),zbl S3 p=S3++[y']→∃ (w4 w5 w6:Option V),[some (V.ref t),some (.int z),some (.ref d),some (.int (0+(i:Int))),some (.int p.u),some (.int p.w),some (.ref y)]=[some (V.ref t),some (.int z),some (.ref d),some (.int (0+(i:Int))),w4,w5,w6]∧Same H (upd H3 d (.lst (S3.map V.int++[.int y'])))∧(upd H3 d (.lst (S3.map V.int++[.int y']))) d=some (.lst (((ps.take (j+1)).foldl zbl S).map V.int))∧Good n ps z ((ps.take (j+1)).foldl zbl S):=fun y' e =>
     ⟨_,_,_,rfl,fun b o eb=>by rw [zar (zal eb hd)];exact s3 _ _ eb,by rw [zae,htk,e,List.map_append];rfl,g4⟩
    have stay:zbl S3 p=S3→∃ (w4 w5 w6:Option V),[some (V.ref t),some (.int z),some (.ref d),some (.int (0+(i:Int))),some (.int p.u),some (.int p.w),some (.ref y)]=[some (V.ref t),some (.int z),some (.ref d),some (.int (0+(i:Int))),w4,w5,w6]∧Same H H3∧H3 d=some (.lst (((ps.take (j+1)).foldl zbl S).map V.int))∧Good n ps z ((ps.take (j+1)).foldl zbl S):=fun e =>
     ⟨_,_,_,rfl,s3,by rw [htk,e];exact hd3,g4⟩
    have hS3:=g3.len
    have hln:(S3.map V.int).length<sizeLine:=by rw [List.length_map];exact zao (by omega)
    have iu:=zbG p.u S3
    have iw:=zbG p.w S3
    by_cases hu:p.u∈S3 <;> by_cases hw:p.w∈S3
    ·rw [decide_eq_true hu] at iu
     rw [decide_eq_true hw] at iw
     refine zqE (by rw [e0,e0,iu,iw]) ?_
     exact stay (by unfold zbl;simp [hu,hw])
    ·rw [decide_eq_true hu] at iu
     rw [decide_eq_false hw] at iw
     rw [e0,e0,iu,iw]
     refine iteT ?_
     refine ⟨_,rfl,.inl ⟨rfl,_,SqL.of hd3⟩,_,rfl,_,rfl,d,_,rfl,.inl (SqL.of hd3),rfl,zaE _,_,rfl,?_⟩
     rw [e0,iu]
     refine iteT ?_
     exact ⟨_,rfl,d,_,_,rfl,rfl,hd3,hln,put p.w (by unfold zbl;simp [hu,hw])⟩
    ·rw [decide_eq_false hu] at iu
     rw [decide_eq_true hw] at iw
     rw [e0,e0,iu,iw]
     refine iteT ?_
     refine ⟨_,rfl,.inl ⟨rfl,_,SqL.of hd3⟩,_,rfl,_,rfl,d,_,rfl,.inl (SqL.of hd3),rfl,zaE _,_,rfl,?_⟩
     rw [e0,iu]
     refine iteF ?_
     exact ⟨_,rfl,d,_,_,rfl,rfl,hd3,hln,put p.u (by unfold zbl;simp [hu,hw])⟩
    ·rw [decide_eq_false hu] at iu
     rw [decide_eq_false hw] at iw
     refine zqE (by rw [e0,e0,iu,iw]) ?_
     exact stay (by unfold zbl;simp [hu,hw])
   ·rintro σ H3 ⟨w4,w5,w6,rfl,s3,hd3,g3⟩
    rw [hus,List.take_length] at hd3 g3
    exact ⟨_,_,_,_,_,rfl,s3,hd3,g3,zoh fr⟩
  ·rintro σ H2 ⟨S,v3,v4,v5,v6,rfl,s2,hd2,g,fr⟩
   have hS:=g.len
   exact ⟨_,rfl,d,S,rfl,SqL.of hd2,by omega,fun r ms hr' hs=>q _ r ms (s2.trans (zad hr')) (s2.free hr') (zeV g.nd (zpG g fr) hs.1 hs.2) zae⟩
end
end K2
namespace K2
open PySem L2 Mp
theorem zli {lo c:Int} {n:Nat} {g:TG} {tb:TS} {D:Ends} {σ:St} {H:Hp} (Pv:Nat→St→Hp→Prop) (h0:Pv 0 σ H)
  (hs:∀ i σ H,i<n→Pv i σ H→g (.int (lo+i*c)) σ H fun σ2 H2=>tb { D with nx:=Pv (i+1),ct:=Pv (i+1),bk:=D.nx } σ2 H2) (hd:∀ σ H,Pv n σ H→D.nx σ H) :
  ∃ W:Nat→Nat→St→Hp→Prop,(∃ m,W 0 m σ H)∧∀ i m σ H,W i m σ H →
   ((Itrc lo c n).stop i H∧D.nx σ H)∨((Itrc lo c n).go i H∧∃ N:St→Hp→Prop,(∀ σ' H',N σ' H'→∃ m',m' < m∧W (i+1) m' σ' H')∧∀ x H',(Itrc lo c n).yld i H x H'→g x σ H' fun σ2 H2=>tb { D with nx:=N,ct:=N,bk:=D.nx } σ2 H2):=by
 refine ⟨fun i m σ H=>m=n-i∧i≤n∧Pv i σ H,⟨n,by simp,Nat.zero_le _,h0⟩,?_⟩
 rintro i m σ H ⟨rfl,hi,p⟩
 by_cases hlt:i<n
 ·refine .inr ⟨hlt,Pv (i+1),fun σ' H' p'=>⟨n-(i+1),by omega,rfl,hlt,p'⟩,fun x H' y=>?_⟩
  obtain ⟨rfl,rfl⟩:=y
  exact hs i σ _ hlt p
 ·have e:i=n:=by omega
  subst e
  exact .inl ⟨Nat.le_refl _,hd σ H p⟩
theorem zpZ {n:Nat} {x:Int} (h6:6≤n) (h8:n≤8) (x0:0≤x) (xn:x<n):0≤(x+2) % (n:Int)∧(x+2) % (n:Int)<n∧x≠(x+2) % (n:Int):=by
 have:n=6∨n=7∨n=8:=by omega
 rcases this with rfl | rfl | rfl <;> omega
structure Row (K:W.Frag) (H H':Hp) (l:Addr) (n:Nat) (m:Nat) (us:List V) (ps:List Pipe):Prop where
 se:Same H H'
 li:H' l=some (.lst us)
 pi:zam K H' us ps
 le:ps.length≤m
 ok:∀ p∈ps,zdJ n p
 sm:∀ p∈ps,p.a≤1000∧p.b≤30
theorem Row.put {K:W.Frag} {H H' H2:Hp} {l:Addr} {n m:Nat} {us:List V} {ps:List Pipe} {v:V} {p:Pipe} (r:Row K H H' l n m us ps) (hl:H l=none) (s:Same H' H2) (hv:zdx K H2 v p) (hp:zdJ n p) (hs:p.a≤1000∧p.b≤30):Row K H (upd H2 l (.lst (us++[v]))) l n (m+1) (us++[v]) (ps++[p]):=by
 refine ⟨fun b o e=>?_,zae,zam.ne (s _ _ r.li) (fun _=>nofun) (fun _ _=>nofun) (zam.snoc (zam.same s r.pi) hv),by rw [List.length_append];have:=r.le;simp;omega,fun q hq=>?_,fun q hq=>?_⟩
 ·rw [zar (zal e hl)]
  exact s _ _ (r.se _ _ e)
 ·rcases List.mem_append.mp hq with h | h
  ·exact r.ok q h
  ·rw [List.mem_singleton.mp h];exact hp
 ·rcases List.mem_append.mp hq with h | h
  ·exact r.sm q h
  ·rw [List.mem_singleton.mp h];exact hs
def zlI (K:W.Frag):Sp:=fun vs H Q _=>∃ (a:Addr) (ns:List Int) (i:Int),vs=[.ref a,.int i]∧0≤i∧SqL K H a (ns.map V.int) ∧
 ∀ (H':Hp) (t l:Addr) (n:Nat) (ps:List Pipe),Same H H'→ps.length≤9→(∀ p∈ps,p.a≤1000∧p.b≤30)→Told K H' t l n ps→Q (.ref t) H'
section
variable {P:Program} {w:World} {K:W.Frag} {mg:Str→Option Value} {base:Heap} {C f fc fr fl:Addr} {fd fdc fdr fdl:FuncData} {t1 t2 t3:Tok}
theorem znK (F:Fun K "_law_chain" "_law_chain" zco f fd) (T:Txt K mg C t1 t2 t3) (za6:mg "_law_cell_at" = some (.ref fc)) (za7:W.keepIn K (.ref fc)=true) (za8:Binds K fdc ["_law_script","_law_k"] []) (za9:FnOk P w K mg base CX0 1 fc fdc ["_law_script","_law_k"] (ziA K))
  (zbx:mg "_law_draw" = some (.ref fr)) (zbz:W.keepIn K (.ref fr)=true) (zb0:Binds K fdr ["_law_cell","_law_k","_law_many"] []) (zb2:FnOk P w K mg base CX0 1 fr fdr ["_law_cell","_law_k","_law_many"] zlH)
  (zcK:mg "_law_least" = some (.ref fl)) (zcL:W.keepIn K (.ref fl)=true) (zcM:Binds K fdl ["_law_a","_law_b"] []) (zcN:FnOk P w K mg base CX0 1 fl fdl ["_law_a","_law_b"] zhN):FnOk P w K mg base CX0 2 f fd ["_law_script","_law_first"] (zlI K):=by
 refine F.ok zaR (fun vs H Q E h=>?_) (fun cdv A outer s H vs Q E hr h=>?_)
 ·obtain ⟨a,ns,i,rfl,_⟩:=h
  rfl
 ·obtain ⟨a,ns,i0,rfl,hi0,sq,q⟩:=h
  refine ⟨_,(zaf (zax (i:=2) zaR.nd rfl (Or.inl rfl) (zak za9 (hr.mono (by decide)) rfl za6 za7 za8 .nil zaq (zaa (pv 0) (zaa (pv 1) zac))))
   (zaf (zax (i:=3) zaR.nd rfl (Or.inl rfl) (zak za9 (hr.mono (by decide)) rfl za6 za7 za8 .nil zaq (zaa (pv 0) (zaa (za1 zb5 (pv 1) zag) zac))))
   (zaf (zax (i:=4) zaR.nd rfl (Or.inl rfl) (za1 zb5 zag (za1 zbk (pv 2) zag)))
   (zaf (zax (i:=5) zaR.nd rfl (Or.inl rfl) (zdE zac))
   (zaf (zdd PassesOwn.never rfl (zqr rfl T.n_range rfl T.n_reversed (zaa (za1 zh4 (pv 4) zag) zac)) (zan (i:=6) zaR.nd rfl (Or.inl rfl)) (zaj (zaP (zat zhh (za1 zbk (za1 zc9 (pv 2) zag) zag) (pv 6) (za0 _)) (zaf (zax (i:=7) zaR.nd rfl (Or.inl rfl) (zak zcN (hr.mono (by decide)) rfl zcK zcL zcM .nil zaq (zaa (za1 zb5 zag (zak zb2 (hr.mono (by decide)) rfl zbx zbz zb0 .nil zaq (zaa (pv 3) (zaa (pv 6) (zaa zag zac))))) (zaa (za1 zb5 zag (zak zb2 (hr.mono (by decide)) rfl zbx zbz zb0 .nil zaq (zaa (pv 3) (zaa (za1 zb5 (pv 6) zag) (zaa zag zac))))) zac))))
   (zaj (zcc (ziL PySem.F.plainAttrs_list PySem.F.slot_list_append PySem.F.type_list_append zde (pv 5) (zaa (zay zaK (zdE (zaa (zaI (zaa (pv 6) (zaa (za1 zb5 (pv 6) zag) (zaa (pv 7) zac)))) (zaa (zaI (zaa (za1 zb5 (pv 6) zag) (zaa (pv 6) (zaa (pv 7) zac)))) zac))) (zak zb2 (hr.mono (by decide)) rfl zbx zbz zb0 .nil zaq (zaa (pv 3) (zaa (za1 zb5 (pv 6) zag) (zaa zag zac)))) (fun _ _=>rfl)) zac))))) zaz)))
   (zaf (zdd PassesOwn.never rfl (zbo rfl T.n_range (zaa (za1 zbk (za1 zc9 (pv 2) zag) zag) zac)) (zan (i:=6) zaR.nd rfl (Or.inl rfl)) (zaf (zax (i:=8) zaR.nd rfl (Or.inl rfl) (zak zb2 (hr.mono (by decide)) rfl zbx zbz zb0 .nil zaq (zaa (pv 3) (zaa (za1 zb5 (pv 6) zag) (zaa (pv 4) zac)))))
   (zaj (zcc (ziL PySem.F.plainAttrs_list PySem.F.slot_list_append PySem.F.type_list_append zde (pv 5) (zaa (zaI (zaa (pv 8) (zaa (za1 zbk (za1 zb5 (pv 8) zag) (pv 4)) (zaa (zaI (zaa (za1 zb5 zag (pv 6)) (zaa zag zac))) zac)))) zac))))))
   (zaj (zas (zaI (zaa (pv 4) (zaa (pv 5) zac))))))))))),?_⟩
  refine ⟨_,rfl,_,rfl,a,ns,i0,rfl,hi0,sq,fun c1=>?_⟩
  refine ⟨_,rfl,_,rfl,_,_,rfl,rfl,a,ns,i0+1,rfl,by omega,sq,fun c2=>?_⟩
  have h3:0≤c1 % 3∧c1 % 3<3:=by omega
  obtain ⟨n,en⟩:∃ n:Nat,6+c1 % 3=n:=⟨(6+c1 % 3).toNat,by omega⟩
  refine ⟨_,rfl,_,_,rfl,rfl,(by show (0:Int)<3;decide),_,_,rfl,rfl,by show 0≤sizeLine;decide,fun l hl=>?_⟩
  have s1:=zad (o:=.lst []) hl
  have hl2:(upd H l (.lst [])) l=some (.lst []):=zae
  generalize upd H l (.lst [])=H2 at s1 hl2 ⊢
  refine ⟨_,rfl,_,_,rfl,rfl,(6+c1 % 3)-1,rfl,by omega,by omega,?_⟩
  rw [en]
  refine zli (lo:=(n:Int)-1-1) (c:=-1) (n:=((n:Int)-1).toNat) (fun i σ H3=>∃ (us:List V) (ps:List Pipe) (v6 v7 v8:Option V),σ=[some (.ref a),some (.int i0),some (.int c1),some (.int c2),some (.int n),some (.ref l),v6,v7,v8]∧Row K H H3 l n i us ps)
   ⟨[],[],none,none,none,by rw [← en];rfl,s1,hl2,.nil,Nat.le_refl _,(fun _ h=>by cases h),fun _ h=>by cases h⟩ ?_ ?_
  ·rintro i σ H3 hi ⟨us,ps,v6,v7,v8,rfl,row⟩
   have hus:us.length=ps.length:=Paired.length row.pi
   have hle:=row.le
   generalize hk:(n:Int)-1-1+(i:Int) * -1=k
   have k0:0≤k∧k≤n-2:=by omega
   refine ⟨_,rfl,_,_,rfl,rfl,⟨by decide,by decide⟩,_,_,rfl,rfl,(by show (0:Int)<16;decide),_,rfl,rfl,_,rfl,?_⟩
   refine ite2 (fun h=>?_) (fun h=>?_)
   ·refine ⟨_,rfl,_,rfl,c2,k,1000,rfl,k0.1,by omega,by decide,fun r3 H4 s4 r30 r3n=>?_⟩
    refine ⟨_,_,rfl,rfl,_,rfl,_,rfl,_,_,rfl,rfl,c2,k+3,30,rfl,by omega,by omega,by decide,fun r4 H5 s5 r40 r4n=>?_⟩
    refine ⟨_,_,rfl,rfl,1+r3,1+r4,rfl,by omega,by omega,bt31 (by omega) (by omega),fun th hth=>?_⟩
    obtain ⟨a',b',e1,e2,a1,aM,b1,bM,gc,_⟩:=zk0 (a:=1+r3) (b:=1+r4) (by omega) (by omega)
    rw [e1,e2]
    have s6:=zad (o:=.tup [.int a',.int b']) hth
    have s46:=(s4.trans s5).trans s6
    have hth6:(upd H5 th (.tup [.int a',.int b'])) th=some (.tup [.int a',.int b']):=zae
    generalize upd H5 th (.tup [.int a',.int b'])=H6 at s46 hth6 ⊢
    refine ⟨_,rfl,.inl ⟨rfl,_,SqL.of (s46 _ _ row.li)⟩,_,rfl,_,rfl,_,_,rfl,rfl,_,rfl,by show 3≤sizeLine;decide,fun ta hta=>⟨_,rfl,_,_,rfl,rfl,_,rfl,_,rfl,by show 3≤sizeLine;decide,fun tb htb=>⟨by show 2≤sizeLine;decide,fun tl htl=>?_⟩⟩⟩
    have sa:=zad (o:=.tup [.int k,.int (k+1),.ref th]) hta
    have sb:=zad (o:=.tup [.int (k+1),.int k,.ref th]) htb
    have sl:=zad (o:=.lst [.ref ta,.ref tb]) htl
    have ua:=sl _ _ (sb _ _ (zae (H:=H6) (a:=ta) (o:=.tup [.int k,.int (k+1),.ref th])))
    have ub:=sl _ _ (zae (H:=upd H6 ta (.tup [.int k,.int (k+1),.ref th])) (a:=tb) (o:=.tup [.int (k+1),.int k,.ref th]))
    have ul:=zae (H:=upd (upd H6 ta (.tup [.int k,.int (k+1),.ref th])) tb (.tup [.int (k+1),.int k,.ref th])) (a:=tl) (o:=.lst [.ref ta,.ref tb])
    have s69:=(sa.trans sb).trans sl
    generalize upd (upd (upd H6 ta (.tup [.int k,.int (k+1),.ref th])) tb (.tup [.int (k+1),.int k,.ref th])) tl (.lst [.ref ta,.ref tb])=H9 at ua ub ul s69 ⊢
    refine ⟨_,rfl,_,rfl,_,_,rfl,rfl,c2,k+1,2,rfl,by omega,by omega,by decide,fun r5 H10 s10 r50 r5n=>?_⟩
    have s49:=(s46.trans s69).trans s10
    have r01:r5=0∨r5=1:=by omega
    have small:us.length<sizeLine:=zao (by omega)
    rcases r01 with rfl | rfl
    ·refine ⟨tl,_,_,.ref ta,rfl,rfl,SqL.of (s10 _ _ ul),zaO (j:=0) rfl,l,us,_,rfl,rfl,s49 _ _ row.li,small,?_⟩
     exact ⟨us++[.ref ta],ps++[⟨k,k+1,a',b'⟩],_,_,_,rfl,row.put hl s49 ⟨ta,th,rfl,SqT.of (s10 _ _ ua),SqT.of ((s69.trans s10) _ _ hth6)⟩ ⟨k0.1,by show k<n;omega,by show 0≤k+1;omega,by show k+1<n;omega,by show k≠k+1;omega,a1,by show a'≤1000000000;omega,b1,by show b'≤1000000000;omega,gc⟩ ⟨by show a'≤1000;omega,by show b'≤30;omega⟩⟩
    ·refine ⟨tl,_,_,.ref tb,rfl,rfl,SqL.of (s10 _ _ ul),zaO (j:=1) rfl,l,us,_,rfl,rfl,s49 _ _ row.li,small,?_⟩
     exact ⟨us++[.ref tb],ps++[⟨k+1,k,a',b'⟩],_,_,_,rfl,row.put hl s49 ⟨tb,th,rfl,SqT.of (s10 _ _ ub),SqT.of ((s69.trans s10) _ _ hth6)⟩ ⟨by show 0≤k+1;omega,by show k+1<n;omega,k0.1,by show k<n;omega,by show k+1≠k;omega,a1,by show a'≤1000000000;omega,b1,by show b'≤1000000000;omega,gc⟩ ⟨by show a'≤1000;omega,by show b'≤30;omega⟩⟩
   ·exact ⟨us,ps,_,_,_,rfl,row.se,row.li,row.pi,by omega,row.ok,row.sm⟩
  ·rintro σ H3 ⟨us,ps,v6,v7,v8,rfl,row⟩
   have hm3:0≤c1/48 % 3∧c1/48 % 3<3:=by omega
   refine ⟨_,rfl,_,_,rfl,rfl,⟨by decide,by decide⟩,_,_,rfl,rfl,(by show (0:Int)<3;decide),c1/48 % 3,rfl,by omega,by omega,?_⟩
   refine zdG (lo:=0) (n:=(c1/48 % 3).toNat) (fun i σ H3=>∃ (us:List V) (ps:List Pipe) (v6 v7 v8:Option V),σ=[some (.ref a),some (.int i0),some (.int c1),some (.int c2),some (.int n),some (.ref l),v6,v7,v8]∧Row K H H3 l n (7+i) us ps)
    ⟨us,ps,v6,v7,v8,rfl,row.se,row.li,row.pi,by have:=row.le;omega,row.ok,row.sm⟩ ?_ ?_
   ·rintro i σ H3 hi ⟨us,ps,v6,v7,v8,rfl,row⟩
    have hus:us.length=ps.length:=Paired.length row.pi
    have hle:=row.le
    refine ⟨_,rfl,_,rfl,_,_,rfl,rfl,_,rfl,c2,0+(i:Int)+5,n,rfl,by omega,by omega,by omega,fun x H4 s4 x0 xn=>?_⟩
    obtain ⟨y0,yn,xy⟩:=zpZ (by omega) (by omega) x0 xn
    refine ⟨_,rfl,.inl ⟨rfl,_,SqL.of (s4 _ _ row.li)⟩,_,rfl,_,rfl,_,_,rfl,rfl,_,rfl,_,_,rfl,rfl,by omega,_,rfl,_,_,rfl,rfl,by show 2≤sizeLine;decide,fun th hth=>⟨by show 3≤sizeLine;decide,fun ta hta=>?_⟩⟩
    have sa:=zad (o:=.tup [.int (1+(0+(i:Int))),.int 1]) hth
    have sb:=zad (o:=.tup [.int x,.int ((x+2) % (n:Int)),.ref th]) hta
    have ua:=sb _ _ (zae (H:=H4) (a:=th) (o:=.tup [.int (1+(0+(i:Int))),.int 1]))
    have ub:=zae (H:=upd H4 th (.tup [.int (1+(0+(i:Int))),.int 1])) (a:=ta) (o:=.tup [.int x,.int ((x+2) % (n:Int)),.ref th])
    have s49:=(s4.trans sa).trans sb
    generalize upd (upd H4 th (.tup [.int (1+(0+(i:Int))),.int 1])) ta (.tup [.int x,.int ((x+2) % (n:Int)),.ref th])=H9 at ua ub s49 ⊢
    refine ⟨l,us,_,rfl,rfl,s49 _ _ row.li,zao (by omega),?_⟩
    exact ⟨us++[.ref ta],ps++[⟨x,(x+2) % (n:Int),1+(0+(i:Int)),1⟩],_,_,_,rfl,row.put hl s49 ⟨ta,th,rfl,SqT.of ub,SqT.of ua⟩ ⟨x0,xn,y0,yn,xy,by show 1≤1+(0+(i:Int));omega,by show 1+(0+(i:Int))≤1000000000;omega,by show (1:Int)≤1;decide,by show (1:Int)≤1000000000;decide,by show Int.gcd _ 1=1;simp⟩ ⟨by show 1+(0+(i:Int))≤1000;omega,by show (1:Int)≤30;decide⟩⟩
   ·rintro σ H3 ⟨us,ps,v6,v7,v8,rfl,row⟩
    refine ⟨_,rfl,_,rfl,by show 2≤sizeLine;decide,fun t ht=>?_⟩
    have s4:=zad (o:=.tup [.int n,.ref l]) ht
    have hle:=row.le
    exact q _ t l n ps (row.se.trans s4) (by omega) row.sm ⟨zae,⟨us,s4 _ _ row.li,zam.same s4 row.pi⟩,⟨by omega,by omega,row.ok,by omega⟩⟩
end
end K2
namespace K2
open PySem L2 Mp St Bz
theorem zqH {n:Nat} {ps:List Pipe} {one other:Int} {j:Nat} (h:j<n):(hts n ps one other)[j]? = some (hOf n ps one other (j:Int)):=by
 unfold hts
 rw [List.getElem?_map,List.getElem?_range h]
 rfl
def zr2 (K:W.Frag) (H:Hp) (v:V):Option Rat→Prop
 | none=>v=.non
 | some q=>Fq K H v q
theorem zdJ.zrw {n:Int} {p:Pipe} (h:zdJ n p):(hard p).num=p.a∧((hard p).den:Int)=p.b:=by
 have hb:=h.b1
 have e:hard p=Rat.divInt p.a p.b:=(Rat.divInt_eq_div _ _).symm
 have g:=h.gc
 rw [e]
 constructor
 ·rw [← My.zhZ p.a p.b (by omega)]
  unfold My.dv
  rw [if_neg (by omega),g]
  simp
 ·rw [← My.zia p.a p.b (by omega)]
  unfold My.dv
  rw [if_neg (by omega),g]
  simp
theorem zdJ.fq {K:W.Frag} {H:Hp} {n:Int} {p:Pipe} {y:Addr} (h:zdJ n p) (hy:SqT K H y [.int p.a,.int p.b]):Fq K H (.ref y) (hard p):=by
 obtain ⟨e1,e2⟩:=h.zrw
 exact ⟨y,rfl,by rw [e1,e2];exact hy⟩
theorem zm0 {p:Pipe} (ha:1≤p.a) (hb:1≤p.b):hard p≠0:=fun z=>by
 have:=zk1 ha hb
 rw [z] at this
 grind
theorem zdJ.btq {n:Int} {p:Pipe} (h:zdJ n p) {k:Nat} (ha:p.a<2^k) (hb:p.b<2^k):BtQ k (hard p)∧BtQ k (ease p):=by
 have a1:=h.a1
 have b1:=h.b1
 have h2k:((2^k:Nat):Int)=2^k:=by norm_cast
 have t1:Bt k p.a:=by show p.a.natAbs<2^k;omega
 have t2:Bt k p.b:=by show p.b.natAbs<2^k;omega
 have e:ease p=Rat.divInt p.b p.a:=(Rat.divInt_eq_div _ _).symm
 have e':hard p=Rat.divInt p.a p.b:=(Rat.divInt_eq_div _ _).symm
 constructor
 ·rw [e']
  exact ⟨Bt.le (My.zh6 _ _ (by omega)) t1,Bt.le (by have:=My.zhE p.a p.b (by omega);simpa using this) t2⟩
 ·rw [e]
  exact ⟨Bt.le (My.zh6 _ _ (by omega)) t2,Bt.le (by have:=My.zhE p.b p.a (by omega);simpa using this) t1⟩
theorem zoD {K:W.Frag} {H:Hp} {p:Addr} (h:H p=some (.tup [.int 1,.int 1])):Fq K H (.ref p) 1:=⟨p,rfl,SqT.of h⟩
theorem zgp {K:W.Frag} {H:Hp} {p:Addr} (h:H p=some (.tup [.int 0,.int 1])):Fq K H (.ref p) 0:=⟨p,rfl,SqT.of h⟩
theorem btq1:BtQ 1 (1:Rat):=⟨by show (1:Int).natAbs<2;decide,by show (1:Int).natAbs<2;decide⟩
end K2
namespace K2
open PySem L2 Mp St Bz
structure TxtS (K:W.Frag) (mg:Str→Option Value) (C CS CP:Addr):Prop where
 n_list:mg "list" = none
 n_zip:mg "zip" = none
 c_Net:Cls K C
 c_Stream:Cls K CS
 a_flows:zdo K CS "flows"
 a_heights:zdo K CS "heights"
 c_Apart:Cls K CP
 a_places:zdo K CP "places"
theorem fh:¬ (("flows" : Str) = "heights"):=by decide +kernel
def zj5 (F G:Addr):List (Str×V):=putF "heights" (.ref G) (putF "flows" (.ref F) [])
theorem zbf (F G:Addr):(zj5 F G).lookup ("flows" : Str)=some (.ref F):=by
 unfold zj5
 rw [zaJ,if_neg fh,zaJ,if_pos rfl]
theorem zaG (F G:Addr):(zj5 F G).lookup ("heights" : Str)=some (.ref G):=by
 unfold zj5
 rw [zaJ,if_pos rfl]
theorem zgf (F G:Addr) {m:Str} (h1:¬ m = "heights") (h2:¬ m = "flows"):(zj5 F G).lookup m=none:=by
 unfold zj5
 rw [zaJ,if_neg h1,zaJ,if_neg h2]
 all_goals rfl
def zkM (F:Addr):List (Str×V):=putF "places" (.ref F) []
theorem zcp (F:Addr):(zkM F).lookup ("places" : Str)=some (.ref F):=by
 unfold zkM
 rw [zaJ,if_pos rfl]
theorem zkv (F:Addr) {m:Str} (h1:¬ m = "places"):(zkM F).lookup m=none:=by
 unfold zkM
 rw [zaJ,if_neg h1]
 all_goals rfl
structure zcS (CS:Addr) (H:Hp) (y F G:Addr) (us ws:List V):Prop where
 ob:∃ dx,H y=some (.ins CS dx (zj5 F G))
 fl:H F=some (.lst us)
 hl:H G=some (.lst ws)
structure zeI (CP:Addr) (H:Hp) (y F:Addr) (ms:List Int):Prop where
 ob:∃ dx,H y=some (.ins CP dx (zkM F))
 fl:H F=some (.lst (ms.map V.int))
theorem zcS.same {CS:Addr} {H H':Hp} {y F G:Addr} {us ws:List V} (s:Same H H') (h:zcS CS H y F G us ws):zcS CS H' y F G us ws:=by
 obtain ⟨⟨dx,a⟩,b,c⟩:=h
 exact ⟨⟨dx,s _ _ a⟩,s _ _ b,s _ _ c⟩
theorem zeI.same {CP:Addr} {H H':Hp} {y F:Addr} {ms:List Int} (s:Same H H') (h:zeI CP H y F ms):zeI CP H' y F ms:=by
 obtain ⟨⟨dx,a⟩,b⟩:=h
 exact ⟨⟨dx,s _ _ a⟩,s _ _ b⟩
def zhL (K:W.Frag) (CS:Addr):Sp:=fun vs H Q _=>∃ (x dx f h:Addr) (us ws:List V),vs=[.ref x,.ref f,.ref h]∧H x=some (.ins CS dx [])∧SqL K H f us∧SqL K H h ws ∧
 ∀ (H':Hp) (F G:Addr),H F=none→H G=none→F≠G→zcS CS H' x F G us ws→(∀ b o,H b=some o→b≠x→H' b=some o)→Q .non H'
def zj0 (K:W.Frag) (CP:Addr):Sp:=fun vs H Q _=>∃ (x dx f:Addr) (ms:List Int),vs=[.ref x,.ref f]∧H x=some (.ins CP dx [])∧SqL K H f (ms.map V.int) ∧
 ∀ (H':Hp) (F:Addr),H F=none→zeI CP H' x F ms→(∀ b o,H b=some o→b≠x→H' b=some o)→Q .non H'
abbrev zmU (K:W.Frag) (H:Hp) (us:List V) (n:Nat) (h:Int→Rat):Prop:=Fqs K H us ((List.range n).map fun i:Nat=>h (i:Int))
def zj1 (K:W.Frag) (C:Addr):Sp:=fun vs H Q _=>∃ (x L rh:Addr) (n:Nat) (ps:List Pipe) (us:List V) (h:Int→Rat),vs=[.ref x,.ref rh]∧zdp K C H x L n ps∧zbV n ps∧SqL K H rh us∧zmU K H us n h∧(∀ y,BtQ 4000 (h y)) ∧
 ∀ (H':Hp) (r:Addr) (ws:List V),Same H H'→H r=none→H' r=some (.lst ws)→Fqs K H' ws (ps.map fun p=>h p.u-h p.w)→Q (.ref r) H'
noncomputable def flw (n:Nat) (ps:List Pipe) (one other:Int):List Rat:=ps.map fun p=>ease p*(hOf n ps one other p.u-hOf n ps one other p.w)
def zgd (K:W.Frag) (C CS CP:Addr):Sp:=fun vs H Q _=>∃ (x L:Addr) (n:Nat) (ps:List Pipe) (one other:Int),vs=[.ref x,.int one,.int other]∧zdp K C H x L n ps∧zbV n ps∧(0≤one∧one<n)∧(0≤other∧other<n)∧(Reach ps one other→zmS n ps one other) ∧
 (Reach ps one other→∀ (H':Hp) (y F G:Addr) (us ws:List V),Same H H'→H y=none→H F=none→H G=none→F≠G→zcS CS H' y F G us ws→Fqs K H' us (flw n ps one other)→Fqs K H' ws (hts n ps one other)→Q (.ref y) H') ∧
 (¬ Reach ps one other→∀ (H':Hp) (y F:Addr) (ms:List Int),Same H H'→H y=none→H F=none→zeI CP H' y F ms→zfu ps one ms→Q (.ref y) H')
open Classical in
noncomputable def hdQ (n:Nat) (ps:List Pipe) (one other:Int):Option Rat:=if Reach ps one other then some (hOf n ps one other one) else none
def zkq (K:W.Frag) (C:Addr):Sp:=fun vs H Q _=>∃ (x L:Addr) (n:Nat) (ps:List Pipe) (one other:Int),vs=[.ref x,.int one,.int other]∧zdp K C H x L n ps∧zbV n ps∧(0≤one∧one<n)∧(0≤other∧other<n) ∧
 ∀ (H':Hp) (v:V),Same H H'→zr2 K H' v (hdQ n ps one other)→Q v H'
section
variable {P:Program} {w:World} {K:W.Frag} {mg:Str→Option Value} {base:Heap} {C CS CP f fc fp fq fh fo fm fl fs fa:Addr} {fd fdc fdp fdq fdh fdo fdm fdl fds fda:FuncData} {t1 t2 t3:Tok}
theorem zn6 (F:Fun K "__init__" "Stream.__init__" zaW f fd) (T:TxtS K mg C CS CP):FnOk P w K mg base CX0 1 f fd ["self","flows","heights"] (zhL K CS):=by
 refine F.ok zeQ (fun vs H Q E h=>?_) (fun cdv A outer s H vs Q E hr h=>?_)
 ·obtain ⟨x,dx,f,h,us,ws,rfl,_⟩:=h
  rfl
 ·obtain ⟨x,dx,f,h,us,ws,rfl,hx,hf,hh,q⟩:=h
  refine ⟨_,(zaf (ziI (pv 0) (zbd zbv (by rfl) T.n_list zdm (zaa (pv 1) zac)) rfl)
   (zaj (ziI (pv 0) (zbd zbv (by rfl) T.n_list zdm (zaa (pv 2) zac)) rfl))),?_⟩
  refine ⟨_,rfl,f,us,rfl,.inl hf,fun F1 hF=>⟨_,rfl,x,CS,dx,[],rfl,zad hF _ _ hx,T.c_Stream,T.a_flows,(by show 0<1000;decide),?_⟩⟩
  have s1:=zad (o:=.lst us) hF
  have nF:F1≠x:=(zal hx hF).symm
  have hx2:(upd (upd H F1 (.lst us)) x (.ins CS dx (putF "flows" (.ref F1) []))) x=some (.ins CS dx (putF "flows" (.ref F1) [])):=zae
  have hF2:(upd (upd H F1 (.lst us)) x (.ins CS dx (putF "flows" (.ref F1) []))) F1=some (.lst us):=by rw [zar nF];exact zae
  have hh2:SqL K (upd (upd H F1 (.lst us)) x (.ins CS dx (putF "flows" (.ref F1) []))) h ws:=SqL.ne (s1.seq hh) (s1 _ _ hx) (fun _=>nofun) (fun _ _=>nofun)
  have s2:∀ b o,H b=some o→b≠x→(upd (upd H F1 (.lst us)) x (.ins CS dx (putF "flows" (.ref F1) []))) b=some o:=fun b o e hb=>by rw [zar hb];exact s1 _ _ e
  generalize upd (upd H F1 (.lst us)) x (.ins CS dx (putF "flows" (.ref F1) []))=H2 at hx2 hF2 hh2 s2 ⊢
  refine ⟨_,rfl,h,ws,rfl,.inl hh2,fun G hG=>⟨_,rfl,x,CS,dx,_,rfl,zad hG _ _ hx2,T.c_Stream,T.a_heights,(by show 1<1000;decide),?_⟩⟩
  have s3:=zad (o:=.lst ws) hG
  have nG:G≠x:=(zal hx2 hG).symm
  have nFG:F1≠G:=zal hF2 hG
  have hGn:H G=none:=by
   cases e:H G with
   | none=>rfl
   | some o=>exact absurd hG (by rw [s2 _ _ e nG];exact nofun)
  refine q _ F1 G hF hGn nFG ⟨⟨dx,zae⟩,by rw [zar nF];exact s3 _ _ hF2,by rw [zar nG];exact zae⟩ fun b o e hb=>?_
  rw [zar hb]
  exact s3 _ _ (s2 b o e hb)
theorem znE (F:Fun K "__init__" "Apart.__init__" zbb f fd) (T:TxtS K mg C CS CP):FnOk P w K mg base CX0 1 f fd ["self","places"] (zj0 K CP):=by
 refine F.ok zf2 (fun vs H Q E h=>?_) (fun cdv A outer s H vs Q E hr h=>?_)
 ·obtain ⟨x,dx,f,ms,rfl,_⟩:=h
  rfl
 ·obtain ⟨x,dx,f,ms,rfl,hx,hf,q⟩:=h
  refine ⟨_,(zaj (ziI (pv 0) (zbd zbv (by rfl) T.n_list zdm (zaa (pv 1) zac)) rfl)),?_⟩
  refine ⟨_,rfl,f,_,rfl,.inl hf,fun F1 hF=>⟨_,rfl,x,CP,dx,[],rfl,zad hF _ _ hx,T.c_Apart,T.a_places,(by show 0<1000;decide),?_⟩⟩
  have s1:=zad (o:=.lst (ms.map V.int)) hF
  have nF:F1≠x:=(zal hx hF).symm
  refine q _ F1 hF ⟨⟨dx,zae⟩,by rw [zar nF];exact zae⟩ fun b o e hb=>?_
  rw [zar hb]
  exact s1 _ _ e
theorem znI (F:Fun K "falls" "falls" zf6 f fd) (T:TxtS K mg C CS CP)
  (zcb:Meth K C "pipes" fp) (zcf:Binds K fdp ["self"] []) (zcg:FnOk P w K mg base CX0 1 fp fdp ["self"] (zdK K C))
  (zf8:mg "minus" = some (.ref fm)) (zfD:W.keepIn K (.ref fm)=true) (zfH:Binds K fdm ["one","other"] []) (zfK:FnOk P w K mg base CX0 3 fm fdm ["one","other"] (zeO K (· - ·) fun _=>True)):FnOk P w K mg base CX0 4 f fd ["net","heights"] (zj1 K C):=by
 refine F.ok znp (fun vs H Q E h=>?_) (fun cdv A outer s H vs Q E hr h=>?_)
 ·obtain ⟨x,L,rh,n,ps,us,h,rfl,_⟩:=h
  rfl
 ·obtain ⟨x,L,rh,n,ps,us,h,rfl,net,ok,hrh,hF,hb,q⟩:=h
  obtain ⟨⟨dx,h1⟩,_⟩:=id net
  have hle:=ok.le
  refine ⟨_,(zaj (zas (zaY ["start","end","hardness"] [1] rfl rfl (by kernel_rfl) (zaS (zdr (pv 0) T.c_Net zcb zcg (hr.mono (by decide)) zcf .nil zaq)) (fun _ _ _ _=>(zbZ (n:=3) rfl (zap (zan (i:=0) (show (["start","end","hardness","heights"]:List Str).Nodup by decide +kernel) rfl (Or.inl rfl)) (zap (zan (i:=1) (show (["start","end","hardness","heights"]:List Str).Nodup by decide +kernel) rfl (Or.inl rfl)) (zap (zan (i:=2) (show (["start","end","hardness","heights"]:List Str).Nodup by decide +kernel) rfl (Or.inl rfl)) zbg))))) (fun _ _ _ _=>(zdi (za3 zaw (za3 zaw (za3 zaw zce))))) (fun _ _ _ _=>zbI) (fun _ _ _ _=>(zak zfK (hr.mono (by decide)) rfl zf8 zfD zfH .nil zaq (zaa (zay zaK (pv 3) (pv 0) (fun _ _=>rfl)) (zaa (zay zaK (pv 3) (pv 1) (fun _ _=>rfl)) zac))))))),?_⟩
  refine ⟨_,rfl,x,dx,_,rfl,h1,zcP _ _ (by decide +kernel) (by decide +kernel),x,L,n,ps,rfl,net,fun r vs hr1 pa=>?_⟩
  have s1:=zad (o:=.lst vs) hr1
  have hrl:(upd H r (.lst vs)) r=some (.lst vs):=zae
  have pa1:=zam.same s1 pa
  have hvs:vs.length=ps.length:=Paired.length pa
  generalize upd H r (.lst vs)=H1 at s1 hrl pa1 ⊢
  refine ⟨r,rfl,⟨_,SqL.of hrl⟩,zaN (K:=K) (a:=r) (xs:=vs) (fun i ys H'=>Same H1 H'∧Fqs K H' ys ((ps.take i).map fun p=>h p.u-h p.w)) ⟨Same.refl _,.nil⟩ (zao (by omega)) ?_ ?_ ?_⟩
  ·rintro i ys H' hi ⟨s2,hY⟩
   refine ⟨?_,SqL.of (s2 _ _ hrl)⟩
   rw [hY.len,List.length_map,List.length_take]
   omega
  ·rintro i v ys H' N hv ⟨s2,hY⟩ hN C' s₀ H₀ ex
   obtain ⟨p,hpi,⟨x3,y3,rfl,hx3,hy3⟩⟩:=(zam.same s2 pa1).get hv
   have pok:=ok.ok p (List.mem_of_getElem? hpi)
   have ht:ps.take (i+1)=ps.take i++[p]:=by rw [List.take_succ,hpi];rfl
   obtain ⟨ju,eu⟩:=Int.eq_ofNat_of_zero_le pok.u0
   obtain ⟨jw,ew⟩:=Int.eq_ofNat_of_zero_le pok.w0
   have hun:=pok.un
   have hwn:=pok.wn
   have s12:=s1.trans s2
   obtain ⟨vu,evu,fu⟩:=hF.at (i:=ju) (q:=h p.u) (by rw [List.getElem?_map,List.getElem?_range (by omega),eu];rfl)
   obtain ⟨vw,evw,fw⟩:=hF.at (i:=jw) (q:=h p.w) (by rw [List.getElem?_map,List.getElem?_range (by omega),ew];rfl)
   refine ⟨x3,_,rfl,hx3,rfl,_,_,rfl,_,_,rfl,_,_,rfl,rfl,?_⟩
   dsimp only [zaQ]
   refine iteT ?_
   refine ⟨_,rfl,_,rfl,rh,_,_,vu,rfl,rfl,s12.seq hrh,by rw [eu];exact zaO (j:=ju) evu,_,rfl,_,rfl,rh,_,_,vw,rfl,rfl,s12.seq hrh,by rw [ew];exact zaO (j:=jw) evw,?_⟩
   refine ⟨vu,vw,_,_,4000,rfl,fu.same s12,fw.same s12,trivial,by decide,hb _,hb _,fun c hc=>hN _ _ ⟨s2.trans (zad hc),?_⟩⟩
   rw [ht,List.map_append]
   exact Fqs.snoc (hY.same (zad hc)) Fq.new
  ·rintro ys H' ⟨s2,hY⟩ c hc
   rw [hvs,List.take_length] at hY
   exact q _ c ys ((s1.trans s2).trans (zad hc)) ((s1.trans s2).free hc) zae (hY.same (zad hc))
theorem zma (F:Fun K "hardness_of" "hardness_of" zbN f fd) (T:TxtS K mg C CS CP)
  (zgq:Meth K C "part" fq) (zgV:Binds K fdq ["self","at"] []) (zgY:FnOk P w K mg base CX0 3 fq fdq ["self","at"] (zi7 K C))
  (zd2:mg "check_places" = some (.ref fc)) (zd4:W.keepIn K (.ref fc)=true) (zd6:Binds K fdc ["net","places"] []) (zd8:FnOk P w K mg base CX0 4 fc fdc ["net","places"] (zgw K C))
  (zcA:mg "heights_between" = some (.ref fh)) (zcB:W.keepIn K (.ref fh)=true) (zcE:Binds K fdh ["net","one","other"] []) (zcF:FnOk P w K mg base CX0 6 fh fdh ["net","one","other"] (spHB K C)) :
  FnOk P w K mg base CX0 7 f fd ["net","one","other"] (zkq K C):=by
 refine F.ok zhd (fun vs H Q E h=>?_) (fun cdv A outer s H vs Q E hr h=>?_)
 ·obtain ⟨x,L,n,ps,one,other,rfl,_⟩:=h
  rfl
 ·obtain ⟨x,L,n,ps,one,other,rfl,net,ok,h1,h2,q⟩:=h
  obtain ⟨⟨dx,hx⟩,_⟩:=id net
  refine ⟨_,(zaf (zcc (zak zd8 (hr.mono (by decide)) rfl zd2 zd4 zd6 .nil zaq (zaa (pv 0) (zaa (zdE (zaa (pv 1) (zaa (pv 2) zac))) zac))))
   (zaf (zaP (zat zbu (pv 2) (zg9 (pv 0) T.c_Net zgq zgY (hr.mono (by decide)) zgV .nil zaq (zaa (pv 1) zac)) rfl) (zaj (zas zoB)) zaz)
   (zaj (zas (zay zaK (zak zcF (hr.mono (by decide)) rfl zcA zcB zcE .nil zaq (zaa (pv 0) (zaa (pv 1) (zaa (pv 2) zac)))) (pv 1) (fun _ _=>rfl)))))),?_⟩
  refine ⟨_,rfl,_,rfl,_,rfl,by show 2≤sizeLine;decide,fun l hl=>?_⟩
  have s0:=zad (o:=.lst [.int one,.int other]) hl
  have hl0:(upd H l (.lst [.int one,.int other])) l=some (.lst ([one,other].map V.int)):=zae
  generalize upd H l (.lst [.int one,.int other])=H0 at s0 hl0 ⊢
  refine ⟨x,L,l,n,ps,[one,other],rfl,net.same s0,SqL.of hl0,(by show 2≤8;decide),fun z hz=>?_,fun H1 s1=>?_⟩
  ·simp only [List.mem_cons,List.not_mem_nil,or_false] at hz
   rcases hz with rfl | rfl
   ·exact h1
   ·exact h2
  have s01:=s0.trans s1
  refine ⟨_,rfl,_,rfl,x,dx,_,rfl,s01 _ _ hx,zcP _ _ (by decide +kernel) (by decide +kernel),_,rfl,x,L,n,one,ps,rfl,net.same s01,ok,h1.1,h1.2,fun H2 r ms s2 hr2 pt hr=>?_⟩
  have s02:=s01.trans s2
  have i2:inV (.int other) (ms.map V.int)=decide (other∈ms):=zbG other ms
  refine ⟨r,_,rfl,.inl (SqL.of hr),rfl,zaE _,_,rfl,?_⟩
  show if (!inV (.int other) (ms.map V.int))=true then _ else _
  rw [i2]
  by_cases m2:other∈ms
  ·have r2:=(pt.2 other).mp m2
   rw [decide_eq_true m2]
   refine iteF ?_
   refine ⟨_,rfl,_,rfl,_,rfl,x,L,n,ps,one,other,rfl,net.same s02,ok,h2,r2.symm,fun H3 rh us s3 hrh h3 hF=>?_⟩
   obtain ⟨on,rfl⟩:=Int.eq_ofNat_of_zero_le h1.1
   obtain ⟨v2,e2,f2⟩:=hF.at (zqH (j:=on) (by omega))
   refine ⟨_,rfl,rh,_,_,v2,rfl,rfl,SqL.of h3,zaO (j:=on) e2,q _ _ (s02.trans s3) ?_⟩
   unfold hdQ
   rw [if_pos r2]
   exact f2
  ·have r2:¬ Reach ps one other:=fun z=>m2 ((pt.2 other).mpr z)
   rw [decide_eq_false m2]
   refine iteT (q _ _ s02 ?_)
   unfold hdQ
   rw [if_neg r2]
   rfl
theorem zlW (F:Fun K "stream" "stream" zeq f fd) (T:TxtS K mg C CS CP)
  (zcb:Meth K C "pipes" fp) (zcf:Binds K fdp ["self"] []) (zcg:FnOk P w K mg base CX0 1 fp fdp ["self"] (zdK K C))
  (zgq:Meth K C "part" fq) (zgV:Binds K fdq ["self","at"] []) (zgY:FnOk P w K mg base CX0 3 fq fdq ["self","at"] (zi7 K C))
  (zd2:mg "check_places" = some (.ref fc)) (zd4:W.keepIn K (.ref fc)=true) (zd6:Binds K fdc ["net","places"] []) (zd8:FnOk P w K mg base CX0 4 fc fdc ["net","places"] (zgw K C))
  (zcA:mg "heights_between" = some (.ref fh)) (zcB:W.keepIn K (.ref fh)=true) (zcE:Binds K fdh ["net","one","other"] []) (zcF:FnOk P w K mg base CX0 6 fh fdh ["net","one","other"] (spHB K C))
  (zq5:mg "over" = some (.ref fo)) (zqD:W.keepIn K (.ref fo)=true) (zqV:Binds K fdo ["one","other"] []) (zqX:FnOk P w K mg base CX0 3 fo fdo ["one","other"] (zeO K (· / ·) fun r=>r≠0))
  (zjK:mg "falls" = some (.ref fl)) (zjV:W.keepIn K (.ref fl)=true) (zkc:Binds K fdl ["net","heights"] []) (zki:FnOk P w K mg base CX0 4 fl fdl ["net","heights"] (zj1 K C))
  (zcT:Mk K CS fs) (zbH:mg "Stream" = some (.ref CS)) (zft:Binds K fds ["self","flows","heights"] []) (zfz:FnOk P w K mg base CX0 1 fs fds ["self","flows","heights"] (zhL K CS))
  (zfJ:Mk K CP fa) (zdO:mg "Apart" = some (.ref CP)) (zke:Binds K fda ["self","places"] []) (zkk:FnOk P w K mg base CX0 1 fa fda ["self","places"] (zj0 K CP)) :
  FnOk P w K mg base CX0 7 f fd ["net","one","other"] (zgd K C CS CP):=by
 refine F.ok zeP (fun vs H Q E h=>?_) (fun cdv A outer s H vs Q E hr h=>?_)
 ·obtain ⟨x,L,n,ps,one,other,rfl,_⟩:=h
  rfl
 ·obtain ⟨x,L,n,ps,one,other,rfl,net,ok,h1,h2,sml,qs,qa⟩:=h
  obtain ⟨⟨dx,hx⟩,_⟩:=id net
  have hle:=ok.le
  refine ⟨_,(zaf (zcc (zak zd8 (hr.mono (by decide)) rfl zd2 zd4 zd6 .nil zaq (zaa (pv 0) (zaa (zdE (zaa (pv 1) (zaa (pv 2) zac))) zac))))
   (zaf (zax (i:=3) zeP.nd rfl (Or.inl rfl) (zg9 (pv 0) T.c_Net zgq zgY (hr.mono (by decide)) zgV .nil zaq (zaa (pv 1) zac)))
   (zaf (zaP (zat zbu (pv 2) (pv 3) rfl) (zaj (zas (ze1 zfJ zkk (hr.mono (by decide)) rfl zdO zke .nil zaq (zaa (pv 3) zac)))) zaz)
   (zaf (zax (i:=4) zeP.nd rfl (Or.inl rfl) (zak zcF (hr.mono (by decide)) rfl zcA zcB zcE .nil zaq (zaa (pv 0) (zaa (pv 1) (zaa (pv 2) zac)))))
   (zaf (zd1 (i:=5) ["pipe","fall"] [] rfl rfl (by kernel_rfl) zeP.nd rfl rfl (zg8 rfl T.n_zip (zaa (zdr (pv 0) T.c_Net zcb zcg (hr.mono (by decide)) zcf .nil zaq) (zaa (zak zki (hr.mono (by decide)) rfl zjK zjV zkc .nil zaq (zaa (pv 0) (zaa (pv 4) zac))) zac))) (fun _ _ _ _=>(zbZ (n:=2) rfl (zap (zan (i:=0) (show (["pipe","fall"]:List Str).Nodup by decide +kernel) rfl (Or.inl rfl)) (zap (zan (i:=1) (show (["pipe","fall"]:List Str).Nodup by decide +kernel) rfl (Or.inl rfl)) zbg)))) (fun _ _ _ _=>(zdi (za3 zaw (za3 zaw zce)))) (fun _ _ _ _=>zbI) (fun _ _ _ _=>(zak zqX (hr.mono (by decide)) rfl zq5 zqD zqV .nil zaq (zaa (pv 1) (zaa (zay zav (pv 0) zag (fun _ _=>rfl)) zac)))))
   (zaj (zas (ze1 zcT zfz (hr.mono (by decide)) rfl zbH zft .nil zaq (zaa (pv 5) (zaa (pv 4) zac)))))))))),?_⟩
  refine ⟨_,rfl,_,rfl,_,rfl,by show 2≤sizeLine;decide,fun l hl=>?_⟩
  have s0:=zad (o:=.lst [.int one,.int other]) hl
  have hl0:(upd H l (.lst [.int one,.int other])) l=some (.lst ([one,other].map V.int)):=zae
  generalize upd H l (.lst [.int one,.int other])=H0 at s0 hl0 ⊢
  refine ⟨x,L,l,n,ps,[one,other],rfl,net.same s0,SqL.of hl0,(by show 2≤8;decide),fun z hz=>?_,fun H1 s1=>?_⟩
  ·simp only [List.mem_cons,List.not_mem_nil,or_false] at hz
   rcases hz with rfl | rfl
   ·exact h1
   ·exact h2
  have s01:=s0.trans s1
  refine ⟨_,rfl,x,dx,_,rfl,s01 _ _ hx,zcP _ _ (by decide +kernel) (by decide +kernel),_,rfl,x,L,n,one,ps,rfl,net.same s01,ok,h1.1,h1.2,fun H2 r ms s2 hr2 pt hr=>?_⟩
  have s02:=s01.trans s2
  have i2:inV (.int other) (ms.map V.int)=decide (other∈ms):=zbG other ms
  refine ⟨_,rfl,_,rfl,r,_,rfl,.inl (SqL.of hr),rfl,zaE _,_,rfl,?_⟩
  show if (!inV (.int other) (ms.map V.int))=true then _ else _
  rw [i2]
  by_cases m2:other∈ms
  ·have r2:=(pt.2 other).mp m2
   have sm:=sml r2
   rw [decide_eq_true m2]
   refine iteF ?_
   refine ⟨_,rfl,_,rfl,_,rfl,x,L,n,ps,one,other,rfl,net.same s02,ok,h2,r2.symm,fun H3 rh us s3 hrh h3 hF=>?_⟩
   have s03:=s02.trans s3
   refine ⟨_,rfl,x,dx,_,rfl,s03 _ _ hx,zcP _ _ (by decide +kernel) (by decide +kernel),x,L,n,ps,rfl,net.same s03,fun rp vs hrp pa=>?_⟩
   have s4:=zad (o:=.lst vs) hrp
   have hrl:(upd H3 rp (.lst vs)) rp=some (.lst vs):=zae
   have pa4:=zam.same s4 pa
   have hvs:vs.length=ps.length:=Paired.length pa
   have s04:=s03.trans s4
   generalize upd H3 rp (.lst vs)=H4 at s4 hrl pa4 s04 ⊢
   refine ⟨_,rfl,_,rfl,x,L,rh,n,ps,us,hOf n ps one other,rfl,net.same s04,ok,SqL.of (s4 _ _ h3),hF.same s4,fun y=>(sm y).mono (by decide),fun H5 rf ws s5 hrf h5 hW=>?_⟩
   have hwl:ws.length=vs.length:=by rw [hW.len,List.length_map,hvs]
   have s35:=s4.trans s5
   refine ⟨rp,rf,rfl,⟨_,SqL.of (s5 _ _ hrl)⟩,⟨_,SqL.of h5⟩,zex (K:=K) (a:=rp) (b:=rf) (xs:=vs) (zs:=ws) (fun i ys H'=>Same H5 H'∧Fqs K H' ys ((ps.take i).map fun p=>ease p*(hOf n ps one other p.u-hOf n ps one other p.w))) ⟨Same.refl _,.nil⟩ (zao (by omega)) hwl ?_ ?_ ?_⟩
   ·rintro i ys H' hi ⟨s6,hY⟩
    refine ⟨?_,SqL.of ((s5.trans s6) _ _ hrl),SqL.of (s6 _ _ h5)⟩
    rw [hY.len,List.length_map,List.length_take]
    omega
   ·rintro i v z ys H' N pp hv hz ⟨s6,hY⟩ hpp hN C' s₀ H₀ ex
    obtain ⟨p,hpi,⟨x3,y3,rfl,hx3,hy3⟩⟩:=(zam.same (s5.trans s6) pa4).get hv
    have pok:=ok.ok p (List.mem_of_getElem? hpi)
    have ht:ps.take (i+1)=ps.take i++[p]:=by rw [List.take_succ,hpi];rfl
    obtain ⟨qz,hqz,fz⟩:=hW.get hz
    have eq:qz=hOf n ps one other p.u-hOf n ps one other p.w:=by
     rw [List.getElem?_map,hpi] at hqz
     cases hqz
     rfl
    subst eq
    have s7:=zad (o:=.tup [.ref x3,z]) hpp
    have s67:=s6.trans s7
    refine ⟨pp,_,rfl,SqT.of zae,rfl,_,_,rfl,_,_,rfl,rfl,?_⟩
    dsimp only [zaQ]
    refine iteT ?_
    obtain ⟨bh,be⟩:=pok.btq (k:=31) (by have:=pok.aM;omega) (by have:=pok.bM;omega)
    refine ⟨_,rfl,_,rfl,x3,_,_,_,rfl,rfl,Same.tup s7 hx3,rfl,?_⟩
    refine ⟨z,.ref y3,_,_,4000,rfl,fz.same s67,(pok.fq hy3).same s7,zm0 pok.a1 pok.b1,by decide,((sm _).sub (sm _)).mono (by decide),bh.mono (by decide),fun c hc=>hN _ _ ⟨s67.trans (zad hc),?_⟩⟩
    rw [ht,List.map_append]
    refine Fqs.snoc (hY.same (s7.trans (zad hc))) ?_
    have e:ease p*(hOf n ps one other p.u-hOf n ps one other p.w)=(hOf n ps one other p.u-hOf n ps one other p.w)/hard p:=by
     have q1:=zfk pok.a1 pok.b1
     have q2:=zm0 pok.a1 pok.b1
     grind
    show Fq K _ (.ref c) (ease p*(hOf n ps one other p.u-hOf n ps one other p.w))
    rw [e]
    exact Fq.new
   ·rintro ys H' ⟨s6,hY⟩ rl hrl'
    rw [hvs,List.take_length] at hY
    have s7:=zad (o:=.lst ys) hrl'
    have h7:(upd H' rl (.lst ys)) rl=some (.lst ys):=zae
    have hY7:=hY.same s7
    have s37:=(s35.trans s6).trans s7
    generalize upd H' rl (.lst ys)=H7 at s7 h7 hY7 s37 ⊢
    refine ⟨_,rfl,_,rfl,?_⟩
    intro y dy ny ndy ney
    have sm0:=ze3 (C:=CS) ny ndy
    refine ⟨y,dy,rl,rh,ys,us,rfl,zae,SqL.of (sm0 _ _ h7),SqL.of (sm0 _ _ (s37 _ _ h3)),fun H8 F1 G1 hF1 hG1 nFG st kp=>⟨rfl,?_⟩⟩
    have s8:=zdf (n:=(n:Int)) ny ndy kp
    have s07:=s03.trans s37
    exact qs r2 _ y F1 G1 ys us (s07.trans s8) (s07.free ny) (s07.free (sm0.free hF1)) (s07.free (sm0.free hG1)) nFG st (hY7.same s8) (hF.same (s37.trans s8))
  ·have r2:¬ Reach ps one other:=fun z=>m2 ((pt.2 other).mpr z)
   rw [decide_eq_false m2]
   refine iteT ?_
   refine ⟨_,rfl,?_⟩
   intro y dy ny ndy ney
   have sm0:=ze3 (C:=CP) ny ndy
   refine ⟨y,dy,r,ms,rfl,zae,SqL.of (sm0 _ _ hr),fun H8 F1 hF1 st kp=>⟨rfl,?_⟩⟩
   have s8:=zdf (n:=(n:Int)) ny ndy kp
   exact qa r2 _ y F1 ms (s02.trans s8) (s02.free ny) (s02.free (sm0.free hF1)) st pt
end
end K2
namespace K2
open PySem L2 Mp St Bz
def zdj (qs:List Rat):List PyData:=qs.map fun q=>.tuple [.int q.num,.int (q.den:Int)]
theorem Fqs.reps {K:W.Frag} {H:Hp}:∀ {us:List V} {qs:List Rat},Fqs K H us qs→Reps K H us (zdj qs)
 | _,_,.nil=>.nil
 | _,_,.cons a b=>.cons a.rep (Fqs.reps b)
theorem zk3:∀ (a b:List Rat),PyData.eqvAll (zdj a) (zdj b)=decide (a=b)
 | [],[]=>rfl
 | [],_::_=>by rw [decide_eq_false (by simp)];rfl
 | _::_,[]=>by rw [decide_eq_false (by simp)];rfl
 | q::a,r::b=>by
  show (PyData.eqv (.tuple [.int q.num,.int (q.den:Int)]) (.tuple [.int r.num,.int (r.den:Int)])&&PyData.eqvAll (zdj a) (zdj b))=_
  rw [zk3 a b,zjY]
  by_cases h1:q=r <;> by_cases h2:a=b <;> simp [h1,h2]
theorem zfj:∀ (a:List Rat),PyData.canLayAll0 (zdj a)=true
 | []=>rfl
 | q::a=>by
  show (true&&PyData.canLayAll0 (zdj a))=true
  rw [zfj a]
  rfl
theorem ze9:∀ (a:List Rat),PyData.depthAll (zdj a)≤1
 | []=>by show 0≤1;decide
 | q::a=>by
  show max 1 (PyData.depthAll (zdj a))≤1
  have:=ze9 a
  omega
theorem zhU {K:W.Frag} {H:Hp} {x y:Addr} {us ws:List V} {a b:List Rat} {neg:Bool} {Q:V→Hp→Prop} (hx:SqL K H x us) (hu:Fqs K H us a) (hy:SqL K H y ws) (hw:Fqs K H ws b) (k:Q (.bl (if neg=true then !decide (a=b) else decide (a=b))) H):rEqD K neg (.ref x) (.ref y) H Q :=
 ⟨_,_,.lst hx hu.reps,.lst hy hw.reps,zfj a,zfj b,(by show PyData.depthAll (zdj a)+1≤40;have:=ze9 a;omega),by
  have:PyData.eqv (.list (zdj a)) (.list (zdj b))=decide (a=b):=zk3 a b
  rw [this]
  exact k⟩
def zdI (k:Nat) (qs:List Rat):Prop:=∃ (N:Int) (B:Nat),N≠0∧N.natAbs<2^k∧28*B<2^k∧∀ q∈qs,Dn N B q
theorem zdI.take {k:Nat} {qs:List Rat} (h:zdI k qs) (hl:qs.length≤28) (i:Nat):BtQ k (qs.take i).sum:=by
 obtain ⟨N,B,h0,hN,hB,hd⟩:=h
 have h1:=Dn.sum (N:=N) (B:=B) (qs:=qs.take i) fun q hq=>hd q (List.mem_of_mem_take hq)
 refine zmK h1 h0 hN (Nat.lt_of_le_of_lt ?_ hB)
 exact Nat.mul_le_mul (by rw [List.length_take];omega) (Nat.le_refl _)
theorem zdI.each {k:Nat} {qs:List Rat} (h:zdI k qs):∀ q∈qs,BtQ k q:=fun q hq=>by
 obtain ⟨N,B,h0,hN,hB,hd⟩:=h
 exact zmK (hd q hq) h0 hN (by omega)
theorem zdI.sub {k:Nat} {qs rs:List Rat} (h:zdI k qs) (hs:∀ r∈rs,r∈qs):zdI k rs:=by
 obtain ⟨N,B,h0,hN,hB,hd⟩:=h
 exact ⟨N,B,h0,hN,hB,fun r hr=>hd r (hs r hr)⟩
theorem zm3 (q:Rat):Int.gcd q.num (q.den:Int)=1:=q.reduced
def zj4 (K:W.Frag):Sp:=fun vs H Q _=>∃ (l:Addr) (us:List V) (qs:List Rat) (m:Int),vs=[.ref l,.int m]∧SqL K H l us∧Fqs K H us qs∧m=(qs.length:Int)∧qs.length≤28∧∀ H',Same H H'→Q (.bl true) H'
def zi9 (K:W.Frag) (C:Addr):Sp:=fun vs H Q _=>∃ (x L l:Addr) (n:Nat) (ps:List Pipe) (us:List V) (qs:List Rat),vs=[.ref x,.ref l]∧zdp K C H x L n ps∧zbV n ps∧SqL K H l us∧Fqs K H us qs∧qs.length=ps.length∧∀ H',Same H H'→Q .non H'
def zl8 (K:W.Frag):Sp:=fun vs H Q _=>∃ (lp l:Addr) (us ws:List V) (ps:List Pipe) (fs:List Rat) (i:Int),vs=[.ref lp,.ref l,.int i]∧SqL K H lp us∧zam K H us ps∧SqL K H l ws∧Fqs K H ws fs∧fs.length=ps.length∧ps.length≤28∧zdI 3990 fs ∧
 ∀ (H':Hp) (v:V),Same H H'→Fq K H' v (dvg (ps.zip fs) i)→Q v H'
def dvgs (n:Nat) (ps:List Pipe) (fs:List Rat):List Rat:=(List.range n).map fun i:Nat=>dvg (ps.zip fs) (i:Int)
def zl7 (K:W.Frag) (C:Addr):Sp:=fun vs H Q _=>∃ (x L l:Addr) (n:Nat) (ps:List Pipe) (ws:List V) (fs:List Rat),vs=[.ref x,.ref l]∧zdp K C H x L n ps∧zbV n ps∧SqL K H l ws∧Fqs K H ws fs∧fs.length=ps.length∧zdI 3990 fs ∧
 ∀ (H':Hp) (r:Addr) (us:List V),Same H H'→H r=none→H' r=some (.lst us)→Fqs K H' us (dvgs n ps fs)→Q (.ref r) H'
theorem zgc {α β:Type} {ps:List α} {fs:List β} {i:Nat} {p:α} {f:β} (hp:ps[i]? = some p) (hf:fs[i]? = some f):(ps.zip fs).take (i+1)=(ps.zip fs).take i++[(p,f)]:=by
 rw [List.take_succ]
 congr 1
 have:(ps.zip fs)[i]? = some (p,f):=by
  rw [List.getElem?_zip_eq_some]
  exact ⟨hp,hf⟩
 rw [this]
 rfl
section
variable {P:Program} {w:World} {K:W.Frag} {mg:Str→Option Value} {base:Heap} {C f ff fp fa ft fm fs fc fx:Addr} {fd fdf fdp fda fdt fdm fds fdc fdx:FuncData} {t1 t2 t3:Tok}
theorem znN (F:Fun K "are_fractions" "are_fractions" zbn f fd) (T:Txt K mg C t1 t2 t3) (zdN:mg "is_fraction" = some (.ref ff)) (zdP:W.keepIn K (.ref ff)=true) (zdR:Binds K fdf ["value"] []) (zdS:FnOk P w K mg base CX0 2 ff fdf ["value"] (zf1 K)):FnOk P w K mg base CX0 3 f fd ["value","many"] (zj4 K):=by
 refine F.ok zfY (fun vs H Q E h=>?_) (fun cdv A outer s H vs Q E hr h=>?_)
 ·obtain ⟨l,us,qs,m,rfl,_⟩:=h
  rfl
 ·obtain ⟨l,us,qs,m,rfl,hl,hF,hm,h28,q⟩:=h
  have hul:us.length=qs.length:=hF.len
  refine ⟨_,(zaj (zas (zds (zct rfl T.n_isinstance (pv 0) rfl T.n_list zdm) (zds (zaM zcd (za2 za4 (by rfl) T.n_len zcr (zaa (pv 0) zac)) (pv 1) (za0 _)) (zeb (za2 (zfo rfl) (by rfl) T.n_all zjk (zaa (zaY ["entry"] [] rfl rfl (by kernel_rfl) (zaS (pv 0)) (fun _ _ _ _=>(zan (i:=0) (show (["entry"]:List Str).Nodup by decide +kernel) rfl (Or.inl rfl))) (fun _ _ _ _=>zaw) (fun _ _ _ _=>zbI) (fun _ _ _ _=>(zak zdS (hr.mono (by decide)) rfl zdN zdP zdR .nil zaq (zaa (pv 0) zac)))) zac))))))),?_⟩
  refine ⟨_,rfl,_,_,_,_,_,rfl,rfl,TyX.lstS hl,ll,_,rfl,iteT ?_⟩
  refine ⟨_,rfl,l,_,rfl,.inl hl,_,rfl,rfl,_,rfl,?_⟩
  rw [decide_eq_true (show V.int (us.length:Int)=V.int m by rw [hm,hul])]
  refine iteT ?_
  refine ⟨_,rfl,l,rfl,⟨_,hl⟩,zaN (K:=K) (a:=l) (xs:=us) (fun i ys H'=>H'=H∧ys=List.replicate i (.bl true)) ⟨rfl,rfl⟩ (zao (by omega)) (fun i ys H' hi ⟨e,e'⟩=>⟨by rw [e',List.length_replicate];exact Nat.le_refl _,e▸hl⟩) ?_ ?_⟩
  ·rintro i v ys H' N hv ⟨rfl,rfl⟩ hN C' s₀ H₀ ex
   obtain ⟨qq,hq,⟨p,rfl,hp⟩⟩:=hF.get hv
   dsimp only [zaQ,zcy]
   refine iteT ?_
   have hd:=qq.den_pos
   refine ⟨_,rfl,p,qq.num,(qq.den:Int),rfl,hp,by omega,zm3 qq,hN _ _ ⟨rfl,by rw [List.replicate_succ']⟩⟩
  ·rintro ys H' ⟨rfl,rfl⟩ p hp'
   refine ⟨p,List.replicate us.length true,rfl,SqL.of (by rw [List.map_replicate];exact zae),?_⟩
   have e:(List.replicate us.length true).all id=true:=by simp
   rw [e]
   exact q _ (zad hp')
theorem zkR (F:Fun K "check_flows" "check_flows" zbO f fd) (T:Txt K mg C t1 t2 t3)
  (zcb:Meth K C "pipes" fp) (zcf:Binds K fdp ["self"] []) (zcg:FnOk P w K mg base CX0 1 fp fdp ["self"] (zdK K C))
  (zcu:mg "are_fractions" = some (.ref fa)) (zcv:W.keepIn K (.ref fa)=true) (zcw:Binds K fda ["value","many"] []) (zcx:FnOk P w K mg base CX0 3 fa fda ["value","many"] (zj4 K)):FnOk P w K mg base CX0 4 f fd ["net","flows"] (zi9 K C):=by
 refine F.ok zhe (fun vs H Q E h=>?_) (fun cdv A outer s H vs Q E hr h=>?_)
 ·obtain ⟨x,L,l,n,ps,us,qs,rfl,_⟩:=h
  rfl
 ·obtain ⟨x,L,l,n,ps,us,qs,rfl,net,ok,hl,hF,hlen,q⟩:=h
  obtain ⟨⟨dx,h1⟩,_⟩:=id net
  have hle:=ok.le
  refine ⟨_,(zaj (zaP (zbj (zaX (zak zcx (hr.mono (by decide)) rfl zcu zcv zcw .nil zaq (zaa (pv 1) (zaa (za2 za4 (by rfl) T.n_len zcr (zaa (zdr (pv 0) T.c_Net zcb zcg (hr.mono (by decide)) zcf .nil zaq) zac)) zac))))) (zaj zeS) zaz)),?_⟩
  refine ⟨_,rfl,_,rfl,x,dx,_,rfl,h1,zcP _ _ (by decide +kernel) (by decide +kernel),x,L,n,ps,rfl,net,fun r vs hr1 pa=>?_⟩
  have s1:=zad (o:=.lst vs) hr1
  have hvs:vs.length=ps.length:=Paired.length pa
  have hr2:(upd H r (.lst vs)) r=some (.lst vs):=zae
  generalize upd H r (.lst vs)=H1 at s1 hr2 ⊢
  exact ⟨r,_,rfl,.inl (SqL.of hr2),l,us,qs,_,rfl,s1.seq hl,hF.same s1,by rw [hvs,hlen],by omega,fun H2 s2=>⟨_,rfl,iteF (q _ (s1.trans s2))⟩⟩
theorem zn5 (F:Fun K "sum_at" "sum_at" zep f fd) (T:Txt K mg C t1 t2 t3)
  (zmg:mg "total" = some (.ref ft)) (zmt:W.keepIn K (.ref ft)=true) (zmL:Binds K fdt ["fractions"] []) (zmV:FnOk P w K mg base CX0 4 ft fdt ["fractions"] (zl6 K))
  (zf8:mg "minus" = some (.ref fm)) (zfD:W.keepIn K (.ref fm)=true) (zfH:Binds K fdm ["one","other"] []) (zfK:FnOk P w K mg base CX0 3 fm fdm ["one","other"] (zeO K (· - ·) fun _=>True)):FnOk P w K mg base CX0 5 f fd ["pipes","flows","place"] (zl8 K):=by
 refine F.ok zgz (fun vs H Q E h=>?_) (fun cdv A outer s H vs Q E hr h=>?_)
 ·obtain ⟨lp,l,us,ws,ps,fs,i,rfl,_⟩:=h
  rfl
 ·obtain ⟨lp,l,us,ws,ps,fs,z,rfl,hlp,hP,hl,hF,hlen,h28,sml,q⟩:=h
  have hus:us.length=ps.length:=Paired.length hP
  have hws:ws.length=us.length:=by rw [hF.len,hlen,hus]
  have hzl:(ps.zip fs).length=ps.length:=by rw [List.length_zip,hlen,Nat.min_self]
  have smf:∀ (c:Pipe×Rat→Bool),zdI 3990 (((ps.zip fs).filter c).map (·.2)):=fun c=>sml.sub fun r hr=>by
   obtain ⟨zz,hz,rfl⟩:=List.mem_map.mp hr
   exact (List.of_mem_zip (List.mem_filter.mp hz).1).2
  have lnf:∀ (c:Pipe×Rat→Bool),(((ps.zip fs).filter c).map (·.2)).length≤28:=fun c=>by
   rw [List.length_map]
   exact Nat.le_trans (List.length_filter_le _ _) (by omega)
  refine ⟨_,(zaf (zax (i:=3) zgz.nd rfl (Or.inl rfl) (zak zmV (hr.mono (by decide)) rfl zmg zmt zmL .nil zaq (zaa (zaY ["pipe","flow"] [2] rfl rfl (by kernel_rfl) (zg8 rfl T.n_zip (zaa (pv 0) (zaa (pv 1) zac))) (fun _ _ _ _=>(zbZ (n:=2) rfl (zap (zan (i:=0) (show (["pipe","flow","place"]:List Str).Nodup by decide +kernel) rfl (Or.inl rfl)) (zap (zan (i:=1) (show (["pipe","flow","place"]:List Str).Nodup by decide +kernel) rfl (Or.inl rfl)) zbg)))) (fun _ _ _ _=>(zdi (za3 zaw (za3 zaw zce)))) (fun _ _ _ _=>(zeU (zat zcd (zay zav (pv 0) zag (fun _ _=>rfl)) (pv 2) (za0 _)))) (fun _ _ _ _=>(pv 1))) zac)))
   (zaf (zax (i:=4) zgz.nd rfl (Or.inl rfl) (zak zmV (hr.mono (by decide)) rfl zmg zmt zmL .nil zaq (zaa (zaY ["pipe","flow"] [2] rfl rfl (by kernel_rfl) (zg8 rfl T.n_zip (zaa (pv 0) (zaa (pv 1) zac))) (fun _ _ _ _=>(zbZ (n:=2) rfl (zap (zan (i:=0) (show (["pipe","flow","place"]:List Str).Nodup by decide +kernel) rfl (Or.inl rfl)) (zap (zan (i:=1) (show (["pipe","flow","place"]:List Str).Nodup by decide +kernel) rfl (Or.inl rfl)) zbg)))) (fun _ _ _ _=>(zdi (za3 zaw (za3 zaw zce)))) (fun _ _ _ _=>(zeU (zat zcd (zay zav (pv 0) zag (fun _ _=>rfl)) (pv 2) (za0 _)))) (fun _ _ _ _=>(pv 1))) zac)))
   (zaj (zas (zak zfK (hr.mono (by decide)) rfl zf8 zfD zfH .nil zaq (zaa (pv 3) (zaa (pv 4) zac))))))),?_⟩
  refine ⟨_,rfl,_,rfl,lp,l,rfl,⟨_,hlp⟩,⟨_,hl⟩,zex (K:=K) (a:=lp) (b:=l) (xs:=us) (zs:=ws) (fun i ys H'=>Same H H'∧Fqs K H' ys ((((ps.zip fs).take i).filter fun zz=>decide (zz.1.u=z)).map (·.2))) ⟨Same.refl _,.nil⟩ (zao (by omega)) hws ?_ ?_ ?_⟩
  ·rintro i ys H' hi ⟨s1,hY⟩
   refine ⟨?_,s1.seq hlp,s1.seq hl⟩
   rw [hY.len,List.length_map]
   exact Nat.le_trans (List.length_filter_le _ _) (by rw [List.length_take];omega)
  ·rintro i v u ys H' N pp hv hu ⟨s1,hY⟩ hpp hN C' s₀ H₀ ex
   obtain ⟨p,hpi,⟨x3,y3,rfl,hx3,hy3⟩⟩:=(zam.same s1 hP).get hv
   obtain ⟨qq,hqq,fq⟩:=(hF.same s1).get hu
   have s2:=zad (o:=.tup [.ref x3,u]) hpp
   have ht:=zgc hpi hqq
   refine ⟨pp,_,rfl,SqT.of zae,rfl,_,_,rfl,_,_,rfl,rfl,?_⟩
   refine ⟨_,rfl,x3,_,_,_,rfl,rfl,Same.tup s2 hx3,rfl,_,rfl,rfl,_,rfl,?_⟩
   by_cases e:p.u=z
   ·rw [decide_eq_true (show V.int p.u=V.int z by rw [e])]
    refine iteT ⟨_,rfl,hN _ _ ⟨s1.trans s2,?_⟩⟩
    rw [ht,List.filter_append,List.map_append]
    have:[(p,qq)].filter (fun zz=>decide (zz.1.u=z))=[(p,qq)]:=by simp [e]
    rw [this]
    exact Fqs.snoc (hY.same s2) (fq.same s2)
   ·rw [decide_eq_false (show ¬ V.int p.u=V.int z from fun h=>e (by injection h))]
    refine iteF (hN _ _ ⟨s1.trans s2,?_⟩)
    rw [ht,List.filter_append,List.map_append]
    have:[(p,qq)].filter (fun zz=>decide (zz.1.u=z))=[]:=by simp [e]
    rw [this,List.map_nil,List.append_nil]
    exact hY.same s2
  ·rintro ys H1 ⟨s1,hY⟩ ra hra
   have etk:(ps.zip fs).take us.length=ps.zip fs:=by rw [List.take_of_length_le (by omega)]
   rw [etk] at hY
   have s2:=zad (o:=.lst ys) hra
   refine ⟨ra,ys,_,rfl,SqL.of zae,hY.same s2,fun q hq=>((smf _).each q hq).mono (by decide),fun i _=>((smf _).take (lnf _) i).mono (by decide),fun va H2 s3 fva=>?_⟩
   have s13:=(s1.trans s2).trans s3
   refine ⟨_,rfl,_,rfl,lp,l,rfl,⟨_,s13.seq hlp⟩,⟨_,s13.seq hl⟩,zex (K:=K) (a:=lp) (b:=l) (xs:=us) (zs:=ws) (fun i ys H'=>Same H2 H'∧Fqs K H' ys ((((ps.zip fs).take i).filter fun zz=>decide (zz.1.w=z)).map (·.2))) ⟨Same.refl _,.nil⟩ (zao (by omega)) hws ?_ ?_ ?_⟩
   ·rintro i ys H' hi ⟨s4,hY⟩
    refine ⟨?_,(s13.trans s4).seq hlp,(s13.trans s4).seq hl⟩
    rw [hY.len,List.length_map]
    exact Nat.le_trans (List.length_filter_le _ _) (by rw [List.length_take];omega)
   ·rintro i v u ys H' N pp hv hu ⟨s4,hY⟩ hpp hN C' s₀ H₀ ex
    obtain ⟨p,hpi,⟨x3,y3,rfl,hx3,hy3⟩⟩:=(zam.same (s13.trans s4) hP).get hv
    obtain ⟨qq,hqq,fq⟩:=(hF.same (s13.trans s4)).get hu
    have s5:=zad (o:=.tup [.ref x3,u]) hpp
    have ht:=zgc hpi hqq
    refine ⟨pp,_,rfl,SqT.of zae,rfl,_,_,rfl,_,_,rfl,rfl,?_⟩
    refine ⟨_,rfl,x3,_,_,_,rfl,rfl,Same.tup s5 hx3,rfl,_,rfl,rfl,_,rfl,?_⟩
    by_cases e:p.w=z
    ·rw [decide_eq_true (show V.int p.w=V.int z by rw [e])]
     refine iteT ⟨_,rfl,hN _ _ ⟨s4.trans s5,?_⟩⟩
     rw [ht,List.filter_append,List.map_append]
     have:[(p,qq)].filter (fun zz=>decide (zz.1.w=z))=[(p,qq)]:=by simp [e]
     rw [this]
     exact Fqs.snoc (hY.same s5) (fq.same s5)
    ·rw [decide_eq_false (show ¬ V.int p.w=V.int z from fun h=>e (by injection h))]
     refine iteF (hN _ _ ⟨s4.trans s5,?_⟩)
     rw [ht,List.filter_append,List.map_append]
     have:[(p,qq)].filter (fun zz=>decide (zz.1.w=z))=[]:=by simp [e]
     rw [this,List.map_nil,List.append_nil]
     exact hY.same s5
   ·rintro ys H3 ⟨s4,hY⟩ rb hrb
    rw [etk] at hY
    have s5:=zad (o:=.lst ys) hrb
    refine ⟨rb,ys,_,rfl,SqL.of zae,hY.same s5,fun q hq=>((smf _).each q hq).mono (by decide),fun i _=>((smf _).take (lnf _) i).mono (by decide),fun vb H4 s6 fvb=>?_⟩
    have s26:=(s4.trans s5).trans s6
    have bt:∀ (c:Pipe×Rat→Bool),BtQ 4000 (((ps.zip fs).filter c).map (·.2)).sum:=fun c=>by
     have:=(smf c).take (lnf c) (((ps.zip fs).filter c).map (·.2)).length
     rw [List.take_length] at this
     exact this.mono (by decide)
    refine ⟨_,rfl,_,rfl,va,vb,_,_,4000,rfl,fva.same s26,fvb,trivial,by decide,bt _,bt _,fun p hp=>q _ _ ((s13.trans s26).trans (zad hp)) ?_⟩
    rw [zoI]
    exact Fq.new
theorem zpo (F:Fun K "sums_of" "sums_of" zdB f fd) (T:Txt K mg C t1 t2 t3)
  (zcb:Meth K C "pipes" fp) (zcf:Binds K fdp ["self"] []) (zcg:FnOk P w K mg base CX0 1 fp fdp ["self"] (zdK K C))
  (zid:mg "check_flows" = some (.ref fc)) (ziq:W.keepIn K (.ref fc)=true) (zi0:Binds K fdc ["net","flows"] []) (zi4:FnOk P w K mg base CX0 4 fc fdc ["net","flows"] (zi9 K C))
  (znQ:mg "sum_at" = some (.ref fs)) (zob:W.keepIn K (.ref fs)=true) (zoo:Binds K fds ["pipes","flows","place"] []) (zos:FnOk P w K mg base CX0 5 fs fds ["pipes","flows","place"] (zl8 K)):FnOk P w K mg base CX0 6 f fd ["net","flows"] (zl7 K C):=by
 refine F.ok zkJ (fun vs H Q E h=>?_) (fun cdv A outer s H vs Q E hr h=>?_)
 ·obtain ⟨x,L,l,n,ps,ws,fs,rfl,_⟩:=h
  rfl
 ·obtain ⟨x,L,l,n,ps,ws,fs,rfl,net,ok,hl,hF,hlen,sml,q⟩:=h
  obtain ⟨⟨dx,h1⟩,_⟩:=id net
  have n8:=ok.n8
  refine ⟨_,(zaf (zcc (zak zi4 (hr.mono (by decide)) rfl zid ziq zi0 .nil zaq (zaa (pv 0) (zaa (pv 1) zac))))
   (zaj (zas (zaY ["place"] [1,0] rfl rfl (by kernel_rfl) (zbo rfl T.n_range (zaa (zaL (pv 0) rfl) zac)) (fun _ _ _ _=>(zan (i:=0) (show (["place","flows","net"]:List Str).Nodup by decide +kernel) rfl (Or.inl rfl))) (fun _ _ _ _=>zaw) (fun _ _ _ _=>zbI) (fun _ _ _ _=>(zak zos (hr.mono (by decide)) rfl znQ zob zoo .nil zaq (zaa (zdr (pv 2) T.c_Net zcb zcg (hr.mono (by decide)) zcf .nil zaq) (zaa (pv 1) (zaa (pv 0) zac))))))))),?_⟩
  refine ⟨_,rfl,_,rfl,x,L,l,n,ps,ws,fs,rfl,net,ok,hl,hF,hlen,fun H1 s1=>?_⟩
  refine ⟨_,rfl,x,C,dx,_,_,rfl,s1 _ _ h1,T.c_Net,T.a_size,zdk _ _,n,rfl,by omega,by omega,?_⟩
  rw [Int.toNat_natCast]
  refine zcD (fun i ys H'=>Same H1 H'∧Fqs K H' ys (dvgs i ps fs)) ⟨Same.refl _,.nil⟩ (zao (by omega)) ?_ ?_ ?_
  ·rintro i ys H' hi ⟨_,hY⟩
   rw [hY.len]
   unfold dvgs
   rw [List.length_map,List.length_range]
   exact Nat.le_refl _
  ·rintro i ys H' N hi ⟨s2,hY⟩ hN C' s₀ H₀ ex
   have s12:=s1.trans s2
   dsimp only [zaQ,zcy]
   refine iteT ?_
   refine ⟨_,rfl,x,dx,_,rfl,s12 _ _ h1,zcP _ _ (by decide +kernel) (by decide +kernel),x,L,n,ps,rfl,net.same s12,fun r vs hr1 pa=>?_⟩
   have s3:=zad (o:=.lst vs) hr1
   have hr2:(upd H' r (.lst vs)) r=some (.lst vs):=zae
   have pa1:=zam.same s3 pa
   generalize upd H' r (.lst vs)=H3 at s3 hr2 pa1 ⊢
   refine ⟨_,rfl,_,rfl,r,l,vs,ws,ps,fs,0+(i:Int),rfl,SqL.of hr2,pa1,(s12.trans s3).seq hl,hF.same (s12.trans s3),hlen,ok.le,sml,fun H4 v s4 fv=>?_⟩
   rw [Int.zero_add] at fv
   refine hN _ _ ⟨(s2.trans s3).trans s4,?_⟩
   unfold dvgs at hY ⊢
   rw [List.range_succ,List.map_append]
   exact Fqs.snoc (hY.same (s3.trans s4)) fv
  ·rintro ys H' ⟨s2,hY⟩ p hp
   exact q _ p ys ((s1.trans s2).trans (zad hp)) ((s1.trans s2).free hp) zae (hY.same (zad hp))
end
end K2
namespace K2
open PySem L2 Mp St Bz
def zqf (K:W.Frag):Sp:=fun vs H Q _=>∃ (a t l:Addr) (ns:List Int) (i:Int) (n:Nat) (ps:List Pipe),vs=[.ref a,.ref t,.int i]∧0≤i∧SqL K H a (ns.map V.int)∧Told K H t l n ps ∧
 ∀ (p:Addr) (u v:Int),H p=none→0≤u→u<n→0≤v→v<n→Q (.ref p) (upd H p (.tup [.int u,.int v]))
section
variable {P:Program} {w:World} {K:W.Frag} {mg:Str→Option Value} {base:Heap} {C CS CP f fc fh fb:Addr} {fd fdc fdh fdb:FuncData} {t1 t2 t3:Tok}
theorem zqw (F:Fun K "_law_two" "_law_two" zcY f fd) (za6:mg "_law_cell_at" = some (.ref fc)) (za7:W.keepIn K (.ref fc)=true) (za8:Binds K fdc ["_law_script","_law_k"] []) (za9:FnOk P w K mg base CX0 1 fc fdc ["_law_script","_law_k"] (ziA K)):FnOk P w K mg base CX0 2 f fd ["_law_script","_law_told_here","_law_first"] (zqf K):=by
 refine F.ok zg2 (fun vs H Q E h=>?_) (fun cdv A outer s H vs Q E hr h=>?_)
 ·obtain ⟨a,t,l,ns,i,n,ps,rfl,_⟩:=h
  rfl
 ·obtain ⟨a,t,l,ns,i,n,ps,rfl,hi,sq,told,q⟩:=h
  have ht:=told.tu
  have n1:=told.ok.n1
  refine ⟨_,(zaf (zax (i:=3) zg2.nd rfl (Or.inl rfl) (za1 zbk (zak za9 (hr.mono (by decide)) rfl za6 za7 za8 .nil zaq (zaa (pv 0) (zaa (pv 2) zac))) (zay zav (pv 1) zag (fun _ _=>rfl))))
   (zaj (zas (zaI (zaa (pv 3) (zaa (za1 zbk (za1 zb5 (pv 3) (za1 zbk (zak za9 (hr.mono (by decide)) rfl za6 za7 za8 .nil zaq (zaa (pv 0) (zaa (za1 zb5 (pv 2) zag) zac))) (zay zav (pv 1) zag (fun _ _=>rfl)))) (zay zav (pv 1) zag (fun _ _=>rfl))) zac)))))),?_⟩
  refine ⟨_,rfl,_,rfl,a,ns,i,rfl,hi,sq,fun c1=>⟨_,rfl,t,_,_,_,rfl,rfl,SqT.of ht,rfl,_,_,rfl,rfl,by omega,?_⟩⟩
  refine ⟨_,rfl,_,rfl,_,rfl,_,rfl,_,_,rfl,rfl,a,ns,i+1,rfl,by omega,sq,fun c2=>⟨_,rfl,t,_,_,_,rfl,rfl,SqT.of ht,rfl,_,_,rfl,rfl,by omega,_,_,rfl,rfl,_,rfl,t,_,_,_,rfl,rfl,SqT.of ht,rfl,_,_,rfl,rfl,by omega,by show 2≤sizeLine;decide,fun p hp=>?_⟩⟩
  exact q p _ _ hp (Int.emod_nonneg _ (by omega)) (Int.emod_lt_of_pos _ (by omega)) (Int.emod_nonneg _ (by omega)) (Int.emod_lt_of_pos _ (by omega))
end
end K2
namespace K2
open PySem L2 Mp St Bz
structure TxtV (K:W.Frag) (mg:Str→Option Value) (C CS CP CA:Addr):Prop where
 n_isinstance:mg "isinstance" = none
 n_int:mg "int" = none
 n_bool:mg "bool" = none
 n_abs:mg "abs" = none
 n_len:mg "len" = none
 n_tuple:mg "tuple" = none
 n_list:mg "list" = none
 n_range:mg "range" = none
 n_all:mg "all" = none
 n_zip:mg "zip" = none
 c_Net:Cls K C
 a_size:zdo K C "size"
 c_Stream:Cls K CS
 a_flows:zdo K CS "flows"
 a_heights:zdo K CS "heights"
 c_Apart:Cls K CP
 a_places:zdo K CP "places"
 znT:mg "Answer" = some (.ref CA)
 zbH:mg "Stream" = some (.ref CS)
 zdO:mg "Apart" = some (.ref CP)
 i_SA:W.kitOne K (.ref CS) (.ref CA)=some true
 i_SS:W.kitOne K (.ref CS) (.ref CS)=some true
 i_SP:W.kitOne K (.ref CS) (.ref CP)=some false
 i_PA:W.kitOne K (.ref CP) (.ref CA)=some true
 i_PS:W.kitOne K (.ref CP) (.ref CS)=some false
 i_PP:W.kitOne K (.ref CP) (.ref CP)=some true
 k_S:W.findIn K (.ref CS) "__class__" = some (some (.builtin "object.__class__"))
 k_P:W.findIn K (.ref CP) "__class__" = some (some (.builtin "object.__class__"))
 k_n:W.specialIn K (.builtin "object.__class__") "__get__" = some (some (.builtin "getset_descriptor.__get__"))
 k_t:W.takesIn K (.builtin "object.__class__")=some true
 k_Sm:W.mroIn K CS (.type "object")=some true
 k_Pm:W.mroIn K CP (.type "object")=some true
theorem TxtV.tyS {K:W.Frag} {mg:Str→Option Value} {C CS CP CA:Addr} (T:TxtV K mg C CS CP CA) {H:Hp} {y F G:Addr} {us ws:List V} (h:zcS CS H y F G us ws):TyX K H (.ref y) (.ref CS):=by
 obtain ⟨⟨dx,h1⟩,_,_⟩:=h
 exact .of (.ins h1 T.c_Stream T.k_S T.k_n T.k_t T.k_Sm)
theorem TxtV.tyP {K:W.Frag} {mg:Str→Option Value} {C CS CP CA:Addr} (T:TxtV K mg C CS CP CA) {H:Hp} {y F:Addr} {ms:List Int} (h:zeI CP H y F ms):TyX K H (.ref y) (.ref CP):=by
 obtain ⟨⟨dx,h1⟩,_⟩:=h
 exact .of (.ins h1 T.c_Apart T.k_P T.k_n T.k_t T.k_Pm)
def zfG (n:Nat) (one other:Int):List Rat:=(List.range n).map fun i:Nat=>ind ((i:Int)=one)-ind ((i:Int)=other)
theorem zk7 (i one other:Int):(((if decide (V.int i=V.int one)=true then (1:Int) else 0)-(if decide (V.int i=V.int other)=true then (1:Int) else 0):Int):Rat)=ind (i=one)-ind (i=other):=by
 have key:∀ j:Int,(((if decide (V.int i=V.int j)=true then (1:Int) else 0):Int):Rat)=ind (i=j):=fun j=>by
  by_cases h:i=j
  ·rw [zdF h,if_pos (decide_eq_true (by rw [h]))];rfl
  ·rw [zcC h,if_neg (by intro z;have:=of_decide_eq_true z;injection this with this;exact h this)];rfl
 rw [Rat.intCast_sub,key,key]
theorem zpN (x one other:Int):((askZ x one other:Int):Rat)=ind (x=one)-ind (x=other):=by
 unfold askZ
 by_cases h1:x=one <;> by_cases h2:x=other
 ·rw [if_pos (.inl (h1.symm.trans h2)),zdF h1,zdF h2];show (0:Rat)=_;grind
 ·rw [if_neg (by rintro (e | ⟨e,_⟩);exact h2 (h1.trans e);exact e h1),if_pos h1,zdF h1,zcC h2];show (1:Rat)=_;grind
 ·rw [if_neg (by rintro (e | ⟨_,e⟩);exact h1 (h2.trans e.symm);exact e h2),if_neg h1,zcC h1,zdF h2];show (-1:Rat)=_;grind
 ·rw [if_pos (.inr ⟨h1,h2⟩),zcC h1,zcC h2];show (0:Rat)=_;grind
structure zkE (n:Nat) (ps:List Pipe) (one other:Int) (fs:List Rat) (h:Int→Rat):Prop where
 sums:dvgs n ps fs=zfG n one other
 falls:(ps.map fun p=>h p.u-h p.w)=(ps.zip fs).map fun z=>z.2*hard z.1
 low:∀ i:Nat,i<n→((i:Int)=other∨¬ Reach ps other (i:Int))→h (i:Int)=0
theorem zip_map_self {α β:Type} (g:α→β):∀ ps:List α,ps.zip (ps.map g)=ps.map fun p=>(p,g p)
 | []=>rfl
 | p::r=>by simp only [List.map_cons,List.zip_cons_cons];rw [zip_map_self g r]
theorem zea {n:Nat} {ps:List Pipe} {one other:Int} (nc:Nice n ps) (isH:IsH n ps one other (hOf n ps one other)):zkE n ps one other (flw n ps one other) (hOf n ps one other):=by
 refine ⟨?_,?_,fun i _ hi=>isH.far _ hi⟩
 ·unfold dvgs zfG
  refine List.map_congr_left fun i hi=>?_
  have hi:=List.mem_range.mp hi
  unfold flw
  rw [zip_map_self]
  have:=zom ps (hOf n ps one other) (i:Int)
  unfold strm at this
  rw [this]
  exact isH.har i ⟨by omega,by omega⟩
 ·unfold flw
  rw [zip_map_self,List.map_map]
  refine List.map_congr_left fun p hp=>?_
  have e:=zfk (nc.a1 p hp) (nc.b1 p hp)
  show _=ease p*(hOf n ps one other p.u-hOf n ps one other p.w)*hard p
  grind
theorem zme {n:Nat} {ps:List Pipe} {one other:Int} (nc:Nice n ps) (h1:0≤one∧one<n) (hne:one≠other) (fs:List Rat) (hl:fs.length=ps.length):¬ zkE n ps one other fs (fun _=>0):=fun h=>by
 have z:∀ zz∈ps.zip fs,zz.2=0:=fun zz hz=>by
  obtain ⟨i,hi⟩:=List.getElem?_of_mem hz
  obtain ⟨hp,hf⟩:=List.getElem?_zip_eq_some.mp hi
  have e:=congrArg (fun l=>l[i]?) h.falls
  rw [List.getElem?_map,List.getElem?_map,hi,hp] at e
  have e2:(0:Rat)-0=zz.2*hard zz.1:=by simpa using e
  have hp':=List.mem_of_getElem? hp
  have q1:=zfk (nc.a1 _ hp') (nc.b1 _ hp')
  grind
 have e:=congrArg (fun l=>l[one.toNat]?) h.sums
 unfold dvgs zfG at e
 rw [List.getElem?_map,List.getElem?_map,List.getElem?_range (by omega)] at e
 have eo:((one.toNat:Nat):Int)=one:=by omega
 simp only [Option.map_some,Option.some.injEq] at e
 rw [eo,zdF rfl,zcC hne] at e
 have d0:dvg (ps.zip fs) one=0:=zgs fun zz hz=>by rw [z zz hz];grind
 rw [d0] at e
 grind
def zkr (K:W.Frag) (C:Addr):Sp:=fun vs H Q _=>∃ (x L:Addr) (n:Nat) (ps:List Pipe) (one other:Int),vs=[.ref x,.int one,.int other]∧zdp K C H x L n ps∧zbV n ps ∧
 ∀ (H':Hp) (r:Addr) (us:List V),Same H H'→H r=none→H' r=some (.lst us)→Fqs K H' us (zfG n one other)→Q (.ref r) H'
def zhu (K:W.Frag) (C:Addr):Sp:=fun vs H Q _=>∃ (x L:Addr) (n:Nat) (ps:List Pipe) (other:Int),vs=[.ref x,.int other]∧zdp K C H x L n ps∧zbV n ps∧(0≤other∧other<n) ∧
 ∀ (H':Hp) (r:Addr) (zs:List Int),Same H H'→H r=none→H' r=some (.lst (zs.map V.int))→zs.length≤8→(∀ z,z∈zs↔∃ i:Nat,i<n∧z=(i:Int)∧((i:Int)=other∨¬ Reach ps other (i:Int)))→Q (.ref r) H'
structure zhr (K:W.Frag) (CS:Addr) (H:Hp) (y:Addr) (n:Nat) (ps:List Pipe) (fs:List Rat) (h:Int→Rat):Prop where
 st:∃ F G us ws,zcS CS H y F G us ws∧Fqs K H us fs∧zmU K H ws n h
 len:fs.length=ps.length
 sml:zdI 1990 fs
 bt:∀ z,BtQ 3000 (h z)
theorem zhr.same {K:W.Frag} {CS:Addr} {H H':Hp} {y:Addr} {n:Nat} {ps:List Pipe} {fs:List Rat} {h:Int→Rat} (s:Same H H') (a:zhr K CS H y n ps fs h):zhr K CS H' y n ps fs h:=by
 obtain ⟨⟨F,G,us,ws,h1,h2,h3⟩,h4,h5,h6⟩:=a
 exact ⟨⟨F,G,us,ws,h1.same s,h2.same s,h3.same s⟩,h4,h5,h6⟩
theorem zdI.up {k l:Nat} {qs:List Rat} (h:zdI k qs) (hl:k≤l):zdI l qs:=by
 obtain ⟨N,B,h0,hN,hB,hd⟩:=h
 exact ⟨N,B,h0,Nat.lt_of_lt_of_le hN (Nat.pow_le_pow_right (by decide) hl),Nat.lt_of_lt_of_le hB (Nat.pow_le_pow_right (by decide) hl),hd⟩
def zo6 (K:W.Frag) (C CS:Addr):Sp:=fun vs H Q _=>∃ (y x L:Addr) (n:Nat) (ps:List Pipe) (fs:List Rat) (h:Int→Rat),vs=[.ref y,.ref x]∧zhr K CS H y n ps fs h∧zdp K C H x L n ps∧zbV n ps∧∀ H',Same H H'→Q (.bl true) H'
def zjz (K:W.Frag) (C CS:Addr):Sp:=fun vs H Q _=>∃ (y x L:Addr) (n:Nat) (ps:List Pipe) (one other:Int) (fs:List Rat) (h:Int→Rat),vs=[.ref y,.ref x,.int one,.int other]∧zhr K CS H y n ps fs h∧zdp K C H x L n ps∧zbV n ps∧(0≤one∧one<n)∧(0≤other∧other<n) ∧
 ∀ (H':Hp) (b:Bool),Same H H'→(b=true↔zkE n ps one other fs h)→Q (.bl b) H'
def zmT (ps:List Pipe) (one other:Int) (ms:List Int):Prop:=one∈ms∧other∉ms∧∀ p∈ps,(p.u∈ms↔p.w∈ms)
def zhM (K:W.Frag) (C CP:Addr):Sp:=fun vs H Q _=>∃ (y F x L:Addr) (n:Nat) (ps:List Pipe) (one other:Int) (ms:List Int),vs=[.ref y,.ref x,.int one,.int other]∧zeI CP H y F ms∧zdp K C H x L n ps∧zbV n ps ∧
 ∀ (H':Hp) (b:Bool),Same H H'→(b=true↔zmT ps one other ms)→Q (.bl b) H'
theorem zgM {K:W.Frag} {H:Hp} {us:List V} {n:Nat} {h:Int→Rat} (a:zmU K H us n h) {z:Int} (h0:0≤z) (hn:z<n):∃ v,atI us z=some v∧Fq K H v (h z):=by
 obtain ⟨j,rfl⟩:=Int.eq_ofNat_of_zero_le h0
 obtain ⟨v,e,f⟩:=a.at (i:=j) (q:=h (j:Int)) (by rw [List.getElem?_map,List.getElem?_range (by omega)];rfl)
 exact ⟨v,zaO (j:=j) e,f⟩
section
variable {P:Program} {w:World} {K:W.Frag} {mg:Str→Option Value} {base:Heap} {C CS CP CA f fa fb fc fg fh fp fq fs fw fz:Addr} {fd fda fdb fdc fdg fdh fdp fdq fds fdw fdz:FuncData} {t1 t2 t3:Tok}
theorem zmd (F:Fun K "asked_sums" "asked_sums" zcj f fd) (T:TxtV K mg C CS CP CA) (ze4:mg "asked_sum" = some (.ref fa)) (ze7:W.keepIn K (.ref fa)=true) (zeE:Binds K fda ["place","one","other"] []) (zeG:FnOk P w K mg base CX0 1 fa fda ["place","one","other"] zj2):FnOk P w K mg base CX0 2 f fd ["net","one","other"] (zkr K C):=by
 refine F.ok zhS (fun vs H Q E h=>?_) (fun cdv A outer s H vs Q E hr h=>?_)
 ·obtain ⟨x,L,n,ps,one,other,rfl,_⟩:=h
  rfl
 ·obtain ⟨x,L,n,ps,one,other,rfl,net,ok,q⟩:=h
  obtain ⟨⟨dx,h1⟩,_⟩:=id net
  have n8:=ok.n8
  refine ⟨_,(zaj (zas (zaY ["place"] [1,2] rfl rfl (by kernel_rfl) (zbo rfl T.n_range (zaa (zaL (pv 0) rfl) zac)) (fun _ _ _ _=>(zan (i:=0) (show (["place","one","other"]:List Str).Nodup by decide +kernel) rfl (Or.inl rfl))) (fun _ _ _ _=>zaw) (fun _ _ _ _=>zbI) (fun _ _ _ _=>(zak zeG (hr.mono (by decide)) rfl ze4 ze7 zeE .nil zaq (zaa (pv 0) (zaa (pv 1) (zaa (pv 2) zac)))))))),?_⟩
  refine ⟨_,rfl,x,C,dx,_,_,rfl,h1,T.c_Net,T.a_size,zdk _ _,n,rfl,by omega,by omega,?_⟩
  rw [Int.toNat_natCast]
  refine zcD (fun i ys H'=>Same H H'∧Fqs K H' ys (zfG i one other)) ⟨Same.refl _,.nil⟩ (zao (by omega)) ?_ ?_ ?_
  ·rintro i ys H' hi ⟨_,hY⟩
   rw [hY.len]
   unfold zfG
   rw [List.length_map,List.length_range]
   exact Nat.le_refl _
  ·rintro i ys H' N hi ⟨s2,hY⟩ hN C' s₀ H₀ ex
   dsimp only [zaQ,zcy]
   refine iteT ?_
   refine ⟨_,rfl,_,rfl,_,rfl,0+(i:Int),one,other,rfl,fun H3 p s3 hp h3=>?_⟩
   refine hN _ _ ⟨s2.trans s3,?_⟩
   unfold zfG at hY ⊢
   rw [List.range_succ,List.map_append]
   refine Fqs.snoc (hY.same s3) ?_
   show Fq K _ (.ref p) (ind ((i:Int)=one)-ind ((i:Int)=other))
   rw [← zpN]
   rw [Int.zero_add] at h3
   exact ⟨p,rfl,SqT.of h3⟩
  ·rintro ys H' ⟨s2,hY⟩ p hp
   exact q _ p ys (s2.trans (zad hp)) (s2.free hp) zae (hY.same (zad hp))
theorem zjD (F:Fun K "grounded" "grounded" zcX f fd) (T:TxtV K mg C CS CP CA)
  (zgq:Meth K C "part" fq) (zgV:Binds K fdq ["self","at"] []) (zgY:FnOk P w K mg base CX0 3 fq fdq ["self","at"] (zi7 K C)):FnOk P w K mg base CX0 4 f fd ["net","other"] (zhu K C):=by
 refine F.ok zg0 (fun vs H Q E h=>?_) (fun cdv A outer s H vs Q E hr h=>?_)
 ·obtain ⟨x,L,n,ps,other,rfl,_⟩:=h
  rfl
 ·obtain ⟨x,L,n,ps,other,rfl,net,ok,ho,q⟩:=h
  obtain ⟨⟨dx,h1⟩,_⟩:=id net
  have n8:=ok.n8
  refine ⟨_,(zaf (zax (i:=2) zg0.nd rfl (Or.inr rfl) (zg9 (pv 0) T.c_Net zgq zgY (hr.mono (by decide)) zgV .nil zaq (zaa (pv 1) zac)))
   (zaj (zas (zaY ["place"] [1,2] rfl rfl (by kernel_rfl) (zbo rfl T.n_range (zaa (zaL (pv 0) rfl) zac)) (fun _ _ _ _=>(zan (i:=0) (show (["place","other","part"]:List Str).Nodup by decide +kernel) rfl (Or.inl rfl))) (fun _ _ _ _=>zaw) (fun _ _ _ _=>(zeU (PW.pt (pw_or (zat zcd (pv 0) (pv 1) (za0 _)) (pw_or1 (zat zbu (pv 0) (pv 2) rfl)))))) (fun _ _ _ _=>(pv 0)))))),?_⟩
  refine ⟨_,rfl,x,dx,_,rfl,h1,zcP _ _ (by decide +kernel) (by decide +kernel),_,rfl,x,L,n,other,ps,rfl,net,ok,ho.1,ho.2,fun H2 r ms s2 hr2 pt h2=>?_⟩
  refine ⟨_,rfl,x,C,dx,_,_,rfl,s2 _ _ h1,T.c_Net,T.a_size,zdk _ _,n,rfl,by omega,by omega,?_⟩
  rw [Int.toNat_natCast]
  have hc:∀ i:Nat,((i:Int)=other∨(i:Int)∉ms)↔((i:Int)=other∨¬ Reach ps other (i:Int)):=fun i=>by rw [pt.2]
  refine zcD (fun i ys H'=>H'=H2∧∃ zs:List Int,ys=zs.map V.int∧zs.length≤i∧∀ z,z∈zs↔∃ j:Nat,j<i∧z=(j:Int)∧((j:Int)=other∨(j:Int)∉ms)) ⟨rfl,[],rfl,Nat.le_refl _,fun z=>⟨(fun h=>nomatch h),fun ⟨j,h,_⟩=>by omega⟩⟩ (zao (by omega)) ?_ ?_ ?_
  ·rintro i ys H' hi ⟨_,zs,rfl,hl,_⟩
   rw [List.length_map]
   exact hl
  ·rintro i ys H' N hi ⟨rfl,zs,rfl,hl,hz⟩ hN C' s₀ H₀ ex
   have more:((i:Int)=other∨(i:Int)∉ms)→∀ z,z∈zs++[(i:Int)]↔∃ j:Nat,j<i+1∧z=(j:Int)∧((j:Int)=other∨(j:Int)∉ms):=fun hi z=>by
    rw [List.mem_append,hz,List.mem_singleton]
    constructor
    ·rintro (⟨j,h1,h2,h3⟩ | rfl)
     ·exact ⟨j,by omega,h2,h3⟩
     ·exact ⟨i,by omega,rfl,hi⟩
    ·rintro ⟨j,h1,h2,h3⟩
     by_cases e:j=i
     ·subst e;exact .inr h2
     ·exact .inl ⟨j,by omega,h2,h3⟩
   have less:¬ ((i:Int)=other∨(i:Int)∉ms)→∀ z,z∈zs↔∃ j:Nat,j<i+1∧z=(j:Int)∧((j:Int)=other∨(j:Int)∉ms):=fun hi z=>by
    rw [hz]
    constructor
    ·rintro ⟨j,h1,h2,h3⟩
     exact ⟨j,by omega,h2,h3⟩
    ·rintro ⟨j,h1,h2,h3⟩
     by_cases e:j=i
     ·subst e;exact absurd h3 hi
     ·exact ⟨j,by omega,h2,h3⟩
   have put:((i:Int)=other∨(i:Int)∉ms)→N (zs.map V.int++[.int (0+(i:Int))]) H':=fun h=>hN _ _ ⟨rfl,zs++[(i:Int)],by rw [Int.zero_add,List.map_append];rfl,by rw [List.length_append];simp;omega,more h⟩
   dsimp only [zcy]
   refine ⟨_,rfl,_,rfl,rfl,_,rfl,?_⟩
   refine ite2 (fun h=>?_) (fun h=>?_)
   ·have e:0+(i:Int)=other:=by
     have h':=of_decide_eq_true h
     injection h'
    rw [Int.zero_add] at e
    exact iteT ⟨_,rfl,put (.inl e)⟩
   ·have e:¬ (i:Int)=other:=fun e=>h (by rw [← e,Int.zero_add];exact decide_eq_true rfl)
    have i2:inV (.int (0+(i:Int))) (ms.map V.int)=decide ((i:Int)∈ms):=by rw [Int.zero_add];exact zbG _ ms
    refine ⟨_,rfl,_,rfl,r,_,rfl,.inl (SqL.of h2),rfl,zaE _,_,rfl,?_⟩
    show if (!inV (.int (0+(i:Int))) (ms.map V.int))=true then _ else _
    rw [i2]
    by_cases m2:(i:Int)∈ms
    ·rw [decide_eq_true m2]
     exact iteF (hN _ _ ⟨rfl,zs,rfl,by omega,less (by rintro (h | h);exact e h;exact h m2)⟩)
    ·rw [decide_eq_false m2]
     exact iteT ⟨_,rfl,put (.inr m2)⟩
  ·rintro ys H' ⟨rfl,zs,rfl,hl,hz⟩ p hp
   refine q _ p zs (s2.trans (zad hp)) (s2.free hp) zae (by omega) fun z=>?_
   rw [hz]
   exact exists_congr fun j=>and_congr_right fun _=>and_congr_right fun _=>hc j
theorem zpw (F:Fun K "fits" "Stream.fits" zbQ f fd) (T:TxtV K mg C CS CP CA)
  (zcb:Meth K C "pipes" fp) (zcf:Binds K fdp ["self"] []) (zcg:FnOk P w K mg base CX0 1 fp fdp ["self"] (zdK K C))
  (zcu:mg "are_fractions" = some (.ref fa)) (zcv:W.keepIn K (.ref fa)=true) (zcw:Binds K fda ["value","many"] []) (zcx:FnOk P w K mg base CX0 3 fa fda ["value","many"] (zj4 K)):FnOk P w K mg base CX0 4 f fd ["self","net"] (zo6 K C CS):=by
 refine F.ok zhf (fun vs H Q E h=>?_) (fun cdv A outer s H vs Q E hr h=>?_)
 ·obtain ⟨y,x,L,n,ps,fs,h,rfl,_⟩:=h
  rfl
 ·obtain ⟨y,x,L,n,ps,fs,h,rfl,hnd,net,ok,q⟩:=h
  obtain ⟨⟨dx,h1⟩,_⟩:=id net
  obtain ⟨⟨F1,G1,us,ws,st,hu,hw⟩,hlen,_,_⟩:=id hnd
  obtain ⟨⟨dy,h2⟩,h3,h4⟩:=id st
  have n8:=ok.n8
  have hle:=ok.le
  refine ⟨_,(zaj (zas (zds (zak zcx (hr.mono (by decide)) rfl zcu zcv zcw .nil zaq (zaa (zaL (pv 0) rfl) (zaa (za2 za4 (by rfl) T.n_len zcr (zaa (zdr (pv 1) T.c_Net zcb zcg (hr.mono (by decide)) zcf .nil zaq) zac)) zac))) (zeb (zak zcx (hr.mono (by decide)) rfl zcu zcv zcw .nil zaq (zaa (zaL (pv 0) rfl) (zaa (zaL (pv 1) rfl) zac))))))),?_⟩
  refine ⟨_,rfl,y,CS,dy,_,_,rfl,h2,T.c_Stream,T.a_flows,zbf _ _,?_⟩
  refine ⟨_,rfl,x,dx,_,rfl,h1,zcP _ _ (by decide +kernel) (by decide +kernel),x,L,n,ps,rfl,net,fun r vs hr1 pa=>?_⟩
  have s1:=zad (o:=.lst vs) hr1
  have hrl:(upd H r (.lst vs)) r=some (.lst vs):=zae
  have hvs:vs.length=ps.length:=Paired.length pa
  generalize upd H r (.lst vs)=H1 at s1 hrl ⊢
  refine ⟨r,_,rfl,.inl (SqL.of hrl),F1,us,fs,_,rfl,SqL.of (s1 _ _ h3),hu.same s1,by rw [hvs,hlen],by omega,fun H2 s2=>?_⟩
  have s12:=s1.trans s2
  refine ⟨_,rfl,iteT ?_⟩
  refine ⟨_,rfl,y,CS,dy,_,_,rfl,s12 _ _ h2,T.c_Stream,T.a_heights,zaG _ _,_,rfl,x,C,dx,_,_,rfl,s12 _ _ h1,T.c_Net,T.a_size,zdk _ _,?_⟩
  exact ⟨G1,ws,_,_,rfl,SqL.of (s12 _ _ h4),hw.same s12,by rw [List.length_map,List.length_range],by rw [List.length_map,List.length_range];omega,fun H3 s3=>q _ (s12.trans s3)⟩
theorem zlY (F:Fun K "shows" "Apart.shows" zbR f fd) (T:TxtV K mg C CS CP CA)
  (zcb:Meth K C "pipes" fp) (zcf:Binds K fdp ["self"] []) (zcg:FnOk P w K mg base CX0 1 fp fdp ["self"] (zdK K C)):FnOk P w K mg base CX0 2 f fd ["self","net","one","other"] (zhM K C CP):=by
 refine F.ok zhg (fun vs H Q E h=>?_) (fun cdv A outer s H vs Q E hr h=>?_)
 ·obtain ⟨y,F,x,L,n,ps,one,other,ms,rfl,_⟩:=h
  rfl
 ·obtain ⟨y,F1,x,L,n,ps,one,other,ms,rfl,ap,net,ok,q⟩:=h
  obtain ⟨⟨dx,h1⟩,_⟩:=id net
  obtain ⟨⟨dy,h2⟩,h3⟩:=id ap
  have hle:=ok.le
  have i1:inV (.int one) (ms.map V.int)=decide (one∈ms):=zbG one ms
  have i2:inV (.int other) (ms.map V.int)=decide (other∈ms):=zbG other ms
  refine ⟨_,(zaf (zaP (PW.pt (pw_or (zat zbu (pv 2) (zaL (pv 0) rfl) rfl) (pw_or1 (zat zb4 (pv 3) (zaL (pv 0) rfl) rfl)))) (zaj (zas zcs)) zaz)
   (zaj (zas (za2 (zfo rfl) (by rfl) T.n_all zjk (zaa (zaY ["start","end","hardness"] [0] rfl rfl (by kernel_rfl) (zaS (zdr (pv 1) T.c_Net zcb zcg (hr.mono (by decide)) zcf .nil zaq)) (fun _ _ _ _=>(zbZ (n:=3) rfl (zap (zan (i:=0) (show (["start","end","hardness","self"]:List Str).Nodup by decide +kernel) rfl (Or.inl rfl)) (zap (zan (i:=1) (show (["start","end","hardness","self"]:List Str).Nodup by decide +kernel) rfl (Or.inl rfl)) (zap (zan (i:=2) (show (["start","end","hardness","self"]:List Str).Nodup by decide +kernel) rfl (Or.inl rfl)) zbg))))) (fun _ _ _ _=>(zdi (za3 zaw (za3 zaw (za3 zaw zce))))) (fun _ _ _ _=>zbI) (fun _ _ _ _=>(zaM zcd (zaM zb4 (pv 0) (zaL (pv 3) rfl) rfl) (zaM zb4 (pv 1) (zaL (pv 3) rfl) rfl) (za0 _)))) zac))))),?_⟩
  refine ⟨_,rfl,_,rfl,y,CP,dy,_,_,rfl,h2,T.c_Apart,T.a_places,zcp _,F1,_,rfl,.inl (SqL.of h3),rfl,zaE _,_,rfl,?_⟩
  show if (!inV (.int one) (ms.map V.int))=true then _ else _
  rw [i1]
  by_cases m1:one∈ms
  case neg =>
   rw [decide_eq_false m1]
   exact iteT (q _ false (Same.refl _) ⟨(fun z=>nomatch z),fun z=>absurd z.1 m1⟩)
  rw [decide_eq_true m1]
  refine iteF ?_
  refine ⟨_,rfl,_,rfl,y,CP,dy,_,_,rfl,h2,T.c_Apart,T.a_places,zcp _,F1,_,rfl,.inl (SqL.of h3),rfl,zaE _,_,rfl,?_⟩
  show if (inV (.int other) (ms.map V.int))=true then _ else _
  rw [i2]
  by_cases m2:other∈ms
  ·rw [decide_eq_true m2]
   exact iteT (q _ false (Same.refl _) ⟨(fun z=>nomatch z),fun z=>absurd m2 z.2.1⟩)
  rw [decide_eq_false m2]
  refine iteF ?_
  refine ⟨_,rfl,x,dx,_,rfl,h1,zcP _ _ (by decide +kernel) (by decide +kernel),x,L,n,ps,rfl,net,fun r vs hr1 pa=>?_⟩
  have s1:=zad (o:=.lst vs) hr1
  have hrl:(upd H r (.lst vs)) r=some (.lst vs):=zae
  have hvs:vs.length=ps.length:=Paired.length pa
  have pa1:=zam.same s1 pa
  generalize upd H r (.lst vs)=H1 at s1 hrl pa1 ⊢
  refine ⟨r,rfl,⟨_,SqL.of hrl⟩,zaN (K:=K) (a:=r) (xs:=vs) (fun i ys H'=>H'=H1∧ys=((ps.take i).map fun p=>decide (p.u∈ms)==decide (p.w∈ms)).map V.bl) ⟨rfl,rfl⟩ (zao (by omega)) ?_ ?_ ?_⟩
  ·rintro i ys H' hi ⟨rfl,rfl⟩
   exact ⟨by rw [List.length_map,List.length_map,List.length_take];omega,SqL.of hrl⟩
  ·rintro i v ys H' N hv ⟨rfl,rfl⟩ hN C' s₀ H₀ ex
   obtain ⟨p,hpi,⟨x3,y3,rfl,hx3,hy3⟩⟩:=pa1.get hv
   have ht:ps.take (i+1)=ps.take i++[p]:=by rw [List.take_succ,hpi];rfl
   have iu:inV (.int p.u) (ms.map V.int)=decide (p.u∈ms):=zbG _ ms
   have iw:inV (.int p.w) (ms.map V.int)=decide (p.w∈ms):=zbG _ ms
   refine ⟨x3,_,rfl,hx3,rfl,_,_,rfl,_,_,rfl,_,_,rfl,rfl,?_⟩
   dsimp only [zaQ]
   refine iteT ?_
   refine ⟨_,rfl,_,rfl,y,CP,dy,_,_,rfl,s1 _ _ h2,T.c_Apart,T.a_places,zcp _,F1,_,rfl,.inl (SqL.of (s1 _ _ h3)),rfl,zaE _,_,rfl,_,rfl,y,CP,dy,_,_,rfl,s1 _ _ h2,T.c_Apart,T.a_places,zcp _,F1,_,rfl,.inl (SqL.of (s1 _ _ h3)),rfl,zaE _,rfl,?_⟩
   refine hN _ _ ⟨rfl,?_⟩
   rw [ht,List.map_append,List.map_append,iu,iw]
   congr 1
   show [V.bl (decide (V.bl (decide (p.u∈ms))=V.bl (decide (p.w∈ms))))]=[V.bl (decide (p.u∈ms)==decide (p.w∈ms))]
   rw [zmF]
  ·rintro ys H' ⟨rfl,rfl⟩ p hp
   rw [hvs,List.take_length]
   refine ⟨p,_,rfl,SqL.of zae,?_⟩
   refine q _ _ (s1.trans (zad hp)) ?_
   unfold zmT
   rw [List.all_map,List.all_eq_true]
   constructor
   ·intro z
    refine ⟨m1,m2,fun p hp=>?_⟩
    have:=z p hp
    simpa using this
   ·rintro ⟨_,_,z⟩ p hp
    have:=z p hp
    simpa using this
end
end K2
namespace K2
open PySem L2 Mp St Bz
section
variable {P:Program} {w:World} {K:W.Frag} {mg:Str→Option Value} {base:Heap} {C CS CP CA f fa fb fc fg fh fp fq fs fw fz:Addr} {fd fda fdb fdc fdg fdh fdp fdq fds fdw fdz:FuncData} {t1 t2 t3:Tok}
theorem zn7 (F:Fun K "shows" "Stream.shows" zbD f fd) (T:TxtV K mg C CS CP CA)
  (zqa:Meth K CS "fits" fa) (zqW:Binds K fda ["self","net"] []) (zqY:FnOk P w K mg base CX0 4 fa fda ["self","net"] (zo6 K C CS))
  (zcb:Meth K C "pipes" fp) (zcf:Binds K fdp ["self"] []) (zcg:FnOk P w K mg base CX0 1 fp fdp ["self"] (zdK K C))
  (zec:mg "are_places" = some (.ref fb)) (zef:W.keepIn K (.ref fb)=true) (zej:Binds K fdb ["net","places"] []) (zem:FnOk P w K mg base CX0 3 fb fdb ["net","places"] (zj3 K C))
  (zgB:mg "sums_of" = some (.ref fc)) (zgJ:W.keepIn K (.ref fc)=true) (zgU:Binds K fdc ["net","flows"] []) (zgX:FnOk P w K mg base CX0 6 fc fdc ["net","flows"] (zl7 K C))
  (ziP:mg "asked_sums" = some (.ref fq)) (zjb:W.keepIn K (.ref fq)=true) (zjq:Binds K fdq ["net","one","other"] []) (zjv:FnOk P w K mg base CX0 2 fq fdq ["net","one","other"] (zkr K C))
  (zjK:mg "falls" = some (.ref fh)) (zjV:W.keepIn K (.ref fh)=true) (zkc:Binds K fdh ["net","heights"] []) (zki:FnOk P w K mg base CX0 4 fh fdh ["net","heights"] (zj1 K C))
  (zjI:mg "times" = some (.ref fw)) (zjT:W.keepIn K (.ref fw)=true) (zka:Binds K fdw ["one","other"] []) (zkg:FnOk P w K mg base CX0 3 fw fdw ["one","other"] (zeO K (·*·) fun _=>True))
  (zkY:mg "grounded" = some (.ref fg)) (zlg:W.keepIn K (.ref fg)=true) (zln:Binds K fdg ["net","other"] []) (zlr:FnOk P w K mg base CX0 4 fg fdg ["net","other"] (zhu K C)):FnOk P w K mg base CX0 7 f fd ["self","net","one","other"] (zjz K C CS):=by
 refine F.ok zg4 (fun vs H Q E h=>?_) (fun cdv A outer s H vs Q E hr h=>?_)
 ·obtain ⟨y,x,L,n,ps,one,other,fs,h,rfl,_⟩:=h
  rfl
 ·obtain ⟨y,x,L,n,ps,one,other,fs,h,rfl,hnd,net,ok,ho1,ho2,q⟩:=h
  obtain ⟨⟨dx,h1⟩,_⟩:=id net
  obtain ⟨⟨F1,G1,us,ws,st,hu,hw⟩,hlen,sml,hbt⟩:=id hnd
  obtain ⟨⟨dy,h2⟩,h3,h4⟩:=id st
  have n8:=ok.n8
  have hle:=ok.le
  refine ⟨_,(zaf (zaP (PW.pt (pw_or (zbj (zaX (zg9 (pv 0) T.c_Stream zqa zqY (hr.mono (by decide)) zqW .nil zaq (zaa (pv 1) zac)))) (pw_or1 (zbj (zaX (zak zem (hr.mono (by decide)) rfl zec zef zej .nil zaq (zaa (pv 1) (zaa (zdE (zaa (pv 2) (zaa (pv 3) zac))) zac)))))))) (zaj (zas zcs)) zaz)
   (zaf (zaP (zat (zeW hr.units) (zak zgX (hr.mono (by decide)) rfl zgB zgJ zgU .nil zaq (zaa (pv 1) (zaa (zaL (pv 0) rfl) zac))) (zak zjv (hr.mono (by decide)) rfl ziP zjb zjq .nil zaq (zaa (pv 1) (zaa (pv 2) (zaa (pv 3) zac)))) (za0 _)) (zaj (zas zcs)) zaz)
   (zaf (zaP (zat (zeW hr.units) (zak zki (hr.mono (by decide)) rfl zjK zjV zkc .nil zaq (zaa (pv 1) (zaa (zaL (pv 0) rfl) zac))) (zaY ["pipe","flow"] [] rfl rfl (by kernel_rfl) (zg8 rfl T.n_zip (zaa (zdr (pv 1) T.c_Net zcb zcg (hr.mono (by decide)) zcf .nil zaq) (zaa (zaL (pv 0) rfl) zac))) (fun _ _ _ _=>(zbZ (n:=2) rfl (zap (zan (i:=0) (show (["pipe","flow"]:List Str).Nodup by decide +kernel) rfl (Or.inl rfl)) (zap (zan (i:=1) (show (["pipe","flow"]:List Str).Nodup by decide +kernel) rfl (Or.inl rfl)) zbg)))) (fun _ _ _ _=>(zdi (za3 zaw (za3 zaw zce)))) (fun _ _ _ _=>zbI) (fun _ _ _ _=>(zak zkg (hr.mono (by decide)) rfl zjI zjT zka .nil zaq (zaa (pv 1) (zaa (zay zav (pv 0) zag (fun _ _=>rfl)) zac))))) (za0 _)) (zaj (zas zcs)) zaz)
   (zaj (zas (za2 (zfo rfl) (by rfl) T.n_all zjk (zaa (zaY ["place"] [0] rfl rfl (by kernel_rfl) (zaS (zak zlr (hr.mono (by decide)) rfl zkY zlg zln .nil zaq (zaa (pv 1) (zaa (pv 3) zac)))) (fun _ _ _ _=>(zan (i:=0) (show (["place","self"]:List Str).Nodup by decide +kernel) rfl (Or.inl rfl))) (fun _ _ _ _=>zaw) (fun _ _ _ _=>zbI) (fun _ _ _ _=>(zaM (zlV hr.units) (zay zaK (zaL (pv 1) rfl) (pv 0) (fun _ _=>rfl)) (zaI (zaa zag (zaa zag zac))) (za0 _)))) zac))))))),?_⟩
  refine ⟨_,rfl,y,dy,_,rfl,h2,zgf _ _ (by decide +kernel) (by decide +kernel),_,rfl,y,x,L,n,ps,fs,h,rfl,hnd,net,ok,fun H1 s1=>⟨_,rfl,iteF ?_⟩⟩
  refine ⟨_,rfl,_,rfl,_,rfl,by show 2≤sizeLine;decide,fun l hl=>?_⟩
  have s1a:=zad (o:=.lst [.int one,.int other]) hl
  have hl0:(upd H1 l (.lst [.int one,.int other])) l=some (.lst ([one,other].map V.int)):=zae
  have s1b:=s1.trans s1a
  generalize upd H1 l (.lst [.int one,.int other])=H1' at s1a hl0 s1b ⊢
  refine ⟨x,L,l,n,ps,[one,other],rfl,net.same s1b,SqL.of hl0,(by show 2≤8;decide),fun z hz=>?_,fun H2 s2=>⟨_,rfl,iteF ?_⟩⟩
  ·simp only [List.mem_cons,List.not_mem_nil,or_false] at hz
   rcases hz with rfl | rfl
   ·exact ho1
   ·exact ho2
  have s02:=s1b.trans s2
  refine ⟨_,rfl,_,rfl,y,CS,dy,_,_,rfl,s02 _ _ h2,T.c_Stream,T.a_flows,zbf _ _,x,L,F1,n,ps,us,fs,rfl,net.same s02,ok,SqL.of (s02 _ _ h3),hu.same s02,hlen,sml.up (by decide),fun H3 r3 us3 s3 hr3 h3' hF3=>?_⟩
  have s03:=s02.trans s3
  refine ⟨_,rfl,_,rfl,_,rfl,x,L,n,ps,one,other,rfl,net.same s03,ok,fun H4 r4 us4 s4 hr4 h4' hF4=>?_⟩
  have s04:=s03.trans s4
  refine zhU (SqL.of (s4 _ _ h3')) (hF3.same s4) (SqL.of h4') hF4 ⟨_,rfl,?_⟩
  rw [if_pos rfl]
  by_cases e1:dvgs n ps fs=zfG n one other
  case neg =>
   rw [decide_eq_false e1]
   exact iteT (q _ false s04 ⟨(fun z=>nomatch z),fun z=>absurd z.sums e1⟩)
  rw [decide_eq_true e1]
  refine iteF ?_
  refine ⟨_,rfl,_,rfl,y,CS,dy,_,_,rfl,s04 _ _ h2,T.c_Stream,T.a_heights,zaG _ _,x,L,G1,n,ps,ws,h,rfl,net.same s04,ok,SqL.of (s04 _ _ h4),hw.same s04,fun z=>(hbt z).mono (by decide),fun H5 r5 us5 s5 hr5 h5 hF5=>?_⟩
  have s05:=s04.trans s5
  refine ⟨_,rfl,x,dx,_,rfl,s05 _ _ h1,zcP _ _ (by decide +kernel) (by decide +kernel),x,L,n,ps,rfl,net.same s05,fun rp vs hrp pa=>?_⟩
  have s6:=zad (o:=.lst vs) hrp
  have hrl:(upd H5 rp (.lst vs)) rp=some (.lst vs):=zae
  have pa6:=zam.same s6 pa
  have hvs:vs.length=ps.length:=Paired.length pa
  have s06:=s05.trans s6
  generalize upd H5 rp (.lst vs)=H6 at s6 hrl pa6 s06 ⊢
  have hzl:us.length=vs.length:=by rw [hu.len,hlen,hvs]
  have hzz:(ps.zip fs).length=ps.length:=by rw [List.length_zip,hlen,Nat.min_self]
  refine ⟨_,rfl,y,CS,dy,_,_,rfl,s06 _ _ h2,T.c_Stream,T.a_flows,zbf _ _,rp,F1,rfl,⟨_,SqL.of hrl⟩,⟨_,SqL.of (s06 _ _ h3)⟩,zex (K:=K) (a:=rp) (b:=F1) (xs:=vs) (zs:=us) (fun i ys H'=>Same H6 H'∧Fqs K H' ys (((ps.zip fs).take i).map fun z=>z.2*hard z.1)) ⟨Same.refl _,.nil⟩ (zao (by omega)) hzl ?_ ?_ ?_⟩
  ·rintro i ys H' hi ⟨s7,hY⟩
   refine ⟨?_,SqL.of (s7 _ _ hrl),SqL.of ((s06.trans s7) _ _ h3)⟩
   rw [hY.len,List.length_map,List.length_take]
   omega
  ·rintro i v z ys H' N pp hv hz ⟨s7,hY⟩ hpp hN C' s₀ H₀ ex
   obtain ⟨p,hpi,⟨x3,y3,rfl,hx3,hy3⟩⟩:=(zam.same s7 pa6).get hv
   obtain ⟨qq,hqq,fq⟩:=(hu.same (s06.trans s7)).get hz
   have pok:=ok.ok p (List.mem_of_getElem? hpi)
   obtain ⟨bh,be⟩:=pok.btq (k:=31) (by have:=pok.aM;omega) (by have:=pok.bM;omega)
   have s8:=zad (o:=.tup [.ref x3,z]) hpp
   refine ⟨pp,_,rfl,SqT.of zae,rfl,_,_,rfl,_,_,rfl,rfl,?_⟩
   dsimp only [zaQ]
   refine iteT ?_
   refine ⟨_,rfl,_,rfl,x3,_,_,_,rfl,rfl,Same.tup s8 hx3,rfl,?_⟩
   refine ⟨z,.ref y3,_,_,4000,rfl,fq.same s8,(pok.fq hy3).same s8,trivial,by decide,(sml.each _ (List.mem_of_getElem? hqq)).mono (by decide),bh.mono (by decide),fun c hc=>hN _ _ ⟨(s7.trans s8).trans (zad hc),?_⟩⟩
   rw [zgc hpi hqq,List.map_append]
   exact Fqs.snoc (hY.same (s8.trans (zad hc))) Fq.new
  ·rintro ys H7 ⟨s7,hY⟩ rc hrc
   have etk:(ps.zip fs).take vs.length=ps.zip fs:=by rw [List.take_of_length_le (by omega)]
   rw [etk] at hY
   have s8:=zad (o:=.lst ys) hrc
   have hrc8:(upd H7 rc (.lst ys)) rc=some (.lst ys):=zae
   have hY8:=hY.same s8
   have s58:=(s6.trans s7).trans s8
   have s08:=s05.trans s58
   generalize upd H7 rc (.lst ys)=H8 at s8 hrc8 hY8 s58 s08 ⊢
   refine zhU (SqL.of (s58 _ _ h5)) (hF5.same s58) (SqL.of hrc8) hY8 ⟨_,rfl,?_⟩
   rw [if_pos rfl]
   by_cases e2:(ps.map fun p=>h p.u-h p.w)=(ps.zip fs).map fun z=>z.2*hard z.1
   case neg =>
    rw [decide_eq_false e2]
    exact iteT (q _ false s08 ⟨(fun z=>nomatch z),fun z=>absurd z.falls e2⟩)
   rw [decide_eq_true e2]
   refine iteF ?_
   refine ⟨_,rfl,_,rfl,x,L,n,ps,other,rfl,net.same s08,ok,ho2,fun H9 r9 zs s9 hr9 h9 hl9 hz9=>?_⟩
   have s09:=s08.trans s9
   refine ⟨r9,rfl,⟨_,SqL.of h9⟩,zaN (K:=K) (a:=r9) (xs:=zs.map V.int) (fun i ys H'=>Same H9 H'∧ys=((zs.take i).map fun z=>decide (h z=0)).map V.bl) ⟨Same.refl _,rfl⟩ (zao (by rw [List.length_map];omega)) ?_ ?_ ?_⟩
   ·rintro i ys H' hi ⟨sx,rfl⟩
    exact ⟨by rw [List.length_map,List.length_map,List.length_take];omega,SqL.of (sx _ _ h9)⟩
   ·rintro i v ys H' N hv ⟨sx,rfl⟩ hN C' s₀ H₀ ex
    rw [List.getElem?_map] at hv
    cases e:zs[i]? with
    | none=>rw [e] at hv;cases hv
    | some z =>
     rw [e] at hv
     cases hv
     obtain ⟨j,hj,rfl,_⟩:=(hz9 z).mp (List.mem_of_getElem? e)
     obtain ⟨vz,ez,fz⟩:=zgM hw (z:=(j:Int)) (by omega) (by omega)
     have s0x:=s09.trans sx
     dsimp only [zaQ,zcy]
     refine iteT ?_
     refine ⟨_,rfl,y,CS,dy,_,_,rfl,s0x _ _ h2,T.c_Stream,T.a_heights,zaG _ _,_,rfl,G1,_,_,vz,rfl,rfl,SqL.of (s0x _ _ h4),ez,by show 2≤sizeLine;decide,fun tz htz=>?_⟩
     refine znu (fz.same (s0x.trans (zad htz))) (zgp zae) (hN _ _ ⟨sx.trans (zad htz),?_⟩)
     rw [List.take_succ,e]
     simp
   ·rintro ys H' ⟨sx,rfl⟩ p hp
    rw [List.length_map,List.take_length]
    refine ⟨p,_,rfl,SqL.of zae,?_⟩
    refine q _ _ (s09.trans (sx.trans (zad hp))) ?_
    rw [List.all_map,List.all_eq_true]
    constructor
    ·intro z
     refine ⟨e1,e2,fun i hi hc=>?_⟩
     have:=z (i:Int) ((hz9 _).mpr ⟨i,hi,rfl,hc⟩)
     simpa using this
    ·intro z zz hzz
     obtain ⟨i,hi,rfl,hc⟩:=(hz9 zz).mp hzz
     simpa using z.low i hi hc
end
end K2
namespace K2
open PySem L2 Mp St Bz
theorem zpl (a b c d:Int):PyData.eqv (.tuple [.int a,.int b]) (.tuple [.int c,.int d])=(decide (a=c)&&decide (b=d)):=by
 show ((a==c)&&((b==d)&&true))=_
 by_cases h1:a=c <;> by_cases h2:b=d <;> simp [h1,h2]
theorem zns {K:W.Frag} {H:Hp} {p p':Addr} {a b c d:Int} {Q:V→Hp→Prop} (h1:SqT K H p [.int a,.int b]) (h2:SqT K H p' [.int c,.int d]) (k:Q (.bl (!(decide (a=c)&&decide (b=d)))) H):rEqD K true (.ref p) (.ref p') H Q :=
 ⟨_,_,.tup h1 (.cons (.int _) (.cons (.int _) .nil)),.tup h2 (.cons (.int _) (.cons (.int _) .nil)),rfl,rfl,(by show 0+1≤40;decide),by rw [if_pos rfl,zpl];exact k⟩
theorem zlN (q:Rat):Int.gcd (if q.num<0 then -q.num else q.num) (q.den:Int)=1:=by
 have e:(if q.num<0 then -q.num else q.num).natAbs=q.num.natAbs:=by split <;> omega
 unfold Int.gcd
 rw [e]
 exact q.reduced
def zqi (K:W.Frag):Sp:=fun vs H Q _=>∃ (l:Addr) (us:List V) (qs:List Rat) (m:Int),vs=[.ref l,.int m]∧SqL K H l us∧Fqs K H us qs∧m=(qs.length:Int)∧qs.length≤28∧(∀ q∈qs,BtQ 4000 q)∧∀ H',Same H H'→Q (.bl true) H'
def zlE (K:W.Frag) (CS:Addr):Sp:=fun vs H Q _=>∃ (t l y:Addr) (n:Nat) (ps:List Pipe) (one other:Int) (fs:List Rat) (h:Int→Rat),vs=[.ref t,.int one,.int other,.ref y]∧Told K H t l n ps∧zhr K CS H y n ps fs h∧(0≤one∧one<n)∧(0≤other∧other<n) ∧
 ∀ (H':Hp) (b:Bool),Same H H'→(b=true↔zkE n ps one other fs h)→Q (.bl b) H'
def dvgT (n:Nat) (ps:List Pipe) (fs:List Rat) (i:Nat):List Rat:=(List.range n).map fun j:Nat=>dvg ((ps.zip fs).take i) (j:Int)
theorem zgQ {n:Nat} {ps:List Pipe} {fs:List Rat} {i j:Nat} (h:j<n):(dvgT n ps fs i)[j]? = some (dvg ((ps.zip fs).take i) (j:Int)):=by
 unfold dvgT
 rw [List.getElem?_map,List.getElem?_range h]
 rfl
theorem zfl (n:Nat) (ps:List Pipe) (fs:List Rat) (i:Nat):(dvgT n ps fs i).length=n:=by
 unfold dvgT
 rw [List.length_map,List.length_range]
theorem zmB {n:Nat} {ps:List Pipe} {fs:List Rat} {i ju jw:Nat} {p:Pipe} {f:Rat} (hp:ps[i]? = some p) (hf:fs[i]? = some f) (hu:p.u=(ju:Int)) (hw:p.w=(jw:Int)) (hne:p.u≠p.w) (hun:ju<n) (hwn:jw<n) :
  ((dvgT n ps fs i).set ju (dvg ((ps.zip fs).take i) (ju:Int)+f)).set jw (dvg ((ps.zip fs).take i) (jw:Int)-f)=dvgT n ps fs (i+1):=by
 have hz:=zgc hp hf
 have hd:∀ j:Int,dvg ((ps.zip fs).take (i+1)) j=dvg ((ps.zip fs).take i) j+sg p j*f:=fun j=>by
  rw [hz]
  unfold dvg
  rw [zgt]
  simp only [sp]
  grind
 refine List.ext_getElem? fun k=>?_
 by_cases hk:k<n
 ·rw [zgQ hk,hd,List.getElem?_set,List.getElem?_set]
  have hl:=zfl n ps fs i
  by_cases e1:jw=k
  ·subst e1
   rw [if_pos rfl,if_pos (by rw [List.length_set];omega)]
   unfold sg
   rw [zcC (by rw [← hw];exact hne),zdF hw]
   congr 1
   grind
  ·rw [if_neg e1]
   by_cases e2:ju=k
   ·subst e2
    rw [if_pos rfl,if_pos (by omega)]
    unfold sg
    rw [zdF hu,zcC (by rw [← hu];exact fun z=>hne z.symm)]
    congr 1
    grind
   ·rw [if_neg e2,zgQ hk]
    unfold sg
    rw [zcC (by rw [hu];omega),zcC (by rw [hw];omega)]
    congr 1
    grind
 ·rw [List.getElem?_eq_none (by rw [List.length_set,List.length_set,zfl];omega),List.getElem?_eq_none (by rw [zfl];omega)]
theorem zoL {ps:List Pipe} {fs:List Rat} (sml:zdI 1990 fs) (hl:fs.length≤28) (i:Nat) (j:Int):BtQ 4000 (dvg ((ps.zip fs).take i) j):=by
 have smf:∀ (c:Pipe×Rat→Bool),BtQ 1990 ((((ps.zip fs).take i).filter c).map (·.2)).sum:=fun c=>by
  have hs:zdI 1990 ((((ps.zip fs).take i).filter c).map (·.2)):=sml.sub fun r hr=>by
   obtain ⟨zz,hz,rfl⟩:=List.mem_map.mp hr
   exact (List.of_mem_zip (List.mem_of_mem_take (List.mem_filter.mp hz).1)).2
  have h28:((((ps.zip fs).take i).filter c).map (·.2)).length≤28:=by
   rw [List.length_map]
   refine Nat.le_trans (List.length_filter_le _ _) ?_
   rw [List.length_take,List.length_zip]
   omega
  have:=hs.take h28 ((((ps.zip fs).take i).filter c).map (·.2)).length
  rw [List.take_length] at this
  exact this
 rw [zoI]
 exact ((smf _).sub (smf _)).mono (by decide)
section
variable {P:Program} {w:World} {K:W.Frag} {mg:Str→Option Value} {base:Heap} {C CS CP CA f fa fb fc fg fh fp fq fs fw fz:Addr} {fd fda fdb fdc fdg fdh fdp fdq fds fdw fdz:FuncData} {t1 t2 t3:Tok}
theorem zlZ (F:Fun K "_law_fractions" "_law_fractions" zba f fd) (T:TxtV K mg C CS CP CA)
  (zcK:mg "_law_least" = some (.ref fa)) (zcL:W.keepIn K (.ref fa)=true) (zcM:Binds K fda ["_law_a","_law_b"] []) (zcN:FnOk P w K mg base CX0 1 fa fda ["_law_a","_law_b"] zhN):FnOk P w K mg base CX0 2 f fd ["_law_things","_law_many"] (zqi K):=by
 refine F.ok zdA (fun vs H Q E h=>?_) (fun cdv A outer s H vs Q E hr h=>?_)
 ·obtain ⟨l,us,qs,m,rfl,_⟩:=h
  rfl
 ·obtain ⟨l,us,qs,m,rfl,hl,hF,hm,h28,hbt,q⟩:=h
  have hul:us.length=qs.length:=hF.len
  refine ⟨_,(zaf (zaP (PW.pt (pw_or (zbj (zaX (zct rfl T.n_isinstance (pv 0) rfl T.n_list zdm))) (pw_or1 (zat zhh (za2 za4 (by rfl) T.n_len zcr (zaa (pv 0) zac)) (pv 1) (za0 _))))) (zaj (zas zcs)) zaz)
   (zaf (zdd PassesOwn.never rfl (zaS (pv 0)) (zan (i:=2) zdA.nd rfl (Or.inl rfl)) (zaf (zaP (PW.pt (pw_or (zbj (zaX (zct rfl T.n_isinstance (pv 2) rfl T.n_tuple zgo))) (pw_or (zat zhh (za2 za4 (by rfl) T.n_len zcr (zaa (pv 2) zac)) zag (za0 _)) (pw_or (zaX (zct rfl T.n_isinstance (zay zav (pv 2) zag (fun _ _=>rfl)) rfl T.n_bool zgT)) (pw_or1 (zaX (zct rfl T.n_isinstance (zay zav (pv 2) zag (fun _ _=>rfl)) rfl T.n_bool zgT))))))) (zaj (zas zcs)) zaz)
   (zaf (zaP (PW.pt (pw_or (zbj (zaX (zct rfl T.n_isinstance (zay zav (pv 2) zag (fun _ _=>rfl)) rfl T.n_int zfW))) (pw_or (zbj (zaX (zct rfl T.n_isinstance (zay zav (pv 2) zag (fun _ _=>rfl)) rfl T.n_int zfW))) (pw_or1 (zat znz (zay zav (pv 2) zag (fun _ _=>rfl)) zag (za0 _)))))) (zaj (zas zcs)) zaz)
   (zaj (zaP (zat (zeW hr.units) (zak zcN (hr.mono (by decide)) rfl zcK zcL zcM .nil zaq (zaa (za2 zgn (by rfl) T.n_abs zkC (zaa (zay zav (pv 2) zag (fun _ _=>rfl)) zac)) (zaa (zay zav (pv 2) zag (fun _ _=>rfl)) zac))) (zaI (zaa (za2 zgn (by rfl) T.n_abs zkC (zaa (zay zav (pv 2) zag (fun _ _=>rfl)) zac)) (zaa (zay zav (pv 2) zag (fun _ _=>rfl)) zac))) (za0 _)) (zaj (zas zcs)) zaz)))))
   (zaj (zas zcs)))),?_⟩
  refine ⟨_,rfl,_,_,_,_,_,rfl,rfl,TyX.lstS hl,ll,_,rfl,iteF ?_⟩
  refine ⟨_,rfl,l,_,rfl,.inl hl,_,rfl,rfl,_,rfl,?_⟩
  rw [decide_eq_true (show V.int (us.length:Int)=V.int m by rw [hm,hul])]
  refine iteF ?_
  refine ⟨_,rfl,l,rfl,⟨_,hl⟩,zdQ (K:=K) (a:=l) (xs:=us) (fun i σ H'=>∃ (v:Option V),σ=[some (.ref l),some (.int m),v]∧Same H H')
   ⟨none,rfl,Same.refl _⟩ (fun i σ H' _ ⟨_,_,z⟩=>z.seq hl) ?_ ?_⟩
  ·rintro i x σ H' hi ⟨v,rfl,se⟩
   obtain ⟨qq,hq,⟨p,rfl,hp⟩⟩:=(hF.same se).get hi
   have hd:=qq.den_pos
   refine ⟨_,rfl,_,_,_,_,_,rfl,rfl,TyX.tupS hp,tt,_,rfl,iteF ?_⟩
   refine ⟨_,rfl,p,_,rfl,.inr hp,rfl,_,rfl,iteF ?_⟩
   refine ⟨_,rfl,p,_,_,_,rfl,rfl,hp,rfl,_,_,_,_,_,rfl,rfl,ty_int _,ib,_,rfl,iteF ?_⟩
   refine ⟨_,rfl,p,_,_,_,rfl,rfl,hp,rfl,_,_,_,_,_,rfl,rfl,ty_int _,ib,_,rfl,iteF ?_⟩
   refine ⟨_,rfl,p,_,_,_,rfl,rfl,hp,rfl,_,_,_,_,_,rfl,rfl,ty_int _,ii,_,rfl,iteF ?_⟩
   refine ⟨_,rfl,p,_,_,_,rfl,rfl,hp,rfl,_,_,_,_,_,rfl,rfl,ty_int _,ii,_,rfl,iteF ?_⟩
   refine ⟨_,rfl,p,_,_,_,rfl,rfl,hp,rfl,_,_,rfl,rfl,_,rfl,?_⟩
   rw [decide_eq_false (show ¬ (qq.den:Int)<1 by omega)]
   refine iteF ?_
   refine ⟨_,rfl,p,_,_,_,rfl,rfl,hp,rfl,qq.num,rfl,_,rfl,p,_,_,_,rfl,rfl,hp,rfl,_,_,rfl,by split <;> omega,by omega,⟨4000,by decide,(hbt qq (List.mem_of_getElem? hq)).2⟩,fun t ht=>?_⟩
   rw [zlN,show ((1:Nat):Int)=1 from rfl,Int.fdiv_one,Int.fdiv_one]
   have s1:=zad (o:=.tup [.int (if qq.num<0 then -qq.num else qq.num),.int (qq.den:Int)]) ht
   have hp1:=Same.tup s1 hp
   refine ⟨_,rfl,p,_,_,_,rfl,rfl,hp1,rfl,qq.num,rfl,_,rfl,p,_,_,_,rfl,rfl,hp1,rfl,by show 2≤sizeLine;decide,fun t2 ht2=>?_⟩
   have s2:=zad (o:=.tup [.int (if qq.num<0 then -qq.num else qq.num),.int (qq.den:Int)]) ht2
   refine zns (Same.tup s2 (SqT.of zae)) (SqT.of zae) ⟨_,rfl,?_⟩
   rw [decide_eq_true rfl,decide_eq_true rfl]
   exact iteF ⟨_,rfl,(se.trans s1).trans s2⟩
  ·rintro σ H' ⟨v,rfl,se⟩
   exact q _ se
theorem zjC (F:Fun K "_law_streams" "_law_streams" zbB f fd) (T:TxtV K mg C CS CP CA)
  (zdT:mg "_law_fractions" = some (.ref fa)) (zdU:W.keepIn K (.ref fa)=true) (zdW:Binds K fda ["_law_things","_law_many"] []) (zdX:FnOk P w K mg base CX0 2 fa fda ["_law_things","_law_many"] (zqi K))
  (zf8:mg "minus" = some (.ref fb)) (zfD:W.keepIn K (.ref fb)=true) (zfH:Binds K fdb ["one","other"] []) (zfK:FnOk P w K mg base CX0 3 fb fdb ["one","other"] (zeO K (· - ·) fun _=>True))
  (zjI:mg "times" = some (.ref fc)) (zjT:W.keepIn K (.ref fc)=true) (zka:Binds K fdc ["one","other"] []) (zkg:FnOk P w K mg base CX0 3 fc fdc ["one","other"] (zeO K (·*·) fun _=>True))
  (zeZ:mg "plus" = some (.ref fg)) (zfh:W.keepIn K (.ref fg)=true) (zfq:Binds K fdg ["one","other"] []) (zfw:FnOk P w K mg base CX0 3 fg fdg ["one","other"] (zeO K (·+·) fun _=>True))
  (zdg:mg "_law_part" = some (.ref fh)) (zdh:W.keepIn K (.ref fh)=true) (zdn:Binds K fdh ["_law_told_here","_law_at"] []) (zdq:FnOk P w K mg base CX0 1 fh fdh ["_law_told_here","_law_at"] (zhO K)):FnOk P w K mg base CX0 4 f fd ["_law_told_here","_law_one","_law_other","_law_found"] (zlE K CS):=by
 refine F.ok zaH (fun vs H Q E h=>?_) (fun cdv A outer s H vs Q E hr h=>?_)
 ·obtain ⟨t,l,y,n,ps,one,other,fs,h,rfl,_⟩:=h
  rfl
 ·obtain ⟨t,l,y,n,ps,one,other,fs,h,rfl,told,hnd,ho1,ho2,q⟩:=h
  obtain ⟨ht,⟨vp,hl,hp⟩,ok⟩:=id told
  obtain ⟨⟨F1,G1,us,ws,st,hu,hw⟩,hlen,sml,hbt⟩:=id hnd
  obtain ⟨⟨dy,h2⟩,h3,h4⟩:=id st
  have n8:=ok.n8
  have hle:=ok.le
  have hvp:vp.length=ps.length:=Paired.length hp
  have hzz:(ps.zip fs).length=ps.length:=by rw [List.length_zip,hlen,Nat.min_self]
  refine ⟨_,(zaf (zaP (PW.pt (pw_or (zbj (zaX (zak zdX (hr.mono (by decide)) rfl zdT zdU zdW .nil zaq (zaa (zaL (pv 3) rfl) (zaa (za2 za4 (by rfl) T.n_len zcr (zaa (zay zav (pv 0) zag (fun _ _=>rfl)) zac)) zac))))) (pw_or1 (zbj (zaX (zak zdX (hr.mono (by decide)) rfl zdT zdU zdW .nil zaq (zaa (zaL (pv 3) rfl) (zaa (zay zav (pv 0) zag (fun _ _=>rfl)) zac)))))))) (zaj (zas zcs)) zaz)
   (zaf (zd1 (i:=4) ["_law_place"] [] rfl rfl (by kernel_rfl) zaH.nd rfl rfl (zbo rfl T.n_range (zaa (zay zav (pv 0) zag (fun _ _=>rfl)) zac)) (fun _ _ _ _=>(zan (i:=0) (show (["_law_place"]:List Str).Nodup by decide +kernel) rfl (Or.inl rfl))) (fun _ _ _ _=>zaw) (fun _ _ _ _=>zbI) (fun _ _ _ _=>(zaI (zaa zag (zaa zag zac)))))
   (zaf (zdd PassesOwn.never rfl (zbo rfl T.n_range (zaa (za2 za4 (by rfl) T.n_len zcr (zaa (zay zav (pv 0) zag (fun _ _=>rfl)) zac)) zac)) (zan (i:=5) zaH.nd rfl (Or.inl rfl)) (zaf (zfP (zay zaK (zay zav (pv 0) zag (fun _ _=>rfl)) (pv 5) (fun _ _=>rfl)) (zbZ (n:=3) rfl (zap (zan (i:=6) zaH.nd rfl (Or.inl rfl)) (zap (zan (i:=7) zaH.nd rfl (Or.inl rfl)) (zap (zan (i:=8) zaH.nd rfl (Or.inl rfl)) zbg)))))
   (zaf (zaP (zat (zeW hr.units) (zak zfK (hr.mono (by decide)) rfl zf8 zfD zfH .nil zaq (zaa (zay zaK (zaL (pv 3) rfl) (pv 6) (fun _ _=>rfl)) (zaa (zay zaK (zaL (pv 3) rfl) (pv 7) (fun _ _=>rfl)) zac))) (zak zkg (hr.mono (by decide)) rfl zjI zjT zka .nil zaq (zaa (zay zaK (zaL (pv 3) rfl) (pv 5) (fun _ _=>rfl)) (zaa (pv 8) zac))) (za0 _)) (zaj (zas zcs)) zaz)
   (zaf (zfP (zak zfw (hr.mono (by decide)) rfl zeZ zfh zfq .nil zaq (zaa (zay zaK (pv 4) (pv 6) (fun _ _=>rfl)) (zaa (zay zaK (zaL (pv 3) rfl) (pv 5) (fun _ _=>rfl)) zac))) (zh3 (pv 4) (pv 6) set_list))
   (zaj (zfP (zak zfK (hr.mono (by decide)) rfl zf8 zfD zfH .nil zaq (zaa (zay zaK (pv 4) (pv 7) (fun _ _=>rfl)) (zaa (zay zaK (zaL (pv 3) rfl) (pv 5) (fun _ _=>rfl)) zac))) (zh3 (pv 4) (pv 7) set_list)))))))
   (zaf (zax (i:=9) zaH.nd rfl (Or.inl rfl) (zak zdq (hr.mono (by decide)) rfl zdg zdh zdn .nil zaq (zaa (pv 0) (zaa (pv 2) zac))))
   (zaf (zdd PassesOwn.never rfl (zbo rfl T.n_range (zaa (zay zav (pv 0) zag (fun _ _=>rfl)) zac)) (zan (i:=10) zaH.nd rfl (Or.inl rfl)) (zaf (zax (i:=11) zaH.nd rfl (Or.inl rfl) (za1 zh4 (zbd zei (by rfl) T.n_int zfW (zaa (zaM zcd (pv 10) (pv 1) (za0 _)) zac)) (zbd zei (by rfl) T.n_int zfW (zaa (zaM zcd (pv 10) (pv 2) (za0 _)) zac))))
   (zaj (zaP (PW.pt (pw_or (zat (zeW hr.units) (zay zaK (pv 4) (pv 10) (fun _ _=>rfl)) (zaI (zaa (pv 11) (zaa zag zac))) (za0 _)) (pw_or1 (PW.pt (pw_and (PW.pt (pw_or (zat zcd (pv 10) (pv 2) (za0 _)) (pw_or1 (zat zbu (pv 10) (pv 9) rfl)))) (pw_and1 (zat (zeW hr.units) (zay zaK (zaL (pv 3) rfl) (pv 10) (fun _ _=>rfl)) (zaI (zaa zag (zaa zag zac))) (za0 _)))))))) (zaj (zas zcs)) zaz))))
   (zaj (zas zcs))))))),?_⟩
  refine ⟨_,rfl,y,CS,dy,_,_,rfl,h2,T.c_Stream,T.a_flows,zbf _ _,_,rfl,t,_,_,_,rfl,rfl,SqT.of ht,rfl,l,_,rfl,.inl (SqL.of hl),F1,us,fs,_,rfl,SqL.of h3,hu,by rw [hvp,hlen],by omega,fun q hq=>(sml.each q hq).mono (by decide),fun H1 s1=>⟨_,rfl,iteF ?_⟩⟩
  refine ⟨_,rfl,y,CS,dy,_,_,rfl,s1 _ _ h2,T.c_Stream,T.a_heights,zaG _ _,_,rfl,t,_,_,_,rfl,rfl,SqT.of (s1 _ _ ht),rfl,G1,ws,_,_,rfl,SqL.of (s1 _ _ h4),hw.same s1,by rw [List.length_map,List.length_range],by rw [List.length_map,List.length_range];omega,fun q hq=>?_,fun H2 s2=>⟨_,rfl,iteF ?_⟩⟩
  ·obtain ⟨i,_,rfl⟩:=List.mem_map.mp hq
   exact (hbt _).mono (by decide)
  have s02:=s1.trans s2
  refine ⟨_,rfl,t,_,_,_,rfl,rfl,SqT.of (s02 _ _ ht),rfl,n,rfl,by omega,by omega,?_⟩
  rw [Int.toNat_natCast]
  refine zcD (fun i ys HX=>Same H2 HX∧Fqs K HX ys (List.replicate i 0)) ⟨Same.refl _,.nil⟩ (zao (by omega)) ?_ ?_ ?_
  ·rintro i ys HX hi ⟨_,hY⟩
   rw [hY.len,List.length_replicate]
   exact Nat.le_refl _
  ·rintro i ys HX N hi ⟨sx,hY⟩ hN C' s₀ H₀ ex
   dsimp only [zaQ,zcy]
   refine iteT ?_
   refine ⟨by show 2≤sizeLine;decide,fun tz htz=>hN _ _ ⟨sx.trans (zad htz),?_⟩⟩
   rw [List.replicate_succ']
   exact Fqs.snoc (hY.same (zad htz)) (zgp zae)
  rintro vz HX ⟨sx,hYz⟩ ls hls
  have sx1:=zad (o:=.lst vz) hls
  have hls1:(upd HX ls (.lst vz)) ls=some (.lst vz):=zae
  have hYz1:=hYz.same sx1
  have s03:=s02.trans (sx.trans sx1)
  have hlsn:H ls=none:=(s02.trans sx).free hls
  generalize upd HX ls (.lst vz)=H3 at sx1 hls1 hYz1 s03 ⊢
  refine ⟨_,rfl,t,_,_,_,rfl,rfl,SqT.of (s03 _ _ ht),rfl,l,_,rfl,.inl (SqL.of (s03 _ _ hl)),(vp.length:Int),rfl,by omega,by omega,?_⟩
  rw [Int.toNat_natCast,hvp]
  refine zdG (lo:=0) (n:=ps.length) (fun i σ HX=>∃ (vs:List V) (v5 v6 v7 v8:Option V),σ=[some (.ref t),some (.int one),some (.int other),some (.ref y),some (.ref ls),v5,v6,v7,v8,none,none,none]∧Same H HX∧HX ls=some (.lst vs)∧Fqs K HX vs (dvgT n ps fs i) ∧
   ∀ (k:Nat) (p:Pipe) (f:Rat),k<i→ps[k]? = some p→fs[k]? = some f→h p.u-h p.w=f*hard p) ⟨vz,none,none,none,none,rfl,s03,hls1,?_,fun k _ _ hk=>by omega⟩ ?_ ?_
  ·have:dvgT n ps fs 0=List.replicate n 0:=by
    refine List.ext_getElem? fun k=>?_
    by_cases hk:k<n
    ·rw [zgQ hk,List.getElem?_replicate,if_pos hk];rfl
    ·rw [List.getElem?_eq_none (by rw [zfl];omega),List.getElem?_eq_none (by rw [List.length_replicate];omega)]
   rw [this]
   exact hYz1
  ·rintro i σ HX hi ⟨vs,v5,v6,v7,v8,rfl,sX,hX,hY,hfall⟩
   have ht':=sX _ _ ht
   have hl':=sX _ _ hl
   have h2':=sX _ _ h2
   have h3':=sX _ _ h3
   have h4':=sX _ _ h4
   obtain ⟨x3v,e3⟩:∃ v,vp[i]? = some v:=⟨vp[i]'(by omega),List.getElem?_eq_getElem (by omega)⟩
   obtain ⟨p,hpi,⟨x3,y3,rfl,hx3,hy3⟩⟩:=(zam.same sX hp).get e3
   have pok:=ok.ok p (List.mem_of_getElem? hpi)
   obtain ⟨ff,hff⟩:∃ ff,fs[i]? = some ff:=⟨fs[i]'(by omega),List.getElem?_eq_getElem (by omega)⟩
   obtain ⟨vf,evf,fvf⟩:=(hu.same sX).at hff
   obtain ⟨vu,evu,fvu⟩:=zgM (hw.same sX) pok.u0 pok.un
   obtain ⟨vw,evw,fvw⟩:=zgM (hw.same sX) pok.w0 pok.wn
   obtain ⟨bh,be⟩:=pok.btq (k:=31) (by have:=pok.aM;omega) (by have:=pok.bM;omega)
   have bf:=(sml.each _ (List.mem_of_getElem? hff)).mono (show 1990≤4000 by decide)
   obtain ⟨ju,eu⟩:=Int.eq_ofNat_of_zero_le pok.u0
   obtain ⟨jw,ew⟩:=Int.eq_ofNat_of_zero_le pok.w0
   have hun:=pok.un
   have hwn:=pok.wn
   have hju:ju<n:=by omega
   have hjw:jw<n:=by omega
   dsimp only [zcy]
   rw [Int.zero_add]
   refine ⟨_,rfl,t,_,_,_,rfl,rfl,SqT.of ht',rfl,_,rfl,l,_,_,.ref x3,rfl,rfl,SqL.of hl',zaO (j:=i) e3,?_⟩
   refine ⟨x3,_,rfl,hx3,rfl,_,_,rfl,_,_,rfl,_,_,rfl,rfl,?_⟩
   refine ⟨_,rfl,y,CS,dy,_,_,rfl,h2',T.c_Stream,T.a_heights,zaG _ _,_,rfl,G1,_,_,vu,rfl,rfl,SqL.of h4',evu,_,rfl,y,CS,dy,_,_,rfl,h2',T.c_Stream,T.a_heights,zaG _ _,_,rfl,G1,_,_,vw,rfl,rfl,SqL.of h4',evw,?_⟩
   refine ⟨vu,vw,_,_,4000,rfl,fvu,fvw,trivial,by decide,(hbt _).mono (by decide),(hbt _).mono (by decide),fun c1 hc1=>?_⟩
   have sa:=zad (o:=.tup [.int (h p.u-h p.w).num,.int ((h p.u-h p.w).den:Int)]) hc1
   have f1:Fq K (upd HX c1 (.tup [.int (h p.u-h p.w).num,.int ((h p.u-h p.w).den:Int)])) (.ref c1) (h p.u-h p.w):=Fq.new
   generalize upd HX c1 (.tup [.int (h p.u-h p.w).num,.int ((h p.u-h p.w).den:Int)])=Ha at sa f1 ⊢
   refine ⟨_,rfl,y,CS,dy,_,_,rfl,sa _ _ h2',T.c_Stream,T.a_flows,zbf _ _,_,rfl,F1,_,_,vf,rfl,rfl,SqL.of (sa _ _ h3'),zaO (j:=i) evf,_,rfl,vf,.ref y3,_,_,4000,rfl,fvf.same sa,(pok.fq hy3).same sa,trivial,by decide,bf,bh.mono (by decide),fun c2 hc2=>?_⟩
   have sb:=zad (o:=.tup [.int (ff*hard p).num,.int ((ff*hard p).den:Int)]) hc2
   have f2:Fq K (upd Ha c2 (.tup [.int (ff*hard p).num,.int ((ff*hard p).den:Int)])) (.ref c2) (ff*hard p):=Fq.new
   have sab:=sa.trans sb
   refine zeR (f1.same sb) f2 ⟨_,rfl,?_⟩
   generalize upd Ha c2 (.tup [.int (ff*hard p).num,.int ((ff*hard p).den:Int)])=Hb at sab ⊢
   by_cases e:h p.u-h p.w=ff*hard p
   case neg =>
    rw [decide_eq_false e]
    refine iteT (q _ false (sX.trans sab) ⟨(fun z=>nomatch z),fun z=>absurd ?_ e⟩)
    have ez:=congrArg (fun l=>l[i]?) z.falls
    have ezip:(ps.zip fs)[i]? = some (p,ff):=by rw [List.getElem?_zip_eq_some];exact ⟨hpi,hff⟩
    rw [List.getElem?_map,List.getElem?_map,hpi,ezip] at ez
    simpa using ez
   rw [decide_eq_true e]
   refine iteF ?_
   have hXb:=sab _ _ hX
   have hYb:=hY.same sab
   obtain ⟨va,eva,fva⟩:=hYb.at (zgQ (ps:=ps) (fs:=fs) (i:=i) hju)
   have fvb:=fvf.same sab
   refine ⟨_,rfl,_,rfl,ls,_,_,va,rfl,rfl,SqL.of hXb,by rw [eu];exact zaO (j:=ju) eva,_,rfl,y,CS,dy,_,_,rfl,sab _ _ h2',T.c_Stream,T.a_flows,zbf _ _,_,rfl,F1,_,_,vf,rfl,rfl,SqL.of (sab _ _ h3'),zaO (j:=i) evf,va,vf,_,_,4000,rfl,fva,fvb,trivial,by decide,zoL sml (by omega) _ _,bf,fun c3 hc3=>?_⟩
   have sc:=zad (o:=.tup [.int (dvg ((ps.zip fs).take i) (ju:Int)+ff).num,.int ((dvg ((ps.zip fs).take i) (ju:Int)+ff).den:Int)]) hc3
   have f3:Fq K (upd Hb c3 (.tup [.int (dvg ((ps.zip fs).take i) (ju:Int)+ff).num,.int ((dvg ((ps.zip fs).take i) (ju:Int)+ff).den:Int)])) (.ref c3) (dvg ((ps.zip fs).take i) (ju:Int)+ff):=Fq.new
   have hXc:=sc _ _ hXb
   have hYc:=hYb.same sc
   have sac:=sab.trans sc
   generalize upd Hb c3 (.tup [.int (dvg ((ps.zip fs).take i) (ju:Int)+ff).num,.int ((dvg ((ps.zip fs).take i) (ju:Int)+ff).den:Int)])=Hc at sc f3 hXc hYc sac ⊢
   have hvl:vs.length=n:=by rw [hY.len,zfl]
   refine ⟨_,rfl,_,rfl,ls,vs,p.u,ju,rfl,rfl,hXc,by rw [eu];exact zfF (by omega),?_⟩
   have hYd:Fqs K (upd Hc ls (.lst (vs.set ju (.ref c3)))) (vs.set ju (.ref c3)) ((dvgT n ps fs i).set ju (dvg ((ps.zip fs).take i) (ju:Int)+ff)):=Fqs.ne (Fqs.set ju hYc f3) hXc (fun _=>nofun) (fun _ _=>nofun)
   have sXd:Same H (upd Hc ls (.lst (vs.set ju (.ref c3)))):=fun b o eb=>by rw [zar (zal eb hlsn)];exact (sX.trans sac) _ _ eb
   have hXd:(upd Hc ls (.lst (vs.set ju (.ref c3)))) ls=some (.lst (vs.set ju (.ref c3))):=zae
   have fvd:Fq K (upd Hc ls (.lst (vs.set ju (.ref c3)))) vf ff:=Fq.ne (fvf.same sac) hXc (fun _=>nofun) (fun _ _=>nofun)
   generalize upd Hc ls (.lst (vs.set ju (.ref c3)))=Hd at hYd sXd hXd fvd ⊢
   have hjj:ju≠jw:=fun z=>pok.ne (by rw [eu,ew,z])
   have hat2:((dvgT n ps fs i).set ju (dvg ((ps.zip fs).take i) (ju:Int)+ff))[jw]? = some (dvg ((ps.zip fs).take i) (jw:Int)):=by rw [List.getElem?_set,if_neg hjj];exact zgQ hjw
   obtain ⟨vb,evb,fvb2⟩:=hYd.at hat2
   refine ⟨_,rfl,_,rfl,ls,_,_,vb,rfl,rfl,SqL.of hXd,by rw [ew];exact zaO (j:=jw) evb,_,rfl,y,CS,dy,_,_,rfl,sXd _ _ h2,T.c_Stream,T.a_flows,zbf _ _,_,rfl,F1,_,_,vf,rfl,rfl,SqL.of (sXd _ _ h3),zaO (j:=i) evf,vb,vf,_,_,4000,rfl,fvb2,fvd,trivial,by decide,zoL sml (by omega) _ _,bf,fun c4 hc4=>?_⟩
   have se:=zad (o:=.tup [.int (dvg ((ps.zip fs).take i) (jw:Int)-ff).num,.int ((dvg ((ps.zip fs).take i) (jw:Int)-ff).den:Int)]) hc4
   have f4:Fq K (upd Hd c4 (.tup [.int (dvg ((ps.zip fs).take i) (jw:Int)-ff).num,.int ((dvg ((ps.zip fs).take i) (jw:Int)-ff).den:Int)])) (.ref c4) (dvg ((ps.zip fs).take i) (jw:Int)-ff):=Fq.new
   have hXe:=se _ _ hXd
   have hYe:=hYd.same se
   have sXe:=sXd.trans se
   generalize upd Hd c4 (.tup [.int (dvg ((ps.zip fs).take i) (jw:Int)-ff).num,.int ((dvg ((ps.zip fs).take i) (jw:Int)-ff).den:Int)])=He at se f4 hXe hYe sXe ⊢
   refine ⟨_,rfl,_,rfl,ls,vs.set ju (.ref c3),p.w,jw,rfl,rfl,hXe,by rw [ew];exact zfF (by rw [List.length_set];omega),?_⟩
   refine ⟨_,_,_,_,_,rfl,fun b o eb=>?_,zae,?_,?_⟩
   ·rw [zar (zal eb hlsn)];exact sXe _ _ eb
   ·rw [← zmB hpi hff eu ew pok.ne hju hjw]
    exact Fqs.ne (Fqs.set jw hYe f4) hXe (fun _=>nofun) (fun _ _=>nofun)
   ·intro k p' f' hk hp' hf'
    by_cases ek:k=i
    ·subst ek
     rw [hpi] at hp'
     rw [hff] at hf'
     cases hp'
     cases hf'
     exact e
    ·exact hfall k p' f' (by omega) hp' hf'
  ·rintro σ HX ⟨vs,v5,v6,v7,v8,rfl,sX,hX,hY,hfall⟩
   have efall:(ps.map fun p=>h p.u-h p.w)=(ps.zip fs).map fun z=>z.2*hard z.1:=by
    refine List.ext_getElem? fun k=>?_
    by_cases hk:k<ps.length
    ·have hp':=List.getElem?_eq_getElem hk
     have hf':fs[k]? = some (fs[k]'(by omega)):=List.getElem?_eq_getElem (by omega)
     have ezip:(ps.zip fs)[k]? = some (ps[k],fs[k]'(by omega)):=by rw [List.getElem?_zip_eq_some];exact ⟨hp',hf'⟩
     rw [List.getElem?_map,List.getElem?_map,hp',ezip]
     simp only [Option.map_some]
     rw [hfall k _ _ hk hp' hf']
    ·rw [List.getElem?_eq_none (by rw [List.length_map];omega),List.getElem?_eq_none (by rw [List.length_map];omega)]
   have etk:dvgT n ps fs ps.length=dvgs n ps fs:=by
    unfold dvgT dvgs
    rw [List.take_of_length_le (by omega)]
   rw [etk] at hY
   refine ⟨_,rfl,_,rfl,t,l,n,ps,other,rfl,told.same sX,ho2.1,ho2.2,fun H5 r ms s5 hr5 pt h5=>?_⟩
   have s05:=sX.trans s5
   refine ⟨_,rfl,t,_,_,_,rfl,rfl,SqT.of (s05 _ _ ht),rfl,n,rfl,by omega,by omega,?_⟩
   rw [Int.toNat_natCast]
   refine zdG (lo:=0) (n:=n) (fun i σ HX=>∃ (v10 v11:Option V),σ=[some (.ref t),some (.int one),some (.int other),some (.ref y),some (.ref ls),v5,v6,v7,v8,some (.ref r),v10,v11]∧Same H5 HX ∧
    ∀ j:Nat,j<i→dvg (ps.zip fs) (j:Int)=ind ((j:Int)=one)-ind ((j:Int)=other)∧(((j:Int)=other∨(j:Int)∉ms)→h (j:Int)=0)) ⟨none,none,rfl,Same.refl _,fun j hj=>by omega⟩ ?_ ?_
   ·rintro i σ HY hi ⟨v10,v11,rfl,sY,hdone⟩
    have s0Y:=s05.trans sY
    obtain ⟨va,eva,fva⟩:=((hY.same s5).same sY).at (i:=i) (q:=dvg (ps.zip fs) (i:Int)) (by unfold dvgs;rw [List.getElem?_map,List.getElem?_range hi];rfl)
    obtain ⟨vh,evh,fvh⟩:=zgM (hw.same s0Y) (z:=(i:Int)) (by omega) (by omega)
    have step:dvg (ps.zip fs) (i:Int)=ind ((i:Int)=one)-ind ((i:Int)=other)→(((i:Int)=other∨(i:Int)∉ms)→h (i:Int)=0)→∀ j:Nat,j<i+1→dvg (ps.zip fs) (j:Int)=ind ((j:Int)=one)-ind ((j:Int)=other)∧(((j:Int)=other∨(j:Int)∉ms)→h (j:Int)=0):=fun a b j hj=>by
     by_cases ej:j=i
     ·subst ej;exact ⟨a,b⟩
     ·exact hdone j (by omega)
    dsimp only [zcy]
    rw [Int.zero_add]
    refine ⟨_,rfl,_,rfl,rfl,.inr ⟨_,rfl,_,rfl,_,rfl,rfl,.inr ⟨_,rfl,_,_,rfl,rfl,?_⟩⟩⟩
    refine ⟨_,rfl,_,rfl,ls,_,_,va,rfl,rfl,SqL.of ((s5.trans sY) _ _ hX),zaO (j:=i) eva,_,rfl,by show 2≤sizeLine;decide,fun td htd=>?_⟩
    have sd:=zad (o:=.tup [.int ((if decide (V.int (i:Int)=V.int one)=true then (1:Int) else 0)-(if decide (V.int (i:Int)=V.int other)=true then (1:Int) else 0)),.int 1]) htd
    have fd1:Fq K (upd HY td (.tup [.int ((if decide (V.int (i:Int)=V.int one)=true then (1:Int) else 0)-(if decide (V.int (i:Int)=V.int other)=true then (1:Int) else 0)),.int 1])) (.ref td) (ind ((i:Int)=one)-ind ((i:Int)=other)):=by
     rw [← zk7]
     exact ⟨td,rfl,SqT.of zae⟩
    refine zeR (fva.same sd) fd1 ⟨_,rfl,?_⟩
    generalize upd HY td (.tup [.int ((if decide (V.int (i:Int)=V.int one)=true then (1:Int) else 0)-(if decide (V.int (i:Int)=V.int other)=true then (1:Int) else 0)),.int 1])=Hd at sd ⊢
    have sYd:=sY.trans sd
    by_cases e:dvg (ps.zip fs) (i:Int)=ind ((i:Int)=one)-ind ((i:Int)=other)
    case neg =>
     rw [decide_eq_false e]
     refine iteT (q _ false (s05.trans sYd) ⟨(fun z=>nomatch z),fun z=>absurd ?_ e⟩)
     have ez:=congrArg (fun l=>l[i]?) z.sums
     unfold dvgs zfG at ez
     rw [List.getElem?_map,List.getElem?_map,List.getElem?_range hi] at ez
     simpa using ez
    rw [decide_eq_true e]
    refine iteF ?_
    refine ⟨_,rfl,_,rfl,rfl,_,rfl,?_⟩
    have i2:inV (.int (i:Int)) (ms.map V.int)=decide ((i:Int)∈ms):=zbG _ ms
    by_cases eo:(i:Int)=other
    ·rw [decide_eq_true (show V.int (i:Int)=V.int other by rw [eo])]
     refine iteT ?_
     refine ⟨_,rfl,y,CS,dy,_,_,rfl,(s05.trans sYd) _ _ h2,T.c_Stream,T.a_heights,zaG _ _,_,rfl,G1,_,_,vh,rfl,rfl,SqL.of ((s05.trans sYd) _ _ h4),evh,by show 2≤sizeLine;decide,fun tz htz=>?_⟩
     have sz:=zad (o:=.tup [.int 0,.int 1]) htz
     refine zeR (fvh.same (sd.trans sz)) (zgp zae) ⟨_,rfl,?_⟩
     by_cases e0:h (i:Int)=0
     ·rw [decide_eq_true e0]
      exact iteF ⟨_,_,rfl,sYd.trans sz,step e fun _=>e0⟩
     ·rw [decide_eq_false e0]
      exact iteT (q _ false (s05.trans (sYd.trans sz)) ⟨(fun z=>nomatch z),fun z=>absurd (z.low i hi (.inl eo)) e0⟩)
    ·rw [decide_eq_false (show ¬ V.int (i:Int)=V.int other from fun z=>eo (by injection z))]
     refine iteF ?_
     refine ⟨_,rfl,_,rfl,r,_,rfl,.inl (SqL.of (sYd _ _ h5)),rfl,zaE _,_,rfl,?_⟩
     show if (!inV (.int (i:Int)) (ms.map V.int))=true then _ else _
     rw [i2]
     by_cases m2:(i:Int)∈ms
     ·rw [decide_eq_true m2]
      exact iteF ⟨_,_,rfl,sYd,step e fun z=>by rcases z with z | z;exact absurd z eo;exact absurd m2 z⟩
     ·rw [decide_eq_false m2]
      refine iteT ?_
      refine ⟨_,rfl,y,CS,dy,_,_,rfl,(s05.trans sYd) _ _ h2,T.c_Stream,T.a_heights,zaG _ _,_,rfl,G1,_,_,vh,rfl,rfl,SqL.of ((s05.trans sYd) _ _ h4),evh,by show 2≤sizeLine;decide,fun tz htz=>?_⟩
      have sz:=zad (o:=.tup [.int 0,.int 1]) htz
      refine zeR (fvh.same (sd.trans sz)) (zgp zae) ⟨_,rfl,?_⟩
      by_cases e0:h (i:Int)=0
      ·rw [decide_eq_true e0]
       exact iteF ⟨_,_,rfl,sYd.trans sz,step e fun _=>e0⟩
      ·rw [decide_eq_false e0]
       exact iteT (q _ false (s05.trans (sYd.trans sz)) ⟨(fun z=>nomatch z),fun z=>absurd (z.low i hi (.inr fun rr=>m2 ((pt.2 _).mpr rr))) e0⟩)
   ·rintro σ HY ⟨v10,v11,rfl,sY,hdone⟩
    refine q _ true (s05.trans sY) ⟨fun _=>⟨?_,efall,fun i hi hc=>(hdone i hi).2 ?_⟩,fun _=>rfl⟩
    ·unfold dvgs zfG
     exact List.map_congr_left fun j hj=>(hdone j (List.mem_range.mp hj)).1
    ·rcases hc with hc | hc
     ·exact .inl hc
     ·exact .inr fun hm=>hc ((pt.2 _).mp hm)
end
end K2
namespace K2
open PySem L2 Mp St Bz
theorem zg6 {K:W.Frag} {H:Hp}:∀ ms:List Int,Reps K H (ms.map V.int) (ms.map PyData.int)
 | []=>.nil
 | m::r=>.cons (.int m) (zg6 r)
theorem zk5:∀ ms:List Int,PyData.eqvAll (ms.map PyData.int) (ms.map PyData.int)=true
 | []=>rfl
 | m::r=>by
  show ((m==m)&&PyData.eqvAll (r.map PyData.int) (r.map PyData.int))=true
  rw [zk5 r]
  simp
theorem lay_ints:∀ ms:List Int,PyData.canLayAll0 (ms.map PyData.int)=true
 | []=>rfl
 | m::r=>by
  show (true&&PyData.canLayAll0 (r.map PyData.int))=true
  rw [lay_ints r]
  rfl
theorem zhD:∀ ms:List Int,PyData.depthAll (ms.map PyData.int)≤0
 | []=>Nat.le_refl _
 | m::r=>by
  show max 0 (PyData.depthAll (r.map PyData.int))≤0
  have:=zhD r
  omega
theorem znt {K:W.Frag} {H:Hp} {a b:Addr} {ms:List Int} {Q:V→Hp→Prop} (ha:SqL K H a (ms.map V.int)) (hb:SqL K H b (ms.map V.int)) (k:Q (.bl true) H):rEqD K false (.ref a) (.ref b) H Q :=
 ⟨_,_,.lst ha (zg6 ms),.lst hb (zg6 ms),lay_ints ms,lay_ints ms,(by show PyData.depthAll (ms.map PyData.int)+1≤40;have:=zhD ms;omega),by
  rw [if_neg Bool.false_ne_true]
  have:PyData.eqv (.list (ms.map PyData.int)) (.list (ms.map PyData.int))=true:=zk5 ms
  rw [this]
  exact k⟩
theorem zdx.rep {K:W.Frag} {H:Hp} {v:V} {p:Pipe} (h:zdx K H v p):Rep K H v (.tuple [.int p.u,.int p.w,.tuple [.int p.a,.int p.b]]):=by
 obtain ⟨x,y,rfl,hx,hy⟩:=h
 exact .tup hx (.cons (.int _) (.cons (.int _) (.cons (.tup hy (.cons (.int _) (.cons (.int _) .nil))) .nil)))
def zfQ (ps:List Pipe):List PyData:=ps.map fun p=>.tuple [.int p.u,.int p.w,.tuple [.int p.a,.int p.b]]
theorem zam.reps {K:W.Frag} {H:Hp}:∀ {us:List V} {ps:List Pipe},zam K H us ps→Reps K H us (zfQ ps)
 | _,_,.nil=>.nil
 | _,_,.cons a b=>.cons a.rep (zam.reps b)
theorem zh2:∀ ps:List Pipe,(PyData.list (zfQ ps)).canLay0=true
 | []=>rfl
 | p::ps=>zh2 ps
theorem ziJ (ps:List Pipe):(PyData.list (zfQ ps)).depth≤40:=by
 have key:∀ ps:List Pipe,PyData.depthAll (zfQ ps)≤2:=by
  intro ps
  induction ps with
  | nil=>show 0≤2;decide
  | cons p r ih =>
   show max _ (PyData.depthAll (zfQ r))≤2
   exact Nat.max_le.mpr ⟨by show 2≤2;decide,ih⟩
 show PyData.depthAll (zfQ ps)+1≤40
 have:=key ps
 omega
theorem zam.set {K:W.Frag} {H:Hp}:∀ {vs:List V} {qs:List Pipe} (j:Nat) {v:V} {q:Pipe},zam K H vs qs→zdx K H v q→zam K H (vs.set j v) (qs.set j q)
 | _,_,_,_,_,.nil,_=>.nil
 | _,_,0,_,_,.cons _ t,h=>.cons h t
 | _,_,j+1,_,_,.cons r t,h=>.cons r (zam.set j t h)
structure Sm9 (n:Nat) (ps:List Pipe):Prop where
 ok:zbV n ps
 le:ps.length≤9
 ab:∀ p∈ps,p.a≤2^11∧p.b≤2^5
theorem Sm9.small {n:Nat} {ps:List Pipe} (s:Sm9 n ps) {one other:Int} (ho:0≤other∧other<n) (hr:Reach ps one other):zmS n ps one other :=
 s.ok.zqj (ka:=11) (kb:=5) (L:=9) (fun p hp=>(s.ab p hp).1) (fun p hp=>(s.ab p hp).2) s.le (by decide) (by decide) ho hr.symm
def zls (fs:List Rat):Prop:=∃ M:Int,M≠0∧M.natAbs≤2^900∧∀ f∈fs,Dn M (2^1010) f
theorem Sm9.fine {n:Nat} {ps:List Pipe} (s:Sm9 n ps) {one other:Int} (ho:0≤other∧other<n) (hr:Reach ps one other):zls (flw n ps one other):=by
 obtain ⟨N,N0,hN,hd⟩:=s.ok.den (ka:=11) (kb:=5) (L:=9) (fun p hp=>(s.ab p hp).1) (fun p hp=>(s.ab p hp).2) s.le (by decide) ho hr.symm
 obtain ⟨S0,hS,hSle⟩:=zgy (ps:=ps) (ka:=11) fun p hp=>⟨(s.ok.ok p hp).a1,(s.ab p hp).1⟩
 have hS99:zaD ps≤2^99:=Int.le_trans hSle (by
  have:(2:Nat)^(11*ps.length)≤2^99:=Nat.pow_le_pow_right (by decide) (by have:=s.le;omega)
  exact_mod_cast this)
 have hSn:(zaD ps).natAbs≤2^99:=by
  have:((zaD ps).natAbs:Int)≤((2^99:Nat):Int):=by rw [Int.natAbs_of_nonneg (Int.le_of_lt S0)];exact_mod_cast hS99
  exact_mod_cast this
 refine ⟨zaD ps*N,Int.mul_ne_zero (by omega) N0,?_,fun f hf=>?_⟩
 ·rw [Int.natAbs_mul]
  have h1:N.natAbs≤2^784:=hN
  have:=Nat.mul_le_mul hSn h1
  rw [← Nat.pow_add] at this
  exact Nat.le_trans this (Nat.pow_le_pow_right (by decide) (by decide))
 ·obtain ⟨p,hp,rfl⟩:=List.mem_map.mp hf
  have pok:=s.ok.ok p hp
  have de:Dn (zaD ps) (2^104) (ease p):=⟨cz (zaD ps) p,by rw [zmH pok.a1 (hS p hp)];grind,zqR (ks:=99) (kb:=5) S0 hS99 pok.a1 pok.b1 (s.ab p hp).2⟩
  have dh:Dn N (2^896+2^896) (hOf n ps one other p.u-hOf n ps one other p.w):=(hd p.u).sub (hd p.w)
  refine (de.mul dh).mono ?_
  have e1:2^896+2^896=2^897:=by rw [← Nat.two_mul,← Nat.pow_succ']
  rw [e1,← Nat.pow_add]
  exact Nat.pow_le_pow_right (by decide) (by decide)
theorem zls.sum {fs:List Rat} (h:zls fs):zdI 1990 fs:=by
 obtain ⟨M,h0,hM,hd⟩:=h
 refine ⟨M,2^1010,h0,zh7 hM (by decide),?_,hd⟩
 have:28*2^1010≤2^5*2^1010:=Nat.mul_le_mul_right _ (by decide)
 rw [← Nat.pow_add] at this
 exact zh7 this (by decide)
theorem zls.half {fs:List Rat} (h:zls fs) {k:Nat} {f:Rat} (hf:f∈fs):zdI 1990 (fs.set k (f+1/2)):=by
 obtain ⟨M,h0,hM,hd⟩:=h
 have d1:Dn 2 2 (1:Rat):=⟨2,by show (1:Rat)*2=2;grind,by decide⟩
 have dd:∀ g∈fs,Dn (M*2) (2^1011) g:=fun g hg=>by
  have:=(hd g hg).mul d1
  rw [Rat.mul_one] at this
  exact this.mono (by rw [← Nat.pow_succ];exact Nat.le_refl _)
 have dh:Dn (M*2) (2^900) (1/2:Rat):=⟨M,by rw [Rat.intCast_mul];show (1/2:Rat)*((M:Rat)*2)=M;grind,hM⟩
 refine ⟨M*2,2^1012,Int.mul_ne_zero h0 (by decide),?_,?_,fun g hg=>?_⟩
 ·rw [Int.natAbs_mul]
  have:=Nat.mul_le_mul hM (show (2:Int).natAbs≤2^1 by decide)
  rw [← Nat.pow_add] at this
  exact zh7 this (by decide)
 ·have:28*2^1012≤2^5*2^1012:=Nat.mul_le_mul_right _ (by decide)
  rw [← Nat.pow_add] at this
  exact zh7 this (by decide)
 ·rcases List.mem_or_eq_of_mem_set hg with h | h
  ·exact (dd g h).mono (Nat.pow_le_pow_right (by decide) (by decide))
  ·rw [h]
   refine ((dd f hf).add dh).mono ?_
   have e1:2^900≤2^1011:=Nat.pow_le_pow_right (by decide) (by decide)
   have e2:2^1012=2^1011+2^1011:=by rw [← Nat.two_mul,← Nat.pow_succ']
   rw [e2]
   exact Nat.add_le_add_left e1 _
theorem zgN (n:Nat) (ps:List Pipe) (one other:Int):(flw n ps one other).length=ps.length:=by unfold flw;rw [List.length_map]
def Sm1 (ps:List Pipe):Prop:=ps.length≤9∧∀ p∈ps,p.a≤1000∧p.b≤30
theorem Sm1.sm9 {n:Nat} {ps:List Pipe} (h:Sm1 ps) (ok:zbV n ps):Sm9 n ps:=⟨ok,h.1,fun p hp=>⟨by have:=(h.2 p hp).1;show p.a≤2048;omega,by have:=(h.2 p hp).2;show p.b≤32;omega⟩⟩
def zlD (K:W.Frag) (C:Addr):Sp:=fun vs H Q _=>∃ (x L t l:Addr) (n:Nat) (ps:List Pipe) (one other:Int),vs=[.ref x,.ref t,.int one,.int other]∧zdp K C H x L n ps∧Told K H t l n ps∧Sm1 ps∧(0≤one∧one<n)∧(0≤other∧other<n)∧∀ H',Same H H'→Q (.bl true) H'
def zkp (K:W.Frag) (C:Addr):Sp:=fun vs H Q _=>∃ (t l:Addr) (n:Nat) (ps:List Pipe) (c:Int),vs=[.ref t,.int c]∧Told K H t l n ps∧Sm1 ps ∧
 ∀ (H':Hp) (x L:Addr) (ps':List Pipe),Same H H'→zdp K C H' x L n ps'→Sm9 n ps'→ps'.length=ps.length→(∀ u v,Reach ps' u v↔Reach ps u v)→Q (.ref x) H'
def zo8 (K:W.Frag) (C CS:Addr):Sp:=fun vs H Q _=>∃ (x L t l:Addr) (n:Nat) (ps:List Pipe) (one other c:Int),vs=[.ref x,.ref t,.int one,.int other,.int c]∧zdp K C H x L n ps∧Told K H t l n ps∧Sm1 ps∧(0≤one∧one<n)∧(0≤other∧other<n)∧Reach ps one other ∧
 ∀ (H':Hp) (y:Addr) (fs:List Rat) (h:Int→Rat),Same H H'→zhr K CS H' y n ps fs h→Q (.ref y) H'
section
variable {P:Program} {w:World} {K:W.Frag} {mg:Str→Option Value} {base:Heap} {C CS CP CA f fa fb fc fg fh fi fp fq fs fw fz:Addr} {fd fda fdb fdc fdg fdh fdi fdp fdq fds fdw fdz:FuncData} {t1 t2 t3:Tok}
theorem znC (F:Fun K "_law_right" "_law_right" zcm f fd) (T:TxtV K mg C CS CP CA)
  (zcG:mg "stream" = some (.ref fa)) (zcH:W.keepIn K (.ref fa)=true) (zcI:Binds K fda ["net","one","other"] []) (zcJ:FnOk P w K mg base CX0 7 fa fda ["net","one","other"] (zgd K C CS CP))
  (zdg:mg "_law_part" = some (.ref fb)) (zdh:W.keepIn K (.ref fb)=true) (zdn:Binds K fdb ["_law_told_here","_law_at"] []) (zdq:FnOk P w K mg base CX0 1 fb fdb ["_law_told_here","_law_at"] (zhO K))
  (zfb:mg "hardness_of" = some (.ref fc)) (zfi:W.keepIn K (.ref fc)=true) (zfs:Binds K fdc ["net","one","other"] []) (zfy:FnOk P w K mg base CX0 7 fc fdc ["net","one","other"] (zkq K C))
  (zd3:mg "_law_streams" = some (.ref fg)) (zd5:W.keepIn K (.ref fg)=true) (zd7:Binds K fdg ["_law_told_here","_law_one","_law_other","_law_found"] []) (zd9:FnOk P w K mg base CX0 4 fg fdg ["_law_told_here","_law_one","_law_other","_law_found"] (zlE K CS))
  (zgB:mg "sums_of" = some (.ref fh)) (zgJ:W.keepIn K (.ref fh)=true) (zgU:Binds K fdh ["net","flows"] []) (zgX:FnOk P w K mg base CX0 6 fh fdh ["net","flows"] (zl7 K C)):FnOk P w K mg base CX0 8 f fd ["_law_net","_law_told_here","_law_one","_law_other"] (zlD K C):=by
 refine F.ok zcR (fun vs H Q E h=>?_) (fun cdv A outer s H vs Q E hr h=>?_)
 ·obtain ⟨x,L,t,l,n,ps,one,other,rfl,_⟩:=h
  rfl
 ·obtain ⟨x,L,t,l,n,ps,one,other,rfl,net,told,sm,ho1,ho2,q⟩:=h
  obtain ⟨ht,⟨vp,hl,hp⟩,ok⟩:=id told
  have n8:=ok.n8
  have hle:=ok.le
  have s9:=sm.sm9 ok
  refine ⟨_,(zaf (zax (i:=4) zcR.nd rfl (Or.inl rfl) (zak zcJ (hr.mono (by decide)) rfl zcG zcH zcI .nil zaq (zaa (pv 0) (zaa (pv 2) (zaa (pv 3) zac)))))
   (zaf (zaP (PW.pt (pw_or (zbj (zaX (ze2 rfl T.n_isinstance (pv 4) rfl T.znT))) (pw_or1 (zat zcd (ze2 rfl T.n_isinstance (pv 4) rfl T.zbH) (ze2 rfl T.n_isinstance (pv 4) rfl T.zdO) (za0 _))))) (zaj (zas zcs)) zaz)
   (zaf (zax (i:=5) zcR.nd rfl (Or.inl rfl) (zak zdq (hr.mono (by decide)) rfl zdg zdh zdn .nil zaq (zaa (pv 1) (zaa (pv 2) zac))))
   (zaf (zaP (zat zbu (pv 3) (pv 5) rfl) (zaj (zas (zds (ze2 rfl T.n_isinstance (pv 4) rfl T.zdO) (zds (zaM (zlV hr.units) (zaL (pv 4) rfl) (pv 5) (za0 _)) (zeb (zaM zqv (zak zfy (hr.mono (by decide)) rfl zfb zfi zfs .nil zaq (zaa (pv 0) (zaa (pv 2) (zaa (pv 3) zac)))) zoB (za0 _))))))) zaz)
   (zaf (zaP (PW.pt (pw_or (zbj (zaX (ze2 rfl T.n_isinstance (pv 4) rfl T.zbH))) (pw_or1 (zbj (zaX (zak zd9 (hr.mono (by decide)) rfl zd3 zd5 zd7 .nil zaq (zaa (pv 1) (zaa (pv 2) (zaa (pv 3) (zaa (pv 4) zac)))))))))) (zaj (zas zcs)) zaz)
   (zaf (zaP (zat (zeW hr.units) (zak zfy (hr.mono (by decide)) rfl zfb zfi zfs .nil zaq (zaa (pv 0) (zaa (pv 2) (zaa (pv 3) zac)))) (zay zaK (zaL (pv 4) rfl) (pv 2) (fun _ _=>rfl)) (za0 _)) (zaj (zas zcs)) zaz)
   (zaf (zd1 (i:=6) ["_law_place"] [2,3] rfl rfl (by kernel_rfl) zcR.nd rfl rfl (zbo rfl T.n_range (zaa (zay zav (pv 1) zag (fun _ _=>rfl)) zac)) (fun _ _ _ _=>(zan (i:=0) (show (["_law_place","_law_one","_law_other"]:List Str).Nodup by decide +kernel) rfl (Or.inl rfl))) (fun _ _ _ _=>zaw) (fun _ _ _ _=>zbI) (fun _ _ _ _=>(zaI (zaa (za1 zh4 (zbd zei (by rfl) T.n_int zfW (zaa (zaM zcd (pv 0) (pv 1) (za0 _)) zac)) (zbd zei (by rfl) T.n_int zfW (zaa (zaM zcd (pv 0) (pv 2) (za0 _)) zac))) (zaa zag zac)))))
   (zaj (zas (zaM (zlV hr.units) (zak zgX (hr.mono (by decide)) rfl zgB zgJ zgU .nil zaq (zaa (pv 0) (zaa (zaL (pv 4) rfl) zac))) (pv 6) (za0 _))))))))))),?_⟩
  refine ⟨_,rfl,_,rfl,_,rfl,x,L,n,ps,one,other,rfl,net,ok,ho1,ho2,fun r=>s9.small ho2 r,(fun rr H1 y F1 G1 us ws s1 hy hF1 hG1 nFG st fu fw=>?_),fun nr H1 y F1 ms' s1 hy hF1 ap pt'=>?_⟩
  ·obtain ⟨⟨dy,h2⟩,h3,h4⟩:=id st
   refine ⟨_,rfl,_,_,_,_,_,rfl,rfl,T.tyS st,T.i_SA,_,rfl,iteF ?_⟩
   refine ⟨_,rfl,_,_,_,_,_,rfl,rfl,T.tyS st,T.i_SS,_,rfl,_,_,_,_,_,rfl,rfl,T.tyS st,T.i_SP,rfl,_,rfl,?_⟩
   rw [decide_eq_false (show ¬ V.bl true=V.bl false from nofun)]
   refine iteF ?_
   refine ⟨_,rfl,_,rfl,t,l,n,ps,one,rfl,told.same s1,ho1.1,ho1.2,fun H2 r2 ms s2 hr2 pt h5=>?_⟩
   have s02:=s1.trans s2
   have i2:inV (.int other) (ms.map V.int)=decide (other∈ms):=zbG other ms
   refine ⟨_,rfl,_,rfl,r2,_,rfl,.inl (SqL.of h5),rfl,zaE _,_,rfl,?_⟩
   show if (!inV (.int other) (ms.map V.int))=true then _ else _
   rw [i2,decide_eq_true ((pt.2 other).mpr rr)]
   refine iteF ?_
   have isH:=ok.isH ho2 rr.symm
   have hand:zhr K CS H1 y n ps (flw n ps one other) (hOf n ps one other):=⟨⟨F1,G1,us,ws,st,fu,fw⟩,zgN _ _ _ _,(s9.fine ho2 rr).sum,fun z=>(s9.small ho2 rr z).mono (by decide)⟩
   refine ⟨_,rfl,_,_,_,_,_,rfl,rfl,T.tyS (st.same s2),T.i_SS,_,rfl,iteF ?_⟩
   refine ⟨_,rfl,_,rfl,_,rfl,_,rfl,t,l,y,n,ps,one,other,_,_,rfl,told.same s02,hand.same s2,ho1,ho2,fun H3 b s3 hb=>?_⟩
   obtain rfl:b=true:=hb.mpr (zea ok.nice isH)
   refine ⟨_,rfl,iteF ?_⟩
   have s03:=s02.trans s3
   refine ⟨_,rfl,_,rfl,_,rfl,x,L,n,ps,one,other,rfl,net.same s03,ok,ho1,ho2,fun H4 v4 s4 o4=>?_⟩
   rw [show hdQ n ps one other=some (hOf n ps one other one) by unfold hdQ;rw [if_pos rr]] at o4
   have s14:=(s2.trans s3).trans s4
   have s04:=s1.trans s14
   obtain ⟨vh,evh,fvh⟩:=zgM (h:=hOf n ps one other) (fw.same s14) ho1.1 ho1.2
   refine ⟨_,rfl,y,CS,dy,_,_,rfl,s14 _ _ h2,T.c_Stream,T.a_heights,zaG _ _,_,rfl,G1,_,_,vh,rfl,rfl,SqL.of (s14 _ _ h4),evh,zeR (show Fq K H4 v4 _ from o4) fvh ⟨_,rfl,?_⟩⟩
   rw [decide_eq_true rfl]
   refine iteF ?_
   refine ⟨_,rfl,t,_,_,_,rfl,rfl,SqT.of (s04 _ _ ht),rfl,n,rfl,by omega,by omega,?_⟩
   rw [Int.toNat_natCast]
   refine zcD (fun i ys HX=>Same H4 HX∧Fqs K HX ys (zfG i one other)) ⟨Same.refl _,.nil⟩ (zao (by omega)) ?_ ?_ ?_
   ·rintro i ys HX hi ⟨_,hY⟩
    rw [hY.len]
    unfold zfG
    rw [List.length_map,List.length_range]
    exact Nat.le_refl _
   ·rintro i ys HX N hi ⟨sx,hY⟩ hN C' s₀ H₀ ex
    dsimp only [zaQ,zcy]
    refine iteT ?_
    refine ⟨_,rfl,_,rfl,rfl,.inr ⟨_,rfl,_,rfl,_,rfl,rfl,.inr ⟨_,rfl,_,_,rfl,rfl,by show 2≤sizeLine;decide,fun td htd=>hN _ _ ⟨sx.trans (zad htd),?_⟩⟩⟩⟩
    rw [Int.zero_add]
    unfold zfG at hY ⊢
    rw [List.range_succ,List.map_append]
    refine Fqs.snoc (hY.same (zad htd)) ?_
    show Fq K _ (.ref td) (ind ((i:Int)=one)-ind ((i:Int)=other))
    rw [← zk7]
    exact ⟨td,rfl,SqT.of zae⟩
   rintro vd HD0 ⟨sd,hYd⟩ ld hld
   have sd1:=zad (o:=.lst vd) hld
   have hld1:(upd HD0 ld (.lst vd)) ld=some (.lst vd):=zae
   have hYd1:=hYd.same sd1
   have sB:=sd.trans sd1
   generalize upd HD0 ld (.lst vd)=HB at sd1 hld1 hYd1 sB ⊢
   have s1B:=s14.trans sB
   refine ⟨_,rfl,_,rfl,y,CS,dy,_,_,rfl,s1B _ _ h2,T.c_Stream,T.a_flows,zbf _ _,x,L,F1,n,ps,us,_,rfl,net.same (s1.trans s1B),ok,SqL.of (s1B _ _ h3),fu.same s1B,zgN _ _ _ _,(s9.fine ho2 rr).sum.up (by decide),fun H6 r6 us6 s6 hr6 h6 hF6=>?_⟩
   refine ⟨_,rfl,zhU (SqL.of h6) hF6 (SqL.of (s6 _ _ hld1)) (hYd1.same s6) ?_⟩
   rw [if_neg Bool.false_ne_true,decide_eq_true (zea ok.nice isH).sums]
   exact q _ ((s1.trans s1B).trans s6)
  ·obtain ⟨⟨dy,h2⟩,h3⟩:=id ap
   refine ⟨_,rfl,_,_,_,_,_,rfl,rfl,T.tyP ap,T.i_PA,_,rfl,iteF ?_⟩
   refine ⟨_,rfl,_,_,_,_,_,rfl,rfl,T.tyP ap,T.i_PS,_,rfl,_,_,_,_,_,rfl,rfl,T.tyP ap,T.i_PP,rfl,_,rfl,?_⟩
   rw [decide_eq_false (show ¬ V.bl false=V.bl true from nofun)]
   refine iteF ?_
   refine ⟨_,rfl,_,rfl,t,l,n,ps,one,rfl,told.same s1,ho1.1,ho1.2,fun H2 r2 ms s2 hr2 pt h5=>?_⟩
   have s02:=s1.trans s2
   obtain rfl:ms'=ms:=pt'.unique pt
   have i2:inV (.int other) (ms'.map V.int)=decide (other∈ms'):=zbG other ms'
   refine ⟨_,rfl,_,rfl,r2,_,rfl,.inl (SqL.of h5),rfl,zaE _,_,rfl,?_⟩
   show if (!inV (.int other) (ms'.map V.int))=true then _ else _
   rw [i2,decide_eq_false (fun z=>nr ((pt.2 other).mp z))]
   refine iteT ?_
   refine ⟨_,rfl,_,_,_,_,_,rfl,rfl,T.tyP (ap.same s2),T.i_PP,_,rfl,iteT ?_⟩
   refine ⟨_,rfl,y,CP,dy,_,_,rfl,s2 _ _ h2,T.c_Apart,T.a_places,zcp _,_,rfl,znt (SqL.of (s2 _ _ h3)) (SqL.of h5) ⟨_,rfl,iteT ?_⟩⟩
   refine ⟨_,rfl,_,rfl,_,rfl,x,L,n,ps,one,other,rfl,net.same s02,ok,ho1,ho2,fun H4 v4 s4 o4=>?_⟩
   rw [show hdQ n ps one other=none by unfold hdQ;rw [if_neg nr]] at o4
   obtain rfl:v4=V.non:=o4
   exact ⟨rfl,q _ (s02.trans s4)⟩
theorem zmb (F:Fun K "_law_harder" "_law_harder" zbP f fd) (T:TxtV K mg C CS CP CA)
  (zeZ:mg "plus" = some (.ref fa)) (zfh:W.keepIn K (.ref fa)=true) (zfq:Binds K fda ["one","other"] []) (zfw:FnOk P w K mg base CX0 3 fa fda ["one","other"] (zeO K (·+·) fun _=>True))
  (zjt:Mk K C fi) (ziQ:mg "Net" = some (.ref C)) (zmO:Binds K fdi ["self","places","pipes"] []) (zmY:FnOk P w K mg base CX0 6 fi fdi ["self","places","pipes"] (zlF K C)):FnOk P w K mg base CX0 8 f fd ["_law_told_here","_law_cell"] (zkp K C):=by
 refine F.ok zd0 (fun vs H Q E h=>?_) (fun cdv A outer s H vs Q E hr h=>?_)
 ·obtain ⟨t,l,n,ps,c,rfl,_⟩:=h
  rfl
 ·obtain ⟨t,l,n,ps,c,rfl,told,sm,q⟩:=h
  obtain ⟨ht,⟨vp,hl,hp⟩,ok⟩:=id told
  have hvp:vp.length=ps.length:=Paired.length hp
  refine ⟨_,(zaf (zax (i:=2) zd0.nd rfl (Or.inl rfl) (zbd zbv (by rfl) T.n_list zdm (zaa (zay zav (pv 0) zag (fun _ _=>rfl)) zac)))
   (zaf (zaP (zat (zeW hr.units) (pv 2) (zdE zac) (za0 _)) (zaf (zax (i:=3) zd0.nd rfl (Or.inl rfl) (za1 zbk (pv 1) (za2 za4 (by rfl) T.n_len zcr (zaa (pv 2) zac))))
   (zaj (zfP (zaI (zaa (zay zav (zay zaK (pv 2) (pv 3) (fun _ _=>rfl)) zag (fun _ _=>rfl)) (zaa (zay zav (zay zaK (pv 2) (pv 3) (fun _ _=>rfl)) zag (fun _ _=>rfl)) (zaa (zak zfw (hr.mono (by decide)) rfl zeZ zfh zfq .nil zaq (zaa (zay zav (zay zaK (pv 2) (pv 3) (fun _ _=>rfl)) zag (fun _ _=>rfl)) (zaa (zaI (zaa zag (zaa zag zac))) zac))) zac)))) (zh3 (pv 2) (pv 3) set_list)))) zaz)
   (zaj (zas (ze1 zjt zmY (hr.mono (by decide)) rfl ziQ zmO .nil zaq (zaa (zay zav (pv 0) zag (fun _ _=>rfl)) (zaa (pv 2) zac))))))),?_⟩
  refine ⟨_,rfl,t,_,_,_,rfl,rfl,SqT.of ht,rfl,l,vp,rfl,.inl (SqL.of hl),fun lc hlc=>?_⟩
  have s1:=zad (o:=.lst vp) hlc
  have hlc1:(upd H lc (.lst vp)) lc=some (.lst vp):=zae
  generalize upd H lc (.lst vp)=H1 at s1 hlc1 ⊢
  dsimp only [zcy]
  refine zdz (fun σ H'=>∃ (us:List V) (ps':List Pipe) (v3:Option V),σ=[some (.ref t),some (.int c),some (.ref lc),v3]∧Same H H'∧H' lc=some (.lst us)∧zam K H' us ps'∧Sm9 n ps'∧ps'.length=ps.length∧∀ u v,Reach ps' u v↔Reach ps u v) ?_ ?_
  ·rintro σ H2 ⟨us,ps',v3,rfl,s2,h2,hp2,s9,hl2,hre⟩
   refine ⟨_,rfl,t,_,_,_,rfl,rfl,SqT.of (s2 _ _ ht),rfl,_,rfl,?_⟩
   intro x dx nx ndx nex
   have s0:=ze3 (C:=C) nx ndx
   refine ⟨x,dx,lc,n,us,ps',rfl,zae,SqL.of (s0 _ _ h2),zam.same s0 hp2,s9.ok,fun H3 L hL net kp=>⟨rfl,?_⟩⟩
   have s3:=zdf (n:=(n:Int)) nx ndx kp
   exact q _ x L ps' (s2.trans s3) net s9 hl2 hre
  ·intro NX hN
   refine ⟨_,rfl,by show 0≤sizeLine;decide,fun e0 he0=>?_⟩
   have s2:=zad (o:=.lst []) he0
   have he2:(upd H1 e0 (.lst [])) e0=some (.lst []):=zae
   have s02:=s1.trans s2
   have hlc2:=s2 _ _ hlc1
   generalize upd H1 e0 (.lst [])=H2 at s2 he2 s02 hlc2 ⊢
   have hp2:=zam.same s02 hp
   refine ⟨_,_,.lst (SqL.of hlc2) hp2.reps,.lst (SqL.of he2) .nil,zh2 ps,rfl,ziJ ps,_,rfl,?_⟩
   by_cases e:ps=[]
   ·have e1:PyData.eqv (.list (zfQ ps)) (.list [])=true:=by rw [e];rfl
    rw [if_pos rfl,e1]
    exact iteF (hN _ _ ⟨vp,ps,none,rfl,s02,hlc2,hp2,sm.sm9 ok,rfl,fun _ _=>Iff.rfl⟩)
   ·have e1:PyData.eqv (.list (zfQ ps)) (.list [])=false:=by
     cases hps:ps with
     | nil=>exact absurd hps e
     | cons p r=>rfl
    rw [if_pos rfl,e1]
    refine iteT ?_
    have hpos:0<ps.length:=List.length_pos_iff.mpr e
    refine ⟨_,rfl,_,rfl,lc,_,rfl,.inl (SqL.of hlc2),_,_,rfl,rfl,by show (0:Int)<(vp.length:Int);omega,?_⟩
    have k0:=Int.emod_nonneg c (show (vp.length:Int)≠0 by omega)
    have kn:=Int.emod_lt_of_pos c (show (0:Int)<(vp.length:Int) by omega)
    dsimp only
    generalize c % (vp.length:Int)=kk at *
    obtain ⟨j,rfl⟩:=Int.eq_ofNat_of_zero_le k0
    have hj:j<vp.length:=by omega
    obtain ⟨p,hpj,⟨x3,y3,e3,hx3,hy3⟩⟩:=hp2.get (List.getElem?_eq_getElem hj)
    have pm:=List.mem_of_getElem? hpj
    have pok:=ok.ok p pm
    obtain ⟨pa4,pb3⟩:=sm.2 p pm
    have at3:atI vp (j:Int)=some (.ref x3):=by rw [← e3];exact zaO (j:=j) (List.getElem?_eq_getElem hj)
    obtain ⟨bh,_⟩:=pok.btq (k:=31) (by have:=pok.aM;omega) (by have:=pok.bM;omega)
    refine ⟨_,rfl,_,rfl,lc,_,_,.ref x3,rfl,rfl,SqL.of hlc2,at3,x3,_,_,_,rfl,rfl,hx3,rfl,?_⟩
    refine ⟨_,rfl,_,rfl,lc,_,_,.ref x3,rfl,rfl,SqL.of hlc2,at3,x3,_,_,_,rfl,rfl,hx3,rfl,?_⟩
    refine ⟨_,rfl,_,rfl,lc,_,_,.ref x3,rfl,rfl,SqL.of hlc2,at3,x3,_,_,_,rfl,rfl,hx3,rfl,by show 2≤sizeLine;decide,fun t1 ht1=>?_⟩
    have s3:=zad (o:=.tup [.int 1,.int 1]) ht1
    have ht13:(upd H2 t1 (.tup [.int 1,.int 1])) t1=some (.tup [.int 1,.int 1]):=zae
    generalize upd H2 t1 (.tup [.int 1,.int 1])=H3 at s3 ht13 ⊢
    refine ⟨.ref y3,.ref t1,_,_,4000,rfl,(pok.fq hy3).same s3,zoD ht13,trivial,by decide,bh.mono (by decide),btq1.mono (by decide),fun c3 hc3=>?_⟩
    have s4:=zad (o:=.tup [.int (hard p+1).num,.int ((hard p+1).den:Int)]) hc3
    have hc4:(upd H3 c3 (.tup [.int (hard p+1).num,.int ((hard p+1).den:Int)])) c3=some (.tup [.int (hard p+1).num,.int ((hard p+1).den:Int)]):=zae
    have s24:=s3.trans s4
    have hp4:(hard p+1)=Rat.divInt (p.a+p.b) p.b:=by
     have:=zfT pok.b1
     rw [Rat.divInt_eq_div,Rat.intCast_add]
     unfold hard
     grind
    have hnum:(hard p+1).num.natAbs≤(p.a+p.b).natAbs:=by rw [hp4];exact My.zh6 _ _ (by have:=pok.b1;omega)
    have hden:(hard p+1).den≤p.b.natAbs:=by rw [hp4];exact My.zhE _ _ (by have:=pok.b1;omega)
    have hnp:0<(hard p+1).num:=by
     have:=zk1 pok.a1 pok.b1
     have hq:0<hard p+1:=by grind
     have h0:=Rat.num_nonneg.mpr (Rat.le_of_lt hq)
     have h1:(hard p+1).num≠0:=fun z=>by rw [Rat.num_eq_zero.mp z] at hq;exact absurd hq (by decide)
     omega
    have hdp:=(hard p+1).den_pos
    have a1:=pok.a1
    have b1:=pok.b1
    generalize upd H3 c3 (.tup [.int (hard p+1).num,.int ((hard p+1).den:Int)])=H4 at s4 hc4 s24 ⊢
    generalize hqq:hard p+1=qq at hc4 hnum hden hnp hdp ⊢
    refine ⟨by show 3≤sizeLine;decide,fun tp htp=>?_⟩
    have s5:=zad (o:=.tup [.int p.u,.int p.w,.ref c3]) htp
    have htp5:(upd H4 tp (.tup [.int p.u,.int p.w,.ref c3])) tp=some (.tup [.int p.u,.int p.w,.ref c3]):=zae
    have hc5:=s5 _ _ hc4
    have s25:=(s3.trans s4).trans s5
    have hlc5:=s25 _ _ hlc2
    generalize upd H4 tp (.tup [.int p.u,.int p.w,.ref c3])=H5 at s5 htp5 hc5 s25 hlc5 ⊢
    refine ⟨_,rfl,_,rfl,lc,vp,j,j,rfl,rfl,hlc5,zfF hj,?_⟩
    have okq:zdJ n ⟨p.u,p.w,qq.num,(qq.den:Int)⟩:=⟨pok.u0,pok.un,pok.w0,pok.wn,pok.ne,by show 1≤qq.num;omega,by show qq.num≤1000000000;omega,by show 1≤(qq.den:Int);omega,by show (qq.den:Int)≤1000000000;omega,zm3 qq⟩
    have okE:zbV n (ps.set j ⟨p.u,p.w,qq.num,(qq.den:Int)⟩):=⟨ok.n1,ok.n8,fun q hq=>by
     rcases List.mem_or_eq_of_mem_set hq with h | h
     ·exact ok.ok q h
     ·rw [h];exact okq,by rw [List.length_set];exact ok.le⟩
    have adj:∀ {y z:Int},Adj (ps.set j ⟨p.u,p.w,qq.num,(qq.den:Int)⟩) y z↔Adj ps y z:=fun {y z}=>zpX (p:=p) (q:=⟨p.u,p.w,qq.num,(qq.den:Int)⟩) rfl rfl hpj
    refine hN _ _ ⟨_,ps.set j ⟨p.u,p.w,qq.num,(qq.den:Int)⟩,_,rfl,fun b o eb=>?_,zae,?_,⟨okE,by rw [List.length_set];exact sm.1,fun q hq=>?_⟩,List.length_set,fun u v=>⟨Reach.zp2 fun _ _=>adj.mp,Reach.zp2 fun _ _=>adj.mpr⟩⟩
    ·rw [zar (zal eb hlc)]
     exact (s02.trans s25) _ _ eb
    ·exact zam.ne hlc5 (fun _=>nofun) (fun _ _=>nofun) (zam.set j (zam.same s25 hp2) ⟨tp,c3,rfl,SqT.of htp5,SqT.of hc5⟩)
    ·rcases List.mem_or_eq_of_mem_set hq with h | h
     ·exact (sm.sm9 ok).ab q h
     ·rw [h];exact ⟨by show qq.num≤2048;omega,by show (qq.den:Int)≤32;omega⟩
end
end K2
namespace K2
open PySem L2 Mp St Bz
structure zpP (K:W.Frag) (CS:Addr) (H:Hp) (y:Addr) (n:Nat) (ps:List Pipe):Prop where
 st:∃ (F G:Addr) (us ws:List V) (fs:List Rat) (h:Int→Rat),zcS CS H y F G us ws∧Fqs K H us fs∧zmU K H ws n h∧fs.length=ps.length∧zls fs∧∀ z,BtQ 1500 (h z)
structure TwoL (K:W.Frag) (H H':Hp) (lf lh:Addr) (n:Nat) (us ws:List V) (fs:List Rat) (h:Int→Rat):Prop where
 se:Same H H'
 nf:H lf=none
 nh:H lh=none
 ne:lf≠lh
 lf:H' lf=some (.lst us)
 lh:H' lh=some (.lst ws)
 fu:Fqs K H' us fs
 fw:zmU K H' ws n h
theorem zhR (h:Int→Rat) (n j:Nat) (q:Rat):((List.range n).map fun i:Nat=>h (i:Int)).set j q=(List.range n).map fun i:Nat=>(fun z:Int=>if z=(j:Int) then q else h z) (i:Int):=by
 refine List.ext_getElem? fun k=>?_
 rw [List.getElem?_set]
 by_cases e:j=k
 ·subst e
  rw [if_pos rfl]
  by_cases hk:j<n
  ·rw [if_pos (by rw [List.length_map,List.length_range];exact hk),List.getElem?_map,List.getElem?_range hk]
   simp
  ·rw [if_neg (by rw [List.length_map,List.length_range];exact hk),List.getElem?_eq_none (by rw [List.length_map,List.length_range];omega)]
 ·rw [if_neg e,List.getElem?_map,List.getElem?_map]
  by_cases hk:k<n
  ·rw [List.getElem?_range hk]
   simp only [Option.map_some]
   rw [if_neg (by omega)]
  ·rw [List.getElem?_eq_none (by rw [List.length_range];omega)]
   rfl
theorem znd {K:W.Frag} {H:Hp} {p:Addr} (h:H p=some (.tup [.int 1,.int 3])):Fq K H (.ref p) (1/3):=by
 have e:(1/3:Rat)=mkRat 1 3:=by decide +kernel
 exact ⟨p,rfl,SqT.of (by rw [show (1/3:Rat).num=1 by decide +kernel,show (1/3:Rat).den=3 by decide +kernel];exact h)⟩
theorem zpA {K:W.Frag} {H:Hp} {p:Addr} (h:H p=some (.tup [.int 1,.int 2])):Fq K H (.ref p) (1/2) :=
 ⟨p,rfl,SqT.of (by rw [show (1/2:Rat).num=1 by decide +kernel,show (1/2:Rat).den=2 by decide +kernel];exact h)⟩
theorem btq3:BtQ 3 (1/3:Rat):=⟨by show Int.natAbs _<2^3;decide +kernel,by show Int.natAbs _<2^3;decide +kernel⟩
theorem btq2:BtQ 3 (1/2:Rat):=⟨by show Int.natAbs _<2^3;decide +kernel,by show Int.natAbs _<2^3;decide +kernel⟩
section
variable {P:Program} {w:World} {K:W.Frag} {mg:Str→Option Value} {base:Heap} {C CS CP CA f fa fb fc fg fh fi fp fq fs fw fz:Addr} {fd fda fdb fdc fdg fdh fdi fdp fdq fds fdw fdz:FuncData} {t1 t2 t3:Tok}
theorem zp0 (F:Fun K "_law_bent" "_law_bent" zc7 f fd) (T:TxtV K mg C CS CP CA)
  (zcG:mg "stream" = some (.ref fa)) (zcH:W.keepIn K (.ref fa)=true) (zcI:Binds K fda ["net","one","other"] []) (zcJ:FnOk P w K mg base CX0 7 fa fda ["net","one","other"] (zgd K C CS CP))
  (zie:mg "_law_harder" = some (.ref fb)) (zir:W.keepIn K (.ref fb)=true) (zi1:Binds K fdb ["_law_told_here","_law_cell"] []) (zi5:FnOk P w K mg base CX0 8 fb fdb ["_law_told_here","_law_cell"] (zkp K C))
  (zeZ:mg "plus" = some (.ref fc)) (zfh:W.keepIn K (.ref fc)=true) (zfq:Binds K fdc ["one","other"] []) (zfw:FnOk P w K mg base CX0 3 fc fdc ["one","other"] (zeO K (·+·) fun _=>True))
  (zcT:Mk K CS fs) (zbH:mg "Stream" = some (.ref CS)) (zft:Binds K fds ["self","flows","heights"] []) (zfz:FnOk P w K mg base CX0 1 fs fds ["self","flows","heights"] (zhL K CS)) :
  FnOk P w K mg base CX0 9 f fd ["_law_net","_law_told_here","_law_one","_law_other","_law_cell"] (zo8 K C CS):=by
 refine F.ok zbt (fun vs H Q E h=>?_) (fun cdv A outer s H vs Q E hr h=>?_)
 ·obtain ⟨x,L,t,l,n,ps,one,other,c,rfl,_⟩:=h
  rfl
 ·obtain ⟨x,L,t,l,n,ps,one,other,c,rfl,net,told,sm,ho1,ho2,rr,q⟩:=h
  obtain ⟨ht,⟨vp,hl,hp⟩,ok⟩:=id told
  have n8:=ok.n8
  have n1:=ok.n1
  have hle:=ok.le
  have s9:=sm.sm9 ok
  have mk:∀ {H1:Hp} {y F1 G1:Addr} {us ws:List V} {ps':List Pipe} {u v:Int},Sm9 n ps'→ps'.length=ps.length→(0≤v∧v<n)→Reach ps' u v→zcS CS H1 y F1 G1 us ws→Fqs K H1 us (flw n ps' u v)→Fqs K H1 ws (hts n ps' u v)→zpP K CS H1 y n ps:=fun {H1 y F1 G1 us ws ps' u v} s hl hv r st fu fw=>⟨F1,G1,us,ws,_,hOf n ps' u v,st,fu,fw,by rw [zgN,hl],s.fine hv r,s.small hv r⟩
  refine ⟨_,(zaf (zax (i:=5) zbt.nd rfl (Or.inl rfl) (zak zcJ (hr.mono (by decide)) rfl zcG zcH zcI .nil zaq (zaa (pv 0) (zaa (pv 2) (zaa (pv 3) zac)))))
   (zaf (zax (i:=6) zbt.nd rfl (Or.inl rfl) (za1 zbk (pv 4) zag))
   (zaf (zaP (zat zcd (pv 6) zag (za0 _)) (zaj (zax (i:=5) zbt.nd rfl (Or.inl rfl) (zak zcJ (hr.mono (by decide)) rfl zcG zcH zcI .nil zaq (zaa (zak zi5 (hr.mono (by decide)) rfl zie zir zi1 .nil zaq (zaa (pv 1) (zaa (za1 zc9 (pv 4) zag) zac))) (zaa (pv 2) (zaa (pv 3) zac)))))) zaz)
   (zaf (zaP (PW.pt (pw_and (zat zcd (pv 6) zag (za0 _)) (pw_and1 (zaX (ze2 rfl T.n_isinstance (zak zcJ (hr.mono (by decide)) rfl zcG zcH zcI .nil zaq (zaa (pv 0) (zaa (pv 3) (zaa (pv 2) zac)))) rfl T.zbH))))) (zaj (zax (i:=5) zbt.nd rfl (Or.inl rfl) (zak zcJ (hr.mono (by decide)) rfl zcG zcH zcI .nil zaq (zaa (pv 0) (zaa (pv 3) (zaa (pv 2) zac)))))) zaz)
   (zaf (zlO (i:=7) (j:=8) rfl zbt.nd rfl rfl (by decide) rfl rfl (zaa (zbd zbv (by rfl) T.n_list zdm (zaa (zaL (pv 5) rfl) zac)) (zaa (zbd zbv (by rfl) T.n_list zdm (zaa (zaL (pv 5) rfl) zac)) zac)) rfl)
   (zaf (zaP (PW.pt (pw_and (zat zcd (pv 6) zag (za0 _)) (pw_and1 (zat (zeW hr.units) (pv 7) (zdE zac) (za0 _))))) (zaj (zfP (zak zfw (hr.mono (by decide)) rfl zeZ zfh zfq .nil zaq (zaa (zay zaK (pv 7) (za1 zbk (za1 zc9 (pv 4) zag) (za2 za4 (by rfl) T.n_len zcr (zaa (pv 7) zac))) (fun _ _=>rfl)) (zaa (zaI (zaa zag (zaa zag zac))) zac))) (zh3 (pv 7) (za1 zbk (za1 zc9 (pv 4) zag) (za2 za4 (by rfl) T.n_len zcr (zaa (pv 7) zac))) set_list))) zaz)
   (zaf (zaP (zat zcd (pv 6) zag (za0 _)) (zaj (zfP (zak zfw (hr.mono (by decide)) rfl zeZ zfh zfq .nil zaq (zaa (zay zaK (pv 8) (za1 zbk (za1 zc9 (pv 4) zag) (za2 za4 (by rfl) T.n_len zcr (zaa (pv 8) zac))) (fun _ _=>rfl)) (zaa (zaI (zaa zag (zaa zag zac))) zac))) (zh3 (pv 8) (za1 zbk (za1 zc9 (pv 4) zag) (za2 za4 (by rfl) T.n_len zcr (zaa (pv 8) zac))) set_list))) zaz)
   (zaf (zaP (zat zcd (pv 6) zag (za0 _)) (zaj (zd1 (i:=8) ["_law_height"] [] rfl rfl (by kernel_rfl) zbt.nd rfl rfl (zaS (pv 8)) (fun _ _ _ _=>(zan (i:=0) (show (["_law_height"]:List Str).Nodup by decide +kernel) rfl (Or.inl rfl))) (fun _ _ _ _=>zaw) (fun _ _ _ _=>zbI) (fun _ _ _ _=>(zak zfw (hr.mono (by decide)) rfl zeZ zfh zfq .nil zaq (zaa (pv 0) (zaa (zaI (zaa zag (zaa zag zac))) zac)))))) zaz)
   (zaf (zax (i:=9) zbt.nd rfl (Or.inl rfl) (ze1 zcT zfz (hr.mono (by decide)) rfl zbH zft .nil zaq (zaa (pv 7) (zaa (pv 8) zac))))
   (zaf (zcc (ziL PySem.F.plainAttrs_list PySem.F.slot_list_append PySem.F.type_list_append zde (pv 7) (zaa (zaI (zaa zag (zaa zag zac))) zac)))
   (zaf (zcc (ziK PySem.F.plainAttrs_list PySem.F.slot_list_clear PySem.F.type_list_clear zgi (pv 8)))
   (zaj (zas (pv 9)))))))))))))),?_⟩
  refine ⟨_,rfl,_,rfl,_,rfl,x,L,n,ps,one,other,rfl,net,ok,ho1,ho2,fun r=>s9.small ho2 r,(fun _ H1 y F1 G1 us ws s1 hy hF1 hG1 nFG st fu fw=>?_),fun nr=>absurd rr nr⟩
  have m1:=mk s9 rfl ho2 rr st fu fw
  refine ⟨_,rfl,_,_,rfl,rfl,(by show (0:Int)<6;decide),?_⟩
  dsimp only [zcy]
  generalize c % 6=bd
  refine zdz (fun σ H'=>∃ y:Addr,σ=[some (.ref x),some (.ref t),some (.int one),some (.int other),some (.int c),some (.ref y),some (.int bd),none,none,none]∧Same H H'∧zpP K CS H' y n ps) ?_ ?_
  case refine_2 =>
   intro NX hN
   refine ⟨_,rfl,rfl,_,rfl,?_⟩
   refine ite2 (fun h=>?_) (fun h=>hN _ _ ⟨y,rfl,s1,m1⟩)
   refine ⟨_,rfl,_,rfl,_,_,rfl,rfl,⟨by decide,by decide⟩,t,l,n,ps,_,rfl,told.same s1,sm,fun H2 x2 L2 ps2 s2 net2 s92 hl2 hre=>?_⟩
   refine ⟨_,rfl,_,rfl,x2,L2,n,ps2,one,other,rfl,net2,s92.ok,ho1,ho2,fun r=>s92.small ho2 r,(fun r3 H3 y3 F3 G3 us3 ws3 s3 hy3 hF3 hG3 nFG3 st3 fu3 fw3=>?_),fun nr=>absurd ((hre _ _).mpr rr) nr⟩
   exact hN _ _ ⟨y3,rfl,(s1.trans s2).trans s3,mk s92 hl2 ho2 r3 st3 fu3 fw3⟩
  rintro σ H2 ⟨y2,rfl,s2,m2⟩
  refine zdz (fun σ H'=>∃ y:Addr,σ=[some (.ref x),some (.ref t),some (.int one),some (.int other),some (.int c),some (.ref y),some (.int bd),none,none,none]∧Same H H'∧zpP K CS H' y n ps) ?_ ?_
  case refine_2 =>
   intro NX hN
   refine ⟨_,rfl,rfl,_,rfl,?_⟩
   refine ite2 (fun h=>?_) (fun h=>hN _ _ ⟨y2,rfl,s2,m2⟩)
   refine ⟨_,rfl,_,rfl,_,rfl,x,L,n,ps,other,one,rfl,net.same s2,ok,ho2,ho1,fun r=>s9.small ho1 r,(fun r3 H3 y3 F3 G3 us3 ws3 s3 hy3 hF3 hG3 nFG3 st3 fu3 fw3=>?_),fun nr=>absurd rr.symm nr⟩
   refine ⟨_,_,_,_,_,rfl,rfl,T.tyS st3,T.i_SS,_,rfl,iteT ?_⟩
   have s23:=s2.trans s3
   refine ⟨_,rfl,_,rfl,_,rfl,x,L,n,ps,other,one,rfl,net.same s23,ok,ho2,ho1,fun r=>s9.small ho1 r,(fun r4 H4 y4 F4 G4 us4 ws4 s4 hy4 hF4 hG4 nFG4 st4 fu4 fw4=>?_),fun nr=>absurd rr.symm nr⟩
   exact hN _ _ ⟨y4,rfl,s23.trans s4,mk s9 rfl ho1 r4 st4 fu4 fw4⟩
  rintro σ H3 ⟨y3,rfl,s3,⟨F3,G3,us,ws,fs,h,st3,fu3,fw3,hlen,fine,hbt⟩⟩
  obtain ⟨⟨dy,h2⟩,h3,h4⟩:=id st3
  refine ⟨_,rfl,y3,CS,dy,_,_,rfl,h2,T.c_Stream,T.a_flows,zbf _ _,F3,us,rfl,.inl (SqL.of h3),fun lf hlf=>?_⟩
  have s4:=zad (o:=.lst us) hlf
  have hlf4:(upd H3 lf (.lst us)) lf=some (.lst us):=zae
  generalize upd H3 lf (.lst us)=H4 at s4 hlf4 ⊢
  refine ⟨_,rfl,y3,CS,dy,_,_,rfl,s4 _ _ h2,T.c_Stream,T.a_heights,zaG _ _,G3,ws,rfl,.inl (SqL.of (s4 _ _ h4)),fun lh hlh=>?_⟩
  have s5:=zad (o:=.lst ws) hlh
  have hlh5:(upd H4 lh (.lst ws)) lh=some (.lst ws):=zae
  have s35:=s4.trans s5
  have two:TwoL K H (upd H4 lh (.lst ws)) lf lh n us ws fs h:=⟨s3.trans s35,s3.free hlf,(s3.trans s4).free hlh,zal hlf4 hlh,s5 _ _ hlf4,hlh5,fu3.same s35,fw3.same s35⟩
  generalize upd H4 lh (.lst ws)=H5 at two ⊢
  refine ⟨_,_,rfl,?_⟩
  dsimp only
  refine zdz (fun σ H'=>∃ (us:List V) (fs:List Rat),σ=[some (.ref x),some (.ref t),some (.int one),some (.int other),some (.int c),some (.ref y3),some (.int bd),some (.ref lf),some (.ref lh),none]∧TwoL K H H' lf lh n us ws fs h∧fs.length=ps.length∧zdI 1990 fs) ?_ ?_
  case refine_2 =>
   intro NX hN
   refine ⟨_,rfl,rfl,_,rfl,?_⟩
   refine ite2 (fun hb=>?_) (fun hb=>hN _ _ ⟨us,fs,rfl,two,hlen,fine.sum⟩)
   refine ⟨_,rfl,by show 0≤sizeLine;decide,fun e0 he0=>?_⟩
   have s6:=zad (o:=.lst []) he0
   have he6:(upd H5 e0 (.lst [])) e0=some (.lst []):=zae
   generalize upd H5 e0 (.lst [])=H6 at s6 he6 ⊢
   have hul:us.length=fs.length:=two.fu.len
   refine ⟨_,_,.lst (SqL.of (s6 _ _ two.lf)) (two.fu.same s6).reps,.lst (SqL.of he6) .nil,zfj fs,rfl,(by show PyData.depthAll (zdj fs)+1≤40;have:=ze9 fs;omega),_,rfl,?_⟩
   by_cases e:fs=[]
   ·have e1:PyData.eqv (.list (zdj fs)) (.list [])=true:=by rw [e];rfl
    rw [if_pos rfl,e1]
    exact iteF (hN _ _ ⟨us,fs,rfl,⟨two.se.trans s6,two.nf,two.nh,two.ne,s6 _ _ two.lf,s6 _ _ two.lh,two.fu.same s6,two.fw.same s6⟩,hlen,fine.sum⟩)
   ·have e1:PyData.eqv (.list (zdj fs)) (.list [])=false:=by
     cases hps:fs with
     | nil=>exact absurd hps e
     | cons p r=>rfl
    rw [if_pos rfl,e1]
    refine iteT ?_
    have hpos:0<fs.length:=List.length_pos_iff.mpr e
    have hf6:=s6 _ _ two.lf
    have k0:=Int.emod_nonneg (c/5) (show (us.length:Int)≠0 by omega)
    have kn:=Int.emod_lt_of_pos (c/5) (show (0:Int)<(us.length:Int) by omega)
    obtain ⟨j,ej⟩:=Int.eq_ofNat_of_zero_le k0
    have hj:j<us.length:=by omega
    obtain ⟨f0,hf0⟩:∃ f0,fs[j]? = some f0:=⟨fs[j]'(by omega),List.getElem?_eq_getElem (by omega)⟩
    obtain ⟨v0,ev0,fv0⟩:=(two.fu.same s6).at hf0
    refine ⟨_,rfl,_,rfl,_,_,rfl,rfl,⟨by decide,by decide⟩,_,rfl,lf,_,rfl,.inl (SqL.of hf6),_,_,rfl,rfl,(by show (0:Int)<(us.length:Int);omega),lf,_,_,v0,rfl,rfl,SqL.of hf6,by show atI us (c/5 % (us.length:Int))=_;rw [ej];exact zaO (j:=j) ev0,by show 2≤sizeLine;decide,fun th hth=>?_⟩
    have s7:=zad (o:=.tup [.int 1,.int 2]) hth
    have hth7:(upd H6 th (.tup [.int 1,.int 2])) th=some (.tup [.int 1,.int 2]):=zae
    generalize upd H6 th (.tup [.int 1,.int 2])=H7 at s7 hth7 ⊢
    refine ⟨v0,.ref th,_,_,4000,rfl,fv0.same s7,zpA hth7,trivial,by decide,(fine.sum.each _ (List.mem_of_getElem? hf0)).mono (by decide),btq2.mono (by decide),fun c3 hc3=>?_⟩
    have s8:=zad (o:=.tup [.int (f0+1/2).num,.int ((f0+1/2).den:Int)]) hc3
    have f8:Fq K (upd H7 c3 (.tup [.int (f0+1/2).num,.int ((f0+1/2).den:Int)])) (.ref c3) (f0+1/2):=Fq.new
    have s68:=(s6.trans s7).trans s8
    have hf8:=(s7.trans s8) _ _ hf6
    generalize upd H7 c3 (.tup [.int (f0+1/2).num,.int ((f0+1/2).den:Int)])=H8 at s8 f8 s68 hf8 ⊢
    refine ⟨_,rfl,_,rfl,_,_,rfl,rfl,⟨by decide,by decide⟩,_,rfl,lf,_,rfl,.inl (SqL.of hf8),_,_,rfl,rfl,(by show (0:Int)<(us.length:Int);omega),lf,us,_,j,rfl,rfl,hf8,by show ixN us.length (c/5 % (us.length:Int))=_;rw [ej];exact zfF hj,?_⟩
    refine hN _ _ ⟨us.set j (.ref c3),fs.set j (f0+1/2),rfl,⟨fun b o eb=>?_,two.nf,two.nh,two.ne,zae,?_,Fqs.ne (Fqs.set j (two.fu.same s68) f8) hf8 (fun _=>nofun) (fun _ _=>nofun),Fqs.ne (two.fw.same s68) hf8 (fun _=>nofun) (fun _ _=>nofun)⟩,by rw [List.length_set];exact hlen,fine.half (List.mem_of_getElem? hf0)⟩
    ·rw [zar (zal eb two.nf)]
     exact (two.se.trans s68) _ _ eb
    ·rw [zar two.ne.symm]
     exact s68 _ _ two.lh
  rintro σ H6 ⟨us6,fs6,rfl,two6,hlen6,sml6⟩
  refine zdz (fun σ H'=>∃ (ws:List V) (h:Int→Rat),σ=[some (.ref x),some (.ref t),some (.int one),some (.int other),some (.int c),some (.ref y3),some (.int bd),some (.ref lf),some (.ref lh),none]∧TwoL K H H' lf lh n us6 ws fs6 h∧∀ z,BtQ 1510 (h z)) ?_ ?_
  case refine_2 =>
   intro NX hN
   refine ⟨_,rfl,rfl,_,rfl,?_⟩
   refine ite2 (fun hb=>?_) (fun hb=>hN _ _ ⟨ws,h,rfl,two6,fun z=>(hbt z).mono (by decide)⟩)
   have hwl:ws.length=n:=by rw [two6.fw.len,List.length_map,List.length_range]
   have k0:=Int.emod_nonneg (c/6) (show (ws.length:Int)≠0 by omega)
   have kn:=Int.emod_lt_of_pos (c/6) (show (0:Int)<(ws.length:Int) by omega)
   obtain ⟨j,ej⟩:=Int.eq_ofNat_of_zero_le k0
   have hj:j<ws.length:=by omega
   have hf6:=two6.lh
   obtain ⟨v0,ev0,fv0⟩:=two6.fw.at (i:=j) (q:=h (j:Int)) (by rw [List.getElem?_map,List.getElem?_range (by omega)];rfl)
   refine ⟨_,rfl,_,rfl,_,_,rfl,rfl,⟨by decide,by decide⟩,_,rfl,lh,_,rfl,.inl (SqL.of hf6),_,_,rfl,rfl,(by show (0:Int)<(ws.length:Int);omega),lh,_,_,v0,rfl,rfl,SqL.of hf6,by show atI ws (c/6 % (ws.length:Int))=_;rw [ej];exact zaO (j:=j) ev0,by show 2≤sizeLine;decide,fun th hth=>?_⟩
   have s7:=zad (o:=.tup [.int 1,.int 3]) hth
   have hth7:(upd H6 th (.tup [.int 1,.int 3])) th=some (.tup [.int 1,.int 3]):=zae
   generalize upd H6 th (.tup [.int 1,.int 3])=H7 at s7 hth7 ⊢
   refine ⟨v0,.ref th,_,_,4000,rfl,fv0.same s7,znd hth7,trivial,by decide,(hbt _).mono (by decide),btq3.mono (by decide),fun c3 hc3=>?_⟩
   have s8:=zad (o:=.tup [.int (h (j:Int)+1/3).num,.int ((h (j:Int)+1/3).den:Int)]) hc3
   have f8:Fq K (upd H7 c3 (.tup [.int (h (j:Int)+1/3).num,.int ((h (j:Int)+1/3).den:Int)])) (.ref c3) (h (j:Int)+1/3):=Fq.new
   have s68:=s7.trans s8
   have hf8:=s68 _ _ hf6
   generalize upd H7 c3 (.tup [.int (h (j:Int)+1/3).num,.int ((h (j:Int)+1/3).den:Int)])=H8 at s8 f8 s68 hf8 ⊢
   refine ⟨_,rfl,_,rfl,_,_,rfl,rfl,⟨by decide,by decide⟩,_,rfl,lh,_,rfl,.inl (SqL.of hf8),_,_,rfl,rfl,(by show (0:Int)<(ws.length:Int);omega),lh,ws,_,j,rfl,rfl,hf8,by show ixN ws.length (c/6 % (ws.length:Int))=_;rw [ej];exact zfF hj,?_⟩
   refine hN _ _ ⟨ws.set j (.ref c3),fun z=>if z=(j:Int) then h (j:Int)+1/3 else h z,rfl,⟨fun b o eb=>?_,two6.nf,two6.nh,two6.ne,?_,zae,Fqs.ne (two6.fu.same s68) hf8 (fun _=>nofun) (fun _ _=>nofun),?_⟩,fun z=>?_⟩
   ·rw [zar (zal eb two6.nh)]
    exact (two6.se.trans s68) _ _ eb
   ·rw [zar two6.ne]
    exact s68 _ _ two6.lf
   ·have:=Fqs.set j (two6.fw.same s68) f8
    rw [zhR] at this
    exact Fqs.ne this hf8 (fun _=>nofun) (fun _ _=>nofun)
   ·show BtQ 1510 (if z=(j:Int) then h (j:Int)+1/3 else h z)
    split
    ·exact ((hbt _).add btq3).mono (by decide)
    ·exact (hbt z).mono (by decide)
  rintro σ H7 ⟨ws7,h7,rfl,two7,hbt7⟩
  refine zdz (fun σ H'=>∃ (lh:Addr) (ws:List V) (h:Int→Rat),σ=[some (.ref x),some (.ref t),some (.int one),some (.int other),some (.int c),some (.ref y3),some (.int bd),some (.ref lf),some (.ref lh),none]∧TwoL K H H' lf lh n us6 ws fs6 h∧∀ z,BtQ 3000 (h z)) ?_ ?_
  case refine_2 =>
   intro NX hN
   refine ⟨_,rfl,rfl,_,rfl,?_⟩
   refine ite2 (fun hb=>?_) (fun hb=>hN _ _ ⟨lh,ws7,h7,rfl,two7,fun z=>(hbt7 z).mono (by decide)⟩)
   have hwl:ws7.length=n:=by rw [two7.fw.len,List.length_map,List.length_range]
   refine ⟨_,rfl,lh,rfl,⟨_,SqL.of two7.lh⟩,zaN (K:=K) (a:=lh) (xs:=ws7) (fun i ys H'=>Same H7 H'∧Fqs K H' ys ((List.range i).map fun i:Nat=>(fun z=>h7 z+1) (i:Int))) ⟨Same.refl _,.nil⟩ (zao (by omega)) ?_ ?_ ?_⟩
   ·rintro i ys H' hi ⟨s8,hY⟩
    refine ⟨?_,SqL.of (s8 _ _ two7.lh)⟩
    rw [hY.len,List.length_map,List.length_range]
    exact Nat.le_refl _
   ·rintro i v ys H' N hv ⟨s8,hY⟩ hN' C' s₀ H₀ ex
    obtain ⟨qq,hqq,fv⟩:=(two7.fw.same s8).get hv
    have hi:i<n:=by have:=(List.getElem?_eq_some_iff.mp hv).1;omega
    rw [List.getElem?_map,List.getElem?_range hi] at hqq
    cases hqq
    dsimp only [zaQ,zcy]
    refine iteT ?_
    refine ⟨_,rfl,by show 2≤sizeLine;decide,fun t1 ht1=>?_⟩
    refine ⟨v,.ref t1,_,_,4000,rfl,fv.same (zad ht1),zoD zae,trivial,by decide,(hbt7 _).mono (by decide),btq1.mono (by decide),fun c3 hc3=>hN' _ _ ⟨(s8.trans (zad ht1)).trans (zad hc3),?_⟩⟩
    rw [List.range_succ,List.map_append]
    exact Fqs.snoc (hY.same ((zad ht1).trans (zad hc3))) Fq.new
   ·rintro ys H' ⟨s8,hY⟩ l2 hl2
    rw [hwl] at hY
    have s9':=zad (o:=.lst ys) hl2
    have s79:=s8.trans s9'
    exact hN _ _ ⟨l2,ys,fun z=>h7 z+1,rfl,⟨two7.se.trans s79,two7.nf,(two7.se.trans s8).free hl2,zal (s8 _ _ two7.lf) hl2,s79 _ _ two7.lf,zae,two7.fu.same s79,hY.same s9'⟩,fun z=>((hbt7 z).add btq1).mono (by decide)⟩
  rintro σ H8 ⟨lh8,ws8,h8,rfl,two8,hbt8⟩
  refine ⟨_,rfl,_,rfl,?_⟩
  intro y dy' ny ndy ney
  have sm0:=ze3 (C:=CS) ny ndy
  refine ⟨y,dy',lf,lh8,us6,ws8,rfl,zae,SqL.of (sm0 _ _ two8.lf),SqL.of (sm0 _ _ two8.lh),fun H9 F9 G9 hF9 hG9 nFG9 st9 kp=>⟨rfl,?_⟩⟩
  have s89:=zdf (n:=(n:Int)) ny ndy kp
  have hlf9:=s89 _ _ two8.lf
  have hlh9:=s89 _ _ two8.lh
  have nlf:H8 F9=none:=sm0.free hF9
  have nlg:H8 G9=none:=sm0.free hG9
  obtain ⟨⟨dz,g2⟩,g3,g4⟩:=id st9
  have hul:us6.length=ps.length:=by rw [two8.fu.len,hlen6]
  refine ⟨_,rfl,.inl ⟨rfl,_,SqL.of hlf9⟩,by show 2≤sizeLine;decide,fun ta hta=>?_⟩
  have sa:=zad (o:=.tup [.int 1,.int 1]) hta
  generalize upd H9 ta (.tup [.int 1,.int 1])=Ha at sa ⊢
  have hlfa:=sa _ _ hlf9
  refine ⟨lf,us6,_,rfl,rfl,hlfa,zao (by omega),?_⟩
  generalize hHb:upd Ha lf (.lst (us6++[.ref ta]))=Hb
  have keepb:∀ b o,b≠lf→Ha b=some o→Hb b=some o:=fun b o hb e=>by rw [← hHb,zar hb];exact e
  have hlhb:Hb lh8=some (.lst ws8):=keepb _ _ two8.ne.symm (sa _ _ hlh9)
  refine ⟨_,rfl,.inl ⟨rfl,_,SqL.of hlhb⟩,lh8,_,rfl,rfl,hlhb,?_⟩
  have keepc:∀ b o,b≠lf→b≠lh8→H9 b=some o→(upd Hb lh8 (.lst [])) b=some o:=fun b o h1 h2 e=>by rw [zar h2];exact keepb _ _ h1 (sa _ _ e)
  refine ⟨_,rfl,q _ y fs6 h8 (fun b o eb=>?_) ⟨⟨F9,G9,us6,ws8,⟨⟨dz,?_⟩,?_,?_⟩,?_,?_⟩,hlen6,sml6,hbt8⟩⟩
  ·exact keepc b o (zal eb two8.nf) (zal eb two8.nh) (s89 _ _ (two8.se _ _ eb))
  ·exact keepc _ _ (fun e=>by rw [e] at ny;rw [two8.lf] at ny;cases ny) (fun e=>by rw [e] at ny;rw [two8.lh] at ny;cases ny) g2
  ·exact keepc _ _ (fun e=>by rw [e,two8.lf] at nlf;cases nlf) (fun e=>by rw [e,two8.lh] at nlf;cases nlf) g3
  ·exact keepc _ _ (fun e=>by rw [e,two8.lf] at nlg;cases nlg) (fun e=>by rw [e,two8.lh] at nlg;cases nlg) g4
  ·have a1:=Fqs.ne (o':=.lst (us6++[.ref ta])) ((two8.fu.same s89).same sa) hlfa (fun _=>nofun) (fun _ _=>nofun)
   rw [hHb] at a1
   exact Fqs.ne a1 hlhb (fun _=>nofun) (fun _ _=>nofun)
  ·have a1:=Fqs.ne (o':=.lst (us6++[.ref ta])) ((two8.fw.same s89).same sa) hlfa (fun _=>nofun) (fun _ _=>nofun)
   rw [hHb] at a1
   exact Fqs.ne a1 hlhb (fun _=>nofun) (fun _ _=>nofun)
end
end K2
namespace K2
open PySem L2 Mp St Bz
theorem bb {K:W.Frag}:W.kitOne K (.type "bool") (.type "bool")=some true:=by rfl
def zl9 (K:W.Frag) (C:Addr):Sp:=fun vs H Q _=>∃ (x L t l:Addr) (n:Nat) (ps:List Pipe) (one other c:Int),vs=[.ref x,.ref t,.int one,.int other,.int c]∧zdp K C H x L n ps∧Told K H t l n ps∧Sm1 ps∧(0≤one∧one<n)∧(0≤other∧other<n)∧∀ H',Same H H'→Q (.bl true) H'
theorem zmA (ms:List Int):∀ j:Nat,(ms.map V.int).eraseIdx j=(ms.eraseIdx j).map V.int:=by
 induction ms with
 | nil=>intro j;rfl
 | cons m r ih =>
  intro j
  cases j with
  | zero=>rfl
  | succ j=>simp only [List.map_cons,List.eraseIdx_cons_succ];rw [ih]
theorem zn1 (k:Nat) (z:Int) (hz:z=0∨z=1):zdI 1990 (List.replicate k ((z:Int):Rat)):=by
 refine ⟨1,1,by decide,Nat.lt_of_lt_of_le (by decide:(1:Int).natAbs<2^1) (Nat.pow_le_pow_right (by decide) (by decide)),Nat.lt_of_lt_of_le (by decide:28*1<2^5) (Nat.pow_le_pow_right (by decide) (by decide)),fun f hf=>?_⟩
 rw [(List.mem_replicate.mp hf).2]
 exact ⟨z,by show (z:Rat)*1=z;grind,by omega⟩
section
variable {P:Program} {w:World} {K:W.Frag} {mg:Str→Option Value} {base:Heap} {C CS CP CA f fa fb fc fg fh fi fp fq fs fw fz:Addr} {fd fda fdb fdc fdg fdh fdi fdp fdq fds fdw fdz:FuncData} {t1 t2 t3:Tok}
theorem zn8 (F:Fun K "_law_shown" "_law_shown" zcl f fd) (T:TxtV K mg C CS CP CA)
  (zdg:mg "_law_part" = some (.ref fa)) (zdh:W.keepIn K (.ref fa)=true) (zdn:Binds K fda ["_law_told_here","_law_at"] []) (zdq:FnOk P w K mg base CX0 1 fa fda ["_law_told_here","_law_at"] (zhO K))
  (zjL:mg "_law_bent" = some (.ref fb)) (zjW:W.keepIn K (.ref fb)=true) (zkd:Binds K fdb ["_law_net","_law_told_here","_law_one","_law_other","_law_cell"] []) (zkj:FnOk P w K mg base CX0 9 fb fdb ["_law_net","_law_told_here","_law_one","_law_other","_law_cell"] (zo8 K C CS))
  (zbe:Meth K CS "shows" fc) (zbh:Binds K fdc ["self","net","one","other"] []) (zbi:FnOk P w K mg base CX0 7 fc fdc ["self","net","one","other"] (zjz K C CS))
  (zbw:Meth K CP "shows" fg) (zb1:Binds K fdg ["self","net","one","other"] []) (zb3:FnOk P w K mg base CX0 2 fg fdg ["self","net","one","other"] (zhM K C CP))
  (zd3:mg "_law_streams" = some (.ref fh)) (zd5:W.keepIn K (.ref fh)=true) (zd7:Binds K fdh ["_law_told_here","_law_one","_law_other","_law_found"] []) (zd9:FnOk P w K mg base CX0 4 fh fdh ["_law_told_here","_law_one","_law_other","_law_found"] (zlE K CS))
  (zcT:Mk K CS fs) (zbH:mg "Stream" = some (.ref CS)) (zft:Binds K fds ["self","flows","heights"] []) (zfz:FnOk P w K mg base CX0 1 fs fds ["self","flows","heights"] (zhL K CS))
  (zfJ:Mk K CP fw) (zdO:mg "Apart" = some (.ref CP)) (zke:Binds K fdw ["self","places"] []) (zkk:FnOk P w K mg base CX0 1 fw fdw ["self","places"] (zj0 K CP)) :
  FnOk P w K mg base CX0 10 f fd ["_law_net","_law_told_here","_law_one","_law_other","_law_cell"] (zl9 K C):=by
 refine F.ok zaA (fun vs H Q E h=>?_) (fun cdv A outer s H vs Q E hr h=>?_)
 ·obtain ⟨x,L,t,l,n,ps,one,other,c,rfl,_⟩:=h
  rfl
 ·obtain ⟨x,L,t,l,n,ps,one,other,c,rfl,net,told,sm,ho1,ho2,q⟩:=h
  obtain ⟨ht,⟨vp,hl,hp⟩,ok⟩:=id told
  have n8:=ok.n8
  have n1:=ok.n1
  have hle:=ok.le
  have hvp:vp.length=ps.length:=Paired.length hp
  refine ⟨_,(zaf (zax (i:=5) zaA.nd rfl (Or.inr rfl) (zak zdq (hr.mono (by decide)) rfl zdg zdh zdn .nil zaq (zaa (pv 1) (zaa (pv 2) zac))))
   (zaf (zaP (zat zb4 (pv 3) (pv 5) rfl) (zaf (zax (i:=6) zaA.nd rfl (Or.inl rfl) (zak zkj (hr.mono (by decide)) rfl zjL zjW zkd .nil zaq (zaa (pv 0) (zaa (pv 1) (zaa (pv 2) (zaa (pv 3) (zaa (pv 4) zac)))))))
   (zaf (zax (i:=7) zaA.nd rfl (Or.inl rfl) (zgh (pv 6) T.c_Stream zbe zbi (hr.mono (by decide)) zbh T.c_Apart zbw zb3 (hr.mono (by decide)) zb1 zaq (zaa (pv 0) (zaa (pv 2) (zaa (pv 3) zac)))))
   (zaj (zas (zds (zct rfl T.n_isinstance (pv 7) rfl T.n_bool zgT) (zeb (zaM zcd (pv 7) (zak zd9 (hr.mono (by decide)) rfl zd3 zd5 zd7 .nil zaq (zaa (pv 1) (zaa (pv 2) (zaa (pv 3) (zaa (pv 6) zac))))) (za0 _)))))))) zaz)
   (zaf (zax (i:=8) zaA.nd rfl (Or.inl rfl) (ze1 zcT zfz (hr.mono (by decide)) rfl zbH zft .nil zaq (zaa (zaY ["_law_pipe"] [4] rfl rfl (by kernel_rfl) (zaS (zay zav (pv 1) zag (fun _ _=>rfl))) (fun _ _ _ _=>(zan (i:=0) (show (["_law_pipe","_law_cell"]:List Str).Nodup by decide +kernel) rfl (Or.inl rfl))) (fun _ _ _ _=>zaw) (fun _ _ _ _=>zbI) (fun _ _ _ _=>(zaI (zaa (zbd zei (by rfl) T.n_int zfW (zaa (zaM zcd (za1 zbk (za1 zc9 (pv 1) zag) zag) zag (za0 _)) zac)) (zaa zag zac))))) (zaa (zaY ["_law_place"] [] rfl rfl (by kernel_rfl) (zbo rfl T.n_range (zaa (zay zav (pv 1) zag (fun _ _=>rfl)) zac)) (fun _ _ _ _=>(zan (i:=0) (show (["_law_place"]:List Str).Nodup by decide +kernel) rfl (Or.inl rfl))) (fun _ _ _ _=>zaw) (fun _ _ _ _=>zbI) (fun _ _ _ _=>(zaI (zaa zag (zaa zag zac))))) zac))))
   (zaf (zaP (zat zlT (zgh (pv 8) T.c_Stream zbe zbi (hr.mono (by decide)) zbh T.c_Apart zbw zb3 (hr.mono (by decide)) zb1 zaq (zaa (pv 0) (zaa (pv 2) (zaa (pv 3) zac)))) zcs (za0 _)) (zaj (zas zcs)) zaz)
   (zaf (zax (i:=9) zaA.nd rfl (Or.inl rfl) (zbd zbv (by rfl) T.n_list zdm (zaa (pv 5) zac)))
   (zaf (zaP (zat zcd (za1 zbk (pv 4) zag) zag (za0 _)) (zaj (zd1 (i:=9) ["_law_place"] [5,4,1] rfl rfl (by kernel_rfl) zaA.nd rfl rfl (zbo rfl T.n_range (zaa (zay zav (pv 1) zag (fun _ _=>rfl)) zac)) (fun _ _ _ _=>(zan (i:=0) (show (["_law_place","_law_part_here","_law_cell","_law_told_here"]:List Str).Nodup by decide +kernel) rfl (Or.inl rfl))) (fun _ _ _ _=>zaw) (fun _ _ _ _=>(zeU (PW.pt (pw_or (zat zb4 (pv 0) (pv 1) rfl) (pw_or1 (zat zcd (pv 0) (za1 zbk (za1 zc9 (pv 2) zag) (zay zav (pv 3) zag (fun _ _=>rfl))) (za0 _))))))) (fun _ _ _ _=>(pv 0)))) zaz)
   (zaf (zaP (zat zcd (za1 zbk (pv 4) zag) zag (za0 _)) (zaj (zcc (ziL PySem.F.plainAttrs_list PySem.F.slot_list_remove PySem.F.type_list_remove zmf (pv 9) (zaa (zay zaK (pv 5) (za1 zbk (za1 zc9 (pv 4) zag) (za2 za4 (by rfl) T.n_len zcr (zaa (pv 5) zac))) (fun _ _=>rfl)) zac)))) zaz)
   (zaf (zax (i:=10) zaA.nd rfl (Or.inl rfl) (zds (zaM zb4 (pv 2) (pv 9) rfl) (zeb (zaM zbu (pv 3) (pv 9) rfl))))
   (zaf (zdd PassesOwn.never rfl (zaS (zay zav (pv 1) zag (fun _ _=>rfl))) (zbZ (n:=3) rfl (zap (zan (i:=11) zaA.nd rfl (Or.inl rfl)) (zap (zan (i:=12) zaA.nd rfl (Or.inl rfl)) (zap (zan (i:=13) zaA.nd rfl (Or.inl rfl)) zbg)))) (zaj (zaP (zat zhh (zaM zb4 (pv 11) (pv 9) rfl) (zaM zb4 (pv 12) (pv 9) rfl) (za0 _)) (zaj (zax (i:=10) zaA.nd rfl (Or.inl rfl) zcs)) zaz)))
   (zaf (zax (i:=6) zaA.nd rfl (Or.inl rfl) (ze1 zfJ zkk (hr.mono (by decide)) rfl zdO zke .nil zaq (zaa (pv 9) zac)))
   (zaf (zcc (ziK PySem.F.plainAttrs_list PySem.F.slot_list_clear PySem.F.type_list_clear zgi (pv 9)))
   (zaf (zax (i:=7) zaA.nd rfl (Or.inl rfl) (zgh (pv 6) T.c_Stream zbe zbi (hr.mono (by decide)) zbh T.c_Apart zbw zb3 (hr.mono (by decide)) zb1 zaq (zaa (pv 0) (zaa (pv 2) (zaa (pv 3) zac)))))
   (zaj (zas (zds (zct rfl T.n_isinstance (pv 7) rfl T.n_bool zgT) (zeb (zaM zcd (pv 7) (pv 10) (za0 _)))))))))))))))))),?_⟩
  refine ⟨_,rfl,_,rfl,t,l,n,ps,one,rfl,told,ho1.1,ho1.2,fun H1 r1 ms s1 hr1 pt h1=>?_⟩
  have i2:inV (.int other) (ms.map V.int)=decide (other∈ms):=zbG other ms
  have hms:ms.length≤8:=by
   have:=few n ms (List.Pairwise.imp (fun {a b} (q:a<b)=>by omega) pt.1) fun y hy=>((pt.2 y).mp hy).fits ok.fits ho1
   omega
  refine ⟨_,rfl,_,rfl,r1,_,rfl,.inl (SqL.of h1),rfl,zaE _,_,rfl,?_⟩
  show if (inV (.int other) (ms.map V.int))=true then _ else _
  rw [i2]
  by_cases m2:other∈ms
  ·rw [decide_eq_true m2]
   refine iteT ?_
   refine ⟨_,rfl,_,rfl,_,rfl,_,rfl,_,rfl,x,L,t,l,n,ps,one,other,c,rfl,net.same s1,told.same s1,sm,ho1,ho2,(pt.2 other).mp m2,fun H2 y fs h s2 hand=>?_⟩
   obtain ⟨⟨F1,G1,us,ws,st,_,_⟩,_⟩:=id hand
   obtain ⟨⟨dy,hy⟩,_,_⟩:=id st
   have s12:=s1.trans s2
   refine ⟨_,rfl,.inl ⟨y,dy,_,rfl,hy,zgf _ _ (by decide +kernel) (by decide +kernel),_,rfl,_,rfl,_,rfl,y,x,L,n,ps,one,other,fs,h,rfl,hand,net.same s12,ok,ho1,ho2,fun H3 b1 s3 hb1=>?_⟩⟩
   have s13:=s12.trans s3
   refine ⟨_,rfl,_,_,_,_,_,rfl,rfl,.of (.bl b1),bb,_,rfl,iteT ?_⟩
   refine ⟨_,rfl,_,rfl,_,rfl,_,rfl,_,rfl,t,l,y,n,ps,one,other,fs,h,rfl,told.same s13,hand.same s3,ho1,ho2,fun H4 b2 s4 hb2=>⟨rfl,?_⟩⟩
   obtain rfl:b1=b2:=Bool.eq_iff_iff.mpr (hb1.trans hb2.symm)
   rw [decide_eq_true rfl]
   exact q _ (s13.trans s4)
  rw [decide_eq_false m2]
  refine iteF ?_
  have nr:¬ Reach ps one other:=fun z=>m2 ((pt.2 other).mpr z)
  have hne:one≠other:=fun e=>nr (by rw [e];exact .refl)
  have ht1:=s1 _ _ ht
  have hl1:=s1 _ _ hl
  obtain ⟨z0,ez0⟩:∃ z0:Int,z0=(if decide (V.int (c/3 % 2)=V.int 0)=true then (1:Int) else 0):=⟨_,rfl⟩
  have hz0:z0=0∨z0=1:=by rw [ez0];split <;> simp
  refine ⟨_,rfl,t,_,_,_,rfl,rfl,SqT.of ht1,rfl,l,rfl,⟨_,SqL.of hl1⟩,zaN (K:=K) (a:=l) (xs:=vp) (fun i ys H'=>Same H1 H'∧Fqs K H' ys (List.replicate i (z0:Rat))) ⟨Same.refl _,.nil⟩ (zao (by omega)) ?_ ?_ ?_⟩
  ·rintro i ys H' hi ⟨s2,hY⟩
   exact ⟨by rw [hY.len,List.length_replicate];exact Nat.le_refl _,SqL.of (s2 _ _ hl1)⟩
  ·rintro i v ys H' N hv ⟨s2,hY⟩ hN C' s₀ H₀ ex
   dsimp only [zaQ,zcy]
   refine iteT ?_
   refine ⟨_,rfl,_,_,rfl,rfl,⟨by decide,by decide⟩,_,_,rfl,rfl,(by show (0:Int)<2;decide),rfl,.inr ⟨_,rfl,by show 2≤sizeLine;decide,fun td htd=>hN _ _ ⟨s2.trans (zad htd),?_⟩⟩⟩
   rw [List.replicate_succ']
   refine Fqs.snoc (hY.same (zad htd)) ?_
   rw [ez0]
   exact ⟨td,rfl,SqT.of zae⟩
  rintro ya H2 ⟨s2,hYa⟩ la hla
  have s2a:=zad (o:=.lst ya) hla
  have hla2:(upd H2 la (.lst ya)) la=some (.lst ya):=zae
  have hYa2:=hYa.same s2a
  have s12:=s2.trans s2a
  generalize upd H2 la (.lst ya)=H2' at s2a hla2 hYa2 s12 ⊢
  refine ⟨_,rfl,t,_,_,_,rfl,rfl,SqT.of (s12 _ _ ht1),rfl,n,rfl,by omega,by omega,?_⟩
  rw [Int.toNat_natCast]
  refine zcD (fun i ys HX=>Same H2' HX∧Fqs K HX ys ((List.range i).map fun i:Nat=>(fun _:Int=>(0:Rat)) (i:Int))) ⟨Same.refl _,.nil⟩ (zao (by omega)) ?_ ?_ ?_
  ·rintro i ys HX hi ⟨_,hY⟩
   rw [hY.len,List.length_map,List.length_range]
   exact Nat.le_refl _
  ·rintro i ys HX N hi ⟨sx,hY⟩ hN C' s₀ H₀ ex
   dsimp only [zaQ,zcy]
   refine iteT ?_
   refine ⟨by show 2≤sizeLine;decide,fun tz htz=>hN _ _ ⟨sx.trans (zad htz),?_⟩⟩
   rw [List.range_succ,List.map_append]
   exact Fqs.snoc (hY.same (zad htz)) (zgp zae)
  rintro yb H3 ⟨s3,hYb⟩ lb hlb
  have s3a:=zad (o:=.lst yb) hlb
  have hlb3:(upd H3 lb (.lst yb)) lb=some (.lst yb):=zae
  have hYb3:=hYb.same s3a
  have s23:=s3.trans s3a
  generalize upd H3 lb (.lst yb)=H3' at s3a hlb3 hYb3 s23 ⊢
  intro y dy' ny ndy ney
  have sm0:=ze3 (C:=CS) ny ndy
  refine ⟨y,dy',la,lb,ya,yb,rfl,zae,SqL.of (sm0 _ _ (s23 _ _ hla2)),SqL.of (sm0 _ _ hlb3),fun H4 F4 G4 hF4 hG4 nFG4 st4 kp=>⟨rfl,?_⟩⟩
  have s4:=zdf (n:=(n:Int)) ny ndy kp
  have s14:=(s12.trans s23).trans s4
  rw [hvp] at hYa2
  have hand:zhr K CS H4 y n ps (List.replicate ps.length (z0:Rat)) (fun _=>0):=⟨⟨F4,G4,ya,yb,st4,hYa2.same (s23.trans s4),hYb3.same s4⟩,List.length_replicate,zn1 _ _ hz0,fun _=>btq0.mono (by decide)⟩
  obtain ⟨⟨dy,hy⟩,_,_⟩:=id st4
  have s04:=s1.trans s14
  refine ⟨_,rfl,.inl ⟨y,dy,_,rfl,hy,zgf _ _ (by decide +kernel) (by decide +kernel),_,rfl,_,rfl,_,rfl,y,x,L,n,ps,one,other,_,_,rfl,hand,net.same s04,ok,ho1,ho2,fun H5 b5 s5 hb5=>?_⟩⟩
  obtain rfl:b5=false:=by
   cases b5 with
   | false=>rfl
   | true=>exact absurd (hb5.mp rfl) (zme ok.nice ho1 hne _ List.length_replicate)
  refine ⟨false,false,rfl,rfl,_,rfl,iteF ?_⟩
  have s15:=s14.trans s5
  have h15:=s15 _ _ h1
  refine ⟨_,rfl,r1,_,rfl,.inl (SqL.of h15),fun lp hlp=>?_⟩
  have s6:=zad (o:=.lst (ms.map V.int)) hlp
  have hlp6:(upd H5 lp (.lst (ms.map V.int))) lp=some (.lst (ms.map V.int)):=zae
  have s16:=s15.trans s6
  have hlpn:H1 lp=none:=s15.free hlp
  generalize upd H5 lp (.lst (ms.map V.int))=H6 at s6 hlp6 s16 ⊢
  dsimp only [zcy]
  refine zdz (fun σ H'=>∃ (lp:Addr) (ms':List Int),σ=[some (.ref x),some (.ref t),some (.int one),some (.int other),some (.int c),some (.ref r1),none,none,some (.ref y),some (.ref lp),none,none,none,none]∧Same H1 H'∧H1 lp=none∧H' lp=some (.lst (ms'.map V.int))∧ms'.length≤8∧(c % 3=2→ms'=ms)) ?_ ?_
  case refine_2 =>
   intro NX hN
   refine ⟨_,rfl,_,_,rfl,rfl,(by show (0:Int)<3;decide),rfl,_,rfl,?_⟩
   refine ite2 (fun h=>?_) (fun h=>hN _ _ ⟨lp,ms,rfl,s16,hlpn,hlp6,hms,fun _=>rfl⟩)
   have e1:c % 3=1:=by
    have h':=of_decide_eq_true h
    injection h'
   refine ⟨_,rfl,t,_,_,_,rfl,rfl,SqT.of (s16 _ _ ht1),rfl,n,rfl,by omega,by omega,?_⟩
   rw [Int.toNat_natCast]
   refine zcD (fun i ys H'=>H'=H6∧∃ zs:List Int,ys=zs.map V.int∧zs.length≤i) ⟨rfl,[],rfl,Nat.le_refl _⟩ (zao (by omega)) ?_ ?_ ?_
   ·rintro i ys H' hi ⟨_,zs,rfl,hl⟩
    rw [List.length_map]
    exact hl
   ·rintro i ys H' N hi ⟨rfl,zs,rfl,hl⟩ hN' C' s₀ H₀ ex
    have put:N (zs.map V.int++[.int (0+(i:Int))]) H':=hN' _ _ ⟨rfl,zs++[0+(i:Int)],by rw [List.map_append];rfl,by rw [List.length_append];simp;omega⟩
    have skip:N (zs.map V.int) H':=hN' _ _ ⟨rfl,zs,rfl,by omega⟩
    dsimp only [zcy]
    refine ⟨_,rfl,_,rfl,r1,_,rfl,.inl (SqL.of (s16 _ _ h1)),rfl,zaE _,_,rfl,?_⟩
    refine ite2 (fun h=>iteT ⟨_,rfl,put⟩) (fun h=>?_)
    refine ⟨_,rfl,_,rfl,_,_,rfl,rfl,⟨by decide,by decide⟩,_,rfl,t,_,_,_,rfl,rfl,SqT.of (s16 _ _ ht1),rfl,_,_,rfl,rfl,(by show (0:Int)<(n:Int);omega),rfl,_,rfl,?_⟩
    exact ite2 (fun h=>⟨_,rfl,put⟩) (fun h=>skip)
   ·rintro ys H' ⟨rfl,zs,rfl,hl⟩ p hp
    exact hN _ _ ⟨p,zs,rfl,s16.trans (zad hp),s16.free hp,zae,by omega,fun e2=>by omega⟩
  rintro σ H7 ⟨lp7,ms7,rfl,s17,hlpn7,hlp7,hms7,he7⟩
  refine zdz (fun σ H'=>∃ (ms':List Int),σ=[some (.ref x),some (.ref t),some (.int one),some (.int other),some (.int c),some (.ref r1),none,none,some (.ref y),some (.ref lp7),none,none,none,none]∧Same H1 H'∧H' lp7=some (.lst (ms'.map V.int))∧ms'.length≤8) ?_ ?_
  case refine_2 =>
   intro NX hN
   refine ⟨_,rfl,_,_,rfl,rfl,(by show (0:Int)<3;decide),rfl,_,rfl,?_⟩
   refine ite2 (fun h=>?_) (fun h=>hN _ _ ⟨ms7,rfl,s17,hlp7,hms7⟩)
   have e2:c % 3=2:=by
    have h':=of_decide_eq_true h
    injection h'
   obtain rfl:=he7 e2
   have hone:one∈ms7:=(pt.2 one).mpr .refl
   have hpos:0<ms7.length:=List.length_pos_of_mem hone
   have k0:=Int.emod_nonneg (c/3) (show ((ms7.map V.int).length:Int)≠0 by rw [List.length_map];omega)
   have kn:=Int.emod_lt_of_pos (c/3) (show (0:Int)<((ms7.map V.int).length:Int) by rw [List.length_map];omega)
   obtain ⟨j,ej⟩:=Int.eq_ofNat_of_zero_le k0
   rw [ej,List.length_map] at kn
   have hj:j<ms7.length:=by omega
   have eat:(ms7.map V.int)[j]? = some (.int ms7[j]):=by rw [List.getElem?_map,List.getElem?_eq_getElem hj];rfl
   refine ⟨_,rfl,.inl ⟨rfl,_,SqL.of hlp7⟩,_,rfl,_,rfl,_,_,rfl,rfl,⟨by decide,by decide⟩,_,rfl,r1,_,rfl,.inl (SqL.of (s17 _ _ h1)),_,_,rfl,rfl,(by show (0:Int)<((ms7.map V.int).length:Int);rw [List.length_map];omega),r1,_,_,.int ms7[j],rfl,rfl,SqL.of (s17 _ _ h1),by show atI (ms7.map V.int) (c/3 % ((ms7.map V.int).length:Int))=_;rw [ej];exact zaO (j:=j) eat,?_⟩
   refine ⟨lp7,ms7.map V.int,ms7[j],j,rfl,rfl,hlp7,fun v hv=>?_,eat,fun i hi=>?_,?_⟩
   ·obtain ⟨z,_,rfl⟩:=List.mem_map.mp hv
    exact ⟨z,rfl⟩
   ·rw [List.getElem?_map,List.getElem?_eq_getElem (show i<ms7.length by omega)]
    intro e
    simp only [Option.map_some,Option.some.injEq,V.int.injEq] at e
    have:=List.pairwise_iff_getElem.mp pt.1 i j (by omega) hj hi
    omega
   ·rw [zmA]
    refine hN _ _ ⟨ms7.eraseIdx j,rfl,fun b o eb=>?_,zae,Nat.le_trans (List.length_eraseIdx_le _ _) hms7⟩
    rw [zar (zal eb hlpn7)]
    exact s17 _ _ eb
  rintro σ H8 ⟨ms8,rfl,s18,hlp8,hms8⟩
  have j1:inV (.int one) (ms8.map V.int)=decide (one∈ms8):=zbG one ms8
  have j2:inV (.int other) (ms8.map V.int)=decide (other∈ms8):=zbG other ms8
  refine zdz (fun σ H'=>H'=H8∧∃ (b:Bool),σ=[some (.ref x),some (.ref t),some (.int one),some (.int other),some (.int c),some (.ref r1),none,none,some (.ref y),some (.ref lp7),some (.bl b),none,none,none]∧(b=true↔one∈ms8∧other∉ms8)) ?_ ?_
  case refine_2 =>
   intro NX hN
   refine ⟨_,rfl,_,rfl,lp7,_,rfl,.inl (SqL.of hlp8),rfl,zaE _,_,rfl,?_⟩
   show if (inV (.int one) (ms8.map V.int))=true then _ else _
   rw [j1]
   by_cases m1:one∈ms8
   ·rw [decide_eq_true m1]
    refine iteT ⟨_,rfl,_,rfl,lp7,_,rfl,.inl (SqL.of hlp8),rfl,zaE _,?_⟩
    refine hN _ _ ⟨rfl,_,rfl,?_⟩
    rw [j2]
    simp [m1]
   ·rw [decide_eq_false m1]
    exact iteF (hN _ _ ⟨rfl,false,rfl,by simp [m1]⟩)
  rintro σ H9 ⟨rfl,b0,rfl,hb0⟩
  have hl9:=s18 _ _ hl1
  refine ⟨_,rfl,t,_,_,_,rfl,rfl,SqT.of (s18 _ _ ht1),rfl,l,rfl,⟨_,SqL.of hl9⟩,zdQ (K:=K) (a:=l) (xs:=vp) (fun i σ H'=>H'=H9∧∃ (b:Bool) (v11 v12 v13:Option V),σ=[some (.ref x),some (.ref t),some (.int one),some (.int other),some (.int c),some (.ref r1),none,none,some (.ref y),some (.ref lp7),some (.bl b),v11,v12,v13]∧(b=true↔one∈ms8∧other∉ms8∧∀ p∈ps.take i,(p.u∈ms8↔p.w∈ms8)))
   ⟨rfl,b0,none,none,none,rfl,by rw [hb0];simp⟩ (fun i σ H' _ ⟨e,_⟩=>e▸SqL.of hl9) ?_ ?_⟩
  ·rintro i v σ H' hv ⟨rfl,b,v11,v12,v13,rfl,hb⟩
   obtain ⟨p,hpi,⟨x3,y3,rfl,hx3,hy3⟩⟩:=(zam.same (s1.trans s18) hp).get hv
   have htk:ps.take (i+1)=ps.take i++[p]:=by rw [List.take_succ,hpi];rfl
   have iu:inV (.int p.u) (ms8.map V.int)=decide (p.u∈ms8):=zbG _ ms8
   have iw:inV (.int p.w) (ms8.map V.int)=decide (p.w∈ms8):=zbG _ ms8
   have hmore:(∀ r∈ps.take (i+1),(r.u∈ms8↔r.w∈ms8))↔((∀ r∈ps.take i,(r.u∈ms8↔r.w∈ms8))∧(p.u∈ms8↔p.w∈ms8)):=by
    rw [htk]
    constructor
    ·intro z
     exact ⟨fun r hr=>z r (List.mem_append_left _ hr),z p (List.mem_append_right _ (List.mem_singleton.mpr rfl))⟩
    ·rintro ⟨z1,z2⟩ r hr
     rcases List.mem_append.mp hr with h | h
     ·exact z1 r h
     ·rw [List.mem_singleton.mp h];exact z2
   refine ⟨x3,_,rfl,hx3,rfl,_,_,rfl,_,_,rfl,_,_,rfl,rfl,?_⟩
   refine ⟨_,rfl,_,rfl,lp7,_,rfl,.inl (SqL.of hlp8),rfl,zaE _,_,rfl,_,rfl,lp7,_,rfl,.inl (SqL.of hlp8),rfl,zaE _,rfl,_,rfl,?_⟩
   show if (!decide (V.bl (inV (.int p.u) (ms8.map V.int))=V.bl (inV (.int p.w) (ms8.map V.int))))=true then _ else _
   rw [iu,iw]
   by_cases e:(p.u∈ms8↔p.w∈ms8)
   ·rw [decide_eq_true (show V.bl (decide (p.u∈ms8))=V.bl (decide (p.w∈ms8)) by rw [decide_eq_decide.mpr e])]
    refine iteF ⟨rfl,b,_,_,_,rfl,?_⟩
    rw [hb,hmore]
    simp [e]
   ·rw [decide_eq_false (show ¬ V.bl (decide (p.u∈ms8))=V.bl (decide (p.w∈ms8)) from fun z=>by
     injection z with z
     exact e (decide_eq_decide.mp z))]
    refine iteT ⟨rfl,false,_,_,_,rfl,?_⟩
    rw [hmore]
    constructor
    ·intro z;cases z
    ·rintro ⟨_,_,_,z⟩;exact absurd z e
  ·rintro σ H' ⟨rfl,b,v11,v12,v13,rfl,hb⟩
   rw [hvp,List.take_length] at hb
   refine ⟨_,rfl,?_⟩
   intro y2 dy2 ny2 ndy2 ney2
   have sm2:=ze3 (C:=CP) ny2 ndy2
   refine ⟨y2,dy2,lp7,ms8,rfl,zae,SqL.of (sm2 _ _ hlp8),fun HA FA hFA apA kpA=>⟨rfl,?_⟩⟩
   have sA:=zdf (n:=(n:Int)) ny2 ndy2 kpA
   have hlpA:=sA _ _ hlp8
   have nFA:H' FA=none:=sm2.free hFA
   obtain ⟨⟨dA,g1⟩,g2⟩:=id apA
   refine ⟨_,rfl,.inl ⟨rfl,_,SqL.of hlpA⟩,lp7,_,rfl,rfl,hlpA,?_⟩
   have sB:Same H1 (upd HA lp7 (.lst [])):=fun b o eb=>by rw [zar (zal eb hlpn7)];exact sA _ _ (s18 _ _ eb)
   have g1B:(upd HA lp7 (.lst [])) y2=some (.ins CP dA (zkM FA)):=by rw [zar (fun e=>by rw [e,hlp8] at ny2;cases ny2)];exact g1
   have g2B:(upd HA lp7 (.lst [])) FA=some (.lst (ms8.map V.int)):=by rw [zar (fun e=>by rw [e,hlp8] at nFA;cases nFA)];exact g2
   generalize upd HA lp7 (.lst [])=HB at sB g1B g2B ⊢
   refine ⟨_,rfl,.inr ⟨y2,dA,_,rfl,g1B,zkv _ (by decide +kernel),_,rfl,_,rfl,_,rfl,y2,FA,x,L,n,ps,one,other,ms8,rfl,⟨⟨dA,g1B⟩,g2B⟩,net.same (s1.trans sB),ok,fun HC bC sC hbC=>?_⟩⟩
   refine ⟨_,rfl,_,_,_,_,_,rfl,rfl,.of (.bl bC),bb,_,rfl,iteT ?_⟩
   refine ⟨_,rfl,_,rfl,rfl,?_⟩
   obtain rfl:bC=b:=Bool.eq_iff_iff.mpr (hbC.trans hb.symm)
   rw [decide_eq_true rfl]
   exact q _ ((s1.trans sB).trans sC)
end
end K2
namespace K2
open PySem L2 Mp St Bz
section
structure Calls2 (P:Program) (w:World) (K:W.Frag) (mg:Str→Option Value) (base:Heap) (C CS CP CA fx0 fx1 fx2 fx3 fx4 fx5 fx6 fx7 fx8 fx9:Addr) (fdx0 fdx1 fdx2 fdx3 fdx4 fdx5 fdx6 fdx7 fdx8 fdx9:FuncData):Prop where
 ze5:mg "_law_told" = some (.ref fx0)
 ze8:W.keepIn K (.ref fx0)=true
 zeF:Binds K fdx0 ["_law_script","_law_first","_law_most"] []
 zeH:FnOk P w K mg base CX0 2 fx0 fdx0 ["_law_script","_law_first","_law_most"] (zo3 K)
 za6:mg "_law_cell_at" = some (.ref fx1)
 za7:W.keepIn K (.ref fx1)=true
 za8:Binds K fdx1 ["_law_script","_law_k"] []
 za9:FnOk P w K mg base CX0 1 fx1 fdx1 ["_law_script","_law_k"] (ziA K)
 zee:mg "_law_chain" = some (.ref fx2)
 zeh:W.keepIn K (.ref fx2)=true
 zel:Binds K fdx2 ["_law_script","_law_first"] []
 zeo:FnOk P w K mg base CX0 2 fx2 fdx2 ["_law_script","_law_first"] (zlI K)
 zjt:Mk K C fx3
 ziQ:mg "Net" = some (.ref C)
 zmO:Binds K fdx3 ["self","places","pipes"] []
 zmY:FnOk P w K mg base CX0 6 fx3 fdx3 ["self","places","pipes"] (zlF K C)
 zf9:mg "_law_two" = some (.ref fx4)
 zfE:W.keepIn K (.ref fx4)=true
 zfI:Binds K fdx4 ["_law_script","_law_told_here","_law_first"] []
 zfL:FnOk P w K mg base CX0 2 fx4 fdx4 ["_law_script","_law_told_here","_law_first"] (zqf K)
 zdu:mg "_law_right" = some (.ref fx5)
 zdv:W.keepIn K (.ref fx5)=true
 zdw:Binds K fdx5 ["_law_net","_law_told_here","_law_one","_law_other"] []
 zdy:FnOk P w K mg base CX0 8 fx5 fdx5 ["_law_net","_law_told_here","_law_one","_law_other"] (zlD K C)
 zcG:mg "stream" = some (.ref fx6)
 zcH:W.keepIn K (.ref fx6)=true
 zcI:Binds K fdx6 ["net","one","other"] []
 zcJ:FnOk P w K mg base CX0 7 fx6 fdx6 ["net","one","other"] (zgd K C CS CP)
 zbe:Meth K CS "shows" fx7
 zbh:Binds K fdx7 ["self","net","one","other"] []
 zbi:FnOk P w K mg base CX0 7 fx7 fdx7 ["self","net","one","other"] (zjz K C CS)
 zbw:Meth K CP "shows" fx8
 zb1:Binds K fdx8 ["self","net","one","other"] []
 zb3:FnOk P w K mg base CX0 2 fx8 fdx8 ["self","net","one","other"] (zhM K C CP)
 zed:mg "_law_shown" = some (.ref fx9)
 zeg:W.keepIn K (.ref fx9)=true
 zek:Binds K fdx9 ["_law_net","_law_told_here","_law_one","_law_other","_law_cell"] []
 zen:FnOk P w K mg base CX0 10 fx9 fdx9 ["_law_net","_law_told_here","_law_one","_law_other","_law_cell"] (zl9 K C)
variable {P:Program} {w:World} {K:W.Frag} {mg:Str→Option Value} {base:Heap} {f C CS CP CA fx0 fx1 fx2 fx3 fx4 fx5 fx6 fx7 fx8 fx9:Addr} {fd fdx0 fdx1 fdx2 fdx3 fdx4 fdx5 fdx6 fdx7 fdx8 fdx9:FuncData} {t1 t2 t3:Tok}
set_option maxHeartbeats 40000000 in
noncomputable def zpJ {cdv:Value} {A:Around} {outer:List Env} {s:Shared} {H:Hp} {E:XK} (hr:Room 10 (A.deeper (PyProof.Rows.envOfC "law" (zab zfZ) s.heap.objs.size f cdv))) (T:TxtV K mg C CS CP CA) (cs:Calls2 P w K mg base C CS CP CA fx0 fx1 fx2 fx3 fx4 fx5 fx6 fx7 fx8 fx9 fdx0 fdx1 fdx2 fdx3 fdx4 fdx5 fdx6 fdx7 fdx8 fdx9) :
  (t:TS) ×' PSs (cxOf CX0 P w K mg base ["_law_script","_law_told_here","_law_net","_law_first","_law_one","_law_other","_law_found"] "law" (zab zfZ) f cdv A outer s H E).nox (zah zfZ) t:=by
 have ze5:=cs.ze5
 have ze8:=cs.ze8
 have zeF:=cs.zeF
 have zeH:=cs.zeH
 have za6:=cs.za6
 have za7:=cs.za7
 have za8:=cs.za8
 have za9:=cs.za9
 have zee:=cs.zee
 have zeh:=cs.zeh
 have zel:=cs.zel
 have zeo:=cs.zeo
 have zjt:=cs.zjt
 have ziQ:=cs.ziQ
 have zmO:=cs.zmO
 have zmY:=cs.zmY
 have zf9:=cs.zf9
 have zfE:=cs.zfE
 have zfI:=cs.zfI
 have zfL:=cs.zfL
 have zdu:=cs.zdu
 have zdv:=cs.zdv
 have zdw:=cs.zdw
 have zdy:=cs.zdy
 have zcG:=cs.zcG
 have zcH:=cs.zcH
 have zcI:=cs.zcI
 have zcJ:=cs.zcJ
 have zbe:=cs.zbe
 have zbh:=cs.zbh
 have zbi:=cs.zbi
 have zbw:=cs.zbw
 have zb1:=cs.zb1
 have zb3:=cs.zb3
 have zed:=cs.zed
 have zeg:=cs.zeg
 have zek:=cs.zek
 have zen:=cs.zen
 exact ⟨_,(zaf (zax (i:=1) zfO.nd rfl (Or.inl rfl) (zak zeH (hr.mono (by decide)) rfl ze5 ze8 zeF .nil zaq (zaa (pv 0) (zaa zag (zaa zag zac)))))
   (zaf (zaP (zat zcd (za1 zbk (zak za9 (hr.mono (by decide)) rfl za6 za7 za8 .nil zaq (zaa (pv 0) (zaa zag zac))) zag) zag (za0 _)) (zaj (zax (i:=1) zfO.nd rfl (Or.inl rfl) (zak zeo (hr.mono (by decide)) rfl zee zeh zel .nil zaq (zaa (pv 0) (zaa zag zac))))) zaz)
   (zaf (zax (i:=2) zfO.nd rfl (Or.inl rfl) (ze1 zjt zmY (hr.mono (by decide)) rfl ziQ zmO .nil zaq (zaa (zay zav (pv 1) zag (fun _ _=>rfl)) (zaa (zay zav (pv 1) zag (fun _ _=>rfl)) zac))))
   (zaf (zdd PassesOwn.never rfl (zaS (zdE (zaa zag (zaa zag zac)))) (zan (i:=3) zfO.nd rfl (Or.inl rfl)) (zaf (zfP (zak zfL (hr.mono (by decide)) rfl zf9 zfE zfI .nil zaq (zaa (pv 0) (zaa (pv 1) (zaa (pv 3) zac)))) (zbZ (n:=2) rfl (zap (zan (i:=4) zfO.nd rfl (Or.inl rfl)) (zap (zan (i:=5) zfO.nd rfl (Or.inl rfl)) zbg))))
   (zaj (zaP (zbj (zaX (zak zdy (hr.mono (by decide)) rfl zdu zdv zdw .nil zaq (zaa (pv 2) (zaa (pv 1) (zaa (pv 4) (zaa (pv 5) zac))))))) (zaj (zas zcs)) zaz))))
   (zaf (zax (i:=6) zfO.nd rfl (Or.inl rfl) (zak zcJ (hr.mono (by decide)) rfl zcG zcH zcI .nil zaq (zaa (pv 2) (zaa (pv 4) (zaa (pv 5) zac)))))
   (zaf (zaP (PW.pt (pw_or (zat zlT (zgh (pv 6) T.c_Stream zbe zbi (hr.mono (by decide)) zbh T.c_Apart zbw zb3 (hr.mono (by decide)) zb1 zaq (zaa (pv 2) (zaa (pv 4) (zaa (pv 5) zac)))) zcs (za0 _)) (pw_or1 (zbj (zaX (zak zen (hr.mono (by decide)) rfl zed zeg zek .nil zaq (zaa (pv 2) (zaa (pv 1) (zaa (pv 4) (zaa (pv 5) (zaa (zak za9 (hr.mono (by decide)) rfl za6 za7 za8 .nil zaq (zaa (pv 0) (zaa zag zac))) zac))))))))))) (zaj (zas zcs)) zaz)
   (zaf (zaP (zaX (ze2 rfl T.n_isinstance (pv 6) rfl T.zbH)) (zaf (zcc (ziL PySem.F.plainAttrs_list PySem.F.slot_list_append PySem.F.type_list_append zde (zaL (pv 6) rfl) (zaa (zaI (zaa zag (zaa zag zac))) zac)))
   (zaj (zcc (ziK PySem.F.plainAttrs_list PySem.F.slot_list_clear PySem.F.type_list_clear zgi (zaL (pv 6) rfl))))) (zaj (zcc (ziK PySem.F.plainAttrs_list PySem.F.slot_list_clear PySem.F.type_list_clear zgi (zaL (pv 6) rfl)))))
   (zaj (zas (zak zdy (hr.mono (by decide)) rfl zdu zdv zdw .nil zaq (zaa (pv 2) (zaa (pv 1) (zaa (pv 4) (zaa (pv 5) zac))))))))))))))⟩
end
end K2
namespace K2
open PySem L2 Mp St Bz
def znh (K:W.Frag):Sp:=fun vs H Q _=>∃ (a:Addr) (ns:List Int),vs=[.ref a]∧SqL K H a (ns.map V.int)∧ns.length≤63∧∀ H',Q (.bl true) H'
theorem zkO {ps:List Pipe} {one other:Int} {ms:List Int} (pt:zfu ps one ms) (nr:¬ Reach ps one other):zmT ps one other ms:=by
 refine ⟨(pt.2 one).mpr .refl,fun z=>nr ((pt.2 other).mp z),fun p hp=>?_⟩
 rw [pt.2,pt.2]
 exact ⟨fun z=>.step z ⟨p,hp,.inl ⟨rfl,rfl⟩⟩,fun z=>.step z ⟨p,hp,.inr ⟨rfl,rfl⟩⟩⟩
section
variable {P:Program} {w:World} {K:W.Frag} {mg:Str→Option Value} {base:Heap} {f C CS CP CA fx0 fx1 fx2 fx3 fx4 fx5 fx6 fx7 fx8 fx9:Addr} {fd fdx0 fdx1 fdx2 fdx3 fdx4 fdx5 fdx6 fdx7 fdx8 fdx9:FuncData} {t1 t2 t3:Tok}
theorem zqz (F:Fun K "law" "law" zfZ f fd) (T:TxtV K mg C CS CP CA) (cs:Calls2 P w K mg base C CS CP CA fx0 fx1 fx2 fx3 fx4 fx5 fx6 fx7 fx8 fx9 fdx0 fdx1 fdx2 fdx3 fdx4 fdx5 fdx6 fdx7 fdx8 fdx9):FnOk P w K mg base CX0 11 f fd ["_law_script"] (znh K):=by
 refine F.ok zfO (fun vs H Q E h=>?_) (fun cdv A outer s H vs Q E hr h=>?_)
 ·obtain ⟨a,ns,rfl,_⟩:=h
  rfl
 ·obtain ⟨a,ns,rfl,sq,hlen,k⟩:=h
  refine ⟨_,(zpJ hr T cs).2,?_⟩
  refine ⟨_,rfl,a,ns,0,7,rfl,by decide,by decide,by decide,sq,fun H1 t l n ps s1 hlH le7 n5 smp told=>?_⟩
  dsimp only [zcy]
  refine zdz (fun σ H'=>∃ (t l:Addr) (n:Nat) (ps:List Pipe),σ=[some (.ref a),some (.ref t),none,none,none,none,none]∧Same H H'∧Told K H' t l n ps∧Sm1 ps) ?_ ?_
  case refine_2 =>
   intro NX hN
   refine ⟨_,rfl,a,ns,2,rfl,by decide,s1.seq sq,fun c2=>⟨_,_,rfl,rfl,(by show (0:Int)<4;decide),rfl,_,rfl,?_⟩⟩
   refine ite2 (fun h=>?_) (fun h=>hN _ _ ⟨t,l,n,ps,rfl,s1,told,by omega,fun p hp=>⟨by have:=(smp p hp).1;omega,by have:=(smp p hp).2;omega⟩⟩)
   exact ⟨_,rfl,a,ns,0,rfl,by decide,s1.seq sq,fun H2 t2 l2 n2 ps2 s2 le9 sm2 told2=>hN _ _ ⟨t2,l2,n2,ps2,rfl,s1.trans s2,told2,le9,sm2⟩⟩
  rintro σ H2 ⟨t,l,n,ps,rfl,s2,told,sm⟩
  obtain ⟨ht,⟨us,hl,hp⟩,ok⟩:=id told
  refine ⟨_,rfl,t,_,_,_,rfl,rfl,SqT.of ht,rfl,_,rfl,t,_,_,_,rfl,rfl,SqT.of ht,rfl,?_⟩
  intro x dx nx ndx nex
  have s0:=ze3 (C:=C) nx ndx
  refine ⟨x,dx,l,n,us,ps,rfl,zae,SqL.of (s0 _ _ hl),zam.same s0 hp,ok,fun H3 L hL net kp=>⟨rfl,?_⟩⟩
  have s23:=zdf (n:=(n:Int)) nx ndx kp
  have s3:=s2.trans s23
  have told3:=told.same s23
  have s9:=sm.sm9 ok
  refine ⟨by show 2≤sizeLine;decide,fun lz hlz=>?_⟩
  have s4:=zad (o:=.lst [.int 3,.int 5]) hlz
  have hlz4:(upd H3 lz (.lst [.int 3,.int 5])) lz=some (.lst [.int 3,.int 5]):=zae
  generalize upd H3 lz (.lst [.int 3,.int 5])=H4 at s4 hlz4 ⊢
  have net4:=net.same s4
  have told4:=told3.same s4
  have sq4:=(s3.trans s4).seq sq
  refine ⟨lz,rfl,⟨_,SqL.of hlz4⟩,zdQ (K:=K) (a:=lz) (xs:=[.int 3,.int 5]) (fun i σ H'=>∃ v3 v4 v5:Option V,σ=[some (.ref a),some (.ref t),some (.ref x),v3,v4,v5,none]∧Same H4 H'∧(i=0∨∃ one other:Int,v4=some (.int one)∧v5=some (.int other)∧(0≤one∧one<n)∧(0≤other∧other<n)))
   ⟨none,none,none,rfl,Same.refl _,.inl rfl⟩ (fun i σ H' _ ⟨_,_,_,_,z,_⟩=>SqL.of (z _ _ hlz4)) ?_ ?_⟩
  ·rintro i v σ H' hv ⟨v3,v4,v5,rfl,s5,_⟩
   obtain ⟨kk,rfl,hkk⟩:∃ kk:Int,v=.int kk∧0≤kk:=by
    match i,hv with
    | 0,hv=>cases hv;exact ⟨3,rfl,by decide⟩
    | 1,hv=>cases hv;exact ⟨5,rfl,by decide⟩
    | i+2,hv=>simp at hv
   refine ⟨_,rfl,_,rfl,_,rfl,a,t,l,ns,kk,n,ps,rfl,hkk,s5.seq sq4,told4.same s5,fun p3 one other hp3 o0 on v0 vn=>?_⟩
   have s6:=zad (o:=.tup [.int one,.int other]) hp3
   refine ⟨p3,_,rfl,SqT.of zae,rfl,_,_,rfl,_,_,rfl,rfl,?_⟩
   have s46:=s5.trans s6
   refine ⟨_,rfl,_,rfl,_,rfl,_,rfl,x,L,t,l,n,ps,one,other,rfl,net4.same s46,told4.same s46,sm,⟨o0,on⟩,⟨v0,vn⟩,fun H7 s7=>⟨_,rfl,iteF ?_⟩⟩
   exact ⟨_,_,_,rfl,s46.trans s7,.inr ⟨one,other,rfl,rfl,⟨o0,on⟩,⟨v0,vn⟩⟩⟩
  ·rintro σ H5 ⟨v3,v4,v5,rfl,s5,h0⟩
   obtain ⟨one,other,rfl,rfl,ho1,ho2⟩:=h0.resolve_left (by show ¬ (2:Nat)=0;decide)
   have net5:=net4.same s5
   have told5:=told4.same s5
   have sq5:=s5.seq sq4
   refine ⟨_,rfl,_,rfl,_,rfl,x,L,n,ps,one,other,rfl,net5,ok,ho1,ho2,fun r=>s9.small ho2 r,(fun rr H6 y F1 G1 us6 ws6 s6 hy hF1 hG1 nFG st fu fw=>?_),fun nr H6 y F1 ms s6 hy hF1 ap pt=>?_⟩
   ·obtain ⟨⟨dy,g1⟩,g2,g3⟩:=id st
    have isH:=ok.isH ho2 rr.symm
    have hand:zhr K CS H6 y n ps (flw n ps one other) (hOf n ps one other):=⟨⟨F1,G1,us6,ws6,st,fu,fw⟩,zgN _ _ _ _,(s9.fine ho2 rr).sum,fun z=>(s9.small ho2 rr z).mono (by decide)⟩
    refine ⟨_,rfl,.inl ⟨y,dy,_,rfl,g1,zgf _ _ (by decide +kernel) (by decide +kernel),_,rfl,_,rfl,_,rfl,y,x,L,n,ps,one,other,_,_,rfl,hand,net5.same s6,ok,ho1,ho2,fun H7 b7 s7 hb7=>?_⟩⟩
    obtain rfl:b7=true:=hb7.mpr (zea ok.nice isH)
    refine ⟨true,true,rfl,rfl,_,rfl,iteF ?_⟩
    have s57:=s6.trans s7
    refine ⟨_,rfl,_,rfl,_,rfl,_,rfl,_,rfl,a,ns,7,rfl,by decide,s57.seq sq5,fun c7=>⟨x,L,t,l,n,ps,one,other,c7,rfl,net5.same s57,told5.same s57,sm,ho1,ho2,fun H8 s8=>⟨_,rfl,iteF ?_⟩⟩⟩
    have s68:=s7.trans s8
    have s58:=s57.trans s8
    refine ⟨_,rfl,_,_,_,_,_,rfl,rfl,T.tyS (st.same s68),T.i_SS,_,rfl,iteT ?_⟩
    have hul:us6.length=ps.length:=by rw [fu.len,zgN]
    have hle:=ok.le
    refine ⟨_,rfl,y,CS,dy,_,_,rfl,s68 _ _ g1,T.c_Stream,T.a_flows,zbf _ _,.inl ⟨rfl,_,SqL.of (s68 _ _ g2)⟩,by show 2≤sizeLine;decide,fun ta hta=>?_⟩
    have sa:=zad (o:=.tup [.int 1,.int 1]) hta
    generalize upd H8 ta (.tup [.int 1,.int 1])=H9 at sa ⊢
    have s69:=s68.trans sa
    refine ⟨F1,us6,_,rfl,rfl,s69 _ _ g2,zao (by omega),?_⟩
    have nyF:y≠F1:=fun e=>by rw [e,g2] at g1;cases g1
    have keep:∀ b o,b≠F1→H6 b=some o→(upd H9 F1 (.lst (us6++[.ref ta]))) b=some o:=fun b o hb e=>by rw [zar hb];exact s69 _ _ e
    have sA:Same H5 (upd H9 F1 (.lst (us6++[.ref ta]))):=fun b o eb=>keep b o (zal eb hF1) (s6 _ _ eb)
    have g1A:=keep _ _ nyF g1
    have g3A:=keep _ _ nFG.symm g3
    generalize upd H9 F1 (.lst (us6++[.ref ta]))=HA at sA g1A g3A ⊢
    refine ⟨_,rfl,y,CS,dy,_,_,rfl,g1A,T.c_Stream,T.a_heights,zaG _ _,.inl ⟨rfl,_,SqL.of g3A⟩,G1,_,rfl,rfl,g3A,?_⟩
    have sB:Same H5 (upd HA G1 (.lst [])):=fun b o eb=>by rw [zar (zal eb hG1)];exact sA _ _ eb
    generalize upd HA G1 (.lst [])=HB at sB ⊢
    exact ⟨_,rfl,_,rfl,_,rfl,_,rfl,x,L,t,l,n,ps,one,other,rfl,net5.same sB,told5.same sB,sm,ho1,ho2,fun HC _=>k _⟩
   ·obtain ⟨⟨dy,g1⟩,g2⟩:=id ap
    refine ⟨_,rfl,.inr ⟨y,dy,_,rfl,g1,zkv _ (by decide +kernel),_,rfl,_,rfl,_,rfl,y,F1,x,L,n,ps,one,other,ms,rfl,ap,net5.same s6,ok,fun H7 b7 s7 hb7=>?_⟩⟩
    obtain rfl:b7=true:=hb7.mpr (zkO pt nr)
    refine ⟨true,true,rfl,rfl,_,rfl,iteF ?_⟩
    have s57:=s6.trans s7
    refine ⟨_,rfl,_,rfl,_,rfl,_,rfl,_,rfl,a,ns,7,rfl,by decide,s57.seq sq5,fun c7=>⟨x,L,t,l,n,ps,one,other,c7,rfl,net5.same s57,told5.same s57,sm,ho1,ho2,fun H8 s8=>⟨_,rfl,iteF ?_⟩⟩⟩
    have s68:=s7.trans s8
    have s58:=s57.trans s8
    refine ⟨_,rfl,_,_,_,_,_,rfl,rfl,T.tyP (ap.same s68),T.i_PS,_,rfl,iteF ?_⟩
    refine ⟨_,rfl,y,CP,dy,_,_,rfl,s68 _ _ g1,T.c_Apart,T.a_places,zcp _,.inl ⟨rfl,_,SqL.of (s68 _ _ g2)⟩,F1,_,rfl,rfl,s68 _ _ g2,?_⟩
    have sB:Same H5 (upd H8 F1 (.lst [])):=fun b o eb=>by rw [zar (zal eb hF1)];exact s58 _ _ eb
    generalize upd H8 F1 (.lst [])=HB at sB ⊢
    exact ⟨_,rfl,_,rfl,_,rfl,_,rfl,x,L,t,l,n,ps,one,other,rfl,net5.same sB,told5.same sB,sm,ho1,ho2,fun HC _=>k _⟩
end
end K2
namespace K2
open PySem L2 PyProof.Rows Mp St Bz
theorem all_mk {l:W.OpenLaw} {w:World} {K:W.Frag} {h:Heap} {mg:Str→Option Value} {fa C CA CP CS g0 g1 g2 g3 g4 g5 g6 g7 g8 g9 g10 g11 g12 g13 g14 g15 g16 g17 g18 g19 g20 g21 g22 g23 g24 g25 g26 g27 g28 g29 g30 g31 g32 g33 g34 g35 g36 g37 g38 g39 g40 g41 g42 g43 g44 g45 g46 g47 g48 g49 g50 g51 g52 g53 g54 g55 g56:Addr} {t1 t2 t3:Tok} (X:K.In h) (G:h.Ns mainGlobals mg) (hfa:mg "law" = some (.ref fa))
  {od0 an0 od1 an1 od2 an2 od3 an3 od4 an4 od5 an5 od6 an6 od7 an7 od8 an8 od9 an9 od10 an10 od11 an11 od12 an12 od13 an13 od14 an14 od15 an15 od16 an16 od17 an17 od18 an18 od19 an19 od20 an20 od21 an21 od22 an22 od23 an23 od24 an24 od25 an25 od26 an26 od27 an27 od28 an28 od29 an29 od30 an30 od31 an31 od32 an32 od33 an33 od34 an34 od35 an35 od36 an36 od37 an37 od38 an38 od39 an39 od40 an40 od41 an41 od42 an42 od43 an43 od44 an44 od45 an45 od46 an46 od47 an47 od48 an48 od49 an49 od50 an50 od51 an51 od52 an52 od53 an53 od54 an54 od55 an55 od56 an56:Option Addr} {sl0 sl1 sl2 sl3 sl4 sl5 sl6 sl7 sl8 sl9 sl10 sl11 sl12 sl13 sl14 sl15 sl16 sl17 sl18 sl19 sl20 sl21 sl22 sl23 sl24 sl25 sl26 sl27 sl28 sl29 sl30 sl31 sl32 sl33 sl34 sl35 sl36 sl37 sl38 sl39 sl40 sl41 sl42 sl43 sl44 sl45 sl46 sl47 sl48 sl49 sl50 sl51 sl52 sl53 sl54 sl55 sl56:Array (Option Value)} {oc0 kV0 dc0 pm0 cd0 ct0 oc1 kV1 dc1 pm1 cd1 ct1 oc2 kV2 dc2 pm2 cd2 ct2 oc3 kV3 dc3 pm3 cd3 ct3 oc4 kV4 dc4 pm4 cd4 ct4 oc5 kV5 dc5 pm5 cd5 ct5 oc6 kV6 dc6 pm6 cd6 ct6 oc7 kV7 dc7 pm7 cd7 ct7 oc8 kV8 dc8 pm8 cd8 ct8 oc9 kV9 dc9 pm9 cd9 ct9 oc10 kV10 dc10 pm10 cd10 ct10 oc11 kV11 dc11 pm11 cd11 ct11 oc12 kV12 dc12 pm12 cd12 ct12 oc13 kV13 dc13 pm13 cd13 ct13 oc14 kV14 dc14 pm14 cd14 ct14 oc15 kV15 dc15 pm15 cd15 ct15 oc16 kV16 dc16 pm16 cd16 ct16 oc17 kV17 dc17 pm17 cd17 ct17 oc18 kV18 dc18 pm18 cd18 ct18 oc19 kV19 dc19 pm19 cd19 ct19 oc20 kV20 dc20 pm20 cd20 ct20 oc21 kV21 dc21 pm21 cd21 ct21 oc22 kV22 dc22 pm22 cd22 ct22 oc23 kV23 dc23 pm23 cd23 ct23 oc24 kV24 dc24 pm24 cd24 ct24 oc25 kV25 dc25 pm25 cd25 ct25 oc26 kV26 dc26 pm26 cd26 ct26 oc27 kV27 dc27 pm27 cd27 ct27 oc28 kV28 dc28 pm28 cd28 ct28 oc29 kV29 dc29 pm29 cd29 ct29 oc30 kV30 dc30 pm30 cd30 ct30 oc31 kV31 dc31 pm31 cd31 ct31 oc32 kV32 dc32 pm32 cd32 ct32 oc33 kV33 dc33 pm33 cd33 ct33 oc34 kV34 dc34 pm34 cd34 ct34 oc35 kV35 dc35 pm35 cd35 ct35 oc36 kV36 dc36 pm36 cd36 ct36 oc37 kV37 dc37 pm37 cd37 ct37 oc38 kV38 dc38 pm38 cd38 ct38 oc39 kV39 dc39 pm39 cd39 ct39 oc40 kV40 dc40 pm40 cd40 ct40 oc41 kV41 dc41 pm41 cd41 ct41 oc42 kV42 dc42 pm42 cd42 ct42 oc43 kV43 dc43 pm43 cd43 ct43 oc44 kV44 dc44 pm44 cd44 ct44 oc45 kV45 dc45 pm45 cd45 ct45 oc46 kV46 dc46 pm46 cd46 ct46 oc47 kV47 dc47 pm47 cd47 ct47 oc48 kV48 dc48 pm48 cd48 ct48 oc49 kV49 dc49 pm49 cd49 ct49 oc50 kV50 dc50 pm50 cd50 ct50 oc51 kV51 dc51 pm51 cd51 ct51 oc52 kV52 dc52 pm52 cd52 ct52 oc53 kV53 dc53 pm53 cd53 ct53 oc54 kV54 dc54 pm54 cd54 ct54 oc55 kV55 dc55 pm55 cd55 ct55 oc56 kV56 dc56 pm56 cd56 ct56:Value}
  (z276_Stream:W.nsIn K mainGlobals "Stream" = some (some (.ref CS)))
  (z279_Apart:W.nsIn K mainGlobals "Apart" = some (some (.ref CP)))
  (z280_Answer:W.nsIn K mainGlobals "Answer" = some (some (.ref CA)))
  (z295_Net:W.nsIn K mainGlobals "Net" = some (some (.ref C)))
  (z0_a:W.nsIn K mainGlobals "is_whole" = some (some (.ref g0)))
  (z1_l:K.lookup g0=some ⟨oc0,od0,.func (W.fnOf "is_whole" "is_whole" (zai zcW) (zah zcW) (zab zcW) .none kV0 dc0 pm0 an0 cd0 ct0),sl0⟩)
  (z2_o:W.codeIn K cd0 "is_whole" = true)
  (z3_k:W.keepIn K (.ref g0)=true)
  (z4_a:W.nsIn K mainGlobals "common_divisor" = some (some (.ref g1)))
  (z5_l:K.lookup g1=some ⟨oc1,od1,.func (W.fnOf "common_divisor" "common_divisor" (zai zaZ) (zah zaZ) (zab zaZ) .none kV1 dc1 pm1 an1 cd1 ct1),sl1⟩)
  (z6_o:W.codeIn K cd1 "common_divisor" = true)
  (z7_k:W.keepIn K (.ref g1)=true)
  (z8_a:W.nsIn K mainGlobals "is_fraction" = some (some (.ref g2)))
  (z9_l:K.lookup g2=some ⟨oc2,od2,.func (W.fnOf "is_fraction" "is_fraction" (zai zbM) (zah zbM) (zab zbM) .none kV2 dc2 pm2 an2 cd2 ct2),sl2⟩)
  (z10_o:W.codeIn K cd2 "is_fraction" = true)
  (z11_k:W.keepIn K (.ref g2)=true)
  (z12_a:W.nsIn K mainGlobals "counts_one_of" = some (some (.ref g3)))
  (z13_l:K.lookup g3=some ⟨oc3,od3,.func (W.fnOf "counts_one_of" "counts_one_of" (zai zbm) (zah zbm) (zab zbm) .none kV3 dc3 pm3 an3 cd3 ct3),sl3⟩)
  (z14_o:W.codeIn K cd3 "counts_one_of" = true)
  (z15_k:W.keepIn K (.ref g3)=true)
  (z16_a:W.nsIn K mainGlobals "is_hardness" = some (some (.ref g4)))
  (z17_l:K.lookup g4=some ⟨oc4,od4,.func (W.fnOf "is_hardness" "is_hardness" (zai zbL) (zah zbL) (zab zbL) .none kV4 dc4 pm4 an4 cd4 ct4),sl4⟩)
  (z18_o:W.codeIn K cd4 "is_hardness" = true)
  (z19_k:W.keepIn K (.ref g4)=true)
  (z20_a:W.nsIn K mainGlobals "is_pipe" = some (some (.ref g5)))
  (z21_l:K.lookup g5=some ⟨oc5,od5,.func (W.fnOf "is_pipe" "is_pipe" (zai zdC) (zah zdC) (zab zdC) .none kV5 dc5 pm5 an5 cd5 ct5),sl5⟩)
  (z22_o:W.codeIn K cd5 "is_pipe" = true)
  (z23_k:W.keepIn K (.ref g5)=true)
  (z24_a:W.nsIn K mainGlobals "is_net" = some (some (.ref g6)))
  (z25_l:K.lookup g6=some ⟨oc6,od6,.func (W.fnOf "is_net" "is_net" (zai zes) (zah zes) (zab zes) .none kV6 dc6 pm6 an6 cd6 ct6),sl6⟩)
  (z26_o:W.codeIn K cd6 "is_net" = true)
  (z27_k:W.keepIn K (.ref g6)=true)
  (z28_a:W.nsIn K mainGlobals "neighbours" = some (some (.ref g7)))
  (z29_l:K.lookup g7=some ⟨oc7,od7,.func (W.fnOf "neighbours" "neighbours" (zai zci) (zah zci) (zab zci) .none kV7 dc7 pm7 an7 cd7 ct7),sl7⟩)
  (z30_o:W.codeIn K cd7 "neighbours" = true)
  (z31_k:W.keepIn K (.ref g7)=true)
  (z32_a:W.findIn K (.ref C) "__init__" = some (some (.ref g8)))
  (z33_i:W.isFn K (.ref g8)=true)
  (z34_l:K.lookup g8=some ⟨oc8,od8,.func (W.fnOf "__init__" "Net.__init__" (zai zbE) (zah zbE) (zab zbE) .none kV8 dc8 pm8 an8 cd8 ct8),sl8⟩)
  (z35_o:W.codeIn K cd8 "Net.__init__" = true)
  (z36_k:W.keepIn K (.ref g8)=true)
  (z37_a:W.findIn K (.ref C) "pipes" = some (some (.ref g9)))
  (z38_i:W.isFn K (.ref g9)=true)
  (z39_l:K.lookup g9=some ⟨oc9,od9,.func (W.fnOf "pipes" "Net.pipes" (zai zc8) (zah zc8) (zab zc8) .none kV9 dc9 pm9 an9 cd9 ct9),sl9⟩)
  (z40_o:W.codeIn K cd9 "Net.pipes" = true)
  (z41_k:W.keepIn K (.ref g9)=true)
  (z42_a:W.findIn K (.ref C) "part" = some (some (.ref g10)))
  (z43_i:W.isFn K (.ref g10)=true)
  (z44_l:K.lookup g10=some ⟨oc10,od10,.func (W.fnOf "part" "Net.part" (zai zcZ) (zah zcZ) (zab zcZ) .none kV10 dc10 pm10 an10 cd10 ct10),sl10⟩)
  (z45_o:W.codeIn K cd10 "Net.part" = true)
  (z46_k:W.keepIn K (.ref g10)=true)
  (z47_a:W.nsIn K mainGlobals "made" = some (some (.ref g11)))
  (z48_l:K.lookup g11=some ⟨oc11,od11,.func (W.fnOf "made" "made" (zai zh0) (zah zh0) (zab zh0) .none kV11 dc11 pm11 an11 cd11 ct11),sl11⟩)
  (z49_o:W.codeIn K cd11 "made" = true)
  (z50_k:W.keepIn K (.ref g11)=true)
  (z51_a:W.nsIn K mainGlobals "plus" = some (some (.ref g12)))
  (z52_l:K.lookup g12=some ⟨oc12,od12,.func (W.fnOf "plus" "plus" (zai zhy) (zah zhy) (zab zhy) .none kV12 dc12 pm12 an12 cd12 ct12),sl12⟩)
  (z53_o:W.codeIn K cd12 "plus" = true)
  (z54_k:W.keepIn K (.ref g12)=true)
  (z55_a:W.nsIn K mainGlobals "minus" = some (some (.ref g13)))
  (z56_l:K.lookup g13=some ⟨oc13,od13,.func (W.fnOf "minus" "minus" (zai zf5) (zah zf5) (zab zf5) .none kV13 dc13 pm13 an13 cd13 ct13),sl13⟩)
  (z57_o:W.codeIn K cd13 "minus" = true)
  (z58_k:W.keepIn K (.ref g13)=true)
  (z59_a:W.nsIn K mainGlobals "times" = some (some (.ref g14)))
  (z60_l:K.lookup g14=some ⟨oc14,od14,.func (W.fnOf "times" "times" (zai zf4) (zah zf4) (zab zf4) .none kV14 dc14 pm14 an14 cd14 ct14),sl14⟩)
  (z61_o:W.codeIn K cd14 "times" = true)
  (z62_k:W.keepIn K (.ref g14)=true)
  (z63_a:W.nsIn K mainGlobals "over" = some (some (.ref g15)))
  (z64_l:K.lookup g15=some ⟨oc15,od15,.func (W.fnOf "over" "over" (zai zhz) (zah zhz) (zab zhz) .none kV15 dc15 pm15 an15 cd15 ct15),sl15⟩)
  (z65_o:W.codeIn K cd15 "over" = true)
  (z66_k:W.keepIn K (.ref g15)=true)
  (z67_a:W.nsIn K mainGlobals "total" = some (some (.ref g16)))
  (z68_l:K.lookup g16=some ⟨oc16,od16,.func (W.fnOf "total" "total" (zai zf3) (zah zf3) (zab zf3) .none kV16 dc16 pm16 an16 cd16 ct16),sl16⟩)
  (z69_o:W.codeIn K cd16 "total" = true)
  (z70_k:W.keepIn K (.ref g16)=true)
  (z71_a:W.nsIn K mainGlobals "scale_of" = some (some (.ref g17)))
  (z72_l:K.lookup g17=some ⟨oc17,od17,.func (W.fnOf "scale_of" "scale_of" (zai zcV) (zah zcV) (zab zcV) .none kV17 dc17 pm17 an17 cd17 ct17),sl17⟩)
  (z73_o:W.codeIn K cd17 "scale_of" = true)
  (z74_k:W.keepIn K (.ref g17)=true)
  (z75_a:W.nsIn K mainGlobals "scaled_ease" = some (some (.ref g18)))
  (z76_l:K.lookup g18=some ⟨oc18,od18,.func (W.fnOf "scaled_ease" "scaled_ease" (zai zbJ) (zah zbJ) (zab zbJ) .none kV18 dc18 pm18 an18 cd18 ct18),sl18⟩)
  (z77_o:W.codeIn K cd18 "scaled_ease" = true)
  (z78_k:W.keepIn K (.ref g18)=true)
  (z79_a:W.nsIn K mainGlobals "entry" = some (some (.ref g19)))
  (z80_l:K.lookup g19=some ⟨oc19,od19,.func (W.fnOf "entry" "entry" (zai zf7) (zah zf7) (zab zf7) .none kV19 dc19 pm19 an19 cd19 ct19),sl19⟩)
  (z81_o:W.codeIn K cd19 "entry" = true)
  (z82_k:W.keepIn K (.ref g19)=true)
  (z83_a:W.nsIn K mainGlobals "sheet_row" = some (some (.ref g20)))
  (z84_l:K.lookup g20=some ⟨oc20,od20,.func (W.fnOf "sheet_row" "sheet_row" (zai zc2) (zah zc2) (zab zc2) .none kV20 dc20 pm20 an20 cd20 ct20),sl20⟩)
  (z85_o:W.codeIn K cd20 "sheet_row" = true)
  (z86_k:W.keepIn K (.ref g20)=true)
  (z87_a:W.nsIn K mainGlobals "sheet_of" = some (some (.ref g21)))
  (z88_l:K.lookup g21=some ⟨oc21,od21,.func (W.fnOf "sheet_of" "sheet_of" (zai zcU) (zah zcU) (zab zcU) .none kV21 dc21 pm21 an21 cd21 ct21),sl21⟩)
  (z89_o:W.codeIn K cd21 "sheet_of" = true)
  (z90_k:W.keepIn K (.ref g21)=true)
  (z91_a:W.nsIn K mainGlobals "row_without" = some (some (.ref g22)))
  (z92_l:K.lookup g22=some ⟨oc22,od22,.func (W.fnOf "row_without" "row_without" (zai zbK) (zah zbK) (zab zbK) .none kV22 dc22 pm22 an22 cd22 ct22),sl22⟩)
  (z93_o:W.codeIn K cd22 "row_without" = true)
  (z94_k:W.keepIn K (.ref g22)=true)
  (z95_a:W.nsIn K mainGlobals "cleared" = some (some (.ref g23)))
  (z96_l:K.lookup g23=some ⟨oc23,od23,.func (W.fnOf "cleared" "cleared" (zai zdD) (zah zdD) (zab zdD) .none kV23 dc23 pm23 an23 cd23 ct23),sl23⟩)
  (z97_o:W.codeIn K cd23 "cleared" = true)
  (z98_k:W.keepIn K (.ref g23)=true)
  (z99_a:W.nsIn K mainGlobals "solved" = some (some (.ref g24)))
  (z100_l:K.lookup g24=some ⟨oc24,od24,.func (W.fnOf "solved" "solved" (zai zer) (zah zer) (zab zer) .none kV24 dc24 pm24 an24 cd24 ct24),sl24⟩)
  (z101_o:W.codeIn K cd24 "solved" = true)
  (z102_k:W.keepIn K (.ref g24)=true)
  (z103_a:W.nsIn K mainGlobals "asked_sum" = some (some (.ref g25)))
  (z104_l:K.lookup g25=some ⟨oc25,od25,.func (W.fnOf "asked_sum" "asked_sum" (zai zc3) (zah zc3) (zab zc3) .none kV25 dc25 pm25 an25 cd25 ct25),sl25⟩)
  (z105_o:W.codeIn K cd25 "asked_sum" = true)
  (z106_k:W.keepIn K (.ref g25)=true)
  (z107_a:W.nsIn K mainGlobals "heights_between" = some (some (.ref g26)))
  (z108_l:K.lookup g26=some ⟨oc26,od26,.func (W.fnOf "heights_between" "heights_between" (zai zaV) (zah zaV) (zab zaV) .none kV26 dc26 pm26 an26 cd26 ct26),sl26⟩)
  (z109_o:W.codeIn K cd26 "heights_between" = true)
  (z110_k:W.keepIn K (.ref g26)=true)
  (z111_a:W.nsIn K mainGlobals "are_places" = some (some (.ref g27)))
  (z112_l:K.lookup g27=some ⟨oc27,od27,.func (W.fnOf "are_places" "are_places" (zai zck) (zah zck) (zab zck) .none kV27 dc27 pm27 an27 cd27 ct27),sl27⟩)
  (z113_o:W.codeIn K cd27 "are_places" = true)
  (z114_k:W.keepIn K (.ref g27)=true)
  (z115_a:W.nsIn K mainGlobals "check_places" = some (some (.ref g28)))
  (z116_l:K.lookup g28=some ⟨oc28,od28,.func (W.fnOf "check_places" "check_places" (zai zbA) (zah zbA) (zab zbA) .none kV28 dc28 pm28 an28 cd28 ct28),sl28⟩)
  (z117_o:W.codeIn K cd28 "check_places" = true)
  (z118_k:W.keepIn K (.ref g28)=true)
  (z119_a:W.nsIn K mainGlobals "_law_cell_at" = some (some (.ref g29)))
  (z120_l:K.lookup g29=some ⟨oc29,od29,.func (W.fnOf "_law_cell_at" "_law_cell_at" (zai zbC) (zah zbC) (zab zbC) .none kV29 dc29 pm29 an29 cd29 ct29),sl29⟩)
  (z121_o:W.codeIn K cd29 "_law_cell_at" = true)
  (z122_k:W.keepIn K (.ref g29)=true)
  (z123_a:W.nsIn K mainGlobals "_law_draw" = some (some (.ref g30)))
  (z124_l:K.lookup g30=some ⟨oc30,od30,.func (W.fnOf "_law_draw" "_law_draw" (zai zc6) (zah zc6) (zab zc6) .none kV30 dc30 pm30 an30 cd30 ct30),sl30⟩)
  (z125_o:W.codeIn K cd30 "_law_draw" = true)
  (z126_k:W.keepIn K (.ref g30)=true)
  (z127_a:W.nsIn K mainGlobals "_law_least" = some (some (.ref g31)))
  (z128_l:K.lookup g31=some ⟨oc31,od31,.func (W.fnOf "_law_least" "_law_least" (zai zcn) (zah zcn) (zab zcn) .none kV31 dc31 pm31 an31 cd31 ct31),sl31⟩)
  (z129_o:W.codeIn K cd31 "_law_least" = true)
  (z130_k:W.keepIn K (.ref g31)=true)
  (z131_a:W.nsIn K mainGlobals "_law_told" = some (some (.ref g32)))
  (z132_l:K.lookup g32=some ⟨oc32,od32,.func (W.fnOf "_law_told" "_law_told" (zai zc4) (zah zc4) (zab zc4) .none kV32 dc32 pm32 an32 cd32 ct32),sl32⟩)
  (z133_o:W.codeIn K cd32 "_law_told" = true)
  (z134_k:W.keepIn K (.ref g32)=true)
  (z135_a:W.nsIn K mainGlobals "_law_part" = some (some (.ref g33)))
  (z136_l:K.lookup g33=some ⟨oc33,od33,.func (W.fnOf "_law_part" "_law_part" (zai zc5) (zah zc5) (zab zc5) .none kV33 dc33 pm33 an33 cd33 ct33),sl33⟩)
  (z137_o:W.codeIn K cd33 "_law_part" = true)
  (z138_k:W.keepIn K (.ref g33)=true)
  (z139_a:W.nsIn K mainGlobals "_law_chain" = some (some (.ref g34)))
  (z140_l:K.lookup g34=some ⟨oc34,od34,.func (W.fnOf "_law_chain" "_law_chain" (zai zco) (zah zco) (zab zco) .none kV34 dc34 pm34 an34 cd34 ct34),sl34⟩)
  (z141_o:W.codeIn K cd34 "_law_chain" = true)
  (z142_k:W.keepIn K (.ref g34)=true)
  (z143_a:W.findIn K (.ref CS) "__init__" = some (some (.ref g35)))
  (z144_i:W.isFn K (.ref g35)=true)
  (z145_l:K.lookup g35=some ⟨oc35,od35,.func (W.fnOf "__init__" "Stream.__init__" (zai zaW) (zah zaW) (zab zaW) .none kV35 dc35 pm35 an35 cd35 ct35),sl35⟩)
  (z146_o:W.codeIn K cd35 "Stream.__init__" = true)
  (z147_k:W.keepIn K (.ref g35)=true)
  (z148_a:W.findIn K (.ref CP) "__init__" = some (some (.ref g36)))
  (z149_i:W.isFn K (.ref g36)=true)
  (z150_l:K.lookup g36=some ⟨oc36,od36,.func (W.fnOf "__init__" "Apart.__init__" (zai zbb) (zah zbb) (zab zbb) .none kV36 dc36 pm36 an36 cd36 ct36),sl36⟩)
  (z151_o:W.codeIn K cd36 "Apart.__init__" = true)
  (z152_k:W.keepIn K (.ref g36)=true)
  (z153_a:W.nsIn K mainGlobals "falls" = some (some (.ref g37)))
  (z154_l:K.lookup g37=some ⟨oc37,od37,.func (W.fnOf "falls" "falls" (zai zf6) (zah zf6) (zab zf6) .none kV37 dc37 pm37 an37 cd37 ct37),sl37⟩)
  (z155_o:W.codeIn K cd37 "falls" = true)
  (z156_k:W.keepIn K (.ref g37)=true)
  (z157_a:W.nsIn K mainGlobals "hardness_of" = some (some (.ref g38)))
  (z158_l:K.lookup g38=some ⟨oc38,od38,.func (W.fnOf "hardness_of" "hardness_of" (zai zbN) (zah zbN) (zab zbN) .none kV38 dc38 pm38 an38 cd38 ct38),sl38⟩)
  (z159_o:W.codeIn K cd38 "hardness_of" = true)
  (z160_k:W.keepIn K (.ref g38)=true)
  (z161_a:W.nsIn K mainGlobals "stream" = some (some (.ref g39)))
  (z162_l:K.lookup g39=some ⟨oc39,od39,.func (W.fnOf "stream" "stream" (zai zeq) (zah zeq) (zab zeq) .none kV39 dc39 pm39 an39 cd39 ct39),sl39⟩)
  (z163_o:W.codeIn K cd39 "stream" = true)
  (z164_k:W.keepIn K (.ref g39)=true)
  (z165_a:W.nsIn K mainGlobals "are_fractions" = some (some (.ref g40)))
  (z166_l:K.lookup g40=some ⟨oc40,od40,.func (W.fnOf "are_fractions" "are_fractions" (zai zbn) (zah zbn) (zab zbn) .none kV40 dc40 pm40 an40 cd40 ct40),sl40⟩)
  (z167_o:W.codeIn K cd40 "are_fractions" = true)
  (z168_k:W.keepIn K (.ref g40)=true)
  (z169_a:W.nsIn K mainGlobals "check_flows" = some (some (.ref g41)))
  (z170_l:K.lookup g41=some ⟨oc41,od41,.func (W.fnOf "check_flows" "check_flows" (zai zbO) (zah zbO) (zab zbO) .none kV41 dc41 pm41 an41 cd41 ct41),sl41⟩)
  (z171_o:W.codeIn K cd41 "check_flows" = true)
  (z172_k:W.keepIn K (.ref g41)=true)
  (z173_a:W.nsIn K mainGlobals "sum_at" = some (some (.ref g42)))
  (z174_l:K.lookup g42=some ⟨oc42,od42,.func (W.fnOf "sum_at" "sum_at" (zai zep) (zah zep) (zab zep) .none kV42 dc42 pm42 an42 cd42 ct42),sl42⟩)
  (z175_o:W.codeIn K cd42 "sum_at" = true)
  (z176_k:W.keepIn K (.ref g42)=true)
  (z177_a:W.nsIn K mainGlobals "sums_of" = some (some (.ref g43)))
  (z178_l:K.lookup g43=some ⟨oc43,od43,.func (W.fnOf "sums_of" "sums_of" (zai zdB) (zah zdB) (zab zdB) .none kV43 dc43 pm43 an43 cd43 ct43),sl43⟩)
  (z179_o:W.codeIn K cd43 "sums_of" = true)
  (z180_k:W.keepIn K (.ref g43)=true)
  (z181_a:W.nsIn K mainGlobals "_law_two" = some (some (.ref g44)))
  (z182_l:K.lookup g44=some ⟨oc44,od44,.func (W.fnOf "_law_two" "_law_two" (zai zcY) (zah zcY) (zab zcY) .none kV44 dc44 pm44 an44 cd44 ct44),sl44⟩)
  (z183_o:W.codeIn K cd44 "_law_two" = true)
  (z184_k:W.keepIn K (.ref g44)=true)
  (z185_a:W.nsIn K mainGlobals "asked_sums" = some (some (.ref g45)))
  (z186_l:K.lookup g45=some ⟨oc45,od45,.func (W.fnOf "asked_sums" "asked_sums" (zai zcj) (zah zcj) (zab zcj) .none kV45 dc45 pm45 an45 cd45 ct45),sl45⟩)
  (z187_o:W.codeIn K cd45 "asked_sums" = true)
  (z188_k:W.keepIn K (.ref g45)=true)
  (z189_a:W.nsIn K mainGlobals "grounded" = some (some (.ref g46)))
  (z190_l:K.lookup g46=some ⟨oc46,od46,.func (W.fnOf "grounded" "grounded" (zai zcX) (zah zcX) (zab zcX) .none kV46 dc46 pm46 an46 cd46 ct46),sl46⟩)
  (z191_o:W.codeIn K cd46 "grounded" = true)
  (z192_k:W.keepIn K (.ref g46)=true)
  (z193_a:W.findIn K (.ref CS) "fits" = some (some (.ref g47)))
  (z194_i:W.isFn K (.ref g47)=true)
  (z195_l:K.lookup g47=some ⟨oc47,od47,.func (W.fnOf "fits" "Stream.fits" (zai zbQ) (zah zbQ) (zab zbQ) .none kV47 dc47 pm47 an47 cd47 ct47),sl47⟩)
  (z196_o:W.codeIn K cd47 "Stream.fits" = true)
  (z197_k:W.keepIn K (.ref g47)=true)
  (z198_a:W.findIn K (.ref CP) "shows" = some (some (.ref g48)))
  (z199_i:W.isFn K (.ref g48)=true)
  (z200_l:K.lookup g48=some ⟨oc48,od48,.func (W.fnOf "shows" "Apart.shows" (zai zbR) (zah zbR) (zab zbR) .none kV48 dc48 pm48 an48 cd48 ct48),sl48⟩)
  (z201_o:W.codeIn K cd48 "Apart.shows" = true)
  (z202_k:W.keepIn K (.ref g48)=true)
  (z203_a:W.findIn K (.ref CS) "shows" = some (some (.ref g49)))
  (z204_i:W.isFn K (.ref g49)=true)
  (z205_l:K.lookup g49=some ⟨oc49,od49,.func (W.fnOf "shows" "Stream.shows" (zai zbD) (zah zbD) (zab zbD) .none kV49 dc49 pm49 an49 cd49 ct49),sl49⟩)
  (z206_o:W.codeIn K cd49 "Stream.shows" = true)
  (z207_k:W.keepIn K (.ref g49)=true)
  (z208_a:W.nsIn K mainGlobals "_law_fractions" = some (some (.ref g50)))
  (z209_l:K.lookup g50=some ⟨oc50,od50,.func (W.fnOf "_law_fractions" "_law_fractions" (zai zba) (zah zba) (zab zba) .none kV50 dc50 pm50 an50 cd50 ct50),sl50⟩)
  (z210_o:W.codeIn K cd50 "_law_fractions" = true)
  (z211_k:W.keepIn K (.ref g50)=true)
  (z212_a:W.nsIn K mainGlobals "_law_streams" = some (some (.ref g51)))
  (z213_l:K.lookup g51=some ⟨oc51,od51,.func (W.fnOf "_law_streams" "_law_streams" (zai zbB) (zah zbB) (zab zbB) .none kV51 dc51 pm51 an51 cd51 ct51),sl51⟩)
  (z214_o:W.codeIn K cd51 "_law_streams" = true)
  (z215_k:W.keepIn K (.ref g51)=true)
  (z216_a:W.nsIn K mainGlobals "_law_right" = some (some (.ref g52)))
  (z217_l:K.lookup g52=some ⟨oc52,od52,.func (W.fnOf "_law_right" "_law_right" (zai zcm) (zah zcm) (zab zcm) .none kV52 dc52 pm52 an52 cd52 ct52),sl52⟩)
  (z218_o:W.codeIn K cd52 "_law_right" = true)
  (z219_k:W.keepIn K (.ref g52)=true)
  (z220_a:W.nsIn K mainGlobals "_law_harder" = some (some (.ref g53)))
  (z221_l:K.lookup g53=some ⟨oc53,od53,.func (W.fnOf "_law_harder" "_law_harder" (zai zbP) (zah zbP) (zab zbP) .none kV53 dc53 pm53 an53 cd53 ct53),sl53⟩)
  (z222_o:W.codeIn K cd53 "_law_harder" = true)
  (z223_k:W.keepIn K (.ref g53)=true)
  (z224_a:W.nsIn K mainGlobals "_law_bent" = some (some (.ref g54)))
  (z225_l:K.lookup g54=some ⟨oc54,od54,.func (W.fnOf "_law_bent" "_law_bent" (zai zc7) (zah zc7) (zab zc7) .none kV54 dc54 pm54 an54 cd54 ct54),sl54⟩)
  (z226_o:W.codeIn K cd54 "_law_bent" = true)
  (z227_k:W.keepIn K (.ref g54)=true)
  (z228_a:W.nsIn K mainGlobals "_law_shown" = some (some (.ref g55)))
  (z229_l:K.lookup g55=some ⟨oc55,od55,.func (W.fnOf "_law_shown" "_law_shown" (zai zcl) (zah zcl) (zab zcl) .none kV55 dc55 pm55 an55 cd55 ct55),sl55⟩)
  (z230_o:W.codeIn K cd55 "_law_shown" = true)
  (z231_k:W.keepIn K (.ref g55)=true)
  (z232_a:W.nsIn K mainGlobals "law" = some (some (.ref g56)))
  (z233_l:K.lookup g56=some ⟨oc56,od56,.func (W.fnOf "law" "law" (zai zfZ) (zah zfZ) (zab zfZ) .none kV56 dc56 pm56 an56 cd56 ct56),sl56⟩)
  (z234_o:W.codeIn K cd56 "law" = true)
  (z235_k:W.keepIn K (.ref g56)=true)
  (z236_isinstance:W.nsIn K mainGlobals "isinstance" = some none)
  (z237_int:W.nsIn K mainGlobals "int" = some none)
  (z238_bool:W.nsIn K mainGlobals "bool" = some none)
  (z239_abs:W.nsIn K mainGlobals "abs" = some none)
  (z240_len:W.nsIn K mainGlobals "len" = some none)
  (z241_tuple:W.nsIn K mainGlobals "tuple" = some none)
  (z242_list:W.nsIn K mainGlobals "list" = some none)
  (z243_min:W.nsIn K mainGlobals "min" = some none)
  (z244_max:W.nsIn K mainGlobals "max" = some none)
  (z245_range:W.nsIn K mainGlobals "range" = some none)
  (z246_all:W.nsIn K mainGlobals "all" = some none)
  (z247_sorted:W.nsIn K mainGlobals "sorted" = some none)
  (z248_enumerate:W.nsIn K mainGlobals "enumerate" = some none)
  (z249_reversed:W.nsIn K mainGlobals "reversed" = some none)
  (z250_zip:W.nsIn K mainGlobals "zip" = some none)
  (z251_sum:W.nsIn K mainGlobals "sum" = some none)
  (z252_any:W.nsIn K mainGlobals "any" = some none)
  (z253_ValueError:W.nsIn K mainGlobals "ValueError" = some none)
  (z254_MOST_PLACES:W.nsIn K mainGlobals "MOST_PLACES" = some (some (.int 8 t1)))
  (z255_MOST_PIPES:W.nsIn K mainGlobals "MOST_PIPES" = some (some (.int 28 t2)))
  (z256_MOST_IN_HARDNESS:W.nsIn K mainGlobals "MOST_IN_HARDNESS" = some (some (.int 1000000000 t3)))
  (z257_pg:W.plainGet K C Str.empty=true)
  (z258_hd:W.hasDictIn K C=true)
  (z259_po:W.plainOver K C=true)
  (z260_sa:W.findIn K (.ref C) "__setattr__" = some (some (.builtin "object.__setattr__")))
  (z261_nsize:W.findIn K (.ref C) "size" = some none)
  (z262_nlaid:W.findIn K (.ref C) "laid" = some none)
  (z263_pg:W.plainGet K CS Str.empty=true)
  (z264_hd:W.hasDictIn K CS=true)
  (z265_po:W.plainOver K CS=true)
  (z266_sa:W.findIn K (.ref CS) "__setattr__" = some (some (.builtin "object.__setattr__")))
  (z267_nflows:W.findIn K (.ref CS) "flows" = some none)
  (z268_nheights:W.findIn K (.ref CS) "heights" = some none)
  (z269_pg:W.plainGet K CP Str.empty=true)
  (z270_hd:W.hasDictIn K CP=true)
  (z271_po:W.plainOver K CP=true)
  (z272_sa:W.findIn K (.ref CP) "__setattr__" = some (some (.builtin "object.__setattr__")))
  (z273_nplaces:W.findIn K (.ref CP) "places" = some none)
  (z274_mk:W.makesIn K CS=true)
  (z275_kc:W.keepIn K (.ref CS)=true)
  (z277_mk:W.makesIn K CP=true)
  (z278_kc:W.keepIn K (.ref CP)=true)
  (z281_i:W.kitOne K (.ref CS) (.ref CA)=some true)
  (z282_i:W.kitOne K (.ref CS) (.ref CS)=some true)
  (z283_i:W.kitOne K (.ref CS) (.ref CP)=some false)
  (z284_i:W.kitOne K (.ref CP) (.ref CA)=some true)
  (z285_i:W.kitOne K (.ref CP) (.ref CS)=some false)
  (z286_i:W.kitOne K (.ref CP) (.ref CP)=some true)
  (z287_q:W.findIn K (.ref CS) "__class__" = some (some (.builtin "object.__class__")))
  (z288_q:W.findIn K (.ref CP) "__class__" = some (some (.builtin "object.__class__")))
  (z289_q:W.specialIn K (.builtin "object.__class__") "__get__" = some (some (.builtin "getset_descriptor.__get__")))
  (z290_q:W.takesIn K (.builtin "object.__class__")=some true)
  (z291_q:W.mroIn K CS (.type "object")=some true)
  (z292_q:W.mroIn K CP (.type "object")=some true)
  (z293_mk:W.makesIn K C=true)
  (z294_kc:W.keepIn K (.ref C)=true) :
  ∃ fd:FuncData,(∀ (s:Shared) (v:Value),BindsTo s fd ⟨[v],[]⟩ [("_law_script",v)])∧∀ base:Heap,K.In base→base.Ns mainGlobals mg→FnOk l.prog w K mg base CX0 11 fa fd ["_law_script"] (znh K):=by
 have e:=hfa.symm.trans (W.mg_of X G z232_a)
 cases e
 have F0:=za5 (st:=zcW) z1_l z2_o z3_k
 have b0:=F0.binds (ps:=["value"]) fun _ _ _ _ _ _ us hl=>match us,hl with | [_],_=>rfl
 have m0:=W.mg_of X G z0_a
 have F1:=za5 (st:=zaZ) z5_l z6_o z7_k
 have b1:=F1.binds (ps:=["a","b"]) fun _ _ _ _ _ _ us hl=>match us,hl with | [_,_],_=>rfl
 have m1:=W.mg_of X G z4_a
 have F2:=za5 (st:=zbM) z9_l z10_o z11_k
 have b2:=F2.binds (ps:=["value"]) fun _ _ _ _ _ _ us hl=>match us,hl with | [_],_=>rfl
 have m2:=W.mg_of X G z8_a
 have F3:=za5 (st:=zbm) z13_l z14_o z15_k
 have b3:=F3.binds (ps:=["value","many"]) fun _ _ _ _ _ _ us hl=>match us,hl with | [_,_],_=>rfl
 have m3:=W.mg_of X G z12_a
 have F4:=za5 (st:=zbL) z17_l z18_o z19_k
 have b4:=F4.binds (ps:=["value"]) fun _ _ _ _ _ _ us hl=>match us,hl with | [_],_=>rfl
 have m4:=W.mg_of X G z16_a
 have F5:=za5 (st:=zdC) z21_l z22_o z23_k
 have b5:=F5.binds (ps:=["value","places"]) fun _ _ _ _ _ _ us hl=>match us,hl with | [_,_],_=>rfl
 have m5:=W.mg_of X G z20_a
 have F6:=za5 (st:=zes) z25_l z26_o z27_k
 have b6:=F6.binds (ps:=["places","pipes"]) fun _ _ _ _ _ _ us hl=>match us,hl with | [_,_],_=>rfl
 have m6:=W.mg_of X G z24_a
 have F7:=za5 (st:=zci) z29_l z30_o z31_k
 have b7:=F7.binds (ps:=["pipes","at"]) fun _ _ _ _ _ _ us hl=>match us,hl with | [_,_],_=>rfl
 have m7:=W.mg_of X G z28_a
 have F8:=za5 (st:=zbE) z34_l z35_o z36_k
 have b8:=F8.binds (ps:=["self","places","pipes"]) fun _ _ _ _ _ _ us hl=>match us,hl with | [_,_,_],_=>rfl
 have F9:=za5 (st:=zc8) z39_l z40_o z41_k
 have b9:=F9.binds (ps:=["self"]) fun _ _ _ _ _ _ us hl=>match us,hl with | [_],_=>rfl
 have Tm9:Meth K C "pipes" g9:=⟨z37_a,z38_i,z41_k⟩
 have F10:=za5 (st:=zcZ) z44_l z45_o z46_k
 have b10:=F10.binds (ps:=["self","at"]) fun _ _ _ _ _ _ us hl=>match us,hl with | [_,_],_=>rfl
 have Tm10:Meth K C "part" g10:=⟨z42_a,z43_i,z46_k⟩
 have F11:=za5 (st:=zh0) z48_l z49_o z50_k
 have b11:=F11.binds (ps:=["a","b"]) fun _ _ _ _ _ _ us hl=>match us,hl with | [_,_],_=>rfl
 have m11:=W.mg_of X G z47_a
 have F12:=za5 (st:=zhy) z52_l z53_o z54_k
 have b12:=F12.binds (ps:=["one","other"]) fun _ _ _ _ _ _ us hl=>match us,hl with | [_,_],_=>rfl
 have m12:=W.mg_of X G z51_a
 have F13:=za5 (st:=zf5) z56_l z57_o z58_k
 have b13:=F13.binds (ps:=["one","other"]) fun _ _ _ _ _ _ us hl=>match us,hl with | [_,_],_=>rfl
 have m13:=W.mg_of X G z55_a
 have F14:=za5 (st:=zf4) z60_l z61_o z62_k
 have b14:=F14.binds (ps:=["one","other"]) fun _ _ _ _ _ _ us hl=>match us,hl with | [_,_],_=>rfl
 have m14:=W.mg_of X G z59_a
 have F15:=za5 (st:=zhz) z64_l z65_o z66_k
 have b15:=F15.binds (ps:=["one","other"]) fun _ _ _ _ _ _ us hl=>match us,hl with | [_,_],_=>rfl
 have m15:=W.mg_of X G z63_a
 have F16:=za5 (st:=zf3) z68_l z69_o z70_k
 have b16:=F16.binds (ps:=["fractions"]) fun _ _ _ _ _ _ us hl=>match us,hl with | [_],_=>rfl
 have m16:=W.mg_of X G z67_a
 have F17:=za5 (st:=zcV) z72_l z73_o z74_k
 have b17:=F17.binds (ps:=["pipes"]) fun _ _ _ _ _ _ us hl=>match us,hl with | [_],_=>rfl
 have m17:=W.mg_of X G z71_a
 have F18:=za5 (st:=zbJ) z76_l z77_o z78_k
 have b18:=F18.binds (ps:=["hardness","scale"]) fun _ _ _ _ _ _ us hl=>match us,hl with | [_,_],_=>rfl
 have m18:=W.mg_of X G z75_a
 have F19:=za5 (st:=zf7) z80_l z81_o z82_k
 have b19:=F19.binds (ps:=["pipes","scale","one","other"]) fun _ _ _ _ _ _ us hl=>match us,hl with | [_,_,_,_],_=>rfl
 have m19:=W.mg_of X G z79_a
 have F20:=za5 (st:=zc2) z84_l z85_o z86_k
 have b20:=F20.binds (ps:=["pipes","scale","one","places"]) fun _ _ _ _ _ _ us hl=>match us,hl with | [_,_,_,_],_=>rfl
 have m20:=W.mg_of X G z83_a
 have F21:=za5 (st:=zcU) z88_l z89_o z90_k
 have b21:=F21.binds (ps:=["pipes","scale","places"]) fun _ _ _ _ _ _ us hl=>match us,hl with | [_,_,_],_=>rfl
 have m21:=W.mg_of X G z87_a
 have F22:=za5 (st:=zbK) z92_l z93_o z94_k
 have b22:=F22.binds (ps:=["row","by","at","divisor"]) fun _ _ _ _ _ _ us hl=>match us,hl with | [_,_,_,_],_=>rfl
 have m22:=W.mg_of X G z91_a
 have F23:=za5 (st:=zdD) z96_l z97_o z98_k
 have b23:=F23.binds (ps:=["rows"]) fun _ _ _ _ _ _ us hl=>match us,hl with | [_],_=>rfl
 have m23:=W.mg_of X G z95_a
 have F24:=za5 (st:=zer) z100_l z101_o z102_k
 have b24:=F24.binds (ps:=["rows","amounts"]) fun _ _ _ _ _ _ us hl=>match us,hl with | [_,_],_=>rfl
 have m24:=W.mg_of X G z99_a
 have F25:=za5 (st:=zc3) z104_l z105_o z106_k
 have b25:=F25.binds (ps:=["place","one","other"]) fun _ _ _ _ _ _ us hl=>match us,hl with | [_,_,_],_=>rfl
 have m25:=W.mg_of X G z103_a
 have F26:=za5 (st:=zaV) z108_l z109_o z110_k
 have b26:=F26.binds (ps:=["net","one","other"]) fun _ _ _ _ _ _ us hl=>match us,hl with | [_,_,_],_=>rfl
 have m26:=W.mg_of X G z107_a
 have F27:=za5 (st:=zck) z112_l z113_o z114_k
 have b27:=F27.binds (ps:=["net","places"]) fun _ _ _ _ _ _ us hl=>match us,hl with | [_,_],_=>rfl
 have m27:=W.mg_of X G z111_a
 have F28:=za5 (st:=zbA) z116_l z117_o z118_k
 have b28:=F28.binds (ps:=["net","places"]) fun _ _ _ _ _ _ us hl=>match us,hl with | [_,_],_=>rfl
 have m28:=W.mg_of X G z115_a
 have F29:=za5 (st:=zbC) z120_l z121_o z122_k
 have b29:=F29.binds (ps:=["_law_script","_law_k"]) fun _ _ _ _ _ _ us hl=>match us,hl with | [_,_],_=>rfl
 have m29:=W.mg_of X G z119_a
 have F30:=za5 (st:=zc6) z124_l z125_o z126_k
 have b30:=F30.binds (ps:=["_law_cell","_law_k","_law_many"]) fun _ _ _ _ _ _ us hl=>match us,hl with | [_,_,_],_=>rfl
 have m30:=W.mg_of X G z123_a
 have F31:=za5 (st:=zcn) z128_l z129_o z130_k
 have b31:=F31.binds (ps:=["_law_a","_law_b"]) fun _ _ _ _ _ _ us hl=>match us,hl with | [_,_],_=>rfl
 have m31:=W.mg_of X G z127_a
 have F32:=za5 (st:=zc4) z132_l z133_o z134_k
 have b32:=F32.binds (ps:=["_law_script","_law_first","_law_most"]) fun _ _ _ _ _ _ us hl=>match us,hl with | [_,_,_],_=>rfl
 have m32:=W.mg_of X G z131_a
 have F33:=za5 (st:=zc5) z136_l z137_o z138_k
 have b33:=F33.binds (ps:=["_law_told_here","_law_at"]) fun _ _ _ _ _ _ us hl=>match us,hl with | [_,_],_=>rfl
 have m33:=W.mg_of X G z135_a
 have F34:=za5 (st:=zco) z140_l z141_o z142_k
 have b34:=F34.binds (ps:=["_law_script","_law_first"]) fun _ _ _ _ _ _ us hl=>match us,hl with | [_,_],_=>rfl
 have m34:=W.mg_of X G z139_a
 have F35:=za5 (st:=zaW) z145_l z146_o z147_k
 have b35:=F35.binds (ps:=["self","flows","heights"]) fun _ _ _ _ _ _ us hl=>match us,hl with | [_,_,_],_=>rfl
 have F36:=za5 (st:=zbb) z150_l z151_o z152_k
 have b36:=F36.binds (ps:=["self","places"]) fun _ _ _ _ _ _ us hl=>match us,hl with | [_,_],_=>rfl
 have F37:=za5 (st:=zf6) z154_l z155_o z156_k
 have b37:=F37.binds (ps:=["net","heights"]) fun _ _ _ _ _ _ us hl=>match us,hl with | [_,_],_=>rfl
 have m37:=W.mg_of X G z153_a
 have F38:=za5 (st:=zbN) z158_l z159_o z160_k
 have b38:=F38.binds (ps:=["net","one","other"]) fun _ _ _ _ _ _ us hl=>match us,hl with | [_,_,_],_=>rfl
 have m38:=W.mg_of X G z157_a
 have F39:=za5 (st:=zeq) z162_l z163_o z164_k
 have b39:=F39.binds (ps:=["net","one","other"]) fun _ _ _ _ _ _ us hl=>match us,hl with | [_,_,_],_=>rfl
 have m39:=W.mg_of X G z161_a
 have F40:=za5 (st:=zbn) z166_l z167_o z168_k
 have b40:=F40.binds (ps:=["value","many"]) fun _ _ _ _ _ _ us hl=>match us,hl with | [_,_],_=>rfl
 have m40:=W.mg_of X G z165_a
 have F41:=za5 (st:=zbO) z170_l z171_o z172_k
 have b41:=F41.binds (ps:=["net","flows"]) fun _ _ _ _ _ _ us hl=>match us,hl with | [_,_],_=>rfl
 have m41:=W.mg_of X G z169_a
 have F42:=za5 (st:=zep) z174_l z175_o z176_k
 have b42:=F42.binds (ps:=["pipes","flows","place"]) fun _ _ _ _ _ _ us hl=>match us,hl with | [_,_,_],_=>rfl
 have m42:=W.mg_of X G z173_a
 have F43:=za5 (st:=zdB) z178_l z179_o z180_k
 have b43:=F43.binds (ps:=["net","flows"]) fun _ _ _ _ _ _ us hl=>match us,hl with | [_,_],_=>rfl
 have m43:=W.mg_of X G z177_a
 have F44:=za5 (st:=zcY) z182_l z183_o z184_k
 have b44:=F44.binds (ps:=["_law_script","_law_told_here","_law_first"]) fun _ _ _ _ _ _ us hl=>match us,hl with | [_,_,_],_=>rfl
 have m44:=W.mg_of X G z181_a
 have F45:=za5 (st:=zcj) z186_l z187_o z188_k
 have b45:=F45.binds (ps:=["net","one","other"]) fun _ _ _ _ _ _ us hl=>match us,hl with | [_,_,_],_=>rfl
 have m45:=W.mg_of X G z185_a
 have F46:=za5 (st:=zcX) z190_l z191_o z192_k
 have b46:=F46.binds (ps:=["net","other"]) fun _ _ _ _ _ _ us hl=>match us,hl with | [_,_],_=>rfl
 have m46:=W.mg_of X G z189_a
 have F47:=za5 (st:=zbQ) z195_l z196_o z197_k
 have b47:=F47.binds (ps:=["self","net"]) fun _ _ _ _ _ _ us hl=>match us,hl with | [_,_],_=>rfl
 have Tm47:Meth K CS "fits" g47:=⟨z193_a,z194_i,z197_k⟩
 have F48:=za5 (st:=zbR) z200_l z201_o z202_k
 have b48:=F48.binds (ps:=["self","net","one","other"]) fun _ _ _ _ _ _ us hl=>match us,hl with | [_,_,_,_],_=>rfl
 have Tm48:Meth K CP "shows" g48:=⟨z198_a,z199_i,z202_k⟩
 have F49:=za5 (st:=zbD) z205_l z206_o z207_k
 have b49:=F49.binds (ps:=["self","net","one","other"]) fun _ _ _ _ _ _ us hl=>match us,hl with | [_,_,_,_],_=>rfl
 have Tm49:Meth K CS "shows" g49:=⟨z203_a,z204_i,z207_k⟩
 have F50:=za5 (st:=zba) z209_l z210_o z211_k
 have b50:=F50.binds (ps:=["_law_things","_law_many"]) fun _ _ _ _ _ _ us hl=>match us,hl with | [_,_],_=>rfl
 have m50:=W.mg_of X G z208_a
 have F51:=za5 (st:=zbB) z213_l z214_o z215_k
 have b51:=F51.binds (ps:=["_law_told_here","_law_one","_law_other","_law_found"]) fun _ _ _ _ _ _ us hl=>match us,hl with | [_,_,_,_],_=>rfl
 have m51:=W.mg_of X G z212_a
 have F52:=za5 (st:=zcm) z217_l z218_o z219_k
 have b52:=F52.binds (ps:=["_law_net","_law_told_here","_law_one","_law_other"]) fun _ _ _ _ _ _ us hl=>match us,hl with | [_,_,_,_],_=>rfl
 have m52:=W.mg_of X G z216_a
 have F53:=za5 (st:=zbP) z221_l z222_o z223_k
 have b53:=F53.binds (ps:=["_law_told_here","_law_cell"]) fun _ _ _ _ _ _ us hl=>match us,hl with | [_,_],_=>rfl
 have m53:=W.mg_of X G z220_a
 have F54:=za5 (st:=zc7) z225_l z226_o z227_k
 have b54:=F54.binds (ps:=["_law_net","_law_told_here","_law_one","_law_other","_law_cell"]) fun _ _ _ _ _ _ us hl=>match us,hl with | [_,_,_,_,_],_=>rfl
 have m54:=W.mg_of X G z224_a
 have F55:=za5 (st:=zcl) z229_l z230_o z231_k
 have b55:=F55.binds (ps:=["_law_net","_law_told_here","_law_one","_law_other","_law_cell"]) fun _ _ _ _ _ _ us hl=>match us,hl with | [_,_,_,_,_],_=>rfl
 have m55:=W.mg_of X G z228_a
 have F56:=za5 (st:=zfZ) z233_l z234_o z235_k
 have m56:=W.mg_of X G z232_a
 have T0:Txt K mg C t1 t2 t3:=⟨W.mg_none_of X G z236_isinstance,W.mg_none_of X G z237_int,W.mg_none_of X G z238_bool,W.mg_none_of X G z239_abs,W.mg_none_of X G z240_len,W.mg_none_of X G z241_tuple,W.mg_none_of X G z242_list,W.mg_none_of X G z243_min,W.mg_none_of X G z244_max,W.mg_none_of X G z245_range,W.mg_none_of X G z246_all,W.mg_none_of X G z247_sorted,W.mg_none_of X G z248_enumerate,W.mg_none_of X G z249_reversed,W.mg_none_of X G z250_zip,W.mg_none_of X G z251_sum,W.mg_none_of X G z252_any,W.mg_none_of X G z253_ValueError,W.mg_of X G z254_MOST_PLACES,W.mg_of X G z255_MOST_PIPES,W.mg_of X G z256_MOST_IN_HARDNESS,⟨z257_pg,z258_hd,z259_po,z260_sa⟩,z261_nsize,z262_nlaid⟩
 have T1:TxtS K mg C CS CP:=⟨W.mg_none_of X G z242_list,W.mg_none_of X G z250_zip,⟨z257_pg,z258_hd,z259_po,z260_sa⟩,⟨z263_pg,z264_hd,z265_po,z266_sa⟩,z267_nflows,z268_nheights,⟨z269_pg,z270_hd,z271_po,z272_sa⟩,z273_nplaces⟩
 have zcT:Mk K CS g35:=⟨z274_mk,z143_a,z144_i,z275_kc⟩
 have zbH:mg "Stream" = some (.ref CS):=W.mg_of X G z276_Stream
 have zfJ:Mk K CP g36:=⟨z277_mk,z148_a,z149_i,z278_kc⟩
 have zdO:mg "Apart" = some (.ref CP):=W.mg_of X G z279_Apart
 have T2:TxtV K mg C CS CP CA:=⟨W.mg_none_of X G z236_isinstance,W.mg_none_of X G z237_int,W.mg_none_of X G z238_bool,W.mg_none_of X G z239_abs,W.mg_none_of X G z240_len,W.mg_none_of X G z241_tuple,W.mg_none_of X G z242_list,W.mg_none_of X G z245_range,W.mg_none_of X G z246_all,W.mg_none_of X G z250_zip,⟨z257_pg,z258_hd,z259_po,z260_sa⟩,z261_nsize,⟨z263_pg,z264_hd,z265_po,z266_sa⟩,z267_nflows,z268_nheights,⟨z269_pg,z270_hd,z271_po,z272_sa⟩,z273_nplaces,W.mg_of X G z280_Answer,W.mg_of X G z276_Stream,W.mg_of X G z279_Apart,z281_i,z282_i,z283_i,z284_i,z285_i,z286_i,z287_q,z288_q,z289_q,z290_q,z291_q,z292_q⟩
 have zjt:Mk K C g8:=⟨z293_mk,z32_a,z33_i,z294_kc⟩
 have ziQ:mg "Net" = some (.ref C):=W.mg_of X G z295_Net
 refine ⟨W.fnOf "law" "law" (zai zfZ) (zah zfZ) (zab zfZ) .none kV56 dc56 pm56 an56 cd56 ct56,fun s v=>.of_eq rfl,fun base _ _=>?_⟩
 have G0:=zn2 (P:=l.prog) (w:=w) (mg:=mg) (base:=base) F0 T0
 have G1:=zq0 (P:=l.prog) (w:=w) (mg:=mg) (base:=base) F1 T0
 have G2:=zjE (P:=l.prog) (w:=w) (mg:=mg) (base:=base) F2 T0 m0 z3_k b0 G0 m1 z7_k b1 G1
 have G3:=zmc (P:=l.prog) (w:=w) (mg:=mg) (base:=base) F3 T0 m0 z3_k b0 G0
 have G4:=zpv (P:=l.prog) (w:=w) (mg:=mg) (base:=base) F4 T0 m2 z11_k b2 G2
 have G5:=zpq (P:=l.prog) (w:=w) (mg:=mg) (base:=base) F5 T0 m3 z15_k b3 G3 m4 z19_k b4 G4
 have G6:=zqy (P:=l.prog) (w:=w) (mg:=mg) (base:=base) F6 T0 m0 z3_k b0 G0 m5 z23_k b5 G5
 have G7:=zro (P:=l.prog) (w:=w) (mg:=mg) (base:=base) F7
 have G8:=zpu (P:=l.prog) (w:=w) (mg:=mg) (base:=base) F8 T0 m6 z27_k b6 G6
 have G9:=znD (P:=l.prog) (w:=w) (mg:=mg) (base:=base) F9 T0
 have G10:=zpr (P:=l.prog) (w:=w) (mg:=mg) (base:=base) F10 T0 m3 z15_k b3 G3 m7 z31_k b7 G7
 have G11:=zpt (P:=l.prog) (w:=w) (mg:=mg) (base:=base) F11 T0 m0 z3_k b0 G0 m1 z7_k b1 G1
 have G12:=zpp (P:=l.prog) (w:=w) (mg:=mg) (base:=base) F12 m11 z50_k b11 G11
 have G13:=znF (P:=l.prog) (w:=w) (mg:=mg) (base:=base) F13 m11 z50_k b11 G11
 have G14:=zn4 (P:=l.prog) (w:=w) (mg:=mg) (base:=base) F14 m11 z50_k b11 G11
 have G15:=zps (P:=l.prog) (w:=w) (mg:=mg) (base:=base) F15 m11 z50_k b11 G11
 have G16:=zn3 (P:=l.prog) (w:=w) (mg:=mg) (base:=base) F16 m12 z54_k b12 G12
 have G17:=znA (P:=l.prog) (w:=w) (mg:=mg) (base:=base) F17 m1 z7_k b1 G1
 have G18:=zpx (P:=l.prog) (w:=w) (mg:=mg) (base:=base) F18
 have G19:=znJ (P:=l.prog) (w:=w) (mg:=mg) (base:=base) F19 T0 m18 z78_k b18 G18
 have G20:=zqx (P:=l.prog) (w:=w) (mg:=mg) (base:=base) F20 m19 z82_k b19 G19
 have G21:=zn9 (P:=l.prog) (w:=w) (mg:=mg) (base:=base) F21 m20 z86_k b20 G20
 have G22:=znB (P:=l.prog) (w:=w) (mg:=mg) (base:=base) F22 T0
 have G23:=zkP (P:=l.prog) (w:=w) (mg:=mg) (base:=base) F23 T0 m22 z94_k b22 G22
 have G24:=zlX (P:=l.prog) (w:=w) (mg:=mg) (base:=base) F24 T0 m23 z98_k b23 G23 m11 z50_k b11 G11
 have G25:=znL (P:=l.prog) (w:=w) (mg:=mg) (base:=base) F25
 have G26:=zrp (P:=l.prog) (w:=w) (mg:=mg) (base:=base) F26 T0 Tm9 b9 G9 Tm10 b10 G10 m17 z74_k b17 G17 m25 z106_k b25 G25 m21 z90_k b21 G21 m24 z102_k b24 G24
 have G27:=znM (P:=l.prog) (w:=w) (mg:=mg) (base:=base) F27 T0 m3 z15_k b3 G3
 have G28:=zkQ (P:=l.prog) (w:=w) (mg:=mg) (base:=base) F28 m27 z114_k b27 G27
 have G29:=zpz (P:=l.prog) (w:=w) (mg:=mg) (base:=base) F29 T0
 have G30:=zpy (P:=l.prog) (w:=w) (mg:=mg) (base:=base) F30
 have G31:=znH (P:=l.prog) (w:=w) (mg:=mg) (base:=base) F31
 have G32:=zpn (P:=l.prog) (w:=w) (mg:=mg) (base:=base) F32 T0 m29 z122_k b29 G29 m30 z126_k b30 G30 m31 z130_k b31 G31
 have G33:=znG (P:=l.prog) (w:=w) (mg:=mg) (base:=base) F33 T0
 have G34:=znK (P:=l.prog) (w:=w) (mg:=mg) (base:=base) F34 T0 m29 z122_k b29 G29 m30 z126_k b30 G30 m31 z130_k b31 G31
 have G35:=zn6 (P:=l.prog) (w:=w) (mg:=mg) (base:=base) F35 T1
 have G36:=znE (P:=l.prog) (w:=w) (mg:=mg) (base:=base) F36 T1
 have G37:=znI (P:=l.prog) (w:=w) (mg:=mg) (base:=base) F37 T1 Tm9 b9 G9 m13 z58_k b13 G13
 have G38:=zma (P:=l.prog) (w:=w) (mg:=mg) (base:=base) F38 T1 Tm10 b10 G10 m28 z118_k b28 G28 m26 z110_k b26 G26
 have G39:=zlW (P:=l.prog) (w:=w) (mg:=mg) (base:=base) F39 T1 Tm9 b9 G9 Tm10 b10 G10 m28 z118_k b28 G28 m26 z110_k b26 G26 m15 z66_k b15 G15 m37 z156_k b37 G37 zcT zbH b35 G35 zfJ zdO b36 G36
 have G40:=znN (P:=l.prog) (w:=w) (mg:=mg) (base:=base) F40 T0 m2 z11_k b2 G2
 have G41:=zkR (P:=l.prog) (w:=w) (mg:=mg) (base:=base) F41 T0 Tm9 b9 G9 m40 z168_k b40 G40
 have G42:=zn5 (P:=l.prog) (w:=w) (mg:=mg) (base:=base) F42 T0 m16 z70_k b16 G16 m13 z58_k b13 G13
 have G43:=zpo (P:=l.prog) (w:=w) (mg:=mg) (base:=base) F43 T0 Tm9 b9 G9 m41 z172_k b41 G41 m42 z176_k b42 G42
 have G44:=zqw (P:=l.prog) (w:=w) (mg:=mg) (base:=base) F44 m29 z122_k b29 G29
 have G45:=zmd (P:=l.prog) (w:=w) (mg:=mg) (base:=base) F45 T2 m25 z106_k b25 G25
 have G46:=zjD (P:=l.prog) (w:=w) (mg:=mg) (base:=base) F46 T2 Tm10 b10 G10
 have G47:=zpw (P:=l.prog) (w:=w) (mg:=mg) (base:=base) F47 T2 Tm9 b9 G9 m40 z168_k b40 G40
 have G48:=zlY (P:=l.prog) (w:=w) (mg:=mg) (base:=base) F48 T2 Tm9 b9 G9
 have G49:=zn7 (P:=l.prog) (w:=w) (mg:=mg) (base:=base) F49 T2 Tm47 b47 G47 Tm9 b9 G9 m27 z114_k b27 G27 m43 z180_k b43 G43 m45 z188_k b45 G45 m37 z156_k b37 G37 m14 z62_k b14 G14 m46 z192_k b46 G46
 have G50:=zlZ (P:=l.prog) (w:=w) (mg:=mg) (base:=base) F50 T2 m31 z130_k b31 G31
 have G51:=zjC (P:=l.prog) (w:=w) (mg:=mg) (base:=base) F51 T2 m50 z211_k b50 G50 m13 z58_k b13 G13 m14 z62_k b14 G14 m12 z54_k b12 G12 m33 z138_k b33 G33
 have G52:=znC (P:=l.prog) (w:=w) (mg:=mg) (base:=base) F52 T2 m39 z164_k b39 G39 m33 z138_k b33 G33 m38 z160_k b38 G38 m51 z215_k b51 G51 m43 z180_k b43 G43
 have G53:=zmb (P:=l.prog) (w:=w) (mg:=mg) (base:=base) F53 T2 m12 z54_k b12 G12 zjt ziQ b8 G8
 have G54:=zp0 (P:=l.prog) (w:=w) (mg:=mg) (base:=base) F54 T2 m39 z164_k b39 G39 m53 z223_k b53 G53 m12 z54_k b12 G12 zcT zbH b35 G35
 have G55:=zn8 (P:=l.prog) (w:=w) (mg:=mg) (base:=base) F55 T2 m33 z138_k b33 G33 m54 z227_k b54 G54 Tm49 b49 G49 Tm48 b48 G48 m51 z215_k b51 G51 zcT zbH b35 G35 zfJ zdO b36 G36
 exact zqz F56 T2 ⟨m32,z134_k,b32,G32,m29,z122_k,b29,G29,m34,z142_k,b34,G34,zjt,ziQ,b8,G8,m44,z184_k,b44,G44,m52,z219_k,b52,G52,m39,z164_k,b39,G39,Tm49,b49,G49,Tm48,b48,G48,m55,z231_k,b55,G55⟩
theorem walk {l:W.OpenLaw} {q:Program} {loose:List Str} {XP:(Str→Option Value)→Heap→Prop} {YP:World→Heap→Prop} {d:DefRec} {K:Params→W.Frag} (hn:l.most=some 63) (hdf:d.params.defaults=[])
  (hY:∀ (w:World) (h:Heap),YP w h→(K w.params).In h)
  (F:∀ (w:World) (mg:Str→Option Value) (fa:Addr) (h:Heap),(K w.params).In h→h.Ns mainGlobals mg→mg d.name=some (.ref fa) →
   ∃ fd:FuncData,(∀ (s:Shared) (u:Value),BindsTo s fd ⟨[u],[]⟩ [("_law_script",u)])∧∀ base:Heap,(K w.params).In base→base.Ns mainGlobals mg→FnOk l.prog w (K w.params) mg base CX0 11 fa fd ["_law_script"] (znh (K w.params))) :
  W.WalkO q loose XP YP l.row.toRowW d [] (fun f vs=>PySem.call f vs) :=
 L2.zoO (n:=63) (k:=11) (x:="_law_script") (CX:=fun _=>CX0) (sp:=fun w=>znh (K w.params)) hn (by decide) hdf ⟨rfl,by decide,by decide⟩ hY F (fun _ _ a ns hl _ hS=>⟨a,ns,rfl,hS,hl,fun _=>rfl⟩) fun _ _ _ _ _ z=>z
end K2
namespace Hd
open PySem PySem.W PySem.Calls PyProof.Rows L2
section
lay_quick PySem.Challenge.pw_splitstream_k03_whole_stream
noncomputable abbrev Q:Program:=PySem.W.Fast.tw16544383489956296244
theorem Q_eq:PySem.Challenge.pw_splitstream_k03_whole_stream=Q:=PySem.W.Fast.te16544383489956296244
def nth:List Stmt→Nat→Stmt
 | [],_=>.Pass ⟨0,0,0,0⟩
 | s::_,0=>s
 | _::l,n+1=>nth l n
noncomputable abbrev q (i:Nat):Stmt:=nth Q.main.body i
noncomputable def S0:Str:=⟨#[60,109,111,100,117,108,101,62]⟩
noncomputable def S1:Str:=⟨#[47,99,108,97,105,109,47,99,117,116,46,112,121]⟩
noncomputable def S2:Str:=⟨#[95,95,109,97,105,110,95,95]⟩
noncomputable def S3:Str:=⟨#[95,95,110,97,109,101,95,95]⟩
noncomputable def S4:Str:=⟨#[115,112,108,105,116,115,116,114,101,97,109,46,101,114,114,111,114,115]⟩
noncomputable def S5:Str:=⟨#[95,95,100,111,99,95,95]⟩
noncomputable def S6:Str:=⟨#[95,95,112,97,99,107,97,103,101,95,95]⟩
noncomputable def S7:Str:=⟨#[95,95,108,111,97,100,101,114,95,95]⟩
noncomputable def S8:Str:=⟨#[95,95,115,112,101,99,95,95]⟩
noncomputable def S9:Str:=⟨#[95,95,97,110,110,111,116,97,116,105,111,110,115,95,95]⟩
noncomputable def S10:Str:=⟨#[95,95,98,117,105,108,116,105,110,115,95,95]⟩
noncomputable def S11:Str:=⟨#[95,95,102,105,108,101,95,95]⟩
noncomputable def S12:Str:=⟨#[95,95,99,97,99,104,101,100,95,95]⟩
noncomputable def S13:Str:=⟨#[95,119,97,108,108]⟩
noncomputable def S14:Str:=⟨#[78,101,116,69,114,114,111,114]⟩
noncomputable def S15:Str:=⟨#[66,97,100,70,114,97,99,116,105,111,110]⟩
noncomputable def S16:Str:=⟨#[66,97,100,78,101,116]⟩
noncomputable def S17:Str:=⟨#[107]⟩
noncomputable def S18:Str:=⟨#[95,95,109,111,100,117,108,101,95,95]⟩
noncomputable def S19:Str:=⟨#[95,95,113,117,97,108,110,97,109,101,95,95]⟩
noncomputable def S20:Str:=⟨#[95,95,102,105,114,115,116,108,105,110,101,110,111,95,95]⟩
noncomputable def S21:Str:=⟨#[95,95,115,116,97,116,105,99,95,97,116,116,114,105,98,117,116,101,115,95,95]⟩
noncomputable def S22:Str:=⟨#[95,95,119,101,97,107,114,101,102,95,95]⟩
noncomputable def S23:Str:=⟨#[115,112,108,105,116,115,116,114,101,97,109,46,110,101,116,115]⟩
noncomputable def S24:Str:=⟨#[78,111,80,108,97,99,101]⟩
noncomputable def S25:Str:=⟨#[66,97,100,70,108,111,119,115]⟩
noncomputable def S26:Str:=⟨#[105,115,95,119,104,111,108,101]⟩
noncomputable def S27:Str:=⟨#[105,115,95,102,114,97,99,116,105,111,110]⟩
noncomputable def S28:Str:=⟨#[99,111,109,109,111,110,95,100,105,118,105,115,111,114]⟩
noncomputable def S29:Str:=⟨#[109,97,100,101]⟩
noncomputable def S30:Str:=⟨#[112,108,117,115]⟩
noncomputable def S31:Str:=⟨#[109,105,110,117,115]⟩
noncomputable def S32:Str:=⟨#[116,105,109,101,115]⟩
noncomputable def S33:Str:=⟨#[111,118,101,114]⟩
noncomputable def S34:Str:=⟨#[116,111,116,97,108]⟩
noncomputable def S35:Str:=⟨#[77,79,83,84,95,80,76,65,67,69,83]⟩
noncomputable def S36:Str:=⟨#[77,79,83,84,95,80,73,80,69,83]⟩
noncomputable def S37:Str:=⟨#[77,79,83,84,95,73,78,95,72,65,82,68,78,69,83,83]⟩
noncomputable def S38:Str:=⟨#[99,111,117,110,116,115,95,111,110,101,95,111,102]⟩
noncomputable def S39:Str:=⟨#[118,97,108,117,101]⟩
noncomputable def S40:Str:=⟨#[115,112,108,105,116,115,116,114,101,97,109,46,102,114,97,99,116,105,111,110,115]⟩
noncomputable def S41:Str:=⟨#[97]⟩
noncomputable def S42:Str:=⟨#[98]⟩
noncomputable def S43:Str:=⟨#[111,110,101]⟩
noncomputable def S44:Str:=⟨#[111,116,104,101,114]⟩
noncomputable def S45:Str:=⟨#[114,101,115,116]⟩
noncomputable def S46:Str:=⟨#[100,105,118,105,115,111,114]⟩
noncomputable def S47:Str:=⟨#[102,114,97,99,116,105,111,110,115]⟩
noncomputable def S48:Str:=⟨#[114,101,115,117,108,116]⟩
noncomputable def S49:Str:=⟨#[102,114,97,99,116,105,111,110]⟩
noncomputable def S50:Str:=⟨#[109,97,110,121]⟩
noncomputable def S51:Str:=⟨#[115,112,108,105,116,115,116,114,101,97,109,46,115,116,114,101,97,109,115]⟩
noncomputable def S52:Str:=⟨#[105,115,95,104,97,114,100,110,101,115,115]⟩
noncomputable def S53:Str:=⟨#[105,115,95,112,105,112,101]⟩
noncomputable def S54:Str:=⟨#[105,115,95,110,101,116]⟩
noncomputable def S55:Str:=⟨#[110,101,105,103,104,98,111,117,114,115]⟩
noncomputable def S56:Str:=⟨#[78,101,116]⟩
noncomputable def S57:Str:=⟨#[115,99,97,108,101,95,111,102]⟩
noncomputable def S58:Str:=⟨#[115,99,97,108,101,100,95,101,97,115,101]⟩
noncomputable def S59:Str:=⟨#[101,110,116,114,121]⟩
noncomputable def S60:Str:=⟨#[115,104,101,101,116,95,114,111,119]⟩
noncomputable def S61:Str:=⟨#[115,104,101,101,116,95,111,102]⟩
noncomputable def S62:Str:=⟨#[114,111,119,95,119,105,116,104,111,117,116]⟩
noncomputable def S63:Str:=⟨#[99,108,101,97,114,101,100]⟩
noncomputable def S64:Str:=⟨#[115,111,108,118,101,100]⟩
noncomputable def S65:Str:=⟨#[97,114,101,95,102,114,97,99,116,105,111,110,115]⟩
noncomputable def S66:Str:=⟨#[97,114,101,95,112,108,97,99,101,115]⟩
noncomputable def S67:Str:=⟨#[99,104,101,99,107,95,112,108,97,99,101,115]⟩
noncomputable def S68:Str:=⟨#[99,104,101,99,107,95,102,108,111,119,115]⟩
noncomputable def S69:Str:=⟨#[112,108,97,99,101,115]⟩
noncomputable def S70:Str:=⟨#[95,95,105,110,105,116,95,95]⟩
noncomputable def S71:Str:=⟨#[112,105,112,101,115]⟩
noncomputable def S72:Str:=⟨#[112,97,114,116]⟩
noncomputable def S73:Str:=⟨#[112,97,114,116,115]⟩
noncomputable def S74:Str:=⟨#[78,101,116,46,95,95,105,110,105,116,95,95]⟩
noncomputable def S75:Str:=⟨#[115,101,108,102]⟩
noncomputable def S76:Str:=⟨#[78,101,116,46,112,105,112,101,115]⟩
noncomputable def S77:Str:=⟨#[97,116]⟩
noncomputable def S78:Str:=⟨#[114,101,97,99,104,101,100]⟩
noncomputable def S79:Str:=⟨#[119,97,105,116,105,110,103]⟩
noncomputable def S80:Str:=⟨#[112,108,97,99,101]⟩
noncomputable def S81:Str:=⟨#[110,101,105,103,104,98,111,117,114]⟩
noncomputable def S82:Str:=⟨#[78,101,116,46,112,97,114,116]⟩
noncomputable def S83:Str:=⟨#[78,101,116,46,112,97,114,116,115]⟩
noncomputable def S84:Str:=⟨#[108,97,105,100]⟩
noncomputable def S85:Str:=⟨#[115,105,122,101]⟩
noncomputable def S86:Str:=⟨#[95,95,100,105,99,116,95,95]⟩
noncomputable def S87:Str:=⟨#[115,99,97,108,101]⟩
noncomputable def S88:Str:=⟨#[115,116,97,114,116]⟩
noncomputable def S89:Str:=⟨#[101,110,100]⟩
noncomputable def S90:Str:=⟨#[104,97,114,100,110,101,115,115]⟩
noncomputable def S91:Str:=⟨#[115,112,108,105,116,115,116,114,101,97,109,46,115,104,101,101,116,115]⟩
noncomputable def S92:Str:=⟨#[110,101,116]⟩
noncomputable def S93:Str:=⟨#[102,108,111,119,115]⟩
noncomputable def S94:Str:=⟨#[115,117,109,95,97,116]⟩
noncomputable def S95:Str:=⟨#[115,117,109,115,95,111,102]⟩
noncomputable def S96:Str:=⟨#[97,115,107,101,100,95,115,117,109]⟩
noncomputable def S97:Str:=⟨#[97,115,107,101,100,95,115,117,109,115]⟩
noncomputable def S98:Str:=⟨#[102,97,108,108,115]⟩
noncomputable def S99:Str:=⟨#[103,114,111,117,110,100,101,100]⟩
noncomputable def S100:Str:=⟨#[65,110,115,119,101,114]⟩
noncomputable def S101:Str:=⟨#[83,116,114,101,97,109]⟩
noncomputable def S102:Str:=⟨#[115,104,111,119,115]⟩
noncomputable def S103:Str:=⟨#[65,110,115,119,101,114,46,115,104,111,119,115]⟩
noncomputable def S104:Str:=⟨#[102,105,116,115]⟩
noncomputable def S105:Str:=⟨#[104,101,105,103,104,116,115]⟩
noncomputable def S106:Str:=⟨#[83,116,114,101,97,109,46,95,95,105,110,105,116,95,95]⟩
noncomputable def S107:Str:=⟨#[83,116,114,101,97,109,46,102,105,116,115]⟩
noncomputable def S108:Str:=⟨#[83,116,114,101,97,109,46,115,104,111,119,115]⟩
noncomputable def S109:Str:=⟨#[108,97,119,95,115,112,108,105,116,115,116,114,101,97,109,95,107,48,51,95,119,104,111,108,101,95,115,116,114,101,97,109]⟩
noncomputable def S110:Str:=⟨#[65,112,97,114,116]⟩
noncomputable def S111:Str:=⟨#[104,101,105,103,104,116,115,95,98,101,116,119,101,101,110]⟩
noncomputable def S112:Str:=⟨#[115,116,114,101,97,109]⟩
noncomputable def S113:Str:=⟨#[104,97,114,100,110,101,115,115,95,111,102]⟩
noncomputable def S114:Str:=⟨#[95,108,97,119,95,99,101,108,108,95,97,116]⟩
noncomputable def S115:Str:=⟨#[95,108,97,119,95,100,114,97,119]⟩
noncomputable def S116:Str:=⟨#[95,108,97,119,95,108,101,97,115,116]⟩
noncomputable def S117:Str:=⟨#[95,108,97,119,95,116,111,108,100]⟩
noncomputable def S118:Str:=⟨#[95,108,97,119,95,112,97,114,116]⟩
noncomputable def S119:Str:=⟨#[95,108,97,119,95,116,119,111]⟩
noncomputable def S120:Str:=⟨#[95,108,97,119,95,102,114,97,99,116,105,111,110,115]⟩
noncomputable def S121:Str:=⟨#[95,108,97,119,95,115,116,114,101,97,109,115]⟩
noncomputable def S122:Str:=⟨#[95,108,97,119,95,99,104,97,105,110]⟩
noncomputable def S123:Str:=⟨#[95,108,97,119,95,114,105,103,104,116]⟩
noncomputable def S124:Str:=⟨#[95,108,97,119,95,104,97,114,100,101,114]⟩
noncomputable def S125:Str:=⟨#[95,108,97,119,95,98,101,110,116]⟩
noncomputable def S126:Str:=⟨#[95,108,97,119,95,115,104,111,119,110]⟩
noncomputable def S127:Str:=⟨#[65,112,97,114,116,46,95,95,105,110,105,116,95,95]⟩
noncomputable def S128:Str:=⟨#[65,112,97,114,116,46,115,104,111,119,115]⟩
noncomputable def S129:Str:=⟨#[95,108,97,119,95,115,99,114,105,112,116]⟩
noncomputable def S130:Str:=⟨#[95,108,97,119,95,107]⟩
noncomputable def S131:Str:=⟨#[95,108,97,119,95,99,101,108,108]⟩
noncomputable def S132:Str:=⟨#[95,108,97,119,95,109,97,110,121]⟩
noncomputable def S133:Str:=⟨#[95,108,97,119,95,112,114,105,109,101,115]⟩
noncomputable def S134:Str:=⟨#[95,108,97,119,95,98,108,101,110,100]⟩
noncomputable def S135:Str:=⟨#[95,108,97,119,95,97]⟩
noncomputable def S136:Str:=⟨#[95,108,97,119,95,98]⟩
noncomputable def S137:Str:=⟨#[95,108,97,119,95,111,110,101]⟩
noncomputable def S138:Str:=⟨#[95,108,97,119,95,111,116,104,101,114]⟩
noncomputable def S139:Str:=⟨#[95,108,97,119,95,102,105,114,115,116]⟩
noncomputable def S140:Str:=⟨#[95,108,97,119,95,109,111,115,116]⟩
noncomputable def S141:Str:=⟨#[95,108,97,119,95,116,104,105,114,100]⟩
noncomputable def S142:Str:=⟨#[95,108,97,119,95,112,108,97,99,101,115]⟩
noncomputable def S143:Str:=⟨#[95,108,97,119,95,112,105,112,101,115]⟩
noncomputable def S144:Str:=⟨#[95,108,97,119,95,104,101,114,101]⟩
noncomputable def S145:Str:=⟨#[95,108,97,119,95,116,104,101,114,101]⟩
noncomputable def S146:Str:=⟨#[95,108,97,119,95,116,111,108,100,95,104,101,114,101]⟩
noncomputable def S147:Str:=⟨#[95,108,97,119,95,97,116]⟩
noncomputable def S148:Str:=⟨#[95,108,97,119,95,102,111,117,110,100]⟩
noncomputable def S149:Str:=⟨#[95,108,97,119,95,116,117,114,110]⟩
noncomputable def S150:Str:=⟨#[95,108,97,119,95,104,97,114,100,110,101,115,115]⟩
noncomputable def S151:Str:=⟨#[95,108,97,119,95,116,104,105,110,103,115]⟩
noncomputable def S152:Str:=⟨#[95,108,97,119,95,116,104,105,110,103]⟩
noncomputable def S153:Str:=⟨#[108,97,119]⟩
noncomputable def S154:Str:=⟨#[95,108,97,119,95,110,101,116]⟩
noncomputable abbrev e (P:Params) (s:Str) (n:Nat) (v:Value):DictEntry:=.mk (PyData.keyHash P s) (.str s n) v
noncomputable abbrev Z (_:Params):BT:=.nil
noncomputable abbrev L (o:Params→Obj) (P:Params):BT:=.node (o P) .nil .nil
noncomputable abbrev N (o:Params→Obj) (a b:Params→BT) (P:Params):BT:=.node (o P) (a P) (b P)
noncomputable abbrev x0:String:=SL.s2766695959194262286x5
noncomputable abbrev x1:String:=SL.s5856160107412720595x4
noncomputable abbrev x2:String:=SL.s658472552662922059x5
noncomputable abbrev x3:String:=SL.s14018661285674007319x4
noncomputable abbrev x4:String:=SL.s7097527257260152453x26
noncomputable abbrev x5:String:=SL.s7174869446012820540x8
noncomputable abbrev x6:String:=SL.s6070975301684473832x10
noncomputable abbrev x7:String:=SL.s11030030927630378310x26
noncomputable abbrev x8:String:=SL.s10062305145149207511x16
noncomputable abbrev x9:String:=SL.s17162191345867700912x4
noncomputable abbrev x10:String:=SL.s5946037652744460706x9
noncomputable abbrev x11:String:=SL.s4278001404047624695x13
noncomputable abbrev x12:String:=SL.s2742458400755230247x6
noncomputable abbrev x13:String:=SL.s4209523147560561109x18
noncomputable abbrev x14:String:=SL.s14755015743595814543x17
noncomputable abbrev x15:String:=SL.s10220274742760427390x26
noncomputable abbrev x16:String:=SL.s4290257624100764138x5
noncomputable abbrev x17:String:=SL.s4860613602091757760x24
noncomputable abbrev x18:String:=SL.s11443829558043349243x14
noncomputable abbrev x19:String:=SL.s6511155373996960695x17
noncomputable abbrev x20:String:=SL.s12411053484034534018x21
noncomputable abbrev yc (a:Str) (i:Nat) (b:Str) (j k l m n r:Nat) (c:Bool) (s:Nat) (v:Value) (x y z:Nat):Obj:=.mk (.type x1) none (.fields #[.str a i,.str b j,.str S1 k,.int l 0,.int m 0,.int 0 0,.int 0 0,.int n 0,.ref r,.bool c,.int 181 0,.ref s,.none,.none,.none,v,.int x 0,.int y 0,.str S1 z]) #[]
noncomputable abbrev yf (a b:Str) (s:Stmt) (k:Nat) (m:Value) (r:Nat):Obj:=.mk (.type x5) none (.func (.mk a b (zai s) (.stmts (zah s)) (zab s) k [] .none .none .none m none (.ref r) .none 0)) #[]
noncomputable abbrev yg (a b:Str) (s:Stmt):Obj:=.mk .none none (.func (.mk a b (zai s) (.stmts (zah s)) (zab s) 0 [] .none .none .none .none none .none .none 0)) #[]
noncomputable abbrev ys (x:String) (a:Array Value):Obj:=.mk (.type x) none (.seq a 0) #[]
noncomputable abbrev yv (a:Array Value):Obj:=.mk .none none (.fields a) #[]
noncomputable abbrev J:=Params→Obj
noncomputable def o0:J:=fun P=>(ys x0 #[])
noncomputable def o1:J:=fun P=>(yv #[])
noncomputable def o2:J:=fun P=>(yc S0 182 S0 183 184 1 0 0 11 .false 12 .none 185 1 186)
noncomputable def o3:J:=fun P=>(.mk (.type x2) none .plain #[(some (.ref 13)),(some (.ref 3)),(some (.ref 3)),none,(some (.str S2 164)),none,(some (.ref 0))])
noncomputable def h_a (P:Params):Heap:=⟨#[boot_o_0 P,boot_o_1 P,boot_o_2 P,boot_o_3 P,boot_o_4 P,boot_o_5 P,boot_o_6 P,boot_o_7 P,boot_o_8 P,boot_o_9 P,boot_o_10 P,o0 P,o1 P,o2 P,o3 P],{}⟩
noncomputable def t_b:Params→BT:=(N boot_o_0 (N boot_o_1 (N boot_o_3 (L boot_o_7) (L o0)) (N boot_o_5 (L boot_o_9) (L o2))) (N boot_o_2 (N boot_o_4 (L boot_o_8) (L o1)) (N boot_o_6 (L boot_o_10) (L o3))))
noncomputable def o4:J:=fun P=>(.mk (.type x3) none (.dict #[(e P S3 165 (.str S4 194)),(e P S5 166 .none),(e P S6 167 .none),(e P S7 168 (.builtin x4)),(e P S8 169 .none),(e P S9 170 (.ref 6)),(e P S10 171 (.ref 4)),(e P S11 173 (.str S1 172)),(e P S12 174 .none),(e P S13 193 (.ref 21)),(e P S14 213 (.ref 31)),(e P S15 229 (.ref 44)),(e P S16 245 (.ref 56))] 13) #[])
noncomputable def o5:J:=fun P=>(yv #[(.int 1 0),(.int 0 0),(.ref 20),(.int 5 0),(.int 0 0),(.ref 27),(.int 7 0),(.int 0 0),(.ref 40),(.int 9 0),(.int 0 0),(.ref 52)])
noncomputable def o6:J:=fun P=>(ys x0 #[(.str S17 190)])
noncomputable def o7:J:=fun P=>(yg S13 S13 (q 0))
noncomputable def o8:J:=fun P=>(.mk (.type x1) none (.fields #[(.str S13 187),(.str S13 188),(.str S1 189),(.int 1 0),(.int 1 0),(.int 0 0),(.int 0 0),(.int 3 0),(.ref 15),(.bool .true),(.int 181 0),(.ref 16),.none,(.ref 17),(.ref 18),(.ref 19),(.int 191 0),(.int 1 0),(.str S1 192)]) #[])
noncomputable def o9:J:=fun P=>(yf S13 S13 (q 0) 3 (.str S2 164) 20)
noncomputable def o10:J:=fun P=>(ys x0 #[(.type x6)])
noncomputable def o11:J:=fun P=>(.mk (.type x7) none (.fields #[(.builtin x8),(.type x9)]) #[])
noncomputable def o12:J:=fun P=>(.mk (.type x3) none (.dict #[(e P S18 203 (.str S4 194)),(e P S19 205 (.str S14 204)),(e P S20 207 (.int 5 206)),(e P S21 208 (.ref 29))] 4) #[])
noncomputable def o13:J:=fun P=>(yc S14 198 S14 199 200 5 0 0 25 .false 26 .none 201 5 202)
noncomputable def o14:J:=fun P=>(.mk (.type x2) none .plain #[(some (.ref 27)),(some (.ref 3)),(some (.ref 24)),none,(some (.str S4 194)),none,(some (.ref 0))])
noncomputable def o15:J:=fun P=>(.mk (.type x3) none (.dict #[(e P S18 203 (.str S4 194)),(e P S20 207 (.int 5 206)),(e P S21 208 (.ref 29)),(e P S22 210 (.ref 32)),(e P S5 211 .none)] 3) #[])
noncomputable def o16:J:=fun P=>(.mk (.type x9) none (.cls (.mk S14 [(.type x6)] [(.ref 31),(.type x6),(.type x10),(.type x11),(.type x12)] 30 S14 .true [] [(.ref 44),(.ref 56)] .false none .false)) #[(some (.ref 22)),none,(some (.str S14 196)),(some (.str S14 204)),(some (.builtin x13)),(some (.bool .true))])
noncomputable def o17:J:=fun P=>(.mk (.type x14) none (.fields #[(.str S22 209),(.ref 31),(.builtin x15),.none]) #[])
noncomputable def o18:J:=fun P=>(.mk (.type x16) none (.fields #[(.ref 31),(.ref 31),(.ref 31)]) #[])
noncomputable def o19:J:=fun P=>(.mk (.type x7) none (.fields #[(.builtin x17),(.ref 31)]) #[])
noncomputable def o20:J:=fun P=>(ys x0 #[(.ref 31)])
noncomputable def o21:J:=fun P=>(.mk (.type x3) none (.dict #[(e P S18 221 (.str S4 194)),(e P S19 223 (.str S15 222)),(e P S20 225 (.int 7 224)),(e P S21 226 (.ref 42))] 4) #[])
noncomputable def o22:J:=fun P=>(yc S15 216 S15 217 218 7 0 0 38 .false 39 .none 219 7 220)
noncomputable def o23:J:=fun P=>(.mk (.type x2) none .plain #[(some (.ref 40)),(some (.ref 3)),(some (.ref 37)),none,(some (.str S4 194)),none,(some (.ref 0))])
noncomputable def o24:J:=fun P=>(.mk (.type x3) none (.dict #[(e P S18 221 (.str S4 194)),(e P S20 225 (.int 7 224)),(e P S21 226 (.ref 42)),(e P S5 227 .none)] 2) #[])
noncomputable def o25:J:=fun P=>(.mk (.type x9) none (.cls (.mk S15 [(.ref 31)] [(.ref 44),(.ref 31),(.type x6),(.type x10),(.type x11),(.type x12)] 43 S15 .true [] [] .false none .false)) #[(some (.ref 35)),none,(some (.str S15 214)),(some (.str S15 222)),(some (.builtin x13)),(some (.bool .true))])
noncomputable def o26:J:=fun P=>(.mk (.type x16) none (.fields #[(.ref 44),(.ref 44),(.ref 44)]) #[])
noncomputable def o27:J:=fun P=>(.mk (.type x7) none (.fields #[(.builtin x17),(.ref 44)]) #[])
noncomputable def o28:J:=fun P=>(.mk (.type x3) none (.dict #[(e P S18 237 (.str S4 194)),(e P S19 239 (.str S16 238)),(e P S20 241 (.int 9 240)),(e P S21 242 (.ref 54))] 4) #[])
noncomputable def o29:J:=fun P=>(yc S16 232 S16 233 234 9 0 0 50 .false 51 .none 235 9 236)
noncomputable def o30:J:=fun P=>(.mk (.type x2) none .plain #[(some (.ref 52)),(some (.ref 3)),(some (.ref 49)),none,(some (.str S4 194)),none,(some (.ref 0))])
noncomputable def o31:J:=fun P=>(.mk (.type x3) none (.dict #[(e P S18 237 (.str S4 194)),(e P S20 241 (.int 9 240)),(e P S21 242 (.ref 54)),(e P S5 243 .none)] 2) #[])
noncomputable def o32:J:=fun P=>(.mk (.type x9) none (.cls (.mk S16 [(.ref 31)] [(.ref 56),(.ref 31),(.type x6),(.type x10),(.type x11),(.type x12)] 55 S16 .true [] [] .false none .false)) #[(some (.ref 47)),none,(some (.str S16 230)),(some (.str S16 238)),(some (.builtin x13)),(some (.bool .true))])
noncomputable def o33:J:=fun P=>(.mk (.type x16) none (.fields #[(.ref 56),(.ref 56),(.ref 56)]) #[])
noncomputable def o34:J:=fun P=>(.mk (.type x7) none (.fields #[(.builtin x17),(.ref 56)]) #[])
noncomputable def t_0:Params→BT:=(N boot_o_0 (N boot_o_1 (N o4 (N boot_o_7 (N o0 (L o16) (L o20)) (N o11 (L o1) (L o31))) (N o0 (N o7 (L o20) (L o1)) (N o13 (L o24) Z))) (N boot_o_5 (N boot_o_9 (N o6 (L o18) (L o28)) (N o0 (L o23) (L o33))) (N o2 (N o9 (L o21) (L o30)) (N o0 (L o26) Z)))) (N boot_o_2 (N boot_o_4 (N boot_o_8 (N o1 (L o17) (L o11)) (N o12 (L o22) (L o32))) (N o5 (N o8 (L o11) (L o29)) (N o14 (L o25) Z))) (N boot_o_6 (N boot_o_10 (N o0 (L o19) (L o0)) (N o1 (L o0) (L o34))) (N o3 (N o10 (L o0) (L o0)) (N o15 (L o27) Z)))))
noncomputable def o35:J:=fun P=>(.mk (.type x3) none (.dict #[(e P S3 165 (.str S23 355)),(e P S5 166 .none),(e P S6 167 .none),(e P S7 168 (.builtin x4)),(e P S8 169 .none),(e P S9 170 (.ref 6)),(e P S10 171 (.ref 4)),(e P S11 173 (.str S1 172)),(e P S12 174 .none),(e P S13 193 (.ref 21)),(e P S14 213 (.ref 31)),(e P S15 229 (.ref 44)),(e P S16 245 (.ref 56)),(e P S24 261 (.ref 68)),(e P S25 277 (.ref 80)),(e P S26 286 (.ref 89)),(e P S27 293 (.ref 96)),(e P S28 304 (.ref 103)),(e P S29 313 (.ref 110)),(e P S30 321 (.ref 117)),(e P S31 329 (.ref 124)),(e P S32 337 (.ref 131)),(e P S33 345 (.ref 138)),(e P S34 354 (.ref 145)),(e P S35 358 (.int 8 357)),(e P S36 360 (.int 28 359)),(e P S37 362 (.int 1000000000 361)),(e P S38 370 (.ref 152))] 28) #[])
noncomputable def o36:J:=fun P=>(yv #[(.int 1 0),(.int 0 0),(.ref 20),(.int 5 0),(.int 0 0),(.ref 27),(.int 7 0),(.int 0 0),(.ref 40),(.int 9 0),(.int 0 0),(.ref 52),(.int 11 0),(.int 0 0),(.ref 64),(.int 13 0),(.int 0 0),(.ref 76),(.int 16 0),(.int 0 0),(.ref 88),(.int 18 0),(.int 0 0),(.ref 95),(.int 24 0),(.int 0 0),(.ref 102),(.int 32 0),(.int 0 0),(.ref 109),(.int 39 0),(.int 0 0),(.ref 116),(.int 41 0),(.int 0 0),(.ref 123),(.int 43 0),(.int 0 0),(.ref 130),(.int 45 0),(.int 0 0),(.ref 137),(.int 47 0),(.int 0 0),(.ref 144),(.int 56 0),(.int 0 0),(.ref 151)])
noncomputable def o37:J:=fun P=>(.mk (.type x9) none (.cls (.mk S14 [(.type x6)] [(.ref 31),(.type x6),(.type x10),(.type x11),(.type x12)] 30 S14 .true [] [(.ref 44),(.ref 56),(.ref 68),(.ref 80)] .false none .false)) #[(some (.ref 22)),none,(some (.str S14 196)),(some (.str S14 204)),(some (.builtin x13)),(some (.bool .true))])
noncomputable def o38:J:=fun P=>(.mk (.type x3) none (.dict #[(e P S18 253 (.str S4 194)),(e P S19 255 (.str S24 254)),(e P S20 257 (.int 11 256)),(e P S21 258 (.ref 66))] 4) #[])
noncomputable def o39:J:=fun P=>(yc S24 248 S24 249 250 11 0 0 62 .false 63 .none 251 11 252)
noncomputable def o40:J:=fun P=>(.mk (.type x2) none .plain #[(some (.ref 64)),(some (.ref 3)),(some (.ref 61)),none,(some (.str S4 194)),none,(some (.ref 0))])
noncomputable def o41:J:=fun P=>(.mk (.type x3) none (.dict #[(e P S18 253 (.str S4 194)),(e P S20 257 (.int 11 256)),(e P S21 258 (.ref 66)),(e P S5 259 .none)] 2) #[])
noncomputable def o42:J:=fun P=>(.mk (.type x9) none (.cls (.mk S24 [(.ref 31)] [(.ref 68),(.ref 31),(.type x6),(.type x10),(.type x11),(.type x12)] 67 S24 .true [] [] .false none .false)) #[(some (.ref 59)),none,(some (.str S24 246)),(some (.str S24 254)),(some (.builtin x13)),(some (.bool .true))])
noncomputable def o43:J:=fun P=>(.mk (.type x16) none (.fields #[(.ref 68),(.ref 68),(.ref 68)]) #[])
noncomputable def o44:J:=fun P=>(.mk (.type x7) none (.fields #[(.builtin x17),(.ref 68)]) #[])
noncomputable def o45:J:=fun P=>(.mk (.type x3) none (.dict #[(e P S18 269 (.str S4 194)),(e P S19 271 (.str S25 270)),(e P S20 273 (.int 13 272)),(e P S21 274 (.ref 78))] 4) #[])
noncomputable def o46:J:=fun P=>(yc S25 264 S25 265 266 13 0 0 74 .false 75 .none 267 13 268)
noncomputable def o47:J:=fun P=>(.mk (.type x2) none .plain #[(some (.ref 76)),(some (.ref 3)),(some (.ref 73)),none,(some (.str S4 194)),none,(some (.ref 0))])
noncomputable def o48:J:=fun P=>(.mk (.type x3) none (.dict #[(e P S18 269 (.str S4 194)),(e P S20 273 (.int 13 272)),(e P S21 274 (.ref 78)),(e P S5 275 .none)] 2) #[])
noncomputable def o49:J:=fun P=>(.mk (.type x9) none (.cls (.mk S25 [(.ref 31)] [(.ref 80),(.ref 31),(.type x6),(.type x10),(.type x11),(.type x12)] 79 S25 .true [] [] .false none .false)) #[(some (.ref 71)),none,(some (.str S25 262)),(some (.str S25 270)),(some (.builtin x13)),(some (.bool .true))])
noncomputable def o50:J:=fun P=>(.mk (.type x16) none (.fields #[(.ref 80),(.ref 80),(.ref 80)]) #[])
noncomputable def o51:J:=fun P=>(.mk (.type x7) none (.fields #[(.builtin x17),(.ref 80)]) #[])
noncomputable def o52:J:=fun P=>(ys x0 #[(.str S39 283)])
noncomputable def o53:J:=fun P=>(yg S26 S26 (q 8))
noncomputable def o54:J:=fun P=>(.mk (.type x1) none (.fields #[(.str S26 280),(.str S26 281),(.str S1 282),(.int 16 0),(.int 1 0),(.int 0 0),(.int 0 0),(.int 3 0),(.ref 83),(.bool .true),(.int 181 0),(.ref 84),.none,(.ref 85),(.ref 86),(.ref 87),(.int 284 0),(.int 16 0),(.str S1 285)]) #[])
noncomputable def o55:J:=fun P=>(yf S26 S26 (q 8) 3 (.str S40 278) 88)
noncomputable def o56:J:=fun P=>(ys x0 #[(.str S39 290)])
noncomputable def o57:J:=fun P=>(yg S27 S27 (q 9))
noncomputable def o58:J:=fun P=>(.mk (.type x1) none (.fields #[(.str S27 287),(.str S27 288),(.str S1 289),(.int 18 0),(.int 1 0),(.int 0 0),(.int 0 0),(.int 3 0),(.ref 90),(.bool .true),(.int 181 0),(.ref 91),.none,(.ref 92),(.ref 93),(.ref 94),(.int 291 0),(.int 18 0),(.str S1 292)]) #[])
noncomputable def o59:J:=fun P=>(yf S27 S27 (q 9) 3 (.str S40 278) 95)
noncomputable def o60:J:=fun P=>(ys x0 #[(.str S41 297),(.str S42 298),(.str S43 299),(.str S44 300),(.str S45 301)])
noncomputable def o61:J:=fun P=>(yg S28 S28 (q 10))
noncomputable def o62:J:=fun P=>(.mk (.type x1) none (.fields #[(.str S28 294),(.str S28 295),(.str S1 296),(.int 24 0),(.int 2 0),(.int 0 0),(.int 0 0),(.int 3 0),(.ref 97),(.bool .true),(.int 181 0),(.ref 98),.none,(.ref 99),(.ref 100),(.ref 101),(.int 302 0),(.int 24 0),(.str S1 303)]) #[])
noncomputable def o63:J:=fun P=>(yf S28 S28 (q 10) 3 (.str S40 278) 102)
noncomputable def o64:J:=fun P=>(ys x0 #[(.str S41 308),(.str S42 309),(.str S46 310)])
noncomputable def o65:J:=fun P=>(yg S29 S29 (q 11))
noncomputable def o66:J:=fun P=>(.mk (.type x1) none (.fields #[(.str S29 305),(.str S29 306),(.str S1 307),(.int 32 0),(.int 2 0),(.int 0 0),(.int 0 0),(.int 3 0),(.ref 104),(.bool .true),(.int 181 0),(.ref 105),.none,(.ref 106),(.ref 107),(.ref 108),(.int 311 0),(.int 32 0),(.str S1 312)]) #[])
noncomputable def o67:J:=fun P=>(yf S29 S29 (q 11) 3 (.str S40 278) 109)
noncomputable def o68:J:=fun P=>(ys x0 #[(.str S43 317),(.str S44 318)])
noncomputable def o69:J:=fun P=>(.mk .none none (.func (.mk S30 S30 (zai (q 12)) (.stmts (zah (q 12))) (zab (q 15)) 0 [] .none .none .none .none none .none .none 0)) #[])
noncomputable def o70:J:=fun P=>(.mk (.type x1) none (.fields #[(.str S30 314),(.str S30 315),(.str S1 316),(.int 39 0),(.int 2 0),(.int 0 0),(.int 0 0),(.int 3 0),(.ref 111),(.bool .true),(.int 181 0),(.ref 112),.none,(.ref 113),(.ref 114),(.ref 115),(.int 319 0),(.int 39 0),(.str S1 320)]) #[])
noncomputable def o71:J:=fun P=>(.mk (.type x5) none (.func (.mk S30 S30 (zai (q 12)) (.stmts (zah (q 12))) (zab (q 15)) 3 [] .none .none .none (.str S40 278) none (.ref 116) .none 0)) #[])
noncomputable def o72:J:=fun P=>(ys x0 #[(.str S43 325),(.str S44 326)])
noncomputable def o73:J:=fun P=>(.mk .none none (.func (.mk S31 S31 (zai (q 13)) (.stmts (zah (q 13))) (zab (q 15)) 0 [] .none .none .none .none none .none .none 0)) #[])
noncomputable def o74:J:=fun P=>(.mk (.type x1) none (.fields #[(.str S31 322),(.str S31 323),(.str S1 324),(.int 41 0),(.int 2 0),(.int 0 0),(.int 0 0),(.int 3 0),(.ref 118),(.bool .true),(.int 181 0),(.ref 119),.none,(.ref 120),(.ref 121),(.ref 122),(.int 327 0),(.int 41 0),(.str S1 328)]) #[])
noncomputable def o75:J:=fun P=>(.mk (.type x5) none (.func (.mk S31 S31 (zai (q 13)) (.stmts (zah (q 13))) (zab (q 15)) 3 [] .none .none .none (.str S40 278) none (.ref 123) .none 0)) #[])
noncomputable def o76:J:=fun P=>(ys x0 #[(.str S43 333),(.str S44 334)])
noncomputable def o77:J:=fun P=>(.mk .none none (.func (.mk S32 S32 (zai (q 14)) (.stmts (zah (q 14))) (zab (q 15)) 0 [] .none .none .none .none none .none .none 0)) #[])
noncomputable def o78:J:=fun P=>(.mk (.type x1) none (.fields #[(.str S32 330),(.str S32 331),(.str S1 332),(.int 43 0),(.int 2 0),(.int 0 0),(.int 0 0),(.int 3 0),(.ref 125),(.bool .true),(.int 181 0),(.ref 126),.none,(.ref 127),(.ref 128),(.ref 129),(.int 335 0),(.int 43 0),(.str S1 336)]) #[])
noncomputable def o79:J:=fun P=>(.mk (.type x5) none (.func (.mk S32 S32 (zai (q 14)) (.stmts (zah (q 14))) (zab (q 15)) 3 [] .none .none .none (.str S40 278) none (.ref 130) .none 0)) #[])
noncomputable def o80:J:=fun P=>(ys x0 #[(.str S43 341),(.str S44 342)])
noncomputable def o81:J:=fun P=>(yg S33 S33 (q 15))
noncomputable def o82:J:=fun P=>(.mk (.type x1) none (.fields #[(.str S33 338),(.str S33 339),(.str S1 340),(.int 45 0),(.int 2 0),(.int 0 0),(.int 0 0),(.int 3 0),(.ref 132),(.bool .true),(.int 181 0),(.ref 133),.none,(.ref 134),(.ref 135),(.ref 136),(.int 343 0),(.int 45 0),(.str S1 344)]) #[])
noncomputable def o83:J:=fun P=>(yf S33 S33 (q 15) 3 (.str S40 278) 137)
noncomputable def o84:J:=fun P=>(ys x0 #[(.str S47 349),(.str S48 350),(.str S49 351)])
noncomputable def o85:J:=fun P=>(yg S34 S34 (q 16))
noncomputable def o86:J:=fun P=>(.mk (.type x1) none (.fields #[(.str S34 346),(.str S34 347),(.str S1 348),(.int 47 0),(.int 1 0),(.int 0 0),(.int 0 0),(.int 3 0),(.ref 139),(.bool .true),(.int 181 0),(.ref 140),.none,(.ref 141),(.ref 142),(.ref 143),(.int 352 0),(.int 47 0),(.str S1 353)]) #[])
noncomputable def o87:J:=fun P=>(yf S34 S34 (q 16) 3 (.str S40 278) 144)
noncomputable def o88:J:=fun P=>(ys x0 #[(.str S39 366),(.str S50 367)])
noncomputable def o89:J:=fun P=>(yg S38 S38 (q 21))
noncomputable def o90:J:=fun P=>(.mk (.type x1) none (.fields #[(.str S38 363),(.str S38 364),(.str S1 365),(.int 56 0),(.int 2 0),(.int 0 0),(.int 0 0),(.int 3 0),(.ref 146),(.bool .true),(.int 181 0),(.ref 147),.none,(.ref 148),(.ref 149),(.ref 150),(.int 368 0),(.int 56 0),(.str S1 369)]) #[])
noncomputable def o91:J:=fun P=>(yf S38 S38 (q 21) 3 (.str S23 355) 151)
noncomputable def t_1:Params→BT:=(N boot_o_0 (N boot_o_1 (N o35 (N boot_o_7 (N o0 (N o37 (N o1 (L o76) Z) (L o58)) (N o20 (N o48 (L o85) Z) (L o0))) (N o11 (N o1 (N o20 (L o0) Z) (L o63)) (N o31 (N o53 (L o90) Z) (L o1)))) (N o0 (N o7 (N o20 (N o41 (L o79) Z) (L o60)) (N o1 (N o0 (L o1) Z) (L o69))) (N o13 (N o24 (N o1 (L o0) Z) (L o0)) (N o20 (L o1) (L o74))))) (N boot_o_5 (N boot_o_9 (N o6 (N o18 (N o40 (L o77) Z) (L o0)) (N o28 (N o50 (L o87) Z) (L o68))) (N o0 (N o23 (N o45 (L o82) Z) (L o1)) (N o33 (L o55) (L o0)))) (N o2 (N o9 (N o21 (N o43 (L o1) Z) (L o61)) (N o30 (N o52 (L o0) Z) (L o71))) (N o0 (N o26 (N o47 (L o84) Z) (L o66)) (N o38 (L o0) (L o0)))))) (N boot_o_2 (N boot_o_4 (N boot_o_8 (N o1 (N o17 (N o39 (L o0) Z) (L o59)) (N o11 (N o49 (L o86) Z) (L o1))) (N o12 (N o22 (N o11 (L o81) Z) (L o0)) (N o32 (N o54 (L o91) Z) (L o72)))) (N o36 (N o8 (N o11 (N o42 (L o0) Z) (L o0)) (N o29 (N o1 (L o88) Z) (L o70))) (N o14 (N o25 (N o46 (L o1) Z) (L o65)) (N o11 (L o56) (L o75))))) (N boot_o_6 (N boot_o_10 (N o0 (N o19 (N o0 (L o78) Z) (L o1)) (N o0 (N o51 (L o0) Z) (L o0))) (N o1 (N o0 (N o0 (L o83) Z) (L o64)) (N o34 (L o0) (L o73)))) (N o3 (N o10 (N o0 (N o44 (L o80) Z) (L o62)) (N o0 (N o0 (L o89) Z) (L o0))) (N o15 (N o27 (N o0 (L o0) Z) (L o67)) (N o0 (L o57) (L o1)))))))
noncomputable def o92:J:=fun P=>(.mk (.type x3) none (.dict #[(e P S3 165 (.str S51 509)),(e P S5 166 .none),(e P S6 167 .none),(e P S7 168 (.builtin x4)),(e P S8 169 .none),(e P S9 170 (.ref 6)),(e P S10 171 (.ref 4)),(e P S11 173 (.str S1 172)),(e P S12 174 .none),(e P S13 193 (.ref 21)),(e P S14 213 (.ref 31)),(e P S15 229 (.ref 44)),(e P S16 245 (.ref 56)),(e P S24 261 (.ref 68)),(e P S25 277 (.ref 80)),(e P S26 286 (.ref 89)),(e P S27 293 (.ref 96)),(e P S28 304 (.ref 103)),(e P S29 313 (.ref 110)),(e P S30 321 (.ref 117)),(e P S31 329 (.ref 124)),(e P S32 337 (.ref 131)),(e P S33 345 (.ref 138)),(e P S34 354 (.ref 145)),(e P S35 358 (.int 8 357)),(e P S36 360 (.int 28 359)),(e P S37 362 (.int 1000000000 361)),(e P S38 370 (.ref 152)),(e P S52 377 (.ref 159)),(e P S53 385 (.ref 166)),(e P S54 391 (.ref 171)),(e P S55 397 (.ref 176)),(e P S56 451 (.ref 212)),(e P S57 464 (.ref 223)),(e P S58 472 (.ref 230)),(e P S59 478 (.ref 235)),(e P S60 484 (.ref 240)),(e P S61 490 (.ref 245)),(e P S62 496 (.ref 250)),(e P S63 502 (.ref 255)),(e P S64 508 (.ref 260)),(e P S65 516 (.ref 265)),(e P S66 522 (.ref 270)),(e P S67 530 (.ref 277)),(e P S68 538 (.ref 284))] 45) #[])
noncomputable def o93:J:=fun P=>(yv #[(.int 1 0),(.int 0 0),(.ref 20),(.int 5 0),(.int 0 0),(.ref 27),(.int 7 0),(.int 0 0),(.ref 40),(.int 9 0),(.int 0 0),(.ref 52),(.int 11 0),(.int 0 0),(.ref 64),(.int 13 0),(.int 0 0),(.ref 76),(.int 16 0),(.int 0 0),(.ref 88),(.int 18 0),(.int 0 0),(.ref 95),(.int 24 0),(.int 0 0),(.ref 102),(.int 32 0),(.int 0 0),(.ref 109),(.int 39 0),(.int 0 0),(.ref 116),(.int 41 0),(.int 0 0),(.ref 123),(.int 43 0),(.int 0 0),(.ref 130),(.int 45 0),(.int 0 0),(.ref 137),(.int 47 0),(.int 0 0),(.ref 144),(.int 56 0),(.int 0 0),(.ref 151),(.int 58 0),(.int 0 0),(.ref 158),(.int 60 0),(.int 0 0),(.ref 165),(.int 66 0),(.int 0 0),(.ref 170),(.int 72 0),(.int 0 0),(.ref 175),(.int 76 0),(.int 0 0),(.ref 182),(.int 103 0),(.int 0 0),(.ref 222),(.int 108 0),(.int 0 0),(.ref 229),(.int 110 0),(.int 0 0),(.ref 234),(.int 115 0),(.int 0 0),(.ref 239),(.int 117 0),(.int 0 0),(.ref 244),(.int 119 0),(.int 0 0),(.ref 249),(.int 121 0),(.int 0 0),(.ref 254),(.int 129 0),(.int 0 0),(.ref 259),(.int 133 0),(.int 0 0),(.ref 264),(.int 135 0),(.int 0 0),(.ref 269),(.int 137 0),(.int 0 0),(.ref 276),(.int 140 0),(.int 0 0),(.ref 283)])
noncomputable def o94:J:=fun P=>(ys x0 #[(.str S39 374)])
noncomputable def o95:J:=fun P=>(yg S52 S52 (q 22))
noncomputable def o96:J:=fun P=>(.mk (.type x1) none (.fields #[(.str S52 371),(.str S52 372),(.str S1 373),(.int 58 0),(.int 1 0),(.int 0 0),(.int 0 0),(.int 3 0),(.ref 153),(.bool .true),(.int 181 0),(.ref 154),.none,(.ref 155),(.ref 156),(.ref 157),(.int 375 0),(.int 58 0),(.str S1 376)]) #[])
noncomputable def o97:J:=fun P=>(yf S52 S52 (q 22) 3 (.str S23 355) 158)
noncomputable def o98:J:=fun P=>(ys x0 #[(.str S39 381),(.str S69 382)])
noncomputable def o99:J:=fun P=>(yg S53 S53 (q 23))
noncomputable def o100:J:=fun P=>(.mk (.type x1) none (.fields #[(.str S53 378),(.str S53 379),(.str S1 380),(.int 60 0),(.int 2 0),(.int 0 0),(.int 0 0),(.int 3 0),(.ref 160),(.bool .true),(.int 181 0),(.ref 161),.none,(.ref 162),(.ref 163),(.ref 164),(.int 383 0),(.int 60 0),(.str S1 384)]) #[])
noncomputable def o101:J:=fun P=>(yf S53 S53 (q 23) 3 (.str S23 355) 165)
noncomputable def o102:J:=fun P=>(yg S54 S54 (q 24))
noncomputable def o103:J:=fun P=>(yc S54 386 S54 387 388 66 2 3 167 .true 168 (.ref 169) 389 66 390)
noncomputable def o104:J:=fun P=>(yf S54 S54 (q 24) 3 (.str S23 355) 170)
noncomputable def o105:J:=fun P=>(yg S55 S55 (q 25))
noncomputable def o106:J:=fun P=>(yc S55 392 S55 393 394 72 2 3 172 .true 173 (.ref 174) 395 72 396)
noncomputable def o107:J:=fun P=>(yf S55 S55 (q 25) 3 (.str S23 355) 175)
noncomputable def o108:J:=fun P=>(.mk (.type x3) none (.dict #[(e P S18 405 (.str S23 355)),(e P S19 407 (.str S56 406)),(e P S20 409 (.int 76 408)),(e P S70 415 (.ref 188)),(e P S71 422 (.ref 195)),(e P S72 434 (.ref 202)),(e P S73 441 (.ref 209)),(e P S21 444 (.ref 210))] 8) #[])
noncomputable def o109:J:=fun P=>(yv #[(.int 78 0),(.int 4 0),(.ref 187),(.int 84 0),(.int 4 0),(.ref 194),(.int 87 0),(.int 4 0),(.ref 201),(.int 100 0),(.int 4 0),(.ref 208)])
noncomputable def o110:J:=fun P=>(yc S56 400 S56 401 402 76 0 0 180 .false 181 .none 403 76 404)
noncomputable def o111:J:=fun P=>(.mk (.type x2) none .plain #[(some (.ref 182)),(some (.ref 3)),(some (.ref 179)),none,(some (.str S23 355)),none,(some (.ref 0))])
noncomputable def o112:J:=fun P=>(yg S70 S74 (inClass (q 26) 0))
noncomputable def o113:J:=fun P=>(yc S70 410 S74 411 412 78 3 3 184 .true 185 (.ref 186) 413 78 414)
noncomputable def o114:J:=fun P=>(yf S70 S74 (inClass (q 26) 0) 3 (.str S23 355) 187)
noncomputable def o115:J:=fun P=>(ys x0 #[(.str S75 419)])
noncomputable def o116:J:=fun P=>(yg S71 S76 (inClass (q 26) 1))
noncomputable def o117:J:=fun P=>(.mk (.type x1) none (.fields #[(.str S71 416),(.str S76 417),(.str S1 418),(.int 84 0),(.int 1 0),(.int 0 0),(.int 0 0),(.int 3 0),(.ref 189),(.bool .true),(.int 181 0),(.ref 190),.none,(.ref 191),(.ref 192),(.ref 193),(.int 420 0),(.int 84 0),(.str S1 421)]) #[])
noncomputable def o118:J:=fun P=>(yf S71 S76 (inClass (q 26) 1) 3 (.str S23 355) 194)
noncomputable def o119:J:=fun P=>(ys x0 #[(.str S75 426),(.str S77 427),(.str S78 428),(.str S79 429),(.str S80 430),(.str S81 431)])
noncomputable def o120:J:=fun P=>(yg S72 S82 (inClass (q 26) 2))
noncomputable def o121:J:=fun P=>(.mk (.type x1) none (.fields #[(.str S72 423),(.str S82 424),(.str S1 425),(.int 87 0),(.int 2 0),(.int 0 0),(.int 0 0),(.int 3 0),(.ref 196),(.bool .true),(.int 181 0),(.ref 197),.none,(.ref 198),(.ref 199),(.ref 200),(.int 432 0),(.int 87 0),(.str S1 433)]) #[])
noncomputable def o122:J:=fun P=>(yf S72 S82 (inClass (q 26) 2) 3 (.str S23 355) 201)
noncomputable def o123:J:=fun P=>(ys x0 #[(.str S75 438)])
noncomputable def o124:J:=fun P=>(yg S73 S83 (inClass (q 26) 3))
noncomputable def o125:J:=fun P=>(.mk (.type x1) none (.fields #[(.str S73 435),(.str S83 436),(.str S1 437),(.int 100 0),(.int 1 0),(.int 0 0),(.int 0 0),(.int 3 0),(.ref 203),(.bool .true),(.int 181 0),(.ref 204),.none,(.ref 205),(.ref 206),(.ref 207),(.int 439 0),(.int 100 0),(.str S1 440)]) #[])
noncomputable def o126:J:=fun P=>(yf S73 S83 (inClass (q 26) 3) 3 (.str S23 355) 208)
noncomputable def o127:J:=fun P=>(ys x0 #[(.str S84 442),(.str S85 443)])
noncomputable def o128:J:=fun P=>(.mk (.type x3) none (.dict #[(e P S18 405 (.str S23 355)),(e P S20 409 (.int 76 408)),(e P S70 415 (.ref 188)),(e P S71 422 (.ref 195)),(e P S72 434 (.ref 202)),(e P S73 441 (.ref 209)),(e P S21 444 (.ref 210)),(e P S86 446 (.ref 213)),(e P S22 448 (.ref 214)),(e P S5 449 .none)] 4) #[])
noncomputable def o129:J:=fun P=>(.mk (.type x9) none (.cls (.mk S56 [(.type x12)] [(.ref 212),(.type x12)] 211 S56 .true [] [] .false none .false)) #[none,none,(some (.str S56 398)),(some (.str S56 406)),(some (.builtin x18)),(some (.bool .true))])
noncomputable def o130:J:=fun P=>(.mk (.type x14) none (.fields #[(.str S86 445),(.ref 212),(.builtin x19),(.builtin x20)]) #[])
noncomputable def o131:J:=fun P=>(.mk (.type x14) none (.fields #[(.str S22 447),(.ref 212),(.builtin x15),.none]) #[])
noncomputable def o132:J:=fun P=>(.mk (.type x16) none (.fields #[(.ref 212),(.ref 212),(.ref 212)]) #[])
noncomputable def o133:J:=fun P=>(.mk (.type x7) none (.fields #[(.builtin x17),(.ref 212)]) #[])
noncomputable def o134:J:=fun P=>(ys x0 #[(.str S71 457),(.str S87 458),(.str S88 459),(.str S89 460),(.str S90 461)])
noncomputable def o135:J:=fun P=>(yg S57 S57 (q 28))
noncomputable def o136:J:=fun P=>(.mk (.type x1) none (.fields #[(.str S57 454),(.str S57 455),(.str S1 456),(.int 103 0),(.int 1 0),(.int 0 0),(.int 0 0),(.int 3 0),(.ref 217),(.bool .true),(.int 181 0),(.ref 218),.none,(.ref 219),(.ref 220),(.ref 221),(.int 462 0),(.int 103 0),(.str S1 463)]) #[])
noncomputable def o137:J:=fun P=>(yf S57 S57 (q 28) 3 (.str S91 452) 222)
noncomputable def o138:J:=fun P=>(ys x0 #[(.str S90 468),(.str S87 469)])
noncomputable def o139:J:=fun P=>(yg S58 S58 (q 29))
noncomputable def o140:J:=fun P=>(.mk (.type x1) none (.fields #[(.str S58 465),(.str S58 466),(.str S1 467),(.int 108 0),(.int 2 0),(.int 0 0),(.int 0 0),(.int 3 0),(.ref 224),(.bool .true),(.int 181 0),(.ref 225),.none,(.ref 226),(.ref 227),(.ref 228),(.int 470 0),(.int 108 0),(.str S1 471)]) #[])
noncomputable def o141:J:=fun P=>(yf S58 S58 (q 29) 3 (.str S91 452) 229)
noncomputable def o142:J:=fun P=>(yg S59 S59 (q 30))
noncomputable def o143:J:=fun P=>(yc S59 473 S59 474 475 110 4 3 231 .true 232 (.ref 233) 476 110 477)
noncomputable def o144:J:=fun P=>(yf S59 S59 (q 30) 3 (.str S91 452) 234)
noncomputable def o145:J:=fun P=>(yg S60 S60 (q 31))
noncomputable def o146:J:=fun P=>(yc S60 479 S60 480 481 115 4 3 236 .true 237 (.ref 238) 482 115 483)
noncomputable def o147:J:=fun P=>(yf S60 S60 (q 31) 3 (.str S91 452) 239)
noncomputable def o148:J:=fun P=>(yg S61 S61 (q 32))
noncomputable def o149:J:=fun P=>(yc S61 485 S61 486 487 117 3 3 241 .true 242 (.ref 243) 488 117 489)
noncomputable def o150:J:=fun P=>(yf S61 S61 (q 32) 3 (.str S91 452) 244)
noncomputable def o151:J:=fun P=>(yg S62 S62 (q 33))
noncomputable def o152:J:=fun P=>(yc S62 491 S62 492 493 119 4 3 246 .true 247 (.ref 248) 494 119 495)
noncomputable def o153:J:=fun P=>(yf S62 S62 (q 33) 3 (.str S91 452) 249)
noncomputable def o154:J:=fun P=>(yg S63 S63 (q 34))
noncomputable def o155:J:=fun P=>(yc S63 497 S63 498 499 121 1 3 251 .true 252 (.ref 253) 500 121 501)
noncomputable def o156:J:=fun P=>(yf S63 S63 (q 34) 3 (.str S91 452) 254)
noncomputable def o157:J:=fun P=>(yg S64 S64 (q 35))
noncomputable def o158:J:=fun P=>(yc S64 503 S64 504 505 129 2 3 256 .true 257 (.ref 258) 506 129 507)
noncomputable def o159:J:=fun P=>(yf S64 S64 (q 35) 3 (.str S91 452) 259)
noncomputable def o160:J:=fun P=>(yg S65 S65 (q 37))
noncomputable def o161:J:=fun P=>(yc S65 511 S65 512 513 133 2 3 261 .true 262 (.ref 263) 514 133 515)
noncomputable def o162:J:=fun P=>(yf S65 S65 (q 37) 3 (.str S51 509) 264)
noncomputable def o163:J:=fun P=>(yg S66 S66 (q 38))
noncomputable def o164:J:=fun P=>(yc S66 517 S66 518 519 135 2 3 266 .true 267 (.ref 268) 520 135 521)
noncomputable def o165:J:=fun P=>(yf S66 S66 (q 38) 3 (.str S51 509) 269)
noncomputable def o166:J:=fun P=>(ys x0 #[(.str S92 526),(.str S69 527)])
noncomputable def o167:J:=fun P=>(yg S67 S67 (q 39))
noncomputable def o168:J:=fun P=>(.mk (.type x1) none (.fields #[(.str S67 523),(.str S67 524),(.str S1 525),(.int 137 0),(.int 2 0),(.int 0 0),(.int 0 0),(.int 3 0),(.ref 271),(.bool .true),(.int 181 0),(.ref 272),.none,(.ref 273),(.ref 274),(.ref 275),(.int 528 0),(.int 137 0),(.str S1 529)]) #[])
noncomputable def o169:J:=fun P=>(yf S67 S67 (q 39) 3 (.str S51 509) 276)
noncomputable def o170:J:=fun P=>(ys x0 #[(.str S92 534),(.str S93 535)])
noncomputable def o171:J:=fun P=>(yg S68 S68 (q 40))
noncomputable def o172:J:=fun P=>(.mk (.type x1) none (.fields #[(.str S68 531),(.str S68 532),(.str S1 533),(.int 140 0),(.int 2 0),(.int 0 0),(.int 0 0),(.int 3 0),(.ref 278),(.bool .true),(.int 181 0),(.ref 279),.none,(.ref 280),(.ref 281),(.ref 282),(.int 536 0),(.int 140 0),(.str S1 537)]) #[])
noncomputable def o173:J:=fun P=>(yf S68 S68 (q 40) 3 (.str S51 509) 283)
noncomputable def t_2:Params→BT:=(N boot_o_0 (N boot_o_1 (N o92 (N boot_o_7 (N o0 (N o37 (N o1 (N o76 (L o156) Z) (L o115)) (N o58 (L o97) (L o137))) (N o20 (N o48 (N o85 (L o0) Z) (L o124)) (N o0 (L o106) (L o146)))) (N o11 (N o1 (N o20 (N o0 (L o160) Z) (L o0)) (N o63 (L o0) (L o0))) (N o31 (N o53 (N o90 (L o1) Z) (L o132)) (N o1 (L o111) (L o1))))) (N o0 (N o7 (N o20 (N o41 (N o79 (L o158) Z) (L o118)) (N o60 (L o0) (L o0))) (N o1 (N o0 (N o1 (L o167) Z) (L o128)) (N o69 (L o108) (L o148)))) (N o13 (N o24 (N o1 (N o0 (L o1) Z) (L o0)) (N o0 (L o104) (L o144))) (N o20 (N o1 (N o94 (L o172) Z) (L o134)) (N o74 (L o113) (L o0)))))) (N boot_o_5 (N boot_o_9 (N o6 (N o18 (N o40 (N o77 (L o1) Z) (L o116)) (N o0 (L o1) (L o1))) (N o28 (N o50 (N o87 (L o166) Z) (L o126)) (N o68 (L o0) (L o0)))) (N o0 (N o23 (N o45 (N o82 (L o162) Z) (L o121)) (N o1 (L o102) (L o142))) (N o33 (N o55 (N o0 (L o0) Z) (L o0)) (N o0 (L o1) (L o152))))) (N o2 (N o9 (N o21 (N o43 (N o1 (L o0) Z) (L o1)) (N o61 (L o100) (L o140))) (N o30 (N o52 (N o0 (L o169) Z) (L o130)) (N o71 (L o109) (L o150)))) (N o0 (N o26 (N o47 (N o84 (L o164) Z) (L o123)) (N o66 (L o1) (L o1))) (N o38 (N o0 (L o95) (L o135)) (N o0 (L o0) (L o154))))))) (N boot_o_2 (N boot_o_4 (N boot_o_8 (N o1 (N o17 (N o39 (N o0 (L o0) Z) (L o0)) (N o59 (L o0) (L o0))) (N o11 (N o49 (N o86 (L o1) Z) (L o125)) (N o1 (L o107) (L o147)))) (N o12 (N o22 (N o11 (N o81 (L o161) Z) (L o120)) (N o0 (L o1) (L o1))) (N o32 (N o54 (N o91 (L o170) Z) (L o133)) (N o72 (L o0) (L o151))))) (N o93 (N o8 (N o11 (N o42 (N o0 (L o159) Z) (L o0)) (N o0 (L o99) (L o139))) (N o29 (N o1 (N o88 (L o168) Z) (L o129)) (N o70 (L o0) (L o149)))) (N o14 (N o25 (N o46 (N o1 (L o163) Z) (L o1)) (N o65 (L o0) (L o0))) (N o11 (N o56 (N o0 (L o173) Z) (L o0)) (N o75 (L o114) (L o1)))))) (N boot_o_6 (N boot_o_10 (N o0 (N o19 (N o0 (N o78 (L o157) Z) (L o117)) (N o1 (L o98) (L o138))) (N o0 (N o51 (N o0 (L o0) Z) (L o127)) (N o0 (L o11) (L o1)))) (N o1 (N o0 (N o0 (N o83 (L o0) Z) (L o122)) (N o64 (L o103) (L o143))) (N o34 (N o0 (N o1 (L o171) Z) (L o1)) (N o73 (L o112) (L o153))))) (N o3 (N o10 (N o0 (N o44 (N o80 (L o1) Z) (L o119)) (N o62 (L o101) (L o141))) (N o0 (N o0 (N o89 (L o0) Z) (L o131)) (N o0 (L o110) (L o0)))) (N o15 (N o27 (N o0 (N o0 (L o165) Z) (L o0)) (N o67 (L o105) (L o145))) (N o0 (N o57 (L o96) (L o136)) (N o1 (L o1) (L o155))))))))
noncomputable def o174:J:=fun P=>(.mk (.type x3) none (.dict #[(e P S3 165 (.str S51 509)),(e P S5 166 .none),(e P S6 167 .none),(e P S7 168 (.builtin x4)),(e P S8 169 .none),(e P S9 170 (.ref 6)),(e P S10 171 (.ref 4)),(e P S11 173 (.str S1 172)),(e P S12 174 .none),(e P S13 193 (.ref 21)),(e P S14 213 (.ref 31)),(e P S15 229 (.ref 44)),(e P S16 245 (.ref 56)),(e P S24 261 (.ref 68)),(e P S25 277 (.ref 80)),(e P S26 286 (.ref 89)),(e P S27 293 (.ref 96)),(e P S28 304 (.ref 103)),(e P S29 313 (.ref 110)),(e P S30 321 (.ref 117)),(e P S31 329 (.ref 124)),(e P S32 337 (.ref 131)),(e P S33 345 (.ref 138)),(e P S34 354 (.ref 145)),(e P S35 358 (.int 8 357)),(e P S36 360 (.int 28 359)),(e P S37 362 (.int 1000000000 361)),(e P S38 370 (.ref 152)),(e P S52 377 (.ref 159)),(e P S53 385 (.ref 166)),(e P S54 391 (.ref 171)),(e P S55 397 (.ref 176)),(e P S56 451 (.ref 212)),(e P S57 464 (.ref 223)),(e P S58 472 (.ref 230)),(e P S59 478 (.ref 235)),(e P S60 484 (.ref 240)),(e P S61 490 (.ref 245)),(e P S62 496 (.ref 250)),(e P S63 502 (.ref 255)),(e P S64 508 (.ref 260)),(e P S65 516 (.ref 265)),(e P S66 522 (.ref 270)),(e P S67 530 (.ref 277)),(e P S68 538 (.ref 284)),(e P S94 544 (.ref 289)),(e P S95 550 (.ref 294)),(e P S96 559 (.ref 301)),(e P S97 565 (.ref 306)),(e P S98 571 (.ref 311)),(e P S99 577 (.ref 316)),(e P S100 607 (.ref 333)),(e P S101 648 (.ref 366))] 53) #[])
noncomputable def o175:J:=fun P=>(yv #[(.int 1 0),(.int 0 0),(.ref 20),(.int 5 0),(.int 0 0),(.ref 27),(.int 7 0),(.int 0 0),(.ref 40),(.int 9 0),(.int 0 0),(.ref 52),(.int 11 0),(.int 0 0),(.ref 64),(.int 13 0),(.int 0 0),(.ref 76),(.int 16 0),(.int 0 0),(.ref 88),(.int 18 0),(.int 0 0),(.ref 95),(.int 24 0),(.int 0 0),(.ref 102),(.int 32 0),(.int 0 0),(.ref 109),(.int 39 0),(.int 0 0),(.ref 116),(.int 41 0),(.int 0 0),(.ref 123),(.int 43 0),(.int 0 0),(.ref 130),(.int 45 0),(.int 0 0),(.ref 137),(.int 47 0),(.int 0 0),(.ref 144),(.int 56 0),(.int 0 0),(.ref 151),(.int 58 0),(.int 0 0),(.ref 158),(.int 60 0),(.int 0 0),(.ref 165),(.int 66 0),(.int 0 0),(.ref 170),(.int 72 0),(.int 0 0),(.ref 175),(.int 76 0),(.int 0 0),(.ref 182),(.int 103 0),(.int 0 0),(.ref 222),(.int 108 0),(.int 0 0),(.ref 229),(.int 110 0),(.int 0 0),(.ref 234),(.int 115 0),(.int 0 0),(.ref 239),(.int 117 0),(.int 0 0),(.ref 244),(.int 119 0),(.int 0 0),(.ref 249),(.int 121 0),(.int 0 0),(.ref 254),(.int 129 0),(.int 0 0),(.ref 259),(.int 133 0),(.int 0 0),(.ref 264),(.int 135 0),(.int 0 0),(.ref 269),(.int 137 0),(.int 0 0),(.ref 276),(.int 140 0),(.int 0 0),(.ref 283),(.int 143 0),(.int 0 0),(.ref 288),(.int 147 0),(.int 0 0),(.ref 293),(.int 150 0),(.int 0 0),(.ref 300),(.int 154 0),(.int 0 0),(.ref 305),(.int 156 0),(.int 0 0),(.ref 310),(.int 158 0),(.int 0 0),(.ref 315),(.int 161 0),(.int 0 0),(.ref 322),(.int 165 0),(.int 0 0),(.ref 343)])
noncomputable def o176:J:=fun P=>(yg S94 S94 (q 41))
noncomputable def o177:J:=fun P=>(yc S94 539 S94 540 541 143 3 3 285 .true 286 (.ref 287) 542 143 543)
noncomputable def o178:J:=fun P=>(yf S94 S94 (q 41) 3 (.str S51 509) 288)
noncomputable def o179:J:=fun P=>(yg S95 S95 (q 42))
noncomputable def o180:J:=fun P=>(yc S95 545 S95 546 547 147 2 3 290 .true 291 (.ref 292) 548 147 549)
noncomputable def o181:J:=fun P=>(yf S95 S95 (q 42) 3 (.str S51 509) 293)
noncomputable def o182:J:=fun P=>(ys x0 #[(.str S80 554),(.str S43 555),(.str S44 556)])
noncomputable def o183:J:=fun P=>(yg S96 S96 (q 43))
noncomputable def o184:J:=fun P=>(.mk (.type x1) none (.fields #[(.str S96 551),(.str S96 552),(.str S1 553),(.int 150 0),(.int 3 0),(.int 0 0),(.int 0 0),(.int 3 0),(.ref 295),(.bool .true),(.int 181 0),(.ref 296),.none,(.ref 297),(.ref 298),(.ref 299),(.int 557 0),(.int 150 0),(.str S1 558)]) #[])
noncomputable def o185:J:=fun P=>(yf S96 S96 (q 43) 3 (.str S51 509) 300)
noncomputable def o186:J:=fun P=>(yg S97 S97 (q 44))
noncomputable def o187:J:=fun P=>(yc S97 560 S97 561 562 154 3 3 302 .true 303 (.ref 304) 563 154 564)
noncomputable def o188:J:=fun P=>(yf S97 S97 (q 44) 3 (.str S51 509) 305)
noncomputable def o189:J:=fun P=>(yg S98 S98 (q 45))
noncomputable def o190:J:=fun P=>(yc S98 566 S98 567 568 156 2 3 307 .true 308 (.ref 309) 569 156 570)
noncomputable def o191:J:=fun P=>(yf S98 S98 (q 45) 3 (.str S51 509) 310)
noncomputable def o192:J:=fun P=>(yg S99 S99 (q 46))
noncomputable def o193:J:=fun P=>(yc S99 572 S99 573 574 158 2 3 312 .true 313 (.ref 314) 575 158 576)
noncomputable def o194:J:=fun P=>(yf S99 S99 (q 46) 3 (.str S51 509) 315)
noncomputable def o195:J:=fun P=>(.mk (.type x3) none (.dict #[(e P S18 585 (.str S51 509)),(e P S19 587 (.str S100 586)),(e P S20 589 (.int 161 588)),(e P S102 599 (.ref 330)),(e P S21 600 (.ref 331))] 5) #[])
noncomputable def o196:J:=fun P=>(yv #[(.int 163 0),(.int 4 0),(.ref 329)])
noncomputable def o197:J:=fun P=>(yc S100 580 S100 581 582 161 0 0 320 .false 321 .none 583 161 584)
noncomputable def o198:J:=fun P=>(.mk (.type x2) none .plain #[(some (.ref 322)),(some (.ref 3)),(some (.ref 319)),none,(some (.str S51 509)),none,(some (.ref 0))])
noncomputable def o199:J:=fun P=>(ys x0 #[(.str S75 593),(.str S92 594),(.str S43 595),(.str S44 596)])
noncomputable def o200:J:=fun P=>(yg S102 S103 (inClass (q 47) 0))
noncomputable def o201:J:=fun P=>(.mk (.type x1) none (.fields #[(.str S102 590),(.str S103 591),(.str S1 592),(.int 163 0),(.int 4 0),(.int 0 0),(.int 0 0),(.int 3 0),(.ref 324),(.bool .true),(.int 181 0),(.ref 325),.none,(.ref 326),(.ref 327),(.ref 328),(.int 597 0),(.int 163 0),(.str S1 598)]) #[])
noncomputable def o202:J:=fun P=>(yf S102 S103 (inClass (q 47) 0) 3 (.str S51 509) 329)
noncomputable def o203:J:=fun P=>(.mk (.type x3) none (.dict #[(e P S18 585 (.str S51 509)),(e P S20 589 (.int 161 588)),(e P S102 599 (.ref 330)),(e P S21 600 (.ref 331)),(e P S86 602 (.ref 334)),(e P S22 604 (.ref 335)),(e P S5 605 .none)] 4) #[])
noncomputable def o204:J:=fun P=>(.mk (.type x9) none (.cls (.mk S100 [(.type x12)] [(.ref 333),(.type x12)] 332 S100 .true [] [(.ref 366)] .false none .false)) #[none,none,(some (.str S100 578)),(some (.str S100 586)),(some (.builtin x18)),(some (.bool .true))])
noncomputable def o205:J:=fun P=>(.mk (.type x14) none (.fields #[(.str S86 601),(.ref 333),(.builtin x19),(.builtin x20)]) #[])
noncomputable def o206:J:=fun P=>(.mk (.type x14) none (.fields #[(.str S22 603),(.ref 333),(.builtin x15),.none]) #[])
noncomputable def o207:J:=fun P=>(.mk (.type x16) none (.fields #[(.ref 333),(.ref 333),(.ref 333)]) #[])
noncomputable def o208:J:=fun P=>(.mk (.type x7) none (.fields #[(.builtin x17),(.ref 333)]) #[])
noncomputable def o209:J:=fun P=>(ys x0 #[(.ref 333)])
noncomputable def o210:J:=fun P=>(.mk (.type x3) none (.dict #[(e P S18 615 (.str S51 509)),(e P S19 617 (.str S101 616)),(e P S20 619 (.int 165 618)),(e P S70 628 (.ref 351)),(e P S104 636 (.ref 358)),(e P S102 642 (.ref 363)),(e P S21 645 (.ref 364))] 7) #[])
noncomputable def o211:J:=fun P=>(yv #[(.int 167 0),(.int 4 0),(.ref 350),(.int 171 0),(.int 4 0),(.ref 357),(.int 174 0),(.int 4 0),(.ref 362)])
noncomputable def o212:J:=fun P=>(yc S101 610 S101 611 612 165 0 0 341 .false 342 .none 613 165 614)
noncomputable def o213:J:=fun P=>(.mk (.type x2) none .plain #[(some (.ref 343)),(some (.ref 3)),(some (.ref 340)),none,(some (.str S51 509)),none,(some (.ref 0))])
noncomputable def o214:J:=fun P=>(ys x0 #[(.str S75 623),(.str S93 624),(.str S105 625)])
noncomputable def o215:J:=fun P=>(yg S70 S106 (inClass (q 48) 0))
noncomputable def o216:J:=fun P=>(.mk (.type x1) none (.fields #[(.str S70 620),(.str S106 621),(.str S1 622),(.int 167 0),(.int 3 0),(.int 0 0),(.int 0 0),(.int 3 0),(.ref 345),(.bool .true),(.int 181 0),(.ref 346),.none,(.ref 347),(.ref 348),(.ref 349),(.int 626 0),(.int 167 0),(.str S1 627)]) #[])
noncomputable def o217:J:=fun P=>(yf S70 S106 (inClass (q 48) 0) 3 (.str S51 509) 350)
noncomputable def o218:J:=fun P=>(ys x0 #[(.str S75 632),(.str S92 633)])
noncomputable def o219:J:=fun P=>(yg S104 S107 (inClass (q 48) 1))
noncomputable def o220:J:=fun P=>(.mk (.type x1) none (.fields #[(.str S104 629),(.str S107 630),(.str S1 631),(.int 171 0),(.int 2 0),(.int 0 0),(.int 0 0),(.int 3 0),(.ref 352),(.bool .true),(.int 181 0),(.ref 353),.none,(.ref 354),(.ref 355),(.ref 356),(.int 634 0),(.int 171 0),(.str S1 635)]) #[])
noncomputable def o221:J:=fun P=>(yf S104 S107 (inClass (q 48) 1) 3 (.str S51 509) 357)
noncomputable def o222:J:=fun P=>(yg S102 S108 (inClass (q 48) 2))
noncomputable def o223:J:=fun P=>(yc S102 637 S108 638 639 174 4 3 359 .true 360 (.ref 361) 640 174 641)
noncomputable def o224:J:=fun P=>(yf S102 S108 (inClass (q 48) 2) 3 (.str S51 509) 362)
noncomputable def o225:J:=fun P=>(ys x0 #[(.str S93 643),(.str S105 644)])
noncomputable def o226:J:=fun P=>(.mk (.type x3) none (.dict #[(e P S18 615 (.str S51 509)),(e P S20 619 (.int 165 618)),(e P S70 628 (.ref 351)),(e P S104 636 (.ref 358)),(e P S102 642 (.ref 363)),(e P S21 645 (.ref 364)),(e P S5 646 .none)] 2) #[])
noncomputable def o227:J:=fun P=>(.mk (.type x9) none (.cls (.mk S101 [(.ref 333)] [(.ref 366),(.ref 333),(.type x12)] 365 S101 .true [] [] .false none .false)) #[(some (.ref 338)),none,(some (.str S101 608)),(some (.str S101 616)),(some (.builtin x18)),(some (.bool .true))])
noncomputable def o228:J:=fun P=>(.mk (.type x16) none (.fields #[(.ref 366),(.ref 366),(.ref 366)]) #[])
noncomputable def o229:J:=fun P=>(.mk (.type x7) none (.fields #[(.builtin x17),(.ref 366)]) #[])
noncomputable def t_3:Params→BT:=(N boot_o_0 (N boot_o_1 (N o174 (N boot_o_7 (N o0 (N o37 (N o1 (N o76 (L o156) Z) (N o115 (L o195) Z)) (N o58 (N o97 (L o176) Z) (N o137 (L o217) Z))) (N o20 (N o48 (N o85 (L o0) Z) (N o124 (L o206) Z)) (N o0 (N o106 (L o1) Z) (N o146 (L o228) Z)))) (N o11 (N o1 (N o20 (N o0 (L o160) Z) (N o0 (L o0) Z)) (N o63 (N o0 (L o0) Z) (N o0 (L o0) Z))) (N o31 (N o53 (N o90 (L o1) Z) (N o132 (L o212) Z)) (N o1 (N o111 (L o191) Z) (L o1))))) (N o0 (N o7 (N o20 (N o41 (N o79 (L o158) Z) (N o118 (L o198) Z)) (N o60 (N o0 (L o1) Z) (N o0 (L o0) Z))) (N o1 (N o0 (N o1 (L o167) Z) (N o128 (L o11) Z)) (N o69 (N o108 (L o0) Z) (L o148)))) (N o13 (N o24 (N o1 (N o0 (L o1) Z) (N o0 (L o0) Z)) (N o0 (N o104 (L o183) Z) (N o144 (L o224) Z))) (N o20 (N o1 (N o94 (L o172) Z) (N o134 (L o214) Z)) (N o74 (N o113 (L o193) Z) (L o0)))))) (N boot_o_5 (N boot_o_9 (N o6 (N o18 (N o40 (N o77 (L o1) Z) (N o116 (L o196) Z)) (N o0 (N o1 (L o178) Z) (N o1 (L o1) Z))) (N o28 (N o50 (N o87 (L o166) Z) (N o126 (L o208) Z)) (N o68 (N o0 (L o187) Z) (L o0)))) (N o0 (N o23 (N o45 (N o82 (L o162) Z) (N o121 (L o201) Z)) (N o1 (N o102 (L o182) Z) (N o142 (L o222) Z))) (N o33 (N o55 (N o0 (L o0) Z) (N o0 (L o0) Z)) (N o0 (N o1 (L o1) Z) (L o152))))) (N o2 (N o9 (N o21 (N o43 (N o1 (L o0) Z) (N o1 (L o1) Z)) (N o61 (N o100 (L o180) Z) (N o140 (L o220) Z))) (N o30 (N o52 (N o0 (L o169) Z) (N o130 (L o0) Z)) (N o71 (N o109 (L o189) Z) (L o150)))) (N o0 (N o26 (N o47 (N o84 (L o164) Z) (N o123 (L o204) Z)) (N o66 (N o1 (L o185) Z) (N o1 (L o226) Z))) (N o38 (N o0 (N o95 (L o0) Z) (N o135 (L o215) Z)) (N o0 (N o0 (L o0) Z) (L o154))))))) (N boot_o_2 (N boot_o_4 (N boot_o_8 (N o1 (N o17 (N o39 (N o0 (L o0) Z) (N o0 (L o0) Z)) (N o59 (N o0 (L o177) Z) (N o0 (L o0) Z))) (N o11 (N o49 (N o86 (L o1) Z) (N o125 (L o207) Z)) (N o1 (N o107 (L o186) Z) (N o147 (L o229) Z)))) (N o12 (N o22 (N o11 (N o81 (L o161) Z) (N o120 (L o200) Z)) (N o0 (N o1 (L o1) Z) (N o1 (L o1) Z))) (N o32 (N o54 (N o91 (L o170) Z) (N o133 (L o213) Z)) (N o72 (N o0 (L o0) Z) (L o151))))) (N o175 (N o8 (N o11 (N o42 (N o0 (L o159) Z) (N o0 (L o0) Z)) (N o0 (N o99 (L o179) Z) (N o139 (L o219) Z))) (N o29 (N o1 (N o88 (L o168) Z) (N o129 (L o210) Z)) (N o70 (N o0 (L o1) Z) (L o149)))) (N o14 (N o25 (N o46 (N o1 (L o163) Z) (N o1 (L o203) Z)) (N o65 (N o0 (L o184) Z) (N o0 (L o225) Z))) (N o11 (N o56 (N o0 (L o173) Z) (N o0 (L o0) Z)) (N o75 (N o114 (L o194) Z) (L o1)))))) (N boot_o_6 (N boot_o_10 (N o0 (N o19 (N o0 (N o78 (L o157) Z) (N o117 (L o197) Z)) (N o1 (N o98 (L o0) Z) (N o138 (L o218) Z))) (N o0 (N o51 (N o0 (L o0) Z) (N o127 (L o209) Z)) (N o0 (N o11 (L o188) Z) (L o1)))) (N o1 (N o0 (N o0 (N o83 (L o0) Z) (N o122 (L o202) Z)) (N o64 (N o103 (L o0) Z) (N o143 (L o223) Z))) (N o34 (N o0 (N o1 (L o171) Z) (N o1 (L o1) Z)) (N o73 (N o112 (L o192) Z) (L o153))))) (N o3 (N o10 (N o0 (N o44 (N o80 (L o1) Z) (N o119 (L o199) Z)) (N o62 (N o101 (L o181) Z) (N o141 (L o221) Z))) (N o0 (N o0 (N o89 (L o0) Z) (N o131 (L o211) Z)) (N o0 (N o110 (L o190) Z) (L o0)))) (N o15 (N o27 (N o0 (N o0 (L o165) Z) (N o0 (L o205) Z)) (N o67 (N o105 (L o0) Z) (N o145 (L o227) Z))) (N o0 (N o57 (N o96 (L o1) Z) (N o136 (L o216) Z)) (N o1 (N o1 (L o11) Z) (L o155))))))))
noncomputable def o230:J:=fun P=>(.mk (.type x3) none (.dict #[(e P S3 165 (.str S109 701)),(e P S5 166 .none),(e P S6 167 .none),(e P S7 168 (.builtin x4)),(e P S8 169 .none),(e P S9 170 (.ref 6)),(e P S10 171 (.ref 4)),(e P S11 173 (.str S1 172)),(e P S12 174 .none),(e P S13 193 (.ref 21)),(e P S14 213 (.ref 31)),(e P S15 229 (.ref 44)),(e P S16 245 (.ref 56)),(e P S24 261 (.ref 68)),(e P S25 277 (.ref 80)),(e P S26 286 (.ref 89)),(e P S27 293 (.ref 96)),(e P S28 304 (.ref 103)),(e P S29 313 (.ref 110)),(e P S30 321 (.ref 117)),(e P S31 329 (.ref 124)),(e P S32 337 (.ref 131)),(e P S33 345 (.ref 138)),(e P S34 354 (.ref 145)),(e P S35 358 (.int 8 357)),(e P S36 360 (.int 28 359)),(e P S37 362 (.int 1000000000 361)),(e P S38 370 (.ref 152)),(e P S52 377 (.ref 159)),(e P S53 385 (.ref 166)),(e P S54 391 (.ref 171)),(e P S55 397 (.ref 176)),(e P S56 451 (.ref 212)),(e P S57 464 (.ref 223)),(e P S58 472 (.ref 230)),(e P S59 478 (.ref 235)),(e P S60 484 (.ref 240)),(e P S61 490 (.ref 245)),(e P S62 496 (.ref 250)),(e P S63 502 (.ref 255)),(e P S64 508 (.ref 260)),(e P S65 516 (.ref 265)),(e P S66 522 (.ref 270)),(e P S67 530 (.ref 277)),(e P S68 538 (.ref 284)),(e P S94 544 (.ref 289)),(e P S95 550 (.ref 294)),(e P S96 559 (.ref 301)),(e P S97 565 (.ref 306)),(e P S98 571 (.ref 311)),(e P S99 577 (.ref 316)),(e P S100 607 (.ref 333)),(e P S101 648 (.ref 366)),(e P S110 679 (.ref 390)),(e P S111 685 (.ref 397)),(e P S112 691 (.ref 402)),(e P S113 700 (.ref 409)),(e P S114 710 (.ref 416)),(e P S115 721 (.ref 423)),(e P S116 731 (.ref 430)),(e P S117 748 (.ref 437)),(e P S118 761 (.ref 444)),(e P S119 771 (.ref 451)),(e P S120 780 (.ref 458)),(e P S121 786 (.ref 463)),(e P S122 801 (.ref 470)),(e P S123 807 (.ref 475)),(e P S124 817 (.ref 482)),(e P S125 823 (.ref 487)),(e P S126 829 (.ref 492))] 70) #[])
noncomputable def o231:J:=fun P=>(yv #[(.int 1 0),(.int 0 0),(.ref 20),(.int 5 0),(.int 0 0),(.ref 27),(.int 7 0),(.int 0 0),(.ref 40),(.int 9 0),(.int 0 0),(.ref 52),(.int 11 0),(.int 0 0),(.ref 64),(.int 13 0),(.int 0 0),(.ref 76),(.int 16 0),(.int 0 0),(.ref 88),(.int 18 0),(.int 0 0),(.ref 95),(.int 24 0),(.int 0 0),(.ref 102),(.int 32 0),(.int 0 0),(.ref 109),(.int 39 0),(.int 0 0),(.ref 116),(.int 41 0),(.int 0 0),(.ref 123),(.int 43 0),(.int 0 0),(.ref 130),(.int 45 0),(.int 0 0),(.ref 137),(.int 47 0),(.int 0 0),(.ref 144),(.int 56 0),(.int 0 0),(.ref 151),(.int 58 0),(.int 0 0),(.ref 158),(.int 60 0),(.int 0 0),(.ref 165),(.int 66 0),(.int 0 0),(.ref 170),(.int 72 0),(.int 0 0),(.ref 175),(.int 76 0),(.int 0 0),(.ref 182),(.int 103 0),(.int 0 0),(.ref 222),(.int 108 0),(.int 0 0),(.ref 229),(.int 110 0),(.int 0 0),(.ref 234),(.int 115 0),(.int 0 0),(.ref 239),(.int 117 0),(.int 0 0),(.ref 244),(.int 119 0),(.int 0 0),(.ref 249),(.int 121 0),(.int 0 0),(.ref 254),(.int 129 0),(.int 0 0),(.ref 259),(.int 133 0),(.int 0 0),(.ref 264),(.int 135 0),(.int 0 0),(.ref 269),(.int 137 0),(.int 0 0),(.ref 276),(.int 140 0),(.int 0 0),(.ref 283),(.int 143 0),(.int 0 0),(.ref 288),(.int 147 0),(.int 0 0),(.ref 293),(.int 150 0),(.int 0 0),(.ref 300),(.int 154 0),(.int 0 0),(.ref 305),(.int 156 0),(.int 0 0),(.ref 310),(.int 158 0),(.int 0 0),(.ref 315),(.int 161 0),(.int 0 0),(.ref 322),(.int 165 0),(.int 0 0),(.ref 343),(.int 182 0),(.int 0 0),(.ref 374),(.int 191 0),(.int 0 0),(.ref 396),(.int 200 0),(.int 0 0),(.ref 401),(.int 208 0),(.int 0 0),(.ref 408),(.int 214 0),(.int 0 0),(.ref 415),(.int 218 0),(.int 0 0),(.ref 422),(.int 222 0),(.int 0 0),(.ref 429),(.int 227 0),(.int 0 0),(.ref 436),(.int 239 0),(.int 0 0),(.ref 443),(.int 246 0),(.int 0 0),(.ref 450),(.int 249 0),(.int 0 0),(.ref 457),(.int 260 0),(.int 0 0),(.ref 462),(.int 276 0),(.int 0 0),(.ref 469),(.int 289 0),(.int 0 0),(.ref 474),(.int 302 0),(.int 0 0),(.ref 481),(.int 308 0),(.int 0 0),(.ref 486),(.int 326 0),(.int 0 0),(.ref 491)])
noncomputable def o232:J:=fun P=>(.mk (.type x9) none (.cls (.mk S100 [(.type x12)] [(.ref 333),(.type x12)] 332 S100 .true [] [(.ref 366),(.ref 390)] .false none .false)) #[none,none,(some (.str S100 578)),(some (.str S100 586)),(some (.builtin x18)),(some (.bool .true))])
noncomputable def o233:J:=fun P=>(.mk (.type x3) none (.dict #[(e P S18 656 (.str S51 509)),(e P S19 658 (.str S110 657)),(e P S20 660 (.int 182 659)),(e P S70 668 (.ref 382)),(e P S102 674 (.ref 387)),(e P S21 676 (.ref 388))] 6) #[])
noncomputable def o234:J:=fun P=>(yv #[(.int 184 0),(.int 4 0),(.ref 381),(.int 187 0),(.int 4 0),(.ref 386)])
noncomputable def o235:J:=fun P=>(yc S110 651 S110 652 653 182 0 0 372 .false 373 .none 654 182 655)
noncomputable def o236:J:=fun P=>(.mk (.type x2) none .plain #[(some (.ref 374)),(some (.ref 3)),(some (.ref 371)),none,(some (.str S51 509)),none,(some (.ref 0))])
noncomputable def o237:J:=fun P=>(ys x0 #[(.str S75 664),(.str S69 665)])
noncomputable def o238:J:=fun P=>(yg S70 S127 (inClass (q 49) 0))
noncomputable def o239:J:=fun P=>(.mk (.type x1) none (.fields #[(.str S70 661),(.str S127 662),(.str S1 663),(.int 184 0),(.int 2 0),(.int 0 0),(.int 0 0),(.int 3 0),(.ref 376),(.bool .true),(.int 181 0),(.ref 377),.none,(.ref 378),(.ref 379),(.ref 380),(.int 666 0),(.int 184 0),(.str S1 667)]) #[])
noncomputable def o240:J:=fun P=>(yf S70 S127 (inClass (q 49) 0) 3 (.str S51 509) 381)
noncomputable def o241:J:=fun P=>(yg S102 S128 (inClass (q 49) 1))
noncomputable def o242:J:=fun P=>(yc S102 669 S128 670 671 187 4 3 383 .true 384 (.ref 385) 672 187 673)
noncomputable def o243:J:=fun P=>(yf S102 S128 (inClass (q 49) 1) 3 (.str S51 509) 386)
noncomputable def o244:J:=fun P=>(ys x0 #[(.str S69 675)])
noncomputable def o245:J:=fun P=>(.mk (.type x3) none (.dict #[(e P S18 656 (.str S51 509)),(e P S20 660 (.int 182 659)),(e P S70 668 (.ref 382)),(e P S102 674 (.ref 387)),(e P S21 676 (.ref 388)),(e P S5 677 .none)] 2) #[])
noncomputable def o246:J:=fun P=>(.mk (.type x9) none (.cls (.mk S110 [(.ref 333)] [(.ref 390),(.ref 333),(.type x12)] 389 S110 .true [] [] .false none .false)) #[(some (.ref 369)),none,(some (.str S110 649)),(some (.str S110 657)),(some (.builtin x18)),(some (.bool .true))])
noncomputable def o247:J:=fun P=>(.mk (.type x16) none (.fields #[(.ref 390),(.ref 390),(.ref 390)]) #[])
noncomputable def o248:J:=fun P=>(.mk (.type x7) none (.fields #[(.builtin x17),(.ref 390)]) #[])
noncomputable def o249:J:=fun P=>(yg S111 S111 (q 50))
noncomputable def o250:J:=fun P=>(yc S111 680 S111 681 682 191 3 3 393 .true 394 (.ref 395) 683 191 684)
noncomputable def o251:J:=fun P=>(yf S111 S111 (q 50) 3 (.str S51 509) 396)
noncomputable def o252:J:=fun P=>(yg S112 S112 (q 51))
noncomputable def o253:J:=fun P=>(yc S112 686 S112 687 688 200 3 3 398 .true 399 (.ref 400) 689 200 690)
noncomputable def o254:J:=fun P=>(yf S112 S112 (q 51) 3 (.str S51 509) 401)
noncomputable def o255:J:=fun P=>(ys x0 #[(.str S92 695),(.str S43 696),(.str S44 697)])
noncomputable def o256:J:=fun P=>(yg S113 S113 (q 52))
noncomputable def o257:J:=fun P=>(.mk (.type x1) none (.fields #[(.str S113 692),(.str S113 693),(.str S1 694),(.int 208 0),(.int 3 0),(.int 0 0),(.int 0 0),(.int 3 0),(.ref 403),(.bool .true),(.int 181 0),(.ref 404),.none,(.ref 405),(.ref 406),(.ref 407),(.int 698 0),(.int 208 0),(.str S1 699)]) #[])
noncomputable def o258:J:=fun P=>(yf S113 S113 (q 52) 3 (.str S51 509) 408)
noncomputable def o259:J:=fun P=>(ys x0 #[(.str S129 706),(.str S130 707)])
noncomputable def o260:J:=fun P=>(yg S114 S114 (q 54))
noncomputable def o261:J:=fun P=>(.mk (.type x1) none (.fields #[(.str S114 703),(.str S114 704),(.str S1 705),(.int 214 0),(.int 2 0),(.int 0 0),(.int 0 0),(.int 3 0),(.ref 410),(.bool .true),(.int 181 0),(.ref 411),.none,(.ref 412),(.ref 413),(.ref 414),(.int 708 0),(.int 214 0),(.str S1 709)]) #[])
noncomputable def o262:J:=fun P=>(yf S114 S114 (q 54) 3 (.str S109 701) 415)
noncomputable def o263:J:=fun P=>(ys x0 #[(.str S131 714),(.str S130 715),(.str S132 716),(.str S133 717),(.str S134 718)])
noncomputable def o264:J:=fun P=>(yg S115 S115 (q 55))
noncomputable def o265:J:=fun P=>(.mk (.type x1) none (.fields #[(.str S115 711),(.str S115 712),(.str S1 713),(.int 218 0),(.int 3 0),(.int 0 0),(.int 0 0),(.int 3 0),(.ref 417),(.bool .true),(.int 181 0),(.ref 418),.none,(.ref 419),(.ref 420),(.ref 421),(.int 719 0),(.int 218 0),(.str S1 720)]) #[])
noncomputable def o266:J:=fun P=>(yf S115 S115 (q 55) 3 (.str S109 701) 422)
noncomputable def o267:J:=fun P=>(ys x0 #[(.str S135 725),(.str S136 726),(.str S137 727),(.str S138 728)])
noncomputable def o268:J:=fun P=>(yg S116 S116 (q 56))
noncomputable def o269:J:=fun P=>(.mk (.type x1) none (.fields #[(.str S116 722),(.str S116 723),(.str S1 724),(.int 222 0),(.int 2 0),(.int 0 0),(.int 0 0),(.int 3 0),(.ref 424),(.bool .true),(.int 181 0),(.ref 425),.none,(.ref 426),(.ref 427),(.ref 428),(.int 729 0),(.int 222 0),(.str S1 730)]) #[])
noncomputable def o270:J:=fun P=>(yf S116 S116 (q 56) 3 (.str S109 701) 429)
noncomputable def o271:J:=fun P=>(ys x0 #[(.str S129 735),(.str S139 736),(.str S140 737),(.str S131 738),(.str S138 739),(.str S141 740),(.str S142 741),(.str S143 742),(.str S130 743),(.str S144 744),(.str S145 745)])
noncomputable def o272:J:=fun P=>(yg S117 S117 (q 57))
noncomputable def o273:J:=fun P=>(.mk (.type x1) none (.fields #[(.str S117 732),(.str S117 733),(.str S1 734),(.int 227 0),(.int 3 0),(.int 0 0),(.int 0 0),(.int 3 0),(.ref 431),(.bool .true),(.int 181 0),(.ref 432),.none,(.ref 433),(.ref 434),(.ref 435),(.int 746 0),(.int 227 0),(.str S1 747)]) #[])
noncomputable def o274:J:=fun P=>(yf S117 S117 (q 57) 3 (.str S109 701) 436)
noncomputable def o275:J:=fun P=>(ys x0 #[(.str S146 752),(.str S147 753),(.str S148 754),(.str S149 755),(.str S144 756),(.str S145 757),(.str S150 758)])
noncomputable def o276:J:=fun P=>(yg S118 S118 (q 58))
noncomputable def o277:J:=fun P=>(.mk (.type x1) none (.fields #[(.str S118 749),(.str S118 750),(.str S1 751),(.int 239 0),(.int 2 0),(.int 0 0),(.int 0 0),(.int 3 0),(.ref 438),(.bool .true),(.int 181 0),(.ref 439),.none,(.ref 440),(.ref 441),(.ref 442),(.int 759 0),(.int 239 0),(.str S1 760)]) #[])
noncomputable def o278:J:=fun P=>(yf S118 S118 (q 58) 3 (.str S109 701) 443)
noncomputable def o279:J:=fun P=>(ys x0 #[(.str S129 765),(.str S146 766),(.str S139 767),(.str S137 768)])
noncomputable def o280:J:=fun P=>(yg S119 S119 (q 59))
noncomputable def o281:J:=fun P=>(.mk (.type x1) none (.fields #[(.str S119 762),(.str S119 763),(.str S1 764),(.int 246 0),(.int 3 0),(.int 0 0),(.int 0 0),(.int 3 0),(.ref 445),(.bool .true),(.int 181 0),(.ref 446),.none,(.ref 447),(.ref 448),(.ref 449),(.int 769 0),(.int 246 0),(.str S1 770)]) #[])
noncomputable def o282:J:=fun P=>(yf S119 S119 (q 59) 3 (.str S109 701) 450)
noncomputable def o283:J:=fun P=>(ys x0 #[(.str S151 775),(.str S132 776),(.str S152 777)])
noncomputable def o284:J:=fun P=>(yg S120 S120 (q 60))
noncomputable def o285:J:=fun P=>(.mk (.type x1) none (.fields #[(.str S120 772),(.str S120 773),(.str S1 774),(.int 249 0),(.int 2 0),(.int 0 0),(.int 0 0),(.int 3 0),(.ref 452),(.bool .true),(.int 181 0),(.ref 453),.none,(.ref 454),(.ref 455),(.ref 456),(.int 778 0),(.int 249 0),(.str S1 779)]) #[])
noncomputable def o286:J:=fun P=>(yf S120 S120 (q 60) 3 (.str S109 701) 457)
noncomputable def o287:J:=fun P=>(yg S121 S121 (q 61))
noncomputable def o288:J:=fun P=>(yc S121 781 S121 782 783 260 4 3 459 .true 460 (.ref 461) 784 260 785)
noncomputable def o289:J:=fun P=>(yf S121 S121 (q 61) 3 (.str S109 701) 462)
noncomputable def o290:J:=fun P=>(ys x0 #[(.str S129 790),(.str S139 791),(.str S131 792),(.str S138 793),(.str S142 794),(.str S143 795),(.str S130 796),(.str S150 797),(.str S144 798)])
noncomputable def o291:J:=fun P=>(yg S122 S122 (q 62))
noncomputable def o292:J:=fun P=>(.mk (.type x1) none (.fields #[(.str S122 787),(.str S122 788),(.str S1 789),(.int 276 0),(.int 2 0),(.int 0 0),(.int 0 0),(.int 3 0),(.ref 464),(.bool .true),(.int 181 0),(.ref 465),.none,(.ref 466),(.ref 467),(.ref 468),(.int 799 0),(.int 276 0),(.str S1 800)]) #[])
noncomputable def o293:J:=fun P=>(yf S122 S122 (q 62) 3 (.str S109 701) 469)
noncomputable def o294:J:=fun P=>(yg S123 S123 (q 63))
noncomputable def o295:J:=fun P=>(yc S123 802 S123 803 804 289 4 3 471 .true 472 (.ref 473) 805 289 806)
noncomputable def o296:J:=fun P=>(yf S123 S123 (q 63) 3 (.str S109 701) 474)
noncomputable def o297:J:=fun P=>(ys x0 #[(.str S146 811),(.str S131 812),(.str S143 813),(.str S130 814)])
noncomputable def o298:J:=fun P=>(yg S124 S124 (q 64))
noncomputable def o299:J:=fun P=>(.mk (.type x1) none (.fields #[(.str S124 808),(.str S124 809),(.str S1 810),(.int 302 0),(.int 2 0),(.int 0 0),(.int 0 0),(.int 3 0),(.ref 476),(.bool .true),(.int 181 0),(.ref 477),.none,(.ref 478),(.ref 479),(.ref 480),(.int 815 0),(.int 302 0),(.str S1 816)]) #[])
noncomputable def o300:J:=fun P=>(yf S124 S124 (q 64) 3 (.str S109 701) 481)
noncomputable def o301:J:=fun P=>(yg S125 S125 (q 65))
noncomputable def o302:J:=fun P=>(yc S125 818 S125 819 820 308 5 3 483 .true 484 (.ref 485) 821 308 822)
noncomputable def o303:J:=fun P=>(yf S125 S125 (q 65) 3 (.str S109 701) 486)
noncomputable def o304:J:=fun P=>(yg S126 S126 (q 66))
noncomputable def o305:J:=fun P=>(yc S126 824 S126 825 826 326 5 3 488 .true 489 (.ref 490) 827 326 828)
noncomputable def o306:J:=fun P=>(yf S126 S126 (q 66) 3 (.str S109 701) 491)
noncomputable def t_4:Params→BT:=(N boot_o_0 (N boot_o_1 (N o230 (N boot_o_7 (N o0 (N o37 (N o1 (N o76 (L o156) (L o0)) (N o115 (L o195) (L o279))) (N o58 (N o97 (L o176) (L o261)) (N o137 (L o217) (L o0)))) (N o20 (N o48 (N o85 (L o0) (L o1)) (N o124 (L o206) (L o289))) (N o0 (N o106 (L o1) (L o0)) (N o146 (L o228) Z)))) (N o11 (N o1 (N o20 (N o0 (L o160) (L o247)) (N o0 (L o0) (L o0))) (N o63 (N o0 (L o0) (L o266)) (N o0 (L o0) (L o303)))) (N o31 (N o53 (N o90 (L o1) (L o256)) (N o132 (L o212) (L o0))) (N o1 (N o111 (L o191) (L o1)) (N o1 (L o236) Z))))) (N o0 (N o7 (N o20 (N o41 (N o79 (L o158) (L o243)) (N o118 (L o198) (L o282))) (N o60 (N o0 (L o1) (L o263)) (N o0 (L o0) (L o0)))) (N o1 (N o0 (N o1 (L o167) (L o0)) (N o128 (L o11) (L o0))) (N o69 (N o108 (L o0) (L o272)) (N o148 (L o233) Z)))) (N o13 (N o24 (N o1 (N o0 (L o1) (L o249)) (N o0 (L o0) (L o0))) (N o0 (N o104 (L o183) (L o0)) (N o144 (L o224) (L o305)))) (N o20 (N o1 (N o94 (L o172) (L o1)) (N o134 (L o214) (L o296))) (N o74 (N o113 (L o193) (L o277)) (N o0 (L o0) Z)))))) (N boot_o_5 (N boot_o_9 (N o6 (N o18 (N o40 (N o77 (L o1) (L o241)) (N o116 (L o196) (L o280))) (N o0 (N o1 (L o178) (L o0)) (N o1 (L o1) (L o299)))) (N o28 (N o50 (N o87 (L o166) (L o253)) (N o126 (L o208) (L o1))) (N o68 (N o0 (L o187) (L o271)) (N o0 (L o209) Z)))) (N o0 (N o23 (N o45 (N o82 (L o162) (L o0)) (N o121 (L o201) (L o285))) (N o1 (N o102 (L o182) (L o1)) (N o142 (L o222) (L o1)))) (N o33 (N o55 (N o0 (L o0) (L o258)) (N o0 (L o0) (L o294))) (N o0 (N o1 (L o1) (L o0)) (N o152 (L o1) Z))))) (N o2 (N o9 (N o21 (N o43 (N o1 (L o0) (L o245)) (N o1 (L o1) (L o1))) (N o61 (N o100 (L o180) (L o264)) (N o140 (L o220) (L o301)))) (N o30 (N o52 (N o0 (L o169) (L o255)) (N o130 (L o0) (L o292))) (N o71 (N o109 (L o189) (L o274)) (N o150 (L o234) Z)))) (N o0 (N o26 (N o47 (N o84 (L o164) (L o251)) (N o123 (L o232) (L o287))) (N o66 (N o1 (L o185) (L o269)) (N o1 (L o226) Z))) (N o38 (N o0 (N o95 (L o0) (L o0)) (N o135 (L o215) (L o1))) (N o0 (N o0 (L o0) (L o0)) (N o154 (L o239) Z))))))) (N boot_o_2 (N boot_o_4 (N boot_o_8 (N o1 (N o17 (N o39 (N o0 (L o0) (L o1)) (N o0 (L o0) (L o0))) (N o59 (N o0 (L o177) (L o262)) (N o0 (L o0) (L o298)))) (N o11 (N o49 (N o86 (L o1) (L o252)) (N o125 (L o207) (L o0))) (N o1 (N o107 (L o186) (L o1)) (N o147 (L o229) Z)))) (N o12 (N o22 (N o11 (N o81 (L o161) (L o248)) (N o120 (L o200) (L o284))) (N o0 (N o1 (L o1) (L o0)) (N o1 (L o1) (L o0)))) (N o32 (N o54 (N o91 (L o170) (L o257)) (N o133 (L o213) (L o1))) (N o72 (N o0 (L o0) (L o275)) (N o151 (L o0) Z))))) (N o231 (N o8 (N o11 (N o42 (N o0 (L o159) (L o244)) (N o0 (L o0) (L o0))) (N o0 (N o99 (L o179) (L o0)) (N o139 (L o219) (L o1)))) (N o29 (N o1 (N o88 (L o168) (L o1)) (N o129 (L o210) (L o291))) (N o70 (N o0 (L o1) (L o273)) (N o149 (L o0) Z)))) (N o14 (N o25 (N o46 (N o1 (L o163) (L o250)) (N o1 (L o203) (L o1))) (N o65 (N o0 (L o184) (L o268)) (N o0 (L o225) (L o306)))) (N o11 (N o56 (N o0 (L o173) (L o259)) (N o0 (L o0) (L o0))) (N o75 (N o114 (L o194) (L o278)) (N o1 (L o238) Z)))))) (N boot_o_6 (N boot_o_10 (N o0 (N o19 (N o0 (N o78 (L o157) (L o242)) (N o117 (L o197) (L o281))) (N o1 (N o98 (L o0) (L o1)) (N o138 (L o218) (L o300)))) (N o0 (N o51 (N o0 (L o0) (L o254)) (N o127 (L o209) (L o290))) (N o0 (N o11 (L o188) (L o0)) (N o1 (L o11) Z)))) (N o1 (N o0 (N o0 (N o83 (L o0) (L o1)) (N o122 (L o202) (L o286))) (N o64 (N o103 (L o0) (L o267)) (N o143 (L o223) (L o304)))) (N o34 (N o0 (N o1 (L o171) (L o0)) (N o1 (L o1) (L o295))) (N o73 (N o112 (L o192) (L o276)) (N o153 (L o237) Z))))) (N o3 (N o10 (N o0 (N o44 (N o80 (L o1) (L o246)) (N o119 (L o199) (L o283))) (N o62 (N o101 (L o181) (L o265)) (N o141 (L o221) (L o302)))) (N o0 (N o0 (N o89 (L o0) (L o0)) (N o131 (L o211) (L o293))) (N o0 (N o110 (L o190) (L o0)) (N o0 (L o235) Z)))) (N o15 (N o27 (N o0 (N o0 (L o165) (L o0)) (N o0 (L o205) (L o288))) (N o67 (N o105 (L o0) (L o270)) (N o145 (L o227) Z))) (N o0 (N o57 (N o96 (L o1) (L o260)) (N o136 (L o216) (L o297))) (N o1 (N o1 (L o11) (L o1)) (N o155 (L o240) Z))))))))
noncomputable def o307:J:=fun P=>(.mk (.type x3) none (.dict #[(e P S3 165 (.str S109 701)),(e P S5 166 .none),(e P S6 167 .none),(e P S7 168 (.builtin x4)),(e P S8 169 .none),(e P S9 170 (.ref 6)),(e P S10 171 (.ref 4)),(e P S11 173 (.str S1 172)),(e P S12 174 .none),(e P S13 193 (.ref 21)),(e P S14 213 (.ref 31)),(e P S15 229 (.ref 44)),(e P S16 245 (.ref 56)),(e P S24 261 (.ref 68)),(e P S25 277 (.ref 80)),(e P S26 286 (.ref 89)),(e P S27 293 (.ref 96)),(e P S28 304 (.ref 103)),(e P S29 313 (.ref 110)),(e P S30 321 (.ref 117)),(e P S31 329 (.ref 124)),(e P S32 337 (.ref 131)),(e P S33 345 (.ref 138)),(e P S34 354 (.ref 145)),(e P S35 358 (.int 8 357)),(e P S36 360 (.int 28 359)),(e P S37 362 (.int 1000000000 361)),(e P S38 370 (.ref 152)),(e P S52 377 (.ref 159)),(e P S53 385 (.ref 166)),(e P S54 391 (.ref 171)),(e P S55 397 (.ref 176)),(e P S56 451 (.ref 212)),(e P S57 464 (.ref 223)),(e P S58 472 (.ref 230)),(e P S59 478 (.ref 235)),(e P S60 484 (.ref 240)),(e P S61 490 (.ref 245)),(e P S62 496 (.ref 250)),(e P S63 502 (.ref 255)),(e P S64 508 (.ref 260)),(e P S65 516 (.ref 265)),(e P S66 522 (.ref 270)),(e P S67 530 (.ref 277)),(e P S68 538 (.ref 284)),(e P S94 544 (.ref 289)),(e P S95 550 (.ref 294)),(e P S96 559 (.ref 301)),(e P S97 565 (.ref 306)),(e P S98 571 (.ref 311)),(e P S99 577 (.ref 316)),(e P S100 607 (.ref 333)),(e P S101 648 (.ref 366)),(e P S110 679 (.ref 390)),(e P S111 685 (.ref 397)),(e P S112 691 (.ref 402)),(e P S113 700 (.ref 409)),(e P S114 710 (.ref 416)),(e P S115 721 (.ref 423)),(e P S116 731 (.ref 430)),(e P S117 748 (.ref 437)),(e P S118 761 (.ref 444)),(e P S119 771 (.ref 451)),(e P S120 780 (.ref 458)),(e P S121 786 (.ref 463)),(e P S122 801 (.ref 470)),(e P S123 807 (.ref 475)),(e P S124 817 (.ref 482)),(e P S125 823 (.ref 487)),(e P S126 829 (.ref 492)),(e P S153 842 (.ref 499))] 71) #[])
noncomputable def o308:J:=fun P=>(yv #[(.int 1 0),(.int 0 0),(.ref 20),(.int 5 0),(.int 0 0),(.ref 27),(.int 7 0),(.int 0 0),(.ref 40),(.int 9 0),(.int 0 0),(.ref 52),(.int 11 0),(.int 0 0),(.ref 64),(.int 13 0),(.int 0 0),(.ref 76),(.int 16 0),(.int 0 0),(.ref 88),(.int 18 0),(.int 0 0),(.ref 95),(.int 24 0),(.int 0 0),(.ref 102),(.int 32 0),(.int 0 0),(.ref 109),(.int 39 0),(.int 0 0),(.ref 116),(.int 41 0),(.int 0 0),(.ref 123),(.int 43 0),(.int 0 0),(.ref 130),(.int 45 0),(.int 0 0),(.ref 137),(.int 47 0),(.int 0 0),(.ref 144),(.int 56 0),(.int 0 0),(.ref 151),(.int 58 0),(.int 0 0),(.ref 158),(.int 60 0),(.int 0 0),(.ref 165),(.int 66 0),(.int 0 0),(.ref 170),(.int 72 0),(.int 0 0),(.ref 175),(.int 76 0),(.int 0 0),(.ref 182),(.int 103 0),(.int 0 0),(.ref 222),(.int 108 0),(.int 0 0),(.ref 229),(.int 110 0),(.int 0 0),(.ref 234),(.int 115 0),(.int 0 0),(.ref 239),(.int 117 0),(.int 0 0),(.ref 244),(.int 119 0),(.int 0 0),(.ref 249),(.int 121 0),(.int 0 0),(.ref 254),(.int 129 0),(.int 0 0),(.ref 259),(.int 133 0),(.int 0 0),(.ref 264),(.int 135 0),(.int 0 0),(.ref 269),(.int 137 0),(.int 0 0),(.ref 276),(.int 140 0),(.int 0 0),(.ref 283),(.int 143 0),(.int 0 0),(.ref 288),(.int 147 0),(.int 0 0),(.ref 293),(.int 150 0),(.int 0 0),(.ref 300),(.int 154 0),(.int 0 0),(.ref 305),(.int 156 0),(.int 0 0),(.ref 310),(.int 158 0),(.int 0 0),(.ref 315),(.int 161 0),(.int 0 0),(.ref 322),(.int 165 0),(.int 0 0),(.ref 343),(.int 182 0),(.int 0 0),(.ref 374),(.int 191 0),(.int 0 0),(.ref 396),(.int 200 0),(.int 0 0),(.ref 401),(.int 208 0),(.int 0 0),(.ref 408),(.int 214 0),(.int 0 0),(.ref 415),(.int 218 0),(.int 0 0),(.ref 422),(.int 222 0),(.int 0 0),(.ref 429),(.int 227 0),(.int 0 0),(.ref 436),(.int 239 0),(.int 0 0),(.ref 443),(.int 246 0),(.int 0 0),(.ref 450),(.int 249 0),(.int 0 0),(.ref 457),(.int 260 0),(.int 0 0),(.ref 462),(.int 276 0),(.int 0 0),(.ref 469),(.int 289 0),(.int 0 0),(.ref 474),(.int 302 0),(.int 0 0),(.ref 481),(.int 308 0),(.int 0 0),(.ref 486),(.int 326 0),(.int 0 0),(.ref 491),(.int 348 0),(.int 0 0),(.ref 498)])
noncomputable def o309:J:=fun P=>(ys x0 #[(.str S129 833),(.str S146 834),(.str S154 835),(.str S139 836),(.str S137 837),(.str S138 838),(.str S148 839)])
noncomputable def o310:J:=fun P=>(yg S153 S153 (q 67))
noncomputable def o311:J:=fun P=>(.mk (.type x1) none (.fields #[(.str S153 830),(.str S153 831),(.str S1 832),(.int 348 0),(.int 1 0),(.int 0 0),(.int 0 0),(.int 3 0),(.ref 493),(.bool .true),(.int 181 0),(.ref 494),.none,(.ref 495),(.ref 496),(.ref 497),(.int 840 0),(.int 348 0),(.str S1 841)]) #[])
noncomputable def o312:J:=fun P=>(yf S153 S153 (q 67) 3 (.str S109 701) 498)
noncomputable def t_5:Params→BT:=(N boot_o_0 (N boot_o_1 (N o307 (N boot_o_7 (N o0 (N o37 (N o1 (N o76 (L o156) (L o0)) (N o115 (L o195) (L o279))) (N o58 (N o97 (L o176) (L o261)) (N o137 (L o217) (L o0)))) (N o20 (N o48 (N o85 (L o0) (L o1)) (N o124 (L o206) (L o289))) (N o0 (N o106 (L o1) (L o0)) (N o146 (L o228) (L o309))))) (N o11 (N o1 (N o20 (N o0 (L o160) (L o247)) (N o0 (L o0) (L o0))) (N o63 (N o0 (L o0) (L o266)) (N o0 (L o0) (L o303)))) (N o31 (N o53 (N o90 (L o1) (L o256)) (N o132 (L o212) (L o0))) (N o1 (N o111 (L o191) (L o1)) (N o1 (L o236) Z))))) (N o0 (N o7 (N o20 (N o41 (N o79 (L o158) (L o243)) (N o118 (L o198) (L o282))) (N o60 (N o0 (L o1) (L o263)) (N o0 (L o0) (L o0)))) (N o1 (N o0 (N o1 (L o167) (L o0)) (N o128 (L o11) (L o0))) (N o69 (N o108 (L o0) (L o272)) (N o148 (L o233) (L o312))))) (N o13 (N o24 (N o1 (N o0 (L o1) (L o249)) (N o0 (L o0) (L o0))) (N o0 (N o104 (L o183) (L o0)) (N o144 (L o224) (L o305)))) (N o20 (N o1 (N o94 (L o172) (L o1)) (N o134 (L o214) (L o296))) (N o74 (N o113 (L o193) (L o277)) (N o0 (L o0) Z)))))) (N boot_o_5 (N boot_o_9 (N o6 (N o18 (N o40 (N o77 (L o1) (L o241)) (N o116 (L o196) (L o280))) (N o0 (N o1 (L o178) (L o0)) (N o1 (L o1) (L o299)))) (N o28 (N o50 (N o87 (L o166) (L o253)) (N o126 (L o208) (L o1))) (N o68 (N o0 (L o187) (L o271)) (N o0 (L o209) (L o310))))) (N o0 (N o23 (N o45 (N o82 (L o162) (L o0)) (N o121 (L o201) (L o285))) (N o1 (N o102 (L o182) (L o1)) (N o142 (L o222) (L o1)))) (N o33 (N o55 (N o0 (L o0) (L o258)) (N o0 (L o0) (L o294))) (N o0 (N o1 (L o1) (L o0)) (N o152 (L o1) Z))))) (N o2 (N o9 (N o21 (N o43 (N o1 (L o0) (L o245)) (N o1 (L o1) (L o1))) (N o61 (N o100 (L o180) (L o264)) (N o140 (L o220) (L o301)))) (N o30 (N o52 (N o0 (L o169) (L o255)) (N o130 (L o0) (L o292))) (N o71 (N o109 (L o189) (L o274)) (N o150 (L o234) Z)))) (N o0 (N o26 (N o47 (N o84 (L o164) (L o251)) (N o123 (L o232) (L o287))) (N o66 (N o1 (L o185) (L o269)) (N o1 (L o226) (L o0)))) (N o38 (N o0 (N o95 (L o0) (L o0)) (N o135 (L o215) (L o1))) (N o0 (N o0 (L o0) (L o0)) (N o154 (L o239) Z))))))) (N boot_o_2 (N boot_o_4 (N boot_o_8 (N o1 (N o17 (N o39 (N o0 (L o0) (L o1)) (N o0 (L o0) (L o0))) (N o59 (N o0 (L o177) (L o262)) (N o0 (L o0) (L o298)))) (N o11 (N o49 (N o86 (L o1) (L o252)) (N o125 (L o207) (L o0))) (N o1 (N o107 (L o186) (L o1)) (N o147 (L o229) (L o0))))) (N o12 (N o22 (N o11 (N o81 (L o161) (L o248)) (N o120 (L o200) (L o284))) (N o0 (N o1 (L o1) (L o0)) (N o1 (L o1) (L o0)))) (N o32 (N o54 (N o91 (L o170) (L o257)) (N o133 (L o213) (L o1))) (N o72 (N o0 (L o0) (L o275)) (N o151 (L o0) Z))))) (N o308 (N o8 (N o11 (N o42 (N o0 (L o159) (L o244)) (N o0 (L o0) (L o0))) (N o0 (N o99 (L o179) (L o0)) (N o139 (L o219) (L o1)))) (N o29 (N o1 (N o88 (L o168) (L o1)) (N o129 (L o210) (L o291))) (N o70 (N o0 (L o1) (L o273)) (N o149 (L o0) Z)))) (N o14 (N o25 (N o46 (N o1 (L o163) (L o250)) (N o1 (L o203) (L o1))) (N o65 (N o0 (L o184) (L o268)) (N o0 (L o225) (L o306)))) (N o11 (N o56 (N o0 (L o173) (L o259)) (N o0 (L o0) (L o0))) (N o75 (N o114 (L o194) (L o278)) (N o1 (L o238) Z)))))) (N boot_o_6 (N boot_o_10 (N o0 (N o19 (N o0 (N o78 (L o157) (L o242)) (N o117 (L o197) (L o281))) (N o1 (N o98 (L o0) (L o1)) (N o138 (L o218) (L o300)))) (N o0 (N o51 (N o0 (L o0) (L o254)) (N o127 (L o209) (L o290))) (N o0 (N o11 (L o188) (L o0)) (N o1 (L o11) (L o311))))) (N o1 (N o0 (N o0 (N o83 (L o0) (L o1)) (N o122 (L o202) (L o286))) (N o64 (N o103 (L o0) (L o267)) (N o143 (L o223) (L o304)))) (N o34 (N o0 (N o1 (L o171) (L o0)) (N o1 (L o1) (L o295))) (N o73 (N o112 (L o192) (L o276)) (N o153 (L o237) Z))))) (N o3 (N o10 (N o0 (N o44 (N o80 (L o1) (L o246)) (N o119 (L o199) (L o283))) (N o62 (N o101 (L o181) (L o265)) (N o141 (L o221) (L o302)))) (N o0 (N o0 (N o89 (L o0) (L o0)) (N o131 (L o211) (L o293))) (N o0 (N o110 (L o190) (L o0)) (N o0 (L o235) Z)))) (N o15 (N o27 (N o0 (N o0 (L o165) (L o0)) (N o0 (L o205) (L o288))) (N o67 (N o105 (L o0) (L o270)) (N o145 (L o227) (L o1)))) (N o0 (N o57 (N o96 (L o1) (L o260)) (N o136 (L o216) (L o297))) (N o1 (N o1 (L o11) (L o1)) (N o155 (L o240) Z))))))))
noncomputable def h_z (P:Params):Heap:=⟨#[boot_o_0 P,boot_o_1 P,boot_o_2 P,o307 P,boot_o_4 P,boot_o_5 P,boot_o_6 P,boot_o_7 P,boot_o_8 P,boot_o_9 P,boot_o_10 P,o0 P,o308 P,o2 P,o3 P,o0 P,o1 P,o6 P,o0 P,o7 P,o8 P,o9 P,o10 P,o11 P,o12 P,o0 P,o1 P,o13 P,o14 P,o0 P,o15 P,o37 P,o17 P,o18 P,o19 P,o20 P,o11 P,o21 P,o0 P,o1 P,o22 P,o23 P,o0 P,o24 P,o25 P,o26 P,o27 P,o20 P,o11 P,o28 P,o0 P,o1 P,o29 P,o30 P,o0 P,o31 P,o32 P,o33 P,o34 P,o20 P,o11 P,o38 P,o0 P,o1 P,o39 P,o40 P,o0 P,o41 P,o42 P,o43 P,o44 P,o20 P,o11 P,o45 P,o0 P,o1 P,o46 P,o47 P,o0 P,o48 P,o49 P,o50 P,o51 P,o0 P,o1 P,o52 P,o0 P,o53 P,o54 P,o55 P,o0 P,o1 P,o56 P,o0 P,o57 P,o58 P,o59 P,o0 P,o1 P,o60 P,o0 P,o61 P,o62 P,o63 P,o0 P,o1 P,o64 P,o0 P,o65 P,o66 P,o67 P,o0 P,o1 P,o68 P,o0 P,o69 P,o70 P,o71 P,o0 P,o1 P,o72 P,o0 P,o73 P,o74 P,o75 P,o0 P,o1 P,o76 P,o0 P,o77 P,o78 P,o79 P,o0 P,o1 P,o80 P,o0 P,o81 P,o82 P,o83 P,o0 P,o1 P,o84 P,o0 P,o85 P,o86 P,o87 P,o0 P,o1 P,o88 P,o0 P,o89 P,o90 P,o91 P,o0 P,o1 P,o94 P,o0 P,o95 P,o96 P,o97 P,o0 P,o1 P,o98 P,o0 P,o99 P,o100 P,o101 P,o0 P,o1 P,o102 P,o103 P,o104 P,o0 P,o1 P,o105 P,o106 P,o107 P,o0 P,o11 P,o108 P,o0 P,o109 P,o110 P,o111 P,o0 P,o1 P,o112 P,o113 P,o114 P,o0 P,o1 P,o115 P,o0 P,o116 P,o117 P,o118 P,o0 P,o1 P,o119 P,o0 P,o120 P,o121 P,o122 P,o0 P,o1 P,o123 P,o0 P,o124 P,o125 P,o126 P,o127 P,o128 P,o129 P,o130 P,o131 P,o132 P,o133 P,o0 P,o1 P,o134 P,o0 P,o135 P,o136 P,o137 P,o0 P,o1 P,o138 P,o0 P,o139 P,o140 P,o141 P,o0 P,o1 P,o142 P,o143 P,o144 P,o0 P,o1 P,o145 P,o146 P,o147 P,o0 P,o1 P,o148 P,o149 P,o150 P,o0 P,o1 P,o151 P,o152 P,o153 P,o0 P,o1 P,o154 P,o155 P,o156 P,o0 P,o1 P,o157 P,o158 P,o159 P,o0 P,o1 P,o160 P,o161 P,o162 P,o0 P,o1 P,o163 P,o164 P,o165 P,o0 P,o1 P,o166 P,o0 P,o167 P,o168 P,o169 P,o0 P,o1 P,o170 P,o0 P,o171 P,o172 P,o173 P,o0 P,o1 P,o176 P,o177 P,o178 P,o0 P,o1 P,o179 P,o180 P,o181 P,o0 P,o1 P,o182 P,o0 P,o183 P,o184 P,o185 P,o0 P,o1 P,o186 P,o187 P,o188 P,o0 P,o1 P,o189 P,o190 P,o191 P,o0 P,o1 P,o192 P,o193 P,o194 P,o0 P,o11 P,o195 P,o0 P,o196 P,o197 P,o198 P,o0 P,o1 P,o199 P,o0 P,o200 P,o201 P,o202 P,o0 P,o203 P,o232 P,o205 P,o206 P,o207 P,o208 P,o209 P,o11 P,o210 P,o0 P,o211 P,o212 P,o213 P,o0 P,o1 P,o214 P,o0 P,o215 P,o216 P,o217 P,o0 P,o1 P,o218 P,o0 P,o219 P,o220 P,o221 P,o0 P,o1 P,o222 P,o223 P,o224 P,o225 P,o226 P,o227 P,o228 P,o229 P,o209 P,o11 P,o233 P,o0 P,o234 P,o235 P,o236 P,o0 P,o1 P,o237 P,o0 P,o238 P,o239 P,o240 P,o0 P,o1 P,o241 P,o242 P,o243 P,o244 P,o245 P,o246 P,o247 P,o248 P,o0 P,o1 P,o249 P,o250 P,o251 P,o0 P,o1 P,o252 P,o253 P,o254 P,o0 P,o1 P,o255 P,o0 P,o256 P,o257 P,o258 P,o0 P,o1 P,o259 P,o0 P,o260 P,o261 P,o262 P,o0 P,o1 P,o263 P,o0 P,o264 P,o265 P,o266 P,o0 P,o1 P,o267 P,o0 P,o268 P,o269 P,o270 P,o0 P,o1 P,o271 P,o0 P,o272 P,o273 P,o274 P,o0 P,o1 P,o275 P,o0 P,o276 P,o277 P,o278 P,o0 P,o1 P,o279 P,o0 P,o280 P,o281 P,o282 P,o0 P,o1 P,o283 P,o0 P,o284 P,o285 P,o286 P,o0 P,o1 P,o287 P,o288 P,o289 P,o0 P,o1 P,o290 P,o0 P,o291 P,o292 P,o293 P,o0 P,o1 P,o294 P,o295 P,o296 P,o0 P,o1 P,o297 P,o0 P,o298 P,o299 P,o300 P,o0 P,o1 P,o301 P,o302 P,o303 P,o0 P,o1 P,o304 P,o305 P,o306 P,o0 P,o1 P,o309 P,o0 P,o310 P,o311 P,o312 P],{}⟩
noncomputable abbrev env:Env:={ scope:=Q.main.scope,locals:=mainNs,globals:=mainNs,cells:=[],code:=(.ref 13),frame:=some 14 }
noncomputable abbrev bd:List Stmt:=behindTheImports Q
noncomputable abbrev cE:Code:=.body bd env
noncomputable abbrev fr:Frame:=topFrame ⟨0,0,0,0⟩
noncomputable abbrev ann:Option Value:=(some (.ref 6))
noncomputable abbrev at_ (T:BT) (n k:Nat) (os:OsState):SharedT:=⟨T,n,{},#[],{},k,os⟩
theorem zrq (w:World):(fun os=>topGo treeTable Q w 11 ann 12 ⟨boot_heap w.params,#[],boot_drawn,boot_toks,os⟩ (topStub Q))=fun os=>some (⟨h_a w.params,#[],{},187,os⟩,(⟨denote treeTable cE,cE,⟨0,0,0,0⟩,[fr]⟩:Thread)):=by
 rw [PySem.W.Fast.te14364793385576792824,PySem.W.Fast.te15667345088766844465,PySem.W.Fast.te11892475500146522536];kernel_rfl
theorem zp8 (w:World):(fun os=>segRun treeTable Q w 11 ann 1 1 ⟨h_a w.params,#[],{},187,os⟩ (blockOf bd env cE ⟨0,0,0,0⟩ [fr]))=fun os=>some (Flow.next,(at_ (t_b w.params) 15 187 os).abs,cE,⟨0,0,0,0⟩):=by
 rw [PySem.W.Fast.te14364793385576792824,PySem.W.Fast.te14374325043358763698];kernel_rfl
noncomputable abbrev zoX:List Stmt:=q 0::q 1::q 2::q 3::q 4::[]
theorem l_0 (w:World):(fun os=>segRunT treeTable Q w 11 ann 1 651 (at_ (t_b w.params) 15 187 os) (piecesOf zoX env cE ⟨0,0,0,0⟩ [fr]))=fun os=>some (Flow.next,at_ (t_0 w.params) 59 246 os,cE,⟨9,0,10,8⟩):=by
 rw [PySem.W.Fast.te14364793385576792824,PySem.W.Fast.te10110043849684766642];kernel_rfl
noncomputable abbrev zoW:List Stmt:=q 5::q 6::q 7::q 8::q 9::q 10::q 11::q 12::q 13::q 14::q 15::q 16::q 17::q 18::q 19::q 20::q 21::[]
theorem l_1 (w:World):(fun os=>segRunT treeTable Q w 11 ann 1 775 (at_ (t_0 w.params) 59 246 os) (piecesOf zoW env cE ⟨9,0,10,8⟩ [fr]))=fun os=>some (Flow.next,at_ (t_1 w.params) 153 371 os,cE,⟨56,0,57,48⟩):=by
 rw [PySem.W.Fast.te14364793385576792824,PySem.W.Fast.te10110043849684766642];kernel_rfl
noncomputable abbrev zoV:List Stmt:=q 22::q 23::q 24::q 25::q 26::q 27::q 28::q 29::q 30::q 31::q 32::q 33::q 34::q 35::q 36::q 37::q 38::q 39::q 40::[]
theorem l_2 (w:World):(fun os=>segRunT treeTable Q w 11 ann 1 778 (at_ (t_1 w.params) 153 371 os) (piecesOf zoV env cE ⟨56,0,57,48⟩ [fr]))=fun os=>some (Flow.next,at_ (t_2 w.params) 285 539 os,cE,⟨140,0,142,70⟩):=by
 rw [PySem.W.Fast.te14364793385576792824,PySem.W.Fast.te10110043849684766642];kernel_rfl
noncomputable abbrev zoU:List Stmt:=q 41::q 42::q 43::q 44::q 45::q 46::q 47::q 48::[]
theorem l_3 (w:World):(fun os=>segRunT treeTable Q w 11 ann 1 692 (at_ (t_2 w.params) 285 539 os) (piecesOf zoU env cE ⟨140,0,142,70⟩ [fr]))=fun os=>some (Flow.next,at_ (t_3 w.params) 369 649 os,cE,⟨165,0,181,85⟩):=by
 rw [PySem.W.Fast.te14364793385576792824,PySem.W.Fast.te10110043849684766642];kernel_rfl
noncomputable abbrev zoT:List Stmt:=q 49::q 50::q 51::q 52::q 53::q 54::q 55::q 56::q 57::q 58::q 59::q 60::q 61::q 62::q 63::q 64::q 65::q 66::[]
theorem l_4 (w:World):(fun os=>segRunT treeTable Q w 11 ann 1 771 (at_ (t_3 w.params) 369 649 os) (piecesOf zoT env cE ⟨165,0,181,85⟩ [fr]))=fun os=>some (Flow.next,at_ (t_4 w.params) 493 830 os,cE,⟨326,0,347,76⟩):=by
 rw [PySem.W.Fast.te14364793385576792824,PySem.W.Fast.te10110043849684766642];kernel_rfl
noncomputable abbrev zoS:List Stmt:=q 67::[]
theorem l_5 (w:World):(fun os=>segRunT treeTable Q w 11 ann 1 36 (at_ (t_4 w.params) 493 830 os) (piecesOf zoS env cE ⟨326,0,347,76⟩ [fr]))=fun os=>some (Flow.next,at_ (t_5 w.params) 500 843 os,cE,⟨348,0,365,69⟩):=by
 rw [PySem.W.Fast.te14364793385576792824,PySem.W.Fast.te10110043849684766642];kernel_rfl
theorem zrr (w:World):(fun os=>topRun treeTable Q w 11 ann 2 (at_ (t_5 w.params) 500 843 os).abs (⟨doneF .next,cE,⟨348,0,365,69⟩,[fr]⟩:Thread))=fun os=>some ⟨h_z w.params,#[],{},843,os⟩:=by
 rw [PySem.W.Fast.te14364793385576792824,PySem.W.Fast.te14082659384304107361];kernel_rfl
end
end Hd
namespace Hd
open PySem PySem.W PySem.Calls PyProof.Rows L2
section
theorem zr0:bd=(zoX++(zoW++(zoV++(zoU++(zoT++(zoS++[])))))):=by kernel_rfl
theorem run1 (w:World) (os:OsState):topRun treeTable Q w 11 ann (651+(775+(778+(692+(771+(36+2)))))) (at_ (t_b w.params) 15 187 os).abs (restOf (zoX++(zoW++(zoV++(zoU++(zoT++(zoS++[])))))) env cE ⟨0,0,0,0⟩ [fr])=some ⟨h_z w.params,#[],{},843,os⟩ :=
 (piece_app (segRun_of (congrFun (l_0 w) os)) (piece_app (segRun_of (congrFun (l_1 w) os)) (piece_app (segRun_of (congrFun (l_2 w) os)) (piece_app (segRun_of (congrFun (l_3 w) os)) (piece_app (segRun_of (congrFun (l_4 w) os)) (piece_app (segRun_of (congrFun (l_5 w) os)) (piece_nil (congrFun (zrr w) os))))))))
theorem run (w:World) (os:OsState):topRun treeTable Q w 11 ann (12+(1+(651+(775+(778+(692+(771+(36+2)))))))) ⟨boot_heap w.params,#[],boot_drawn,boot_toks,os⟩ (topStub Q)=some ⟨h_z w.params,#[],{},843,os⟩ :=
 go_top (congrFun (zrq w) os) (piece_block (congrFun (zp8 w) os) ((congrArg (fun b=>topRun treeTable Q w 11 ann (651+(775+(778+(692+(771+(36+2)))))) (at_ (t_b w.params) 15 187 os).abs (restOf b env cE ⟨0,0,0,0⟩ [fr])) zr0).trans (run1 w os)))
theorem S_an:Str.ofString "__annotations__" = ⟨#[95,95,97,110,110,111,116,97,116,105,111,110,115,95,95]⟩:=PySem.W.Fast.ofString_ofList ['_','_','a','n','n','o','t','a','t','i','o','n','s','_','_']
theorem size (w:World):((boot_heap w.params).isNs mainGlobals&&(#[]:Array GenState).size==0,(boot_heap w.params).objs.size,(boot_heap w.params).nsMap mainGlobals "__annotations__")=(true,11,ann):=by
 rw [PySem.W.Fast.te8920871248978507458,S_an];kernel_rfl
noncomputable abbrev vw (R:Program):Program:={ R with main:={ R.main with body:=[nth R.main.body 0,nth R.main.body 2,nth R.main.body 3,nth R.main.body 4,nth R.main.body 5,nth R.main.body 6,nth R.main.body 8,nth R.main.body 9,nth R.main.body 10,nth R.main.body 11,nth R.main.body 12,nth R.main.body 13,nth R.main.body 14,nth R.main.body 15,nth R.main.body 16,nth R.main.body 18,nth R.main.body 19,nth R.main.body 20,nth R.main.body 21,nth R.main.body 22,nth R.main.body 23,nth R.main.body 24,nth R.main.body 25,nth R.main.body 26,nth R.main.body 28,nth R.main.body 29,nth R.main.body 30,nth R.main.body 31,nth R.main.body 32,nth R.main.body 33,nth R.main.body 34,nth R.main.body 35,nth R.main.body 37,nth R.main.body 38,nth R.main.body 39,nth R.main.body 40,nth R.main.body 41,nth R.main.body 42,nth R.main.body 43,nth R.main.body 44,nth R.main.body 45,nth R.main.body 46,nth R.main.body 47,nth R.main.body 48,nth R.main.body 49,nth R.main.body 50,nth R.main.body 51,nth R.main.body 52,nth R.main.body 54,nth R.main.body 55,nth R.main.body 56,nth R.main.body 57,nth R.main.body 58,nth R.main.body 59,nth R.main.body 60,nth R.main.body 61,nth R.main.body 62,nth R.main.body 63,nth R.main.body 64,nth R.main.body 65,nth R.main.body 66,nth R.main.body 67] } }
noncomputable def K (P:Params):Frag:=(nat_lit 2,boot_o_2 P)::(nat_lit 3,o307 P)::(nat_lit 15,o0 P)::(nat_lit 17,o6 P)::(nat_lit 18,o0 P)::(nat_lit 20,o8 P)::(nat_lit 21,o9 P)::(nat_lit 22,o10 P)::(nat_lit 29,o0 P)::(nat_lit 30,o15 P)::(nat_lit 31,o37 P)::(nat_lit 32,o17 P)::(nat_lit 35,o20 P)::(nat_lit 42,o0 P)::(nat_lit 43,o24 P)::(nat_lit 44,o25 P)::(nat_lit 47,o20 P)::(nat_lit 54,o0 P)::(nat_lit 55,o31 P)::(nat_lit 56,o32 P)::(nat_lit 59,o20 P)::(nat_lit 66,o0 P)::(nat_lit 67,o41 P)::(nat_lit 68,o42 P)::(nat_lit 71,o20 P)::(nat_lit 78,o0 P)::(nat_lit 79,o48 P)::(nat_lit 80,o49 P)::(nat_lit 83,o0 P)::(nat_lit 85,o52 P)::(nat_lit 86,o0 P)::(nat_lit 88,o54 P)::(nat_lit 89,o55 P)::(nat_lit 90,o0 P)::(nat_lit 92,o56 P)::(nat_lit 93,o0 P)::(nat_lit 95,o58 P)::(nat_lit 96,o59 P)::(nat_lit 97,o0 P)::(nat_lit 99,o60 P)::(nat_lit 100,o0 P)::(nat_lit 102,o62 P)::(nat_lit 103,o63 P)::(nat_lit 104,o0 P)::(nat_lit 106,o64 P)::(nat_lit 107,o0 P)::(nat_lit 109,o66 P)::(nat_lit 110,o67 P)::(nat_lit 111,o0 P)::(nat_lit 113,o68 P)::(nat_lit 114,o0 P)::(nat_lit 116,o70 P)::(nat_lit 117,o71 P)::(nat_lit 118,o0 P)::(nat_lit 120,o72 P)::(nat_lit 121,o0 P)::(nat_lit 123,o74 P)::(nat_lit 124,o75 P)::(nat_lit 125,o0 P)::(nat_lit 127,o76 P)::(nat_lit 128,o0 P)::(nat_lit 130,o78 P)::(nat_lit 131,o79 P)::(nat_lit 132,o0 P)::(nat_lit 134,o80 P)::(nat_lit 135,o0 P)::(nat_lit 137,o82 P)::(nat_lit 138,o83 P)::(nat_lit 139,o0 P)::(nat_lit 141,o84 P)::(nat_lit 142,o0 P)::(nat_lit 144,o86 P)::(nat_lit 145,o87 P)::(nat_lit 146,o0 P)::(nat_lit 148,o88 P)::(nat_lit 149,o0 P)::(nat_lit 151,o90 P)::(nat_lit 152,o91 P)::(nat_lit 153,o0 P)::(nat_lit 155,o94 P)::(nat_lit 156,o0 P)::(nat_lit 158,o96 P)::(nat_lit 159,o97 P)::(nat_lit 160,o0 P)::(nat_lit 162,o98 P)::(nat_lit 163,o0 P)::(nat_lit 165,o100 P)::(nat_lit 166,o101 P)::(nat_lit 167,o0 P)::(nat_lit 170,o103 P)::(nat_lit 171,o104 P)::(nat_lit 172,o0 P)::(nat_lit 175,o106 P)::(nat_lit 176,o107 P)::(nat_lit 184,o0 P)::(nat_lit 187,o113 P)::(nat_lit 188,o114 P)::(nat_lit 189,o0 P)::(nat_lit 191,o115 P)::(nat_lit 192,o0 P)::(nat_lit 194,o117 P)::(nat_lit 195,o118 P)::(nat_lit 196,o0 P)::(nat_lit 198,o119 P)::(nat_lit 199,o0 P)::(nat_lit 201,o121 P)::(nat_lit 202,o122 P)::(nat_lit 203,o0 P)::(nat_lit 205,o123 P)::(nat_lit 206,o0 P)::(nat_lit 208,o125 P)::(nat_lit 209,o126 P)::(nat_lit 210,o127 P)::(nat_lit 211,o128 P)::(nat_lit 212,o129 P)::(nat_lit 213,o130 P)::(nat_lit 214,o131 P)::(nat_lit 217,o0 P)::(nat_lit 219,o134 P)::(nat_lit 220,o0 P)::(nat_lit 222,o136 P)::(nat_lit 223,o137 P)::(nat_lit 224,o0 P)::(nat_lit 226,o138 P)::(nat_lit 227,o0 P)::(nat_lit 229,o140 P)::(nat_lit 230,o141 P)::(nat_lit 231,o0 P)::(nat_lit 234,o143 P)::(nat_lit 235,o144 P)::(nat_lit 236,o0 P)::(nat_lit 239,o146 P)::(nat_lit 240,o147 P)::(nat_lit 241,o0 P)::(nat_lit 244,o149 P)::(nat_lit 245,o150 P)::(nat_lit 246,o0 P)::(nat_lit 249,o152 P)::(nat_lit 250,o153 P)::(nat_lit 251,o0 P)::(nat_lit 254,o155 P)::(nat_lit 255,o156 P)::(nat_lit 256,o0 P)::(nat_lit 259,o158 P)::(nat_lit 260,o159 P)::(nat_lit 261,o0 P)::(nat_lit 264,o161 P)::(nat_lit 265,o162 P)::(nat_lit 266,o0 P)::(nat_lit 269,o164 P)::(nat_lit 270,o165 P)::(nat_lit 271,o0 P)::(nat_lit 273,o166 P)::(nat_lit 274,o0 P)::(nat_lit 276,o168 P)::(nat_lit 277,o169 P)::(nat_lit 278,o0 P)::(nat_lit 280,o170 P)::(nat_lit 281,o0 P)::(nat_lit 283,o172 P)::(nat_lit 284,o173 P)::(nat_lit 285,o0 P)::(nat_lit 288,o177 P)::(nat_lit 289,o178 P)::(nat_lit 290,o0 P)::(nat_lit 293,o180 P)::(nat_lit 294,o181 P)::(nat_lit 295,o0 P)::(nat_lit 297,o182 P)::(nat_lit 298,o0 P)::(nat_lit 300,o184 P)::(nat_lit 301,o185 P)::(nat_lit 302,o0 P)::(nat_lit 305,o187 P)::(nat_lit 306,o188 P)::(nat_lit 307,o0 P)::(nat_lit 310,o190 P)::(nat_lit 311,o191 P)::(nat_lit 312,o0 P)::(nat_lit 315,o193 P)::(nat_lit 316,o194 P)::(nat_lit 324,o0 P)::(nat_lit 326,o199 P)::(nat_lit 327,o0 P)::(nat_lit 329,o201 P)::(nat_lit 330,o202 P)::(nat_lit 331,o0 P)::(nat_lit 332,o203 P)::(nat_lit 333,o232 P)::(nat_lit 334,o205 P)::(nat_lit 335,o206 P)::(nat_lit 338,o209 P)::(nat_lit 345,o0 P)::(nat_lit 347,o214 P)::(nat_lit 348,o0 P)::(nat_lit 350,o216 P)::(nat_lit 351,o217 P)::(nat_lit 352,o0 P)::(nat_lit 354,o218 P)::(nat_lit 355,o0 P)::(nat_lit 357,o220 P)::(nat_lit 358,o221 P)::(nat_lit 359,o0 P)::(nat_lit 362,o223 P)::(nat_lit 363,o224 P)::(nat_lit 364,o225 P)::(nat_lit 365,o226 P)::(nat_lit 366,o227 P)::(nat_lit 369,o209 P)::(nat_lit 376,o0 P)::(nat_lit 378,o237 P)::(nat_lit 379,o0 P)::(nat_lit 381,o239 P)::(nat_lit 382,o240 P)::(nat_lit 383,o0 P)::(nat_lit 386,o242 P)::(nat_lit 387,o243 P)::(nat_lit 388,o244 P)::(nat_lit 389,o245 P)::(nat_lit 390,o246 P)::(nat_lit 393,o0 P)::(nat_lit 396,o250 P)::(nat_lit 397,o251 P)::(nat_lit 398,o0 P)::(nat_lit 401,o253 P)::(nat_lit 402,o254 P)::(nat_lit 403,o0 P)::(nat_lit 405,o255 P)::(nat_lit 406,o0 P)::(nat_lit 408,o257 P)::(nat_lit 409,o258 P)::(nat_lit 410,o0 P)::(nat_lit 412,o259 P)::(nat_lit 413,o0 P)::(nat_lit 415,o261 P)::(nat_lit 416,o262 P)::(nat_lit 417,o0 P)::(nat_lit 419,o263 P)::(nat_lit 420,o0 P)::(nat_lit 422,o265 P)::(nat_lit 423,o266 P)::(nat_lit 424,o0 P)::(nat_lit 426,o267 P)::(nat_lit 427,o0 P)::(nat_lit 429,o269 P)::(nat_lit 430,o270 P)::(nat_lit 431,o0 P)::(nat_lit 433,o271 P)::(nat_lit 434,o0 P)::(nat_lit 436,o273 P)::(nat_lit 437,o274 P)::(nat_lit 438,o0 P)::(nat_lit 440,o275 P)::(nat_lit 441,o0 P)::(nat_lit 443,o277 P)::(nat_lit 444,o278 P)::(nat_lit 445,o0 P)::(nat_lit 447,o279 P)::(nat_lit 448,o0 P)::(nat_lit 450,o281 P)::(nat_lit 451,o282 P)::(nat_lit 452,o0 P)::(nat_lit 454,o283 P)::(nat_lit 455,o0 P)::(nat_lit 457,o285 P)::(nat_lit 458,o286 P)::(nat_lit 459,o0 P)::(nat_lit 462,o288 P)::(nat_lit 463,o289 P)::(nat_lit 464,o0 P)::(nat_lit 466,o290 P)::(nat_lit 467,o0 P)::(nat_lit 469,o292 P)::(nat_lit 470,o293 P)::(nat_lit 471,o0 P)::(nat_lit 474,o295 P)::(nat_lit 475,o296 P)::(nat_lit 476,o0 P)::(nat_lit 478,o297 P)::(nat_lit 479,o0 P)::(nat_lit 481,o299 P)::(nat_lit 482,o300 P)::(nat_lit 483,o0 P)::(nat_lit 486,o302 P)::(nat_lit 487,o303 P)::(nat_lit 488,o0 P)::(nat_lit 491,o305 P)::(nat_lit 492,o306 P)::(nat_lit 493,o0 P)::(nat_lit 495,o309 P)::(nat_lit 496,o0 P)::(nat_lit 498,o311 P)::(nat_lit 499,o312 P)::[]
noncomputable abbrev as:List Addr:=[2,3,15,17,18,20,21,22,29,30,31,32,35,42,43,44,47,54,55,56,59,66,67,68,71,78,79,80,83,85,86,88,89,90,92,93,95,96,97,99,100,102,103,104,106,107,109,110,111,113,114,116,117,118,120,121,123,124,125,127,128,130,131,132,134,135,137,138,139,141,142,144,145,146,148,149,151,152,153,155,156,158,159,160,162,163,165,166,167,170,171,172,175,176,184,187,188,189,191,192,194,195,196,198,199,201,202,203,205,206,208,209,210,211,212,213,214,217,219,220,222,223,224,226,227,229,230,231,234,235,236,239,240,241,244,245,246,249,250,251,254,255,256,259,260,261,264,265,266,269,270,271,273,274,276,277,278,280,281,283,284,285,288,289,290,293,294,295,297,298,300,301,302,305,306,307,310,311,312,315,316,324,326,327,329,330,331,332,333,334,335,338,345,347,348,350,351,352,354,355,357,358,359,362,363,364,365,366,369,376,378,379,381,382,383,386,387,388,389,390,393,396,397,398,401,402,403,405,406,408,409,410,412,413,415,416,417,419,420,422,423,424,426,427,429,430,431,433,434,436,437,438,440,441,443,444,445,447,448,450,451,452,454,455,457,458,459,462,463,464,466,467,469,470,471,474,475,476,478,479,481,482,483,486,487,488,491,492,493,495,496,498,499]
theorem zr1 (P:Params):as=(K P).map (·.1):=by kernel_rfl
noncomputable abbrev sz (w:World) (os:OsState):Shared:=⟨h_z w.params,#[],{},843,os⟩
noncomputable abbrev Xt (R:Program) (s:Shared):Bool:=xlAt (vw R) [] s&&recOk (RowW.records (OpenRow.toRowW PySem.Challenge.rw_splitstream_k03_whole_stream.row)) s
theorem k0 (w:World) (os:OsState):(staticsOk (importedModules Q.main.body) (boot_heap w.params) (h_z w.params)&&namesBound Q (h_z w.params)&&gensDone (sz w os)&&laidKept (boot_heap w.params) (h_z w.params))=true:=by
 rw [PySem.W.Fast.te5923862056798008813];kernel_rfl
theorem k1 (w:World) (os:OsState):(seen ((recsOf (vw Q)).map (·.name)) (ownsOf (vw Q)) [] { (sz w os) with gens:=#[] })=expectedOf (vw Q):=by
 rw [PySem.W.Fast.te5160383126252970620,PySem.W.Fast.te3399658132070893891,PySem.W.Fast.te5991557255702980513];kernel_rfl
theorem k2 (w:World) (os:OsState):((sz w os).heap.bltView)=bltViewBooted:=by
 kernel_rfl
theorem k3 (w:World) (os:OsState):((sz w os).heap.keysOk (looseW (vw Q) []) ((recsOf (vw Q)).map (·.name)) ((litsOf (vw Q)).map (·.1)) ((clssOf (vw Q) (looseW (vw Q) [])).map (·.name))&&(sz w os).heap.accountedOkI (importedModules Q.main.body)&&(sz w os).heap.isNs mainGlobals&&(sz w os).heap.isNs builtinsNs&&tablesOk (vw Q) (sz w os).heap&&Xt Q (sz w os)&&(if true then (sz w os).gens.size==0 else !leftWithCleanup (sz w os).gens))=true:=by
 rw [PySem.W.Fast.te10880121769531294198,PySem.W.Fast.te821141287760084731,PySem.W.Fast.te3399658132070893891,PySem.W.Fast.te7409074990110511671,PySem.W.Fast.te13664370479719496447,PySem.W.Fast.te14722251495701143533,PySem.W.Fast.te5923862056798008813,PySem.W.Fast.te10994771534591457954];kernel_rfl
theorem k4 (w:World) (os:OsState):(tabsOk (vw Q) (sz w os))=true:=by
 rw [PySem.W.Fast.te479339242167458305];kernel_rfl
theorem k5 (w:World) (os:OsState):(pinSeenD (vw Q) (drecsOf (vw Q)) (sz w os))=pinGoodD (drecsOf (vw Q)):=by
 rw [PySem.W.Fast.te16090120013241838585,PySem.W.Fast.te3247288618530077131];kernel_rfl
theorem k6 (w:World) (os:OsState):(plainSeenE (vw Q) (looseW (vw Q) []) (sz w os))=plainGoodE (vw Q) (looseW (vw Q) []):=by
 rw [PySem.W.Fast.te2386780881361962483,PySem.W.Fast.te821141287760084731];kernel_rfl
theorem k7 (w:World) (os:OsState):(plainSeenD (vw Q) [] (sz w os))=plainGoodD (vw Q) []:=by
 rw [PySem.W.Fast.te11698064438423848299];kernel_rfl
theorem k8 (w:World) (os:OsState):(wideSeen (vw Q) (sz w os))=wideGood (vw Q):=by
 rw [PySem.W.Fast.te7317090234206586261];kernel_rfl
theorem k9 (w:World) (os:OsState):(clsSeenW (vw Q) [] (sz w os))=clsGoodW (vw Q) []:=by
 rw [PySem.W.Fast.te7369524293546568484];kernel_rfl
theorem kY (w:World) (os:OsState):as.map (sz w os).heap.get? = (K w.params).map fun p=>some p.2:=by kernel_rfl
noncomputable abbrev Yf (s:Shared):List (Option Obj):=as.map s.heap.get?
noncomputable abbrev Ya (w:World):List (Option Obj):=(K w.params).map fun p=>some p.2
theorem kS (w:World) (os:OsState):openSeen (vw Q) [] (importedModules Q.main.body) (Xt Q) true (sz w os)=openGood (vw Q) [] :=
 looks_pair (k1 w os) (looks_pair (k2 w os) (looks_pair (k3 w os) (looks_pair (k4 w os) (looks_pair (k5 w os) (looks_pair (k6 w os) (looks_pair (k7 w os) (looks_pair (k8 w os) (k9 w os))))))))
theorem zq8:LeftO Q (vw Q) [] (Xt Q) Yf Ya 7520 :=
 LeftO.of_pieces (boot_open (by kernel_rfl) (by decide) fun s=>by kernel_rfl) size run (by decide) fun w=>funext fun os=>looks_pair (k0 w os) (looks_pair (kS w os) (kY w os))
theorem left:LeftO PySem.Challenge.rw_splitstream_k03_whole_stream.row.prog (vw PySem.Challenge.pw_splitstream_k03_whole_stream) [] (Xt PySem.Challenge.pw_splitstream_k03_whole_stream) Yf Ya 7520:=by
 show LeftO PySem.Challenge.pw_splitstream_k03_whole_stream (vw PySem.Challenge.pw_splitstream_k03_whole_stream) [] (Xt PySem.Challenge.pw_splitstream_k03_whole_stream) Yf Ya 7520
 rw [Q_eq];exact zq8
end
end Hd
namespace Hd
open PySem PySem.W PySem.Calls PyProof.Rows L2
section
theorem zkx:∀ (l:List Stmt) (i:Nat),l.getD i (.Pass ⟨0,0,0,0⟩)=nth l i
 | [],_=>rfl
 | _::_,0=>rfl
 | _::l,i+1=>zkx l i
theorem zaF (i:Nat):K2.top i=q i:=by
 unfold K2.top;rw [Q_eq];exact zkx _ i
theorem ES13:Str.ofString "_wall" = S13:=PySem.W.Fast.ofString_ofList ['_','w','a','l','l']
theorem zqZ (P:Params):(K P).lookup 21=some ⟨(.type x5),none,.func (fnOf "_wall" "_wall" (zai (K2.top 0)) (zah (K2.top 0)) (zab (K2.top 0)) .none .none .none (.str S2 164) none (.ref 20) .none),#[]⟩:=by
 rw [zaF,ES13];kernel_rfl
theorem ES26:Str.ofString "is_whole" = S26:=PySem.W.Fast.ofString_ofList ['i','s','_','w','h','o','l','e']
theorem zjO (P:Params):(K P).lookup 89=some ⟨(.type x5),none,.func (fnOf "is_whole" "is_whole" (zai (K2.top 8)) (zah (K2.top 8)) (zab (K2.top 8)) .none .none .none (.str S40 278) none (.ref 88) .none),#[]⟩:=by
 rw [zaF,ES26];kernel_rfl
theorem ES27:Str.ofString "is_fraction" = S27:=PySem.W.Fast.ofString_ofList ['i','s','_','f','r','a','c','t','i','o','n']
theorem zhl (P:Params):(K P).lookup 96=some ⟨(.type x5),none,.func (fnOf "is_fraction" "is_fraction" (zai (K2.top 9)) (zah (K2.top 9)) (zab (K2.top 9)) .none .none .none (.str S40 278) none (.ref 95) .none),#[]⟩:=by
 rw [zaF,ES27];kernel_rfl
theorem ES28:Str.ofString "common_divisor" = S28:=PySem.W.Fast.ofString_ofList ['c','o','m','m','o','n','_','d','i','v','i','s','o','r']
theorem zfA (P:Params):(K P).lookup 103=some ⟨(.type x5),none,.func (fnOf "common_divisor" "common_divisor" (zai (K2.top 10)) (zah (K2.top 10)) (zab (K2.top 10)) .none .none .none (.str S40 278) none (.ref 102) .none),#[]⟩:=by
 rw [zaF,ES28];kernel_rfl
theorem ES29:Str.ofString "made" = S29:=PySem.W.Fast.ofString_ofList ['m','a','d','e']
theorem zp7 (P:Params):(K P).lookup 110=some ⟨(.type x5),none,.func (fnOf "made" "made" (zai (K2.top 11)) (zah (K2.top 11)) (zab (K2.top 11)) .none .none .none (.str S40 278) none (.ref 109) .none),#[]⟩:=by
 rw [zaF,ES29];kernel_rfl
theorem ES30:Str.ofString "plus" = S30:=PySem.W.Fast.ofString_ofList ['p','l','u','s']
theorem zp5 (P:Params):(K P).lookup 117=some ⟨(.type x5),none,.func (fnOf "plus" "plus" (zai (K2.top 12)) (zah (K2.top 12)) (zab (K2.top 12)) .none .none .none (.str S40 278) none (.ref 116) .none),#[]⟩:=by
 rw [zaF,ES30];kernel_rfl
theorem ES31:Str.ofString "minus" = S31:=PySem.W.Fast.ofString_ofList ['m','i','n','u','s']
theorem znW (P:Params):(K P).lookup 124=some ⟨(.type x5),none,.func (fnOf "minus" "minus" (zai (K2.top 13)) (zah (K2.top 13)) (zab (K2.top 13)) .none .none .none (.str S40 278) none (.ref 123) .none),#[]⟩:=by
 rw [zaF,ES31];kernel_rfl
theorem ES32:Str.ofString "times" = S32:=PySem.W.Fast.ofString_ofList ['t','i','m','e','s']
theorem znV (P:Params):(K P).lookup 131=some ⟨(.type x5),none,.func (fnOf "times" "times" (zai (K2.top 14)) (zah (K2.top 14)) (zab (K2.top 14)) .none .none .none (.str S40 278) none (.ref 130) .none),#[]⟩:=by
 rw [zaF,ES32];kernel_rfl
theorem ES33:Str.ofString "over" = S33:=PySem.W.Fast.ofString_ofList ['o','v','e','r']
theorem zp6 (P:Params):(K P).lookup 138=some ⟨(.type x5),none,.func (fnOf "over" "over" (zai (K2.top 15)) (zah (K2.top 15)) (zab (K2.top 15)) .none .none .none (.str S40 278) none (.ref 137) .none),#[]⟩:=by
 rw [zaF,ES33];kernel_rfl
theorem ES34:Str.ofString "total" = S34:=PySem.W.Fast.ofString_ofList ['t','o','t','a','l']
theorem znU (P:Params):(K P).lookup 145=some ⟨(.type x5),none,.func (fnOf "total" "total" (zai (K2.top 16)) (zah (K2.top 16)) (zab (K2.top 16)) .none .none .none (.str S40 278) none (.ref 144) .none),#[]⟩:=by
 rw [zaF,ES34];kernel_rfl
theorem ES38:Str.ofString "counts_one_of" = S38:=PySem.W.Fast.ofString_ofList ['c','o','u','n','t','s','_','o','n','e','_','o','f']
theorem zga (P:Params):(K P).lookup 152=some ⟨(.type x5),none,.func (fnOf "counts_one_of" "counts_one_of" (zai (K2.top 21)) (zah (K2.top 21)) (zab (K2.top 21)) .none .none .none (.str S23 355) none (.ref 151) .none),#[]⟩:=by
 rw [zaF,ES38];kernel_rfl
theorem ES52:Str.ofString "is_hardness" = S52:=PySem.W.Fast.ofString_ofList ['i','s','_','h','a','r','d','n','e','s','s']
theorem zhk (P:Params):(K P).lookup 159=some ⟨(.type x5),none,.func (fnOf "is_hardness" "is_hardness" (zai (K2.top 22)) (zah (K2.top 22)) (zab (K2.top 22)) .none .none .none (.str S23 355) none (.ref 158) .none),#[]⟩:=by
 rw [zaF,ES52];kernel_rfl
theorem ES53:Str.ofString "is_pipe" = S53:=PySem.W.Fast.ofString_ofList ['i','s','_','p','i','p','e']
theorem zla (P:Params):(K P).lookup 166=some ⟨(.type x5),none,.func (fnOf "is_pipe" "is_pipe" (zai (K2.top 23)) (zah (K2.top 23)) (zab (K2.top 23)) .none .none .none (.str S23 355) none (.ref 165) .none),#[]⟩:=by
 rw [zaF,ES53];kernel_rfl
theorem ES54:Str.ofString "is_net" = S54:=PySem.W.Fast.ofString_ofList ['i','s','_','n','e','t']
theorem zmn (P:Params):(K P).lookup 171=some ⟨(.type x5),none,.func (fnOf "is_net" "is_net" (zai (K2.top 24)) (zah (K2.top 24)) (zab (K2.top 24)) .none .none .none (.str S23 355) none (.ref 170) .none),#[]⟩:=by
 rw [zaF,ES54];kernel_rfl
theorem ES55:Str.ofString "neighbours" = S55:=PySem.W.Fast.ofString_ofList ['n','e','i','g','h','b','o','u','r','s']
theorem zig (P:Params):(K P).lookup 176=some ⟨(.type x5),none,.func (fnOf "neighbours" "neighbours" (zai (K2.top 25)) (zah (K2.top 25)) (zab (K2.top 25)) .none .none .none (.str S23 355) none (.ref 175) .none),#[]⟩:=by
 rw [zaF,ES55];kernel_rfl
theorem ES70:Str.ofString "__init__" = S70:=PySem.W.Fast.ofString_ofList ['_','_','i','n','i','t','_','_']
theorem ES74:Str.ofString "Net.__init__" = S74:=PySem.W.Fast.ofString_ofList ['N','e','t','.','_','_','i','n','i','t','_','_']
theorem zgG (P:Params):(K P).lookup 188=some ⟨(.type x5),none,.func (fnOf "__init__" "Net.__init__" (zai (inClass (K2.top 26) 0)) (zah (inClass (K2.top 26) 0)) (zab (inClass (K2.top 26) 0)) .none .none .none (.str S23 355) none (.ref 187) .none),#[]⟩:=by
 rw [zaF,ES70,ES74];kernel_rfl
theorem ES71:Str.ofString "pipes" = S71:=PySem.W.Fast.ofString_ofList ['p','i','p','e','s']
theorem ES76:Str.ofString "Net.pipes" = S76:=PySem.W.Fast.ofString_ofList ['N','e','t','.','p','i','p','e','s']
theorem ziY (P:Params):(K P).lookup 195=some ⟨(.type x5),none,.func (fnOf "pipes" "Net.pipes" (zai (inClass (K2.top 26) 1)) (zah (inClass (K2.top 26) 1)) (zab (inClass (K2.top 26) 1)) .none .none .none (.str S23 355) none (.ref 194) .none),#[]⟩:=by
 rw [zaF,ES71,ES76];kernel_rfl
theorem ES72:Str.ofString "part" = S72:=PySem.W.Fast.ofString_ofList ['p','a','r','t']
theorem ES82:Str.ofString "Net.part" = S82:=PySem.W.Fast.ofString_ofList ['N','e','t','.','p','a','r','t']
theorem zjR (P:Params):(K P).lookup 202=some ⟨(.type x5),none,.func (fnOf "part" "Net.part" (zai (inClass (K2.top 26) 2)) (zah (inClass (K2.top 26) 2)) (zab (inClass (K2.top 26) 2)) .none .none .none (.str S23 355) none (.ref 201) .none),#[]⟩:=by
 rw [zaF,ES72,ES82];kernel_rfl
theorem ES73:Str.ofString "parts" = S73:=PySem.W.Fast.ofString_ofList ['p','a','r','t','s']
theorem ES83:Str.ofString "Net.parts" = S83:=PySem.W.Fast.ofString_ofList ['N','e','t','.','p','a','r','t','s']
theorem zoF (P:Params):(K P).lookup 209=some ⟨(.type x5),none,.func (fnOf "parts" "Net.parts" (zai (inClass (K2.top 26) 3)) (zah (inClass (K2.top 26) 3)) (zab (inClass (K2.top 26) 3)) .none .none .none (.str S23 355) none (.ref 208) .none),#[]⟩:=by
 rw [zaF,ES73,ES83];kernel_rfl
theorem ES57:Str.ofString "scale_of" = S57:=PySem.W.Fast.ofString_ofList ['s','c','a','l','e','_','o','f']
theorem zjN (P:Params):(K P).lookup 223=some ⟨(.type x5),none,.func (fnOf "scale_of" "scale_of" (zai (K2.top 28)) (zah (K2.top 28)) (zab (K2.top 28)) .none .none .none (.str S91 452) none (.ref 222) .none),#[]⟩:=by
 rw [zaF,ES57];kernel_rfl
theorem ES58:Str.ofString "scaled_ease" = S58:=PySem.W.Fast.ofString_ofList ['s','c','a','l','e','d','_','e','a','s','e']
theorem zhi (P:Params):(K P).lookup 230=some ⟨(.type x5),none,.func (fnOf "scaled_ease" "scaled_ease" (zai (K2.top 29)) (zah (K2.top 29)) (zab (K2.top 29)) .none .none .none (.str S91 452) none (.ref 229) .none),#[]⟩:=by
 rw [zaF,ES58];kernel_rfl
theorem ES59:Str.ofString "entry" = S59:=PySem.W.Fast.ofString_ofList ['e','n','t','r','y']
theorem znY (P:Params):(K P).lookup 235=some ⟨(.type x5),none,.func (fnOf "entry" "entry" (zai (K2.top 30)) (zah (K2.top 30)) (zab (K2.top 30)) .none .none .none (.str S91 452) none (.ref 234) .none),#[]⟩:=by
 rw [zaF,ES59];kernel_rfl
theorem ES60:Str.ofString "sheet_row" = S60:=PySem.W.Fast.ofString_ofList ['s','h','e','e','t','_','r','o','w']
theorem ziS (P:Params):(K P).lookup 240=some ⟨(.type x5),none,.func (fnOf "sheet_row" "sheet_row" (zai (K2.top 31)) (zah (K2.top 31)) (zab (K2.top 31)) .none .none .none (.str S91 452) none (.ref 239) .none),#[]⟩:=by
 rw [zaF,ES60];kernel_rfl
theorem ES61:Str.ofString "sheet_of" = S61:=PySem.W.Fast.ofString_ofList ['s','h','e','e','t','_','o','f']
theorem zjM (P:Params):(K P).lookup 245=some ⟨(.type x5),none,.func (fnOf "sheet_of" "sheet_of" (zai (K2.top 32)) (zah (K2.top 32)) (zab (K2.top 32)) .none .none .none (.str S91 452) none (.ref 244) .none),#[]⟩:=by
 rw [zaF,ES61];kernel_rfl
theorem ES62:Str.ofString "row_without" = S62:=PySem.W.Fast.ofString_ofList ['r','o','w','_','w','i','t','h','o','u','t']
theorem zhj (P:Params):(K P).lookup 250=some ⟨(.type x5),none,.func (fnOf "row_without" "row_without" (zai (K2.top 33)) (zah (K2.top 33)) (zab (K2.top 33)) .none .none .none (.str S91 452) none (.ref 249) .none),#[]⟩:=by
 rw [zaF,ES62];kernel_rfl
theorem ES63:Str.ofString "cleared" = S63:=PySem.W.Fast.ofString_ofList ['c','l','e','a','r','e','d']
theorem zlb (P:Params):(K P).lookup 255=some ⟨(.type x5),none,.func (fnOf "cleared" "cleared" (zai (K2.top 34)) (zah (K2.top 34)) (zab (K2.top 34)) .none .none .none (.str S91 452) none (.ref 254) .none),#[]⟩:=by
 rw [zaF,ES63];kernel_rfl
theorem ES64:Str.ofString "solved" = S64:=PySem.W.Fast.ofString_ofList ['s','o','l','v','e','d']
theorem zmm (P:Params):(K P).lookup 260=some ⟨(.type x5),none,.func (fnOf "solved" "solved" (zai (K2.top 35)) (zah (K2.top 35)) (zab (K2.top 35)) .none .none .none (.str S91 452) none (.ref 259) .none),#[]⟩:=by
 rw [zaF,ES64];kernel_rfl
theorem ES65:Str.ofString "are_fractions" = S65:=PySem.W.Fast.ofString_ofList ['a','r','e','_','f','r','a','c','t','i','o','n','s']
theorem zgb (P:Params):(K P).lookup 265=some ⟨(.type x5),none,.func (fnOf "are_fractions" "are_fractions" (zai (K2.top 37)) (zah (K2.top 37)) (zab (K2.top 37)) .none .none .none (.str S51 509) none (.ref 264) .none),#[]⟩:=by
 rw [zaF,ES65];kernel_rfl
theorem ES66:Str.ofString "are_places" = S66:=PySem.W.Fast.ofString_ofList ['a','r','e','_','p','l','a','c','e','s']
theorem zii (P:Params):(K P).lookup 270=some ⟨(.type x5),none,.func (fnOf "are_places" "are_places" (zai (K2.top 38)) (zah (K2.top 38)) (zab (K2.top 38)) .none .none .none (.str S51 509) none (.ref 269) .none),#[]⟩:=by
 rw [zaF,ES66];kernel_rfl
theorem ES67:Str.ofString "check_places" = S67:=PySem.W.Fast.ofString_ofList ['c','h','e','c','k','_','p','l','a','c','e','s']
theorem zgC (P:Params):(K P).lookup 277=some ⟨(.type x5),none,.func (fnOf "check_places" "check_places" (zai (K2.top 39)) (zah (K2.top 39)) (zab (K2.top 39)) .none .none .none (.str S51 509) none (.ref 276) .none),#[]⟩:=by
 rw [zaF,ES67];kernel_rfl
theorem ES68:Str.ofString "check_flows" = S68:=PySem.W.Fast.ofString_ofList ['c','h','e','c','k','_','f','l','o','w','s']
theorem zhn (P:Params):(K P).lookup 284=some ⟨(.type x5),none,.func (fnOf "check_flows" "check_flows" (zai (K2.top 40)) (zah (K2.top 40)) (zab (K2.top 40)) .none .none .none (.str S51 509) none (.ref 283) .none),#[]⟩:=by
 rw [zaF,ES68];kernel_rfl
theorem ES94:Str.ofString "sum_at" = S94:=PySem.W.Fast.ofString_ofList ['s','u','m','_','a','t']
theorem zmk (P:Params):(K P).lookup 289=some ⟨(.type x5),none,.func (fnOf "sum_at" "sum_at" (zai (K2.top 41)) (zah (K2.top 41)) (zab (K2.top 41)) .none .none .none (.str S51 509) none (.ref 288) .none),#[]⟩:=by
 rw [zaF,ES94];kernel_rfl
theorem ES95:Str.ofString "sums_of" = S95:=PySem.W.Fast.ofString_ofList ['s','u','m','s','_','o','f']
theorem zkZ (P:Params):(K P).lookup 294=some ⟨(.type x5),none,.func (fnOf "sums_of" "sums_of" (zai (K2.top 42)) (zah (K2.top 42)) (zab (K2.top 42)) .none .none .none (.str S51 509) none (.ref 293) .none),#[]⟩:=by
 rw [zaF,ES95];kernel_rfl
theorem ES96:Str.ofString "asked_sum" = S96:=PySem.W.Fast.ofString_ofList ['a','s','k','e','d','_','s','u','m']
theorem ziT (P:Params):(K P).lookup 301=some ⟨(.type x5),none,.func (fnOf "asked_sum" "asked_sum" (zai (K2.top 43)) (zah (K2.top 43)) (zab (K2.top 43)) .none .none .none (.str S51 509) none (.ref 300) .none),#[]⟩:=by
 rw [zaF,ES96];kernel_rfl
theorem ES97:Str.ofString "asked_sums" = S97:=PySem.W.Fast.ofString_ofList ['a','s','k','e','d','_','s','u','m','s']
theorem zih (P:Params):(K P).lookup 306=some ⟨(.type x5),none,.func (fnOf "asked_sums" "asked_sums" (zai (K2.top 44)) (zah (K2.top 44)) (zab (K2.top 44)) .none .none .none (.str S51 509) none (.ref 305) .none),#[]⟩:=by
 rw [zaF,ES97];kernel_rfl
theorem ES98:Str.ofString "falls" = S98:=PySem.W.Fast.ofString_ofList ['f','a','l','l','s']
theorem znX (P:Params):(K P).lookup 311=some ⟨(.type x5),none,.func (fnOf "falls" "falls" (zai (K2.top 45)) (zah (K2.top 45)) (zab (K2.top 45)) .none .none .none (.str S51 509) none (.ref 310) .none),#[]⟩:=by
 rw [zaF,ES98];kernel_rfl
theorem ES99:Str.ofString "grounded" = S99:=PySem.W.Fast.ofString_ofList ['g','r','o','u','n','d','e','d']
theorem zjP (P:Params):(K P).lookup 316=some ⟨(.type x5),none,.func (fnOf "grounded" "grounded" (zai (K2.top 46)) (zah (K2.top 46)) (zab (K2.top 46)) .none .none .none (.str S51 509) none (.ref 315) .none),#[]⟩:=by
 rw [zaF,ES99];kernel_rfl
theorem zpU:Str.ofString "shows" = S102:=PySem.W.Fast.ofString_ofList ['s','h','o','w','s']
theorem zrQ:Str.ofString "Answer.shows" = S103:=PySem.W.Fast.ofString_ofList ['A','n','s','w','e','r','.','s','h','o','w','s']
theorem zmo (P:Params):(K P).lookup 330=some ⟨(.type x5),none,.func (fnOf "shows" "Answer.shows" (zai (inClass (K2.top 47) 0)) (zah (inClass (K2.top 47) 0)) (zab (inClass (K2.top 47) 0)) .none .none .none (.str S51 509) none (.ref 329) .none),#[]⟩:=by
 rw [zaF,zpU,zrQ];kernel_rfl
theorem zrO:Str.ofString "Stream.__init__" = S106:=PySem.W.Fast.ofString_ofList ['S','t','r','e','a','m','.','_','_','i','n','i','t','_','_']
theorem zfe (P:Params):(K P).lookup 351=some ⟨(.type x5),none,.func (fnOf "__init__" "Stream.__init__" (zai (inClass (K2.top 48) 0)) (zah (inClass (K2.top 48) 0)) (zab (inClass (K2.top 48) 0)) .none .none .none (.str S51 509) none (.ref 350) .none),#[]⟩:=by
 rw [zaF,ES70,zrO];kernel_rfl
theorem zrP:Str.ofString "fits" = S104:=PySem.W.Fast.ofString_ofList ['f','i','t','s']
theorem zrN:Str.ofString "Stream.fits" = S107:=PySem.W.Fast.ofString_ofList ['S','t','r','e','a','m','.','f','i','t','s']
theorem zhp (P:Params):(K P).lookup 358=some ⟨(.type x5),none,.func (fnOf "fits" "Stream.fits" (zai (inClass (K2.top 48) 1)) (zah (inClass (K2.top 48) 1)) (zab (inClass (K2.top 48) 1)) .none .none .none (.str S51 509) none (.ref 357) .none),#[]⟩:=by
 rw [zaF,zrP,zrN];kernel_rfl
theorem zrM:Str.ofString "Stream.shows" = S108:=PySem.W.Fast.ofString_ofList ['S','t','r','e','a','m','.','s','h','o','w','s']
theorem zgF (P:Params):(K P).lookup 363=some ⟨(.type x5),none,.func (fnOf "shows" "Stream.shows" (zai (inClass (K2.top 48) 2)) (zah (inClass (K2.top 48) 2)) (zab (inClass (K2.top 48) 2)) .none .none .none (.str S51 509) none (.ref 362) .none),#[]⟩:=by
 rw [zaF,zpU,zrM];kernel_rfl
theorem zr5:Str.ofString "Apart.__init__" = S127:=PySem.W.Fast.ofString_ofList ['A','p','a','r','t','.','_','_','i','n','i','t','_','_']
theorem zfC (P:Params):(K P).lookup 382=some ⟨(.type x5),none,.func (fnOf "__init__" "Apart.__init__" (zai (inClass (K2.top 49) 0)) (zah (inClass (K2.top 49) 0)) (zab (inClass (K2.top 49) 0)) .none .none .none (.str S51 509) none (.ref 381) .none),#[]⟩:=by
 rw [zaF,ES70,zr5];kernel_rfl
theorem zr4:Str.ofString "Apart.shows" = S128:=PySem.W.Fast.ofString_ofList ['A','p','a','r','t','.','s','h','o','w','s']
theorem zhq (P:Params):(K P).lookup 387=some ⟨(.type x5),none,.func (fnOf "shows" "Apart.shows" (zai (inClass (K2.top 49) 1)) (zah (inClass (K2.top 49) 1)) (zab (inClass (K2.top 49) 1)) .none .none .none (.str S51 509) none (.ref 386) .none),#[]⟩:=by
 rw [zaF,zpU,zr4];kernel_rfl
theorem zrL:Str.ofString "heights_between" = S111:=PySem.W.Fast.ofString_ofList ['h','e','i','g','h','t','s','_','b','e','t','w','e','e','n']
theorem zfd (P:Params):(K P).lookup 397=some ⟨(.type x5),none,.func (fnOf "heights_between" "heights_between" (zai (K2.top 50)) (zah (K2.top 50)) (zab (K2.top 50)) .none .none .none (.str S51 509) none (.ref 396) .none),#[]⟩:=by
 rw [zaF,zrL];kernel_rfl
theorem zrK:Str.ofString "stream" = S112:=PySem.W.Fast.ofString_ofList ['s','t','r','e','a','m']
theorem zml (P:Params):(K P).lookup 402=some ⟨(.type x5),none,.func (fnOf "stream" "stream" (zai (K2.top 51)) (zah (K2.top 51)) (zab (K2.top 51)) .none .none .none (.str S51 509) none (.ref 401) .none),#[]⟩:=by
 rw [zaF,zrK];kernel_rfl
theorem zrJ:Str.ofString "hardness_of" = S113:=PySem.W.Fast.ofString_ofList ['h','a','r','d','n','e','s','s','_','o','f']
theorem zhm (P:Params):(K P).lookup 409=some ⟨(.type x5),none,.func (fnOf "hardness_of" "hardness_of" (zai (K2.top 52)) (zah (K2.top 52)) (zab (K2.top 52)) .none .none .none (.str S51 509) none (.ref 408) .none),#[]⟩:=by
 rw [zaF,zrJ];kernel_rfl
theorem zrI:Str.ofString "_law_cell_at" = S114:=PySem.W.Fast.ofString_ofList ['_','l','a','w','_','c','e','l','l','_','a','t']
theorem zgE (P:Params):(K P).lookup 416=some ⟨(.type x5),none,.func (fnOf "_law_cell_at" "_law_cell_at" (zai (K2.top 54)) (zah (K2.top 54)) (zab (K2.top 54)) .none .none .none (.str S109 701) none (.ref 415) .none),#[]⟩:=by
 rw [zaF,zrI];kernel_rfl
theorem zrH:Str.ofString "_law_draw" = S115:=PySem.W.Fast.ofString_ofList ['_','l','a','w','_','d','r','a','w']
theorem ziW (P:Params):(K P).lookup 423=some ⟨(.type x5),none,.func (fnOf "_law_draw" "_law_draw" (zai (K2.top 55)) (zah (K2.top 55)) (zab (K2.top 55)) .none .none .none (.str S109 701) none (.ref 422) .none),#[]⟩:=by
 rw [zaF,zrH];kernel_rfl
theorem zrG:Str.ofString "_law_least" = S116:=PySem.W.Fast.ofString_ofList ['_','l','a','w','_','l','e','a','s','t']
theorem zil (P:Params):(K P).lookup 430=some ⟨(.type x5),none,.func (fnOf "_law_least" "_law_least" (zai (K2.top 56)) (zah (K2.top 56)) (zab (K2.top 56)) .none .none .none (.str S109 701) none (.ref 429) .none),#[]⟩:=by
 rw [zaF,zrG];kernel_rfl
theorem zrF:Str.ofString "_law_told" = S117:=PySem.W.Fast.ofString_ofList ['_','l','a','w','_','t','o','l','d']
theorem ziU (P:Params):(K P).lookup 437=some ⟨(.type x5),none,.func (fnOf "_law_told" "_law_told" (zai (K2.top 57)) (zah (K2.top 57)) (zab (K2.top 57)) .none .none .none (.str S109 701) none (.ref 436) .none),#[]⟩:=by
 rw [zaF,zrF];kernel_rfl
theorem zrE:Str.ofString "_law_part" = S118:=PySem.W.Fast.ofString_ofList ['_','l','a','w','_','p','a','r','t']
theorem ziV (P:Params):(K P).lookup 444=some ⟨(.type x5),none,.func (fnOf "_law_part" "_law_part" (zai (K2.top 58)) (zah (K2.top 58)) (zab (K2.top 58)) .none .none .none (.str S109 701) none (.ref 443) .none),#[]⟩:=by
 rw [zaF,zrE];kernel_rfl
theorem zrD:Str.ofString "_law_two" = S119:=PySem.W.Fast.ofString_ofList ['_','l','a','w','_','t','w','o']
theorem zjQ (P:Params):(K P).lookup 451=some ⟨(.type x5),none,.func (fnOf "_law_two" "_law_two" (zai (K2.top 59)) (zah (K2.top 59)) (zab (K2.top 59)) .none .none .none (.str S109 701) none (.ref 450) .none),#[]⟩:=by
 rw [zaF,zrD];kernel_rfl
theorem zrC:Str.ofString "_law_fractions" = S120:=PySem.W.Fast.ofString_ofList ['_','l','a','w','_','f','r','a','c','t','i','o','n','s']
theorem zfB (P:Params):(K P).lookup 458=some ⟨(.type x5),none,.func (fnOf "_law_fractions" "_law_fractions" (zai (K2.top 60)) (zah (K2.top 60)) (zab (K2.top 60)) .none .none .none (.str S109 701) none (.ref 457) .none),#[]⟩:=by
 rw [zaF,zrC];kernel_rfl
theorem zrB:Str.ofString "_law_streams" = S121:=PySem.W.Fast.ofString_ofList ['_','l','a','w','_','s','t','r','e','a','m','s']
theorem zgD (P:Params):(K P).lookup 463=some ⟨(.type x5),none,.func (fnOf "_law_streams" "_law_streams" (zai (K2.top 61)) (zah (K2.top 61)) (zab (K2.top 61)) .none .none .none (.str S109 701) none (.ref 462) .none),#[]⟩:=by
 rw [zaF,zrB];kernel_rfl
theorem zrA:Str.ofString "_law_chain" = S122:=PySem.W.Fast.ofString_ofList ['_','l','a','w','_','c','h','a','i','n']
theorem zim (P:Params):(K P).lookup 470=some ⟨(.type x5),none,.func (fnOf "_law_chain" "_law_chain" (zai (K2.top 62)) (zah (K2.top 62)) (zab (K2.top 62)) .none .none .none (.str S109 701) none (.ref 469) .none),#[]⟩:=by
 rw [zaF,zrA];kernel_rfl
theorem zr9:Str.ofString "_law_right" = S123:=PySem.W.Fast.ofString_ofList ['_','l','a','w','_','r','i','g','h','t']
theorem zik (P:Params):(K P).lookup 475=some ⟨(.type x5),none,.func (fnOf "_law_right" "_law_right" (zai (K2.top 63)) (zah (K2.top 63)) (zab (K2.top 63)) .none .none .none (.str S109 701) none (.ref 474) .none),#[]⟩:=by
 rw [zaF,zr9];kernel_rfl
theorem zr8:Str.ofString "_law_harder" = S124:=PySem.W.Fast.ofString_ofList ['_','l','a','w','_','h','a','r','d','e','r']
theorem zho (P:Params):(K P).lookup 482=some ⟨(.type x5),none,.func (fnOf "_law_harder" "_law_harder" (zai (K2.top 64)) (zah (K2.top 64)) (zab (K2.top 64)) .none .none .none (.str S109 701) none (.ref 481) .none),#[]⟩:=by
 rw [zaF,zr8];kernel_rfl
theorem zr7:Str.ofString "_law_bent" = S125:=PySem.W.Fast.ofString_ofList ['_','l','a','w','_','b','e','n','t']
theorem ziX (P:Params):(K P).lookup 487=some ⟨(.type x5),none,.func (fnOf "_law_bent" "_law_bent" (zai (K2.top 65)) (zah (K2.top 65)) (zab (K2.top 65)) .none .none .none (.str S109 701) none (.ref 486) .none),#[]⟩:=by
 rw [zaF,zr7];kernel_rfl
theorem zr6:Str.ofString "_law_shown" = S126:=PySem.W.Fast.ofString_ofList ['_','l','a','w','_','s','h','o','w','n']
theorem zij (P:Params):(K P).lookup 492=some ⟨(.type x5),none,.func (fnOf "_law_shown" "_law_shown" (zai (K2.top 66)) (zah (K2.top 66)) (zab (K2.top 66)) .none .none .none (.str S109 701) none (.ref 491) .none),#[]⟩:=by
 rw [zaF,zr6];kernel_rfl
theorem zr3:Str.ofString "law" = S153:=PySem.W.Fast.ofString_ofList ['l','a','w']
theorem zq7 (P:Params):(K P).lookup 499=some ⟨(.type x5),none,.func (fnOf "law" "law" (zai (K2.top 67)) (zah (K2.top 67)) (zab (K2.top 67)) .none .none .none (.str S109 701) none (.ref 498) .none),#[]⟩:=by
 rw [zaF,zr3];kernel_rfl
end
end Hd
open PySem PySem.W PyProof.Rows
set_option maxRecDepth 100000 in
set_option maxHeartbeats 0 in
theorem PySem.Challenge.cw_splitstream_k03_whole_stream_holds : PySem.Challenge.rw_splitstream_k03_whole_stream.Holds := by
 w_on;o_law
 refine PySem.W.holds_open (q:=Hd.vw PySem.Challenge.pw_splitstream_k03_whole_stream) (loose:=[]) (Xt:=Hd.Xt PySem.Challenge.pw_splitstream_k03_whole_stream) (XP:=XL (Hd.vw PySem.Challenge.pw_splitstream_k03_whole_stream) []) (Yf:=Hd.Yf) (Ya:=Hd.Ya) (YP:=InK Hd.K) (N:=7520) Hd.left (InK.of Hd.zr1) InK.keeps (fun s e=>xl_of s (Bool.and_eq_true_iff.mp e).1) XL.keeps (by rfl) (by rfl) (by rfl) (fun s e=>recFacts_of (Bool.and_eq_true_iff.mp e).2) (by rfl) (by first | assumption | decide +kernel) (by decide +kernel) ⟨rfl,rfl,rfl,rfl,rfl,by decide +kernel⟩ ?hw ?hc
 (case hw=>w_witness2)
 k_fill
 refine K2.walk (l:=PySem.Challenge.rw_splitstream_k03_whole_stream) rfl rfl (fun w h Y=>Y) ?F
 case F =>
  intro w mg fa h KX G hmg
  refine' K2.all_mk KX G hmg ?z276_Stream ?z279_Apart ?z280_Answer ?z295_Net ?z0_a ?z1_l ?z2_o ?z3_k ?z4_a ?z5_l ?z6_o ?z7_k ?z8_a ?z9_l ?z10_o ?z11_k ?z12_a ?z13_l ?z14_o ?z15_k ?z16_a ?z17_l ?z18_o ?z19_k ?z20_a ?z21_l ?z22_o ?z23_k ?z24_a ?z25_l ?z26_o ?z27_k ?z28_a ?z29_l ?z30_o ?z31_k ?z32_a ?z33_i ?z34_l ?z35_o ?z36_k ?z37_a ?z38_i ?z39_l ?z40_o ?z41_k ?z42_a ?z43_i ?z44_l ?z45_o ?z46_k ?z47_a ?z48_l ?z49_o ?z50_k ?z51_a ?z52_l ?z53_o ?z54_k ?z55_a ?z56_l ?z57_o ?z58_k ?z59_a ?z60_l ?z61_o ?z62_k ?z63_a ?z64_l ?z65_o ?z66_k ?z67_a ?z68_l ?z69_o ?z70_k ?z71_a ?z72_l ?z73_o ?z74_k ?z75_a ?z76_l ?z77_o ?z78_k ?z79_a ?z80_l ?z81_o ?z82_k ?z83_a ?z84_l ?z85_o ?z86_k ?z87_a ?z88_l ?z89_o ?z90_k ?z91_a ?z92_l ?z93_o ?z94_k ?z95_a ?z96_l ?z97_o ?z98_k ?z99_a ?z100_l ?z101_o ?z102_k ?z103_a ?z104_l ?z105_o ?z106_k ?z107_a ?z108_l ?z109_o ?z110_k ?z111_a ?z112_l ?z113_o ?z114_k ?z115_a ?z116_l ?z117_o ?z118_k ?z119_a ?z120_l ?z121_o ?z122_k ?z123_a ?z124_l ?z125_o ?z126_k ?z127_a ?z128_l ?z129_o ?z130_k ?z131_a ?z132_l ?z133_o ?z134_k ?z135_a ?z136_l ?z137_o ?z138_k ?z139_a ?z140_l ?z141_o ?z142_k ?z143_a ?z144_i ?z145_l ?z146_o ?z147_k ?z148_a ?z149_i ?z150_l ?z151_o ?z152_k ?z153_a ?z154_l ?z155_o ?z156_k ?z157_a ?z158_l ?z159_o ?z160_k ?z161_a ?z162_l ?z163_o ?z164_k ?z165_a ?z166_l ?z167_o ?z168_k ?z169_a ?z170_l ?z171_o ?z172_k ?z173_a ?z174_l ?z175_o ?z176_k ?z177_a ?z178_l ?z179_o ?z180_k ?z181_a ?z182_l ?z183_o ?z184_k ?z185_a ?z186_l ?z187_o ?z188_k ?z189_a ?z190_l ?z191_o ?z192_k ?z193_a ?z194_i ?z195_l ?z196_o ?z197_k ?z198_a ?z199_i ?z200_l ?z201_o ?z202_k ?z203_a ?z204_i ?z205_l ?z206_o ?z207_k ?z208_a ?z209_l ?z210_o ?z211_k ?z212_a ?z213_l ?z214_o ?z215_k ?z216_a ?z217_l ?z218_o ?z219_k ?z220_a ?z221_l ?z222_o ?z223_k ?z224_a ?z225_l ?z226_o ?z227_k ?z228_a ?z229_l ?z230_o ?z231_k ?z232_a ?z233_l ?z234_o ?z235_k ?z236_isinstance ?z237_int ?z238_bool ?z239_abs ?z240_len ?z241_tuple ?z242_list ?z243_min ?z244_max ?z245_range ?z246_all ?z247_sorted ?z248_enumerate ?z249_reversed ?z250_zip ?z251_sum ?z252_any ?z253_ValueError ?z254_MOST_PLACES ?z255_MOST_PIPES ?z256_MOST_IN_HARDNESS ?z257_pg ?z258_hd ?z259_po ?z260_sa ?z261_nsize ?z262_nlaid ?z263_pg ?z264_hd ?z265_po ?z266_sa ?z267_nflows ?z268_nheights ?z269_pg ?z270_hd ?z271_po ?z272_sa ?z273_nplaces ?z274_mk ?z275_kc ?z277_mk ?z278_kc ?z281_i ?z282_i ?z283_i ?z284_i ?z285_i ?z286_i ?z287_q ?z288_q ?z289_q ?z290_q ?z291_q ?z292_q ?z293_mk ?z294_kc
  (case z276_Stream=>k_is)
  (case z279_Apart=>k_is)
  (case z280_Answer=>k_is)
  (case z295_Net=>k_is)
  (case z0_a=>k_is)
  (case z1_l=>exact Hd.zjO _)
  (case z2_o=>k_is)
  (case z3_k=>k_is)
  (case z4_a=>k_is)
  (case z5_l=>exact Hd.zfA _)
  (case z6_o=>k_is)
  (case z7_k=>k_is)
  (case z8_a=>k_is)
  (case z9_l=>exact Hd.zhl _)
  (case z10_o=>k_is)
  (case z11_k=>k_is)
  (case z12_a=>k_is)
  (case z13_l=>exact Hd.zga _)
  (case z14_o=>k_is)
  (case z15_k=>k_is)
  (case z16_a=>k_is)
  (case z17_l=>exact Hd.zhk _)
  (case z18_o=>k_is)
  (case z19_k=>k_is)
  (case z20_a=>k_is)
  (case z21_l=>exact Hd.zla _)
  (case z22_o=>k_is)
  (case z23_k=>k_is)
  (case z24_a=>k_is)
  (case z25_l=>exact Hd.zmn _)
  (case z26_o=>k_is)
  (case z27_k=>k_is)
  (case z28_a=>k_is)
  (case z29_l=>exact Hd.zig _)
  (case z30_o=>k_is)
  (case z31_k=>k_is)
  (case z32_a=>k_is)
  (case z33_i=>k_is)
  (case z34_l=>exact Hd.zgG _)
  (case z35_o=>k_is)
  (case z36_k=>k_is)
  (case z37_a=>k_is)
  (case z38_i=>k_is)
  (case z39_l=>exact Hd.ziY _)
  (case z40_o=>k_is)
  (case z41_k=>k_is)
  (case z42_a=>k_is)
  (case z43_i=>k_is)
  (case z44_l=>exact Hd.zjR _)
  (case z45_o=>k_is)
  (case z46_k=>k_is)
  (case z47_a=>k_is)
  (case z48_l=>exact Hd.zp7 _)
  (case z49_o=>k_is)
  (case z50_k=>k_is)
  (case z51_a=>k_is)
  (case z52_l=>exact Hd.zp5 _)
  (case z53_o=>k_is)
  (case z54_k=>k_is)
  (case z55_a=>k_is)
  (case z56_l=>exact Hd.znW _)
  (case z57_o=>k_is)
  (case z58_k=>k_is)
  (case z59_a=>k_is)
  (case z60_l=>exact Hd.znV _)
  (case z61_o=>k_is)
  (case z62_k=>k_is)
  (case z63_a=>k_is)
  (case z64_l=>exact Hd.zp6 _)
  (case z65_o=>k_is)
  (case z66_k=>k_is)
  (case z67_a=>k_is)
  (case z68_l=>exact Hd.znU _)
  (case z69_o=>k_is)
  (case z70_k=>k_is)
  (case z71_a=>k_is)
  (case z72_l=>exact Hd.zjN _)
  (case z73_o=>k_is)
  (case z74_k=>k_is)
  (case z75_a=>k_is)
  (case z76_l=>exact Hd.zhi _)
  (case z77_o=>k_is)
  (case z78_k=>k_is)
  (case z79_a=>k_is)
  (case z80_l=>exact Hd.znY _)
  (case z81_o=>k_is)
  (case z82_k=>k_is)
  (case z83_a=>k_is)
  (case z84_l=>exact Hd.ziS _)
  (case z85_o=>k_is)
  (case z86_k=>k_is)
  (case z87_a=>k_is)
  (case z88_l=>exact Hd.zjM _)
  (case z89_o=>k_is)
  (case z90_k=>k_is)
  (case z91_a=>k_is)
  (case z92_l=>exact Hd.zhj _)
  (case z93_o=>k_is)
  (case z94_k=>k_is)
  (case z95_a=>k_is)
  (case z96_l=>exact Hd.zlb _)
  (case z97_o=>k_is)
  (case z98_k=>k_is)
  (case z99_a=>k_is)
  (case z100_l=>exact Hd.zmm _)
  (case z101_o=>k_is)
  (case z102_k=>k_is)
  (case z103_a=>k_is)
  (case z104_l=>exact Hd.ziT _)
  (case z105_o=>k_is)
  (case z106_k=>k_is)
  (case z107_a=>k_is)
  (case z108_l=>exact Hd.zfd _)
  (case z109_o=>k_is)
  (case z110_k=>k_is)
  (case z111_a=>k_is)
  (case z112_l=>exact Hd.zii _)
  (case z113_o=>k_is)
  (case z114_k=>k_is)
  (case z115_a=>k_is)
  (case z116_l=>exact Hd.zgC _)
  (case z117_o=>k_is)
  (case z118_k=>k_is)
  (case z119_a=>k_is)
  (case z120_l=>exact Hd.zgE _)
  (case z121_o=>k_is)
  (case z122_k=>k_is)
  (case z123_a=>k_is)
  (case z124_l=>exact Hd.ziW _)
  (case z125_o=>k_is)
  (case z126_k=>k_is)
  (case z127_a=>k_is)
  (case z128_l=>exact Hd.zil _)
  (case z129_o=>k_is)
  (case z130_k=>k_is)
  (case z131_a=>k_is)
  (case z132_l=>exact Hd.ziU _)
  (case z133_o=>k_is)
  (case z134_k=>k_is)
  (case z135_a=>k_is)
  (case z136_l=>exact Hd.ziV _)
  (case z137_o=>k_is)
  (case z138_k=>k_is)
  (case z139_a=>k_is)
  (case z140_l=>exact Hd.zim _)
  (case z141_o=>k_is)
  (case z142_k=>k_is)
  (case z143_a=>k_is)
  (case z144_i=>k_is)
  (case z145_l=>exact Hd.zfe _)
  (case z146_o=>k_is)
  (case z147_k=>k_is)
  (case z148_a=>k_is)
  (case z149_i=>k_is)
  (case z150_l=>exact Hd.zfC _)
  (case z151_o=>k_is)
  (case z152_k=>k_is)
  (case z153_a=>k_is)
  (case z154_l=>exact Hd.znX _)
  (case z155_o=>k_is)
  (case z156_k=>k_is)
  (case z157_a=>k_is)
  (case z158_l=>exact Hd.zhm _)
  (case z159_o=>k_is)
  (case z160_k=>k_is)
  (case z161_a=>k_is)
  (case z162_l=>exact Hd.zml _)
  (case z163_o=>k_is)
  (case z164_k=>k_is)
  (case z165_a=>k_is)
  (case z166_l=>exact Hd.zgb _)
  (case z167_o=>k_is)
  (case z168_k=>k_is)
  (case z169_a=>k_is)
  (case z170_l=>exact Hd.zhn _)
  (case z171_o=>k_is)
  (case z172_k=>k_is)
  (case z173_a=>k_is)
  (case z174_l=>exact Hd.zmk _)
  (case z175_o=>k_is)
  (case z176_k=>k_is)
  (case z177_a=>k_is)
  (case z178_l=>exact Hd.zkZ _)
  (case z179_o=>k_is)
  (case z180_k=>k_is)
  (case z181_a=>k_is)
  (case z182_l=>exact Hd.zjQ _)
  (case z183_o=>k_is)
  (case z184_k=>k_is)
  (case z185_a=>k_is)
  (case z186_l=>exact Hd.zih _)
  (case z187_o=>k_is)
  (case z188_k=>k_is)
  (case z189_a=>k_is)
  (case z190_l=>exact Hd.zjP _)
  (case z191_o=>k_is)
  (case z192_k=>k_is)
  (case z193_a=>k_is)
  (case z194_i=>k_is)
  (case z195_l=>exact Hd.zhp _)
  (case z196_o=>k_is)
  (case z197_k=>k_is)
  (case z198_a=>k_is)
  (case z199_i=>k_is)
  (case z200_l=>exact Hd.zhq _)
  (case z201_o=>k_is)
  (case z202_k=>k_is)
  (case z203_a=>k_is)
  (case z204_i=>k_is)
  (case z205_l=>exact Hd.zgF _)
  (case z206_o=>k_is)
  (case z207_k=>k_is)
  (case z208_a=>k_is)
  (case z209_l=>exact Hd.zfB _)
  (case z210_o=>k_is)
  (case z211_k=>k_is)
  (case z212_a=>k_is)
  (case z213_l=>exact Hd.zgD _)
  (case z214_o=>k_is)
  (case z215_k=>k_is)
  (case z216_a=>k_is)
  (case z217_l=>exact Hd.zik _)
  (case z218_o=>k_is)
  (case z219_k=>k_is)
  (case z220_a=>k_is)
  (case z221_l=>exact Hd.zho _)
  (case z222_o=>k_is)
  (case z223_k=>k_is)
  (case z224_a=>k_is)
  (case z225_l=>exact Hd.ziX _)
  (case z226_o=>k_is)
  (case z227_k=>k_is)
  (case z228_a=>k_is)
  (case z229_l=>exact Hd.zij _)
  (case z230_o=>k_is)
  (case z231_k=>k_is)
  (case z232_a=>k_is)
  (case z233_l=>exact Hd.zq7 _)
  (case z234_o=>k_is)
  (case z235_k=>k_is)
  (case z236_isinstance=>k_is)
  (case z237_int=>k_is)
  (case z238_bool=>k_is)
  (case z239_abs=>k_is)
  (case z240_len=>k_is)
  (case z241_tuple=>k_is)
  (case z242_list=>k_is)
  (case z243_min=>k_is)
  (case z244_max=>k_is)
  (case z245_range=>k_is)
  (case z246_all=>k_is)
  (case z247_sorted=>k_is)
  (case z248_enumerate=>k_is)
  (case z249_reversed=>k_is)
  (case z250_zip=>k_is)
  (case z251_sum=>k_is)
  (case z252_any=>k_is)
  (case z253_ValueError=>k_is)
  (case z254_MOST_PLACES=>k_is)
  (case z255_MOST_PIPES=>k_is)
  (case z256_MOST_IN_HARDNESS=>k_is)
  (case z257_pg=>k_is)
  (case z258_hd=>k_is)
  (case z259_po=>k_is)
  (case z260_sa=>k_is)
  (case z261_nsize=>k_is)
  (case z262_nlaid=>k_is)
  (case z263_pg=>k_is)
  (case z264_hd=>k_is)
  (case z265_po=>k_is)
  (case z266_sa=>k_is)
  (case z267_nflows=>k_is)
  (case z268_nheights=>k_is)
  (case z269_pg=>k_is)
  (case z270_hd=>k_is)
  (case z271_po=>k_is)
  (case z272_sa=>k_is)
  (case z273_nplaces=>k_is)
  (case z274_mk=>k_is)
  (case z275_kc=>k_is)
  (case z277_mk=>k_is)
  (case z278_kc=>k_is)
  (case z281_i=>kit_is)
  (case z282_i=>kit_is)
  (case z283_i=>kit_is)
  (case z284_i=>kit_is)
  (case z285_i=>kit_is)
  (case z286_i=>kit_is)
  (case z287_q=>k_is)
  (case z288_q=>k_is)
  (case z289_q=>k_is)
  (case z290_q=>k_is)
  (case z291_q=>k_is)
  (case z292_q=>k_is)
  (case z293_mk=>k_is)
  (case z294_kc=>k_is)
