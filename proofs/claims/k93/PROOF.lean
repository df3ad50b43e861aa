import PyProof.Rows.All
import Wide.All
import OpenK.AllK
import Wide.FinOn
import PyProof.EqAt
import PyProof.EqKinds
import PyProof.TupleCall
import Lean
import PySem.Challenge.RW_risemarks_k93_settings_and_lines_written
section
set_option Elab.async false
set_option linter.all false
set_option maxRecDepth 100000
set_option maxHeartbeats 4000000
namespace L2
open PySem PySem.Spec PyProof.Rows

abbrev Key:=Sum Int Str
def Dk:Key→Value→Bool
  | .inl k,v=>Value.isInt k v
  | .inr x,v=>Value.isStrOf x v
def Im (w:World):Key→Int
  | .inl k=>hashInt k
  | .inr x=>hashStr w x
theorem bT:∀ {k:Key} {v:Value},Dk k v=true→(∃ i t,k=Sum.inl i∧v=Value.int i t)∨(∃ x t,k=Sum.inr x∧v=Value.str x t)
  | .inl i,v,h=>by
    obtain ⟨t,e⟩:=Value.isInt_shape (k:=i) (v:=v) h
    exact .inl ⟨i,t,rfl,e⟩
  | .inr x,v,h=>by
    obtain ⟨t,e⟩:=Value.isStrOf_shape (x:=x) (v:=v) h
    exact .inr ⟨x,t,rfl,e⟩
theorem Eu (a b:Int):decide ((Sum.inl a:Key)=Sum.inl b)=(a == b):=by
  by_cases e:a=b
  · subst e;simp
  · have h:¬ (Sum.inl a:Key)=Sum.inl b:=fun q=>e (Sum.inl.inj q)
    rw [decide_eq_false h]
    exact (beq_eq_false_iff_ne.mpr e).symm
theorem Er (a b:Str):decide ((Sum.inr a:Key)=Sum.inr b)=decide (a=b):=by
  by_cases e:a=b
  · subst e;simp
  · have h:¬ (Sum.inr a:Key)=Sum.inr b:=fun q=>e (Sum.inr.inj q)
    rw [decide_eq_false h,decide_eq_false e]
theorem Et (a:Int) (b:Str):decide ((Sum.inl a:Key)=Sum.inr b)=false:=decide_eq_false (fun q=>nomatch q)
theorem Es (a:Str) (b:Int):decide ((Sum.inr a:Key)=Sum.inl b)=false:=decide_eq_false (fun q=>nomatch q)

def u0 (prog:Program) (w:World):PySem.KeyKind prog w Key where
  is:=Dk
  hash:=Im w
  inj:=fun v a b ha hb=>by
    rcases bT ha with ⟨i,t,rfl,rfl⟩ | ⟨x,t,rfl,rfl⟩
    · rcases bT hb with ⟨j,u,rfl,e⟩ | ⟨y,u,rfl,e⟩
      · injection e with e1 _;rw [e1]
      · exact nomatch e
    · rcases bT hb with ⟨j,u,rfl,e⟩ | ⟨y,u,rfl,e⟩
      · exact nomatch e
      · injection e with e1 _;rw [e1]
  byValue:=fun k v h=>by
    rcases bT h with ⟨i,t,rfl,rfl⟩ | ⟨x,t,rfl,rfl⟩ <;> rfl
  pyHash:=fun hv h=>by
    rcases bT hv with ⟨i,t,rfl,rfl⟩ | ⟨x,t,rfl,rfl⟩
    · exact wpAny_pyHash_int h
    · exact wpAny_pyHash_str h
  eqBool:=fun hu hv h=>by
    rcases bT hu with ⟨i,t,rfl,rfl⟩ | ⟨x,t,rfl,rfl⟩
    · rcases bT hv with ⟨j,u,rfl,rfl⟩ | ⟨y,u,rfl,rfl⟩
      · rw [Eu] at h;exact wpAny_eqBool_int h
      · rw [Et] at h;exact SeqAt.EqAt.int_str i t y u _ _ _ _ h
    · rcases bT hv with ⟨j,u,rfl,rfl⟩ | ⟨y,u,rfl,rfl⟩
      · rw [Es] at h;exact SeqAt.EqAt.str_int x t j u _ _ _ _ h
      · rw [Er] at h;exact wpAny_eqBool_str h
  «strs»:=fun k x t v h=>by
    rcases bT h with ⟨i,u,rfl,e⟩ | ⟨y,u,rfl,e⟩
    · exact nomatch e
    · injection e with e1 _
      subst e1
      cases v <;> rfl

end L2

namespace L2
open PySem PySem.Spec PyProof.Rows

inductive V where
  | non | bl (b:Bool) | int (i:Int) | str (x:Str) | byt (b:Array UInt8) | flt (b:UInt64) | ref (a:Addr) | ty (n:String)
  deriving DecidableEq

def RelV:V→Value→Prop
  | .non,u=>u=Value.none
  | .bl b,u=>u=Value.bool b
  | .int i,u=>∃ t,u=Value.int i t
  | .str x,u=>∃ t,u=Value.str x t
  | .byt b,u=>∃ t,u=Value.bytes b t
  | .flt b,u=>∃ t,u=Value.float b t
  | .ref a,u=>u=Value.ref a
  | .ty n,u=>u=Value.type n

abbrev Vals:List V→List Value→Prop:=Paired RelV
theorem Vals.length {xs:List V} {us:List Value} (r:Vals xs us):xs.length=us.length:=Paired.length r
theorem Vals.get:∀ {xs:List V} {us:List Value} {i:Nat} {x:V},Vals xs us→xs[i]?=some x→∃ u,us[i]?=some u∧RelV x u
  | _,_,_,_,.nil,e=>by simp at e
  | _,_,0,_,.cons r _,e=>by simp at e;subst e;exact ⟨_,rfl,r⟩
  | _,_,i+1,x,.cons _ t,e=>by
    obtain ⟨u,h1,h2⟩:=Vals.get (i:=i) (x:=x) t (by simpa using e)
    exact ⟨u,by simpa using h1,h2⟩
theorem Vals.set {x:V} {u:Value} (r:RelV x u):∀ {xs:List V} {us:List Value} (i:Nat),Vals xs us→Vals (xs.set i x) (us.set i u)
  | _,_,_,.nil=>.nil
  | _,_,0,.cons _ t=>.cons r t
  | _,_,i+1,.cons q t=>.cons q (Vals.set r i t)
theorem Vals.append:∀ {xs ys:List V} {us ws:List Value},Vals xs us→Vals ys ws→Vals (xs++ys) (us++ws)
  | _,_,_,_,.nil,s=>s
  | _,_,_,_,.cons r t,s=>.cons r (Vals.append t s)
theorem Vals.take:∀ {xs:List V} {us:List Value} (n:Nat),Vals xs us→Vals (xs.take n) (us.take n)
  | _,_,0,_=>.nil
  | _,_,_+1,.nil=>.nil
  | _,_,n+1,.cons r t=>.cons r (Vals.take n t)
theorem Vals.drop:∀ {xs:List V} {us:List Value} (n:Nat),Vals xs us→Vals (xs.drop n) (us.drop n)
  | _,_,0,r=>r
  | _,_,_+1,.nil=>.nil
  | _,_,n+1,.cons _ t=>Vals.drop n t
def jq:Option V→Option Value→Prop
  | some v,some u=>RelV v u
  | none,none=>True
  | _,_=>False
def KV {κ : Type}:List (κ×V)→List (κ×Value)→Prop:=Paired fun (p : κ×V) (q : κ×Value)=>p.1=q.1∧RelV p.2 q.2

def kV:Key→V
  | .inl i=>.int i
  | .inr x=>.str x

inductive HO where
    | lst (xs:List V)
    | tup (xs:List V)
    | dK (kvs:List (Key×V)) | dT (kvs:List (List Key×V))
    | set (S:Int→Bool) (n:Nat)
    | ins (C dx:Addr) (fs:List (Str×V))
    | own (x:Addr)
    | xd (fs:List (Str×V))
    | met (f x:Addr)
    | rng (lo hi:Int)
    | frz (o:Obj) (u:HO)
    | tbl (ps:Array Value)
    | ext (φ : Heap→Prop)

abbrev Hp:=Addr→Option HO
def upd (H:Hp) (a:Addr) (o:HO):Hp:=fun b=>if b=a then some o else H b
theorem ao {H:Hp} {a:Addr} {o:HO}:upd H a o a=some o:=by unfold upd;rw [if_pos rfl]
theorem aD {H:Hp} {a b:Addr} {o:HO} (h:b≠a):upd H a o b=H b:=by unfold upd;rw [if_neg h]
theorem fB {H:Hp} {a:Addr} {o u:HO}:upd (upd H a o) a u=upd H a u:=by
  funext b;unfold upd;split <;> rfl
theorem ay {H:Hp} {a b:Addr} {o:HO} (h:H a=some o) (h':H b=none):a≠b:=by
  intro e;subst e;rw [h] at h';cases h'

section
variable (P:Program) (w:World)
def bH (H:Hp) (h:Heap) (a:Addr):HO→Prop
  | .lst xs=>xs.length≤sizeLine∧∃ (its:List Value) (n:Nat),Vals xs its∧h.get? a=some { cls:=.type "list",data:=.seq its.toArray n }
  | .tup xs=>xs.length≤sizeLine∧∃ its:List Value,Vals xs its∧IsTup h a its.toArray
  | .dK kvs=>kvs.length≤sizeLine∧(a == sysModules)=false∧∃ vs,KV kvs vs∧h.DictOf (u0 P w) a vs
  | .dT kvs=>kvs.length≤sizeLine∧(a == sysModules)=false∧∃ xs:List (List Key×Addr×Value),
      Paired (fun (p:List Key×V) (q:List Key×Addr×Value)=>p.1=q.1∧H q.2.1=some (.tup (p.1.map kV))∧RelV p.2 q.2.2) kvs xs ∧
      ∃ o es ep,h.get? a=some o∧o.ExactDict∧o.data = .dict es ep∧es.toList=xs.map (entryOfKey (tupleKind (u0 P w)))∧(xs.map (·.1)).Nodup
  | .set S n=>h.SetOf (intKind P w) a S n
  | .ins C dx fs=>H dx=some (.own a)∧fs.length≤1000∧dx≠a∧h.get? a=some (PySem.W.instObj C dx) ∧
      ∃ mA,h.Ns1 dx mA∧(∀ f,jq (fs.lookup f) (mA f))∧PySem.Within mA (fs.map (·.1))
  | .own _=>∃ o,h.get? a=some o
  | .xd fs=>∃ mA,h.Ns1 a mA∧∀ f,jq (fs.lookup f) (mA f)
  | .rng lo hi=>∃ t u v,h.get? a=some { cls:=.type "range",data:=.fields #[.int lo t,.int hi u,.int 1 v] }
  | .frz o u=>h.get? a=some o∧bH H h a u
  | .tbl ps=>h.get? a=some { cls:=.none,data:=.fields ps }
  | .met f x=>h.get? a=some (PySem.W.methodObj (.ref f) (.ref x))
  | .ext φ=>φ h∧(∃ o,h.get? a=some o)∧∀ h1 h2:Heap,φ h1→(∀ o,h1.get? a=some o→h2.get? a=some o)→φ h2
def HOk (H:Hp) (h:Heap):Prop:=∀ a o,H a=some o→bH P w H h a o
end

section
variable {P:Program} {w:World} {H H':Hp} {h h':Heap} {a:Addr} {o:HO}
theorem bH.lt (x:bH P w H h a o):a < h.objs.size:=by
  cases o with
  | lst xs=>obtain ⟨_,_,_,_,e⟩:=x;exact Heap.lt_size e
  | tup xs=>obtain ⟨_,_,_,p⟩:=x;exact p.lt
  | dK kvs=>obtain ⟨_,_,_,_,o,_,_,e,_⟩:=x;exact Heap.lt_size e
  | dT kvs=>obtain ⟨_,_,_,_,o,_,_,e,_⟩:=x;exact Heap.lt_size e
  | set S n=>obtain ⟨o,_,_,_,e,_⟩:=x;exact Heap.lt_size e
  | ins C dx fs=>obtain ⟨_,_,_,e,_⟩:=x;exact Heap.lt_size e
  | own y=>obtain ⟨_,e⟩:=x;exact Heap.lt_size e
  | xd fs=>obtain ⟨_,⟨_,_,_,e,_⟩,_⟩:=x;exact Heap.lt_size e
  | rng lo hi=>obtain ⟨_,_,_,e⟩:=x;exact Heap.lt_size e
  | frz ob u=>obtain ⟨e,_⟩:=x;exact Heap.lt_size e
  | tbl ps=>exact Heap.lt_size (show h.get? a=some _ from x)
  | met f y=>exact Heap.lt_size (show h.get? a=some _ from x)
  | ext φ=>obtain ⟨_,⟨_,e⟩,_⟩:=x;exact Heap.lt_size e
theorem Paired.Gi {α β : Type} {F G : α→β→Prop}:∀ {l₁ : List α} {l₂ : List β},Paired F l₁ l₂→(∀ a b,F a b→G a b)→Paired G l₁ l₂
  | _,_,.nil,_=>.nil
  | _,_,.cons r t,f=>.cons (f _ _ r) (Paired.Gi t f)
theorem bH.stay (x:bH P w H h a o) (k:∀ b u,(b=a∨H b=some (.own a))→h.get? b=some u→h'.get? b=some u)
    (ho:∀ b,H b=some (.own a)→H' b=some (.own a)) (ht:∀ b xs,H b=some (.tup xs)→H' b=some (.tup xs)):bH P w H' h' a o:=by
  induction o with
  | lst xs=>obtain ⟨z,its,n,r,e⟩:=x;exact ⟨z,its,n,r,k _ _ (.inl rfl) e⟩
  | tup xs=>obtain ⟨z,its,r,ob,e,c⟩:=x;exact ⟨z,its,r,ob,k _ _ (.inl rfl) e,c⟩
  | dK kvs=>obtain ⟨z,y,vs,r,ob,es,ep,e,c⟩:=x;exact ⟨z,y,vs,r,ob,es,ep,k _ _ (.inl rfl) e,c⟩
  | dT kvs=>
    obtain ⟨z,y,xs,r,ob,es,ep,e,c⟩:=x
    exact ⟨z,y,xs,Paired.Gi r fun p q z=>⟨z.1,ht _ _ z.2.1,z.2.2⟩,ob,es,ep,k _ _ (.inl rfl) e,c⟩
  | set S n=>obtain ⟨ob,es,ep,t,e,c⟩:=x;exact ⟨ob,es,ep,t,k _ _ (.inl rfl) e,c⟩
  | ins C dx fs=>
    obtain ⟨d,z,ne,e,mA,⟨od,es,ep,e2,c⟩,r⟩:=x
    exact ⟨ho _ d,z,ne,k _ _ (.inl rfl) e,mA,⟨od,es,ep,k _ _ (.inr d) e2,c⟩,r⟩
  | own y=>obtain ⟨ob,e⟩:=x;exact ⟨ob,k _ _ (.inl rfl) e⟩
  | xd fs=>obtain ⟨mA,⟨od,es,ep,e,c⟩,r⟩:=x;exact ⟨mA,⟨od,es,ep,k _ _ (.inl rfl) e,c⟩,r⟩
  | rng lo hi=>obtain ⟨t,u,v,e⟩:=x;exact ⟨t,u,v,k _ _ (.inl rfl) e⟩
  | frz ob u ih=>obtain ⟨e,q⟩:=x;exact ⟨k _ _ (.inl rfl) e,ih q⟩
  | tbl ps=>
    have e:h.get? a=some { cls:=.none,data:=.fields ps }:=x
    show h'.get? a=some { cls:=.none,data:=.fields ps }
    exact k a _ (.inl rfl) e
  | met f y=>
    have e:h.get? a=some (PySem.W.methodObj (.ref f) (.ref y)):=x
    show h'.get? a=some (PySem.W.methodObj (.ref f) (.ref y))
    exact k a _ (.inl rfl) e
  | ext φ=>obtain ⟨p,⟨o,e⟩,st⟩:=x;exact ⟨st _ _ p fun o q=>k _ _ (.inl rfl) q,⟨o,k _ _ (.inl rfl) e⟩,st⟩
theorem HOk.lt (x:HOk P w H h) (e:H a=some o):a < h.objs.size:=(x a o e).lt
theorem HOk.fresh (x:HOk P w H h) (e:h.objs.size≤a):H a=none:=by
  cases q:H a with
  | none=>rfl
  | some u=>exact absurd (Nat.lt_of_lt_of_le (x.lt q) e) (Nat.lt_irrefl _)
theorem HOk.kept (x:HOk P w H h) (k:∀ b u,h.get? b=some u→h'.get? b=some u):HOk P w H h':=fun a o e=>
  (x a o e).stay (fun b u _ q=>k b u q) (fun _ q=>q) fun _ _ q=>q
theorem HOk.laid (x:HOk P w H h) (k:∀ b u,h.get? b=some u→h'.get? b=some u) (hp:h.objs.size≤a) (new:bH P w (upd H a o) h' a o):HOk P w (upd H a o) h':=fun b u e=>by
  have hn:=x.fresh hp
  by_cases hb:b=a
  · subst hb;rw [ao] at e;cases e;exact new
  · rw [aD hb] at e
    exact (x b u e).stay (fun c v _ q=>k c v q) (fun c q=>by rw [aD (ay q hn)];exact q) fun c xs q=>by rw [aD (ay q hn)];exact q
end

def Rd (H:Hp) (a:Addr) (u:HO):Prop:=H a=some u∨∃ o,H a=some (.frz o u)
theorem Rd.of {H:Hp} {a:Addr} {u:HO} (h:H a=some u):Rd H a u:=.inl h
theorem Rd.ok {P:Program} {w:World} {H:Hp} {h:Heap} {a:Addr} {u:HO} (r:Rd H a u) (x:HOk P w H h):bH P w H h a u:=by
  rcases r with r | ⟨o,r⟩
  · exact x a u r
  · obtain ⟨_,q⟩:=x a _ r
    exact q
def Mut:Option HO→Prop
  | some (.lst _)=>True
  | some (.dK _)=>True
  | some (.dT _)=>True
  | some (.set _ _)=>True
  | some (.ins _ _ _)=>True
  | some (.ext _)=>True
  | _=>False
section
variable {P:Program} {w:World} {H:Hp} {h h':Heap} {x e:Addr} {o':HO}
theorem HOk.write (ok:HOk P w H h) (mu:Mut (H x)) (he:e=x∨H e=some (.own x)) (k:∀ b u,b≠e→h.get? b=some u→h'.get? b=some u) (heo:∃ u,h'.get? e=some u)
    (new:bH P w (upd H x o') h' x o'):HOk P w (upd H x o') h':=fun b u q=>by
  have Gg:∀ c y,H c=some (.own y)→c≠x:=fun c y r z=>by subst z;rw [r] at mu;exact mu
  have Ih:∀ c xs,H c=some (.tup xs)→c≠x:=fun c xs r z=>by subst z;rw [r] at mu;exact mu
  by_cases hb:b=x
  · subst hb;rw [ao] at q;cases q;exact new
  · rw [aD hb] at q
    by_cases hbe:b=e
    · have q':H b=some (.own x):=by
        rcases he with z | z
        · exact absurd (hbe.trans z) hb
        · rw [hbe];exact z
      rw [q] at q';cases q'
      obtain ⟨v,hv⟩:=heo
      exact ⟨v,by rw [hbe];exact hv⟩
    · refine (ok b u q).stay (fun c v hc r=>k c v ?_ r) (fun c r=>by rw [aD (Gg c b r)];exact r) fun c xs r=>by rw [aD (Ih c xs r)];exact r
      rcases hc with rfl | hc
      · exact hbe
      · rintro rfl
        rcases he with z | z
        · exact Gg c b hc z
        · rw [hc] at z;cases z;exact hb rfl
end

structure Un (fs ex:List Addr) (H H':Hp) (h h':Heap):Prop where
  keep:∀ b o,h.get? b=some o→H b=none→b∉fs→b∉ex→h'.get? b=some o
  slot:∀ b o,h.get? b=some o→H b=none→b∈fs→b∉ex→∃ sl,h'.get? b=some { o with slots:=sl }
  free:∀ b o,h.get? b=some o→H b=none→b∉ex→H' b=none
  there:∀ b o,h.get? b=some o→b∉ex→∃ o',h'.get? b=some o'
  tups:∀ b xs,H b=some (.tup xs)→H' b=some (.tup xs)
  gn:∀ b o u,H b=some (.frz o u)→H' b=some (.frz o u)
  ia:∀ b ps,H b=some (.tbl ps)→∃ more,H' b=some (.tbl (ps++more))
section
variable {fs fs' ex ex':List Addr} {H H1 H2:Hp} {h h1 h2 h':Heap} {a x e:Addr} {o:HO}
theorem Un.any (u:Un fs ex H H1 h h1) {b:Addr} {ob:Obj} (q:h.get? b=some ob) (n:H b=none) (hx:b∉ex):∃ sl,h1.get? b=some { ob with slots:=sl }:=by
  by_cases hb:b∈fs
  · exact u.slot b ob q n hb hx
  · exact ⟨ob.slots,u.keep b ob q n hb hx⟩
theorem Un.trans (a:Un fs ex H H1 h h1) (b:Un fs ex H1 H2 h1 h2):Un fs ex H H2 h h2 where
  keep:=fun c ob q n hc hx=>b.keep c ob (a.keep c ob q n hc hx) (a.free c ob q n hx) hc hx
  slot:=fun c ob q n hc hx=>by
    obtain ⟨sl,e1⟩:=a.slot c ob q n hc hx
    obtain ⟨sl',e2⟩:=b.slot c _ e1 (a.free c ob q n hx) hc hx
    exact ⟨sl',e2⟩
  free:=fun c ob q n hx=>by
    obtain ⟨o',e1⟩:=a.there c ob q hx
    exact b.free c o' e1 (a.free c ob q n hx) hx
  there:=fun c ob q hx=>by
    obtain ⟨o',e1⟩:=a.there c ob q hx
    exact b.there c o' e1 hx
  tups:=fun c xs q=>b.tups c xs (a.tups c xs q)
  gn:=fun c ob xs q=>b.gn c ob xs (a.gn c ob xs q)
  ia:=fun c ps q=>by
    obtain ⟨m1,e1⟩:=a.ia c ps q
    obtain ⟨m2,e2⟩:=b.ia c _ e1
    exact ⟨m1++m2,by rw [e2,Array.append_assoc]⟩
theorem Un.kept (k:∀ b u,h.get? b=some u→h'.get? b=some u):Un fs ex H H h h':=
  ⟨fun b ob q _ _ _=>k b ob q,fun b ob q _ _ _=>⟨ob.slots,k b ob q⟩,fun _ _ _ n _=>n,fun b ob q _=>⟨ob,k b ob q⟩,fun _ _ q=>q,fun _ _ _ q=>q,fun _ ps q=>⟨#[],by rw [q];simp⟩⟩
theorem Un.refl:Un fs ex H H h h:=Un.kept fun _ _ q=>q
theorem Un.laid (k:∀ b u,h.get? b=some u→h'.get? b=some u) (hp:h.objs.size≤a) (hn:H a=none):Un fs ex H (upd H a o) h h' where
  keep:=fun b u q _ _ _=>k b u q
  slot:=fun b u q _ _ _=>⟨u.slots,k b u q⟩
  free:=fun b u q n _=>by rw [aD (Nat.ne_of_lt (Nat.lt_of_lt_of_le (Heap.lt_size q) hp))];exact n
  there:=fun b u q _=>⟨u,k b u q⟩
  tups:=fun b xs q=>by rw [aD (ay q hn)];exact q
  gn:=fun b u xs q=>by rw [aD (ay q hn)];exact q
  ia:=fun b ps q=>⟨#[],by rw [aD (ay q hn),q];simp⟩
theorem Un.write (mu:Mut (H x)) (he:e=x∨H e=some (.own x)) (k:∀ b u,b≠e→h.get? b=some u→h'.get? b=some u) (heo:∃ u,h'.get? e=some u):Un fs ex H (upd H x o) h h':=by
  have hx:∀ b,H b=none→b≠x:=fun b n z=>by subst z;rw [n] at mu;exact mu
  have hb:∀ b,H b=none→b≠e:=fun b n z=>by
    subst z
    rcases he with r | r
    · exact hx b n r
    · rw [n] at r;cases r
  have hm:∀ b u,H b=some u→¬ Mut (some u)→b≠x:=fun b u q nm z=>by subst z;rw [q] at mu;exact nm mu
  refine ⟨fun b u q n _ _=>k b u (hb b n) q,fun b u q n _ _=>⟨u.slots,k b u (hb b n) q⟩,fun b u q n _=>by rw [aD (hx b n)];exact n,fun b u q _=>?_,
    fun b xs q=>by rw [aD (hm b _ q fun z=>z)];exact q,fun b u xs q=>by rw [aD (hm b _ q fun z=>z)];exact q,fun b ps q=>⟨#[],by rw [aD (hm b _ q fun z=>z),q];simp⟩⟩
  by_cases hbe:b=e
  · subst hbe;exact heo
  · exact ⟨u,k b u hbe q⟩
end

def trk (h:Heap) (H:Hp):List Addr:=(List.range h.objs.size).filter fun a=>(H a).isSome
def pF (h:Heap) (H:Hp):Heap:=PySem.W.hideAll h (trk h H)
theorem wR (h:Heap) (H:Hp):(pF h H).objs.size=h.objs.size:=PySem.W.hideAll_size _ _
theorem zR {h:Heap} {H:Hp} {b:Addr} {o:Obj} (e:h.get? b=some o) (n:H b=none):(pF h H).get? b=some o:=
  PySem.W.hideAll_get _ e fun hm=>by
    have q:(H b).isSome=true:=(List.mem_filter.mp hm).2
    rw [n] at q;simp at q
theorem BG {h:Heap} {H:Hp} {b:Addr} {o:Obj} (e:(pF h H).get? b=some o):h.get? b=some o∧H b=none:=by
  have e':h.get? b=some o:=PySem.W.of_hideAll (trk h H) e
  refine ⟨e',?_⟩
  cases q:H b with
  | none=>rfl
  | some x=>
    have hm:b∈trk h H:=List.mem_filter.mpr ⟨List.mem_range.mpr (Heap.lt_size e'),by simp [q]⟩
    have z:(pF h H).get? b=none:=PySem.W.hideAll_none (trk h H) hm
    rw [z] at e;cases e

end L2

namespace L2
open PySem PySem.Spec PyProof.Rows

structure Mod (K:PySem.W.Frag) (mg:Str→Option Value) (base:Heap):Prop where
  kin:K.In base
  glob:base.Ns mainGlobals mg
  blt:∃ mb,base.Ns builtinsNs mb∧∀ x:Str,x ≠ "__name__" → mb x=bootBuiltins x
  nolimit:base.NoLimit

structure Cx where
  prog:Program
  w:World
  K:PySem.W.Frag
  mg:Str→Option Value
  base:Heap
  A:Around
  N:List Str
  s₀ : Shared
  H₀ : Hp
  env:Env
  outer:List Env
  stack:List Env
  ex:List Addr
  fn:Str→Bool
  calm:Bool
  pn:List (Addr×Obj)
  xe:Value→Shared→Prop
def frs (l:List Env):List Addr:=l.filterMap (·.frame)
abbrev Cx.fs (X:Cx):List Addr:=frs X.outer

def Vis (sc:Scope) (x:Str):Prop:=sc.names.lookup x=some .local∨sc.names.lookup x=some .cell∨sc.names.lookup x=some .free
def Loc (sc:Scope) (x:Str):Prop:=sc.names.lookup x=some .local∨sc.names.lookup x=some .cell
def Look (env:Env) (h:Heap) (m:Str→Option Value) (x:Str) (u:Value):Prop:=
  (env.kindOf x=some .local∧m x=some u)∨((env.kindOf x=some .cell∨env.kindOf x=some .free)∧∃ c,env.cells.lookup x=some c∧h.IsCell c (some u))

structure Cx.Ok (X:Cx):Prop where
  mod:Mod X.K X.mg X.base
  kind:X.env.scope.kind = .function
  glob:X.env.globals=mainGlobals
  blt:X.env.builtins=builtinsNs
  above:X.s₀.heap.objs.size≤X.env.locals
  inj:∀ x y c,X.env.cells.lookup x=some c→X.env.cells.lookup y=some c→x=y
  has:∀ x,(X.env.kindOf x=some .cell∨X.env.kindOf x=some .free)→∃ c,X.env.cells.lookup x=some c
  cab:∀ x c,X.fn x=true→X.env.cells.lookup x=some c→X.s₀.heap.objs.size≤c
  hd:X.calm=true→X.A.handled=none
  frames:X.A.frames=some X.stack
  stk:X.stack=X.outer∨(X.stack=X.env::X.outer∧X.env.frame=some X.env.locals)
  exf:∀ b∈X.ex,b≠X.env.locals∧∀ x c,X.env.cells.lookup x=some c→c≠b
  bs:∀ b o,X.base.get? b=some o→X.s₀.heap.get? b=some o∧X.H₀ b=none
  bsz:X.base.objs.size≤X.s₀.heap.objs.size
  noex:∀ b o,X.base.get? b=some o→b∉X.ex
  exfs:∀ b∈X.ex,b∉X.fs
  iL:X.s₀.heap.FunFrames X.base X.outer
  frf:∀ b∈X.fs,X.H₀ b=none

structure Inv (X:Cx) (pins:List (Addr×Obj)) (σ : List (Option V)) (H:Hp) (s:Shared):Prop where
  ok:X.Ok
  os:s.os=X.s₀.os
  bare:AllBare s.gens
  base:Un X.fs X.ex X.H₀ H X.s₀.heap s.heap
  loc:∃ m,s.heap.Ns X.env.locals m∧∀ (i:Nat) (x:Str) (v:V),X.N[i]?=some x→σ[i]?=some (some v)→Vis X.env.scope x→∃ u,RelV v u∧Look X.env s.heap m x u
  cell:∀ x c,X.env.cells.lookup x=some c→∃ v,s.heap.IsCell c v
  free:H X.env.locals=none
  freeC:∀ x c,X.env.cells.lookup x=some c→H c=none
  pin:∀ p∈X.pn++pins,s.heap.get? p.1=some p.2∧H p.1=none∧p.1≠X.env.locals∧p.1∉X.fs∧∀ v,p.2.data≠.cell v
  hok:HOk X.prog X.w H s.heap
  len : σ.length=X.N.length

section
variable {X:Cx} {pins:List (Addr×Obj)} {σ : List (Option V)} {H H':Hp} {s:Shared} {h':Heap}

theorem Cx.Ok.Ij (ok:X.Ok) {b:Addr} {o:Obj} (e:X.base.get? b=some o):b∉X.fs:=fun hb=>by
  have:=(ok.iL.mem hb).1
  rw [e] at this;cases this
theorem Inv.bs (I:Inv X pins σ H s):∀ b o,X.base.get? b=some o→s.heap.get? b=some o∧H b=none:=fun b o e=>
  ⟨I.base.keep b o (I.ok.bs b o e).1 (I.ok.bs b o e).2 (I.ok.Ij e) (I.ok.noex b o e),I.base.free b o (I.ok.bs b o e).1 (I.ok.bs b o e).2 (I.ok.noex b o e)⟩
theorem Inv.bk (I:Inv X pins σ H s):∀ b o,X.base.get? b=some o→s.heap.get? b=some o:=fun b o e=>(I.bs b o e).1
theorem Inv.mod (I:Inv X pins σ H s):Mod X.K X.mg X.base:=I.ok.mod
theorem Inv.kIn (I:Inv X pins σ H s):X.K.In s.heap:=I.ok.mod.kin.keeps I.bk
theorem Inv.lt (I:Inv X pins σ H s):X.env.locals < s.heap.objs.size:=let ⟨_,hn,_⟩:=I.loc;hn.lt
theorem Inv.sz (I:Inv X pins σ H s):X.s₀.heap.objs.size≤s.heap.objs.size:=Nat.le_trans I.ok.above (Nat.le_of_lt I.lt)
theorem Inv.Gh (I:Inv X pins σ H s) {a:Addr} (h:s.heap.objs.size≤a):a∉X.fs:=fun hb=>by
  obtain ⟨_,o,ho,_⟩:=I.ok.iL.mem hb
  exact absurd (Nat.lt_of_lt_of_le (Heap.lt_size ho) (Nat.le_trans I.sz h)) (Nat.lt_irrefl _)
theorem Inv.cne (I:Inv X pins σ H s):∀ x c,X.env.cells.lookup x=some c→c≠X.env.locals:=fun x c e z=>by
  obtain ⟨v,o,ho,hd⟩:=I.cell x c e
  obtain ⟨m,⟨o',es,ep,ho',hd',_⟩,_⟩:=I.loc
  rw [z,ho'] at ho;cases ho;rw [hd'] at hd;cases hd
theorem Inv.iL (I:Inv X pins σ H s):s.heap.FunFrames X.base X.outer:=by
  have all:∀ (l:List Env),(∀ b∈frs l,b∈X.fs)→X.s₀.heap.FunFrames X.base l→s.heap.FunFrames X.base l:=by
    intro l
    induction l with
    | nil=>intro _ _;trivial
    | cons env r ih=>
      intro hs hl
      obtain ⟨hk,⟨L,o,hf,hn,ho,hd⟩,hr⟩:=hl
      have hL:L∈X.fs:=hs L (by unfold frs;rw [List.filterMap_cons,hf];exact List.mem_cons_self)
      obtain ⟨sl,e⟩:=I.base.slot L o ho (I.ok.frf L hL) hL fun z=>I.ok.exfs L z hL
      exact ⟨hk,⟨L,_,hf,hn,e,hd⟩,ih (fun b hb=>hs b (by unfold frs;rw [List.filterMap_cons,hf];exact List.mem_cons_of_mem _ hb)) hr⟩
  exact all X.outer (fun _ hb=>hb) I.ok.iL

theorem Inv.stack (I:Inv X pins σ H s):s.heap.FunFrames X.base X.stack:=by
  rcases I.ok.stk with e | ⟨e,hf⟩
  · rw [e];exact I.iL
  · rw [e]
    obtain ⟨m,hn,_⟩:=I.loc
    refine .cons (by rw [I.ok.kind];decide) hf hn ?_ I.iL
    exact Heap.get?_none_of_le (Nat.le_trans I.ok.bsz I.ok.above)
theorem Inv.oA (I:Inv X pins σ H s):∀ b∈frs X.stack,b∈X.env.locals::X.fs:=fun b hb=>by
  rcases I.ok.stk with e | ⟨e,hf⟩
  · rw [e] at hb;exact List.mem_cons_of_mem _ hb
  · rw [e] at hb
    unfold frs at hb
    rw [List.filterMap_cons,hf] at hb
    exact hb
theorem Inv.oB (I:Inv X pins σ H s):∀ b∈frs X.stack,H b=none:=fun b hb=>by
  rcases List.mem_cons.mp (I.oA b hb) with e | hb
  · rw [e];exact I.free
  · obtain ⟨_,o,ho,_⟩:=I.ok.iL.mem hb
    exact I.base.free b o ho (I.ok.frf b hb) fun z=>I.ok.exfs b z hb

theorem Inv.step {g':Array GenState} {t':Nat} {d':Drawn} {ch:List Addr} (I:Inv X pins σ H s)
    (hch:∀ b∈ch,(b∈X.ex∨X.s₀.heap.objs.size≤b)∧b≠X.env.locals∧(∀ x c,X.env.cells.lookup x=some c→c≠b)∧∀ p∈X.pn++pins,p.1≠b)
    (keep:∀ b o,b≠X.env.locals→b∉X.fs→b∉ch→s.heap.get? b=some o→H b=none→h'.get? b=some o)
    (slot:∀ b o,b≠X.env.locals→b∈X.fs→b∉ch→s.heap.get? b=some o→H b=none→∃ sl,h'.get? b=some { o with slots:=sl }) (free:∀ b o,b∉ch→s.heap.get? b=some o→H b=none→H' b=none)
    (there:∀ b o,b∉ch→s.heap.get? b=some o→∃ o',h'.get? b=some o')
    (tups:∀ b xs,H b=some (.tup xs)→H' b=some (.tup xs)) (gn:∀ b o u,H b=some (.frz o u)→H' b=some (.frz o u)) (ia:∀ b ps,H b=some (.tbl ps)→∃ more,H' b=some (.tbl (ps++more)))
    (ns:∀ m,s.heap.Ns X.env.locals m→h'.Ns X.env.locals m) (hok:HOk X.prog X.w H' h') (hg:AllBare g') :
    Inv X pins σ H' { s with heap:=h',gens:=g',drawn:=d',toks:=t' }:=by
  have neL:∀ b o,X.s₀.heap.get? b=some o→b≠X.env.locals:=fun b o e=>Nat.ne_of_lt (Nat.lt_of_lt_of_le (Heap.lt_size e) I.ok.above)
  have neC:∀ b o,X.s₀.heap.get? b=some o→b∉X.ex→b∉ch:=fun b o e hx hb=>by
    rcases (hch b hb).1 with z | z
    · exact hx z
    · exact absurd (Nat.lt_of_lt_of_le (Heap.lt_size e) z) (Nat.lt_irrefl _)
  have cellK:∀ x c,X.env.cells.lookup x=some c→∀ v,s.heap.IsCell c v→h'.IsCell c v:=fun x c e v ⟨o,ho,hd⟩=>by
    have nch:c∉ch:=fun z=>(hch c z).2.2.1 x c e rfl
    by_cases hc:c∈X.fs
    · obtain ⟨sl,q⟩:=slot c o (I.cne x c e) hc nch ho (I.freeC x c e)
      exact ⟨_,q,hd⟩
    · exact ⟨o,keep c o (I.cne x c e) hc nch ho (I.freeC x c e),hd⟩
  refine ⟨I.ok,I.os,hg,⟨fun b o e n hb hx=>?_,fun b o e n hb hx=>?_,fun b o e n hx=>?_,fun b o e hx=>?_,fun b xs e=>tups b xs (I.base.tups b xs e),fun b o xs e=>gn b o xs (I.base.gn b o xs e),fun b ps e=>?_⟩,?_,fun x c e=>?_,?_,fun x c e=>?_,fun p hp=>?_,hok,I.len⟩
  · exact keep b o (neL b o e) hb (neC b o e hx) (I.base.keep b o e n hb hx) (I.base.free b o e n hx)
  · obtain ⟨sl,e1⟩:=I.base.slot b o e n hb hx
    obtain ⟨sl',e2⟩:=slot b _ (neL b o e) hb (neC b o e hx) e1 (I.base.free b o e n hx)
    exact ⟨sl',e2⟩
  · obtain ⟨o',e1⟩:=I.base.there b o e hx
    exact free b o' (neC b o e hx) e1 (I.base.free b o e n hx)
  · obtain ⟨o',e1⟩:=I.base.there b o e hx
    exact there b o' (neC b o e hx) e1
  · obtain ⟨m1,e1⟩:=I.base.ia b ps e
    obtain ⟨m2,e2⟩:=ia b _ e1
    exact ⟨m1++m2,by rw [e2,Array.append_assoc]⟩
  · obtain ⟨m,hn,hl⟩:=I.loc
    refine ⟨m,ns m hn,fun i x v e1 e2 e3=>?_⟩
    obtain ⟨u,r,l⟩:=hl i x v e1 e2 e3
    refine ⟨u,r,?_⟩
    rcases l with l | ⟨k,c,e,z⟩
    · exact .inl l
    · exact .inr ⟨k,c,e,cellK x c e _ z⟩
  · obtain ⟨v,z⟩:=I.cell x c e
    exact ⟨v,cellK x c e v z⟩
  · obtain ⟨m,⟨o,_,_,ho,_⟩,_⟩:=I.loc
    exact free _ o (fun z=>(hch _ z).2.1 rfl) ho I.free
  · obtain ⟨v,o,ho,hd⟩:=I.cell x c e
    exact free c o (fun z=>(hch c z).2.2.1 x c e rfl) ho (I.freeC x c e)
  · obtain ⟨e,n,ne,nf,d⟩:=I.pin p hp
    have nch:p.1∉ch:=fun z=>(hch p.1 z).2.2.2 p hp rfl
    exact ⟨keep p.1 p.2 ne nf nch e n,free p.1 p.2 nch e n,ne,nf,d⟩
theorem Inv.un {t':Nat} (I:Inv X pins σ H s) (u:Un X.fs [] H H' s.heap h') (hok:HOk X.prog X.w H' h'):Inv X pins σ H' { s with heap:=h',toks:=t' }:=by
  obtain ⟨m,⟨o,es,ep,ho,r⟩,_⟩:=id I.loc
  obtain ⟨sl,hL⟩:=u.any ho I.free (by simp)
  exact I.step (g':=s.gens) (d':=s.drawn) (ch:=[]) (fun _ z=>nomatch z) (fun b o _ hb _ e n=>u.keep b o e n hb (by simp)) (fun b o _ hb _ e n=>u.slot b o e n hb (by simp)) (fun b o _ e n=>u.free b o e n (by simp)) (fun b o _ e=>u.there b o e (by simp)) u.tups u.gn u.ia (fun m' hm=>by
    obtain ⟨o',es',ep',ho',r'⟩:=hm
    rw [ho] at ho';cases ho'
    exact ⟨_,es',ep',hL,r'⟩) hok I.bare
theorem Inv.call {g':Array GenState} {t':Nat} {d':Drawn} {ch:List Addr} (I:Inv X pins σ H s) (u:Un (frs X.stack) ch H H' s.heap h') (hok:HOk X.prog X.w H' h') (hg:AllBare g')
    (hch:∀ b∈ch,(b∈X.ex∨X.s₀.heap.objs.size≤b)∧b≠X.env.locals∧(∀ x c,X.env.cells.lookup x=some c→c≠b)∧∀ p∈X.pn++pins,p.1≠b) :
    Inv X pins σ H' { s with heap:=h',gens:=g',drawn:=d',toks:=t' }:=by
  obtain ⟨m,⟨o,es,ep,ho,r⟩,_⟩:=id I.loc
  obtain ⟨sl,hL⟩:=u.any ho I.free fun z=>(hch _ z).2.1 rfl
  exact I.step (ch:=ch) hch (fun b o hL hb hc e n=>u.keep b o e n (fun z=>(List.mem_cons.mp (I.oA b z)).elim hL hb) hc) (fun b o _ _ hc e n=>u.any e n hc) (fun b o hc e n=>u.free b o e n hc) (fun b o hc e=>u.there b o e hc) u.tups u.gn u.ia (fun m' hm=>by
    obtain ⟨o',es',ep',ho',r'⟩:=hm
    rw [ho] at ho';cases ho'
    exact ⟨_,es',ep',hL,r'⟩) hok hg
theorem Inv.turned {t':Nat} {it:Addr} (I:Inv X pins σ H s) (k:∀ b o,b≠it→s.heap.get? b=some o→h'.get? b=some o) (hn:H it=none) (hL:it≠X.env.locals)
    (h1:it∈X.ex∨X.s₀.heap.objs.size≤it) (h2:∀ x c,X.env.cells.lookup x=some c→c≠it) (h3:∀ p∈X.pn++pins,p.1≠it):Inv X pins σ H { s with heap:=h',toks:=t' }:=by
  have nit:∀ b u,H b=some u→b≠it:=fun b u e z=>by rw [z,hn] at e;cases e
  refine I.step (g':=s.gens) (d':=s.drawn) (ch:=[it]) (fun b hb=>?_) (fun b o _ _ hc e _=>k b o (fun z=>hc (by simp [z])) e) (fun b o _ _ hc e _=>⟨o.slots,k b o (fun z=>hc (by simp [z])) e⟩) (fun _ _ _ _ n=>n)
    (fun b o hc e=>⟨o,k b o (fun z=>hc (by simp [z])) e⟩) (fun _ _ e=>e) (fun _ _ _ e=>e) (fun b ps e=>⟨#[],by rw [e];simp⟩) (fun m hm=>?_) (fun b u e=>?_) I.bare
  · have e:b=it:=by simpa using hb
    subst e
    exact ⟨h1,hL,h2,h3⟩
  · obtain ⟨o,es,ep,ho,r⟩:=hm
    exact ⟨o,es,ep,k _ o (Ne.symm hL) ho,r⟩
  · refine (I.hok b u e).stay (fun c v hc q=>k c v ?_ q) (fun _ q=>q) fun _ _ q=>q
    rcases hc with z | z
    · rw [z];exact nit b u e
    · exact nit c _ z
theorem Inv.tok (I:Inv X pins σ H s) (t:Nat):Inv X pins σ H { s with toks:=t }:=I.un (h':=s.heap) (t':=t) Un.refl I.hok
theorem Inv.kept {t':Nat} (I:Inv X pins σ H s) (k:∀ b u,s.heap.get? b=some u→h'.get? b=some u):Inv X pins σ H { s with heap:=h',toks:=t' }:=I.un (Un.kept k) (I.hok.kept k)
theorem Inv.laid {a:Addr} {o:HO} {t':Nat} (I:Inv X pins σ H s) (k:∀ b u,s.heap.get? b=some u→h'.get? b=some u) (hp:s.heap.objs.size≤a) (new:bH X.prog X.w (upd H a o) h' a o) :
    Inv X pins σ (upd H a o) { s with heap:=h',toks:=t' }:=I.un (Un.laid k hp (I.hok.fresh hp)) (I.hok.laid k hp new)
theorem Inv.write {x e:Addr} {o:HO} {t':Nat} (I:Inv X pins σ H s) (mu:Mut (H x)) (he:e=x∨H e=some (.own x)) (k:∀ b u,b≠e→s.heap.get? b=some u→h'.get? b=some u) (heo:∃ u,h'.get? e=some u)
    (new:bH X.prog X.w (upd H x o) h' x o):Inv X pins σ (upd H x o) { s with heap:=h',toks:=t' }:=I.un (Un.write mu he k heo) (I.hok.write mu he k heo new)
theorem Inv.gQ {lB:List (Addr×Obj)} (I:Inv X pins σ H s) (h:∀ p∈lB,s.heap.get? p.1=some p.2∧H p.1=none∧p.1≠X.env.locals∧p.1∉X.fs∧∀ v,p.2.data≠.cell v):Inv X lB σ H s:=
  ⟨I.ok,I.os,I.bare,I.base,I.loc,I.cell,I.free,I.freeC,fun p hp=>(List.mem_append.mp hp).elim (fun z=>I.pin p (List.mem_append_left _ z)) (h p),I.hok,I.len⟩

theorem qP {N:List Str} (hN:N.Nodup) {i j:Nat} {x:Str} (a:N[i]?=some x) (b:N[j]?=some x):i=j:=by
  obtain ⟨h1,e1⟩:=List.getElem?_eq_some_iff.mp a
  obtain ⟨h2,e2⟩:=List.getElem?_eq_some_iff.mp b
  exact (List.getElem_inj hN).mp (e1.trans e2.symm)

theorem mV {M:Model} {A:Around} {E:Value→Shared→Prop} {i:Nat} {x:Str} {v:V} {u:Value} {Q:Unit→Shared→Prop} (I:Inv X pins σ H s) (hN:X.N.Nodup) (hi:X.N[i]?=some x) (hx:Loc X.env.scope x) (r:RelV v u)
    (h:∀ s',Inv X pins (σ.set i (some v)) H s'→(∃ a,Heap.SameBut a s.heap s'.heap∧(a=X.env.locals∨X.env.cells.lookup x=some a))→Q () s') (hf:X.fn x=true∨X.env.scope.names.lookup x=some .local:=by first | exact .inl rfl | exact .inr rfl | assumption):wpAny M A (storeName X.env x u) Q E s:=by
  obtain ⟨m,hn,hl⟩:=id I.loc
  have hcls:(X.env.scope.kind == .class || (X.env.scope.kind == .module && X.env.locals != X.env.globals))=false:=by rw [I.ok.kind];rfl
  have hiσ : i < σ.length:=by rw [I.len];exact (List.getElem?_eq_some_iff.mp hi).1
  have cne:=I.cne
  have tracked:∀ {a:Addr} {h':Heap},(∃ o,s.heap.get? a=some o∧H a=none)→Heap.SameBut a s.heap h'→HOk X.prog X.w H h':=fun {a h'} ha hs b ob e=>by
    obtain ⟨_,_,hfree⟩:=ha
    refine (I.hok b ob e).stay (fun c w' hc q=>(hs.2 c ?_).trans q) (fun _ q=>q) fun _ _ q=>q
    rintro rfl
    rcases hc with rfl | hc
    · rw [hfree] at e;cases e
    · rw [hfree] at hc;cases hc
  rcases hx with hk | hk
  · refine wpAny_storeName_local hk hn (fun h' hn' hs=>?_) hcls
    obtain ⟨oL,_,_,hoL,_⟩:=id hn
    refine h _ ⟨I.ok,I.os,I.bare,⟨fun b o e n hb hx=>?_,fun b o e n hb hx=>?_,I.base.free,fun b o e hx=>?_,I.base.tups,I.base.gn,I.base.ia⟩,⟨_,hn',fun j y v' e1 e2 e3=>?_⟩,fun y c e=>?_,I.free,I.freeC,fun p hp=>?_,tracked ⟨oL,hoL,I.free⟩ hs,by simpa using I.len⟩ ⟨_,hs,.inl rfl⟩
    · exact (hs.2 b (Nat.ne_of_lt (Nat.lt_of_lt_of_le (Heap.lt_size e) I.ok.above))).trans (I.base.keep b o e n hb hx)
    · obtain ⟨sl,e1⟩:=I.base.slot b o e n hb hx
      exact ⟨sl,(hs.2 b (Nat.ne_of_lt (Nat.lt_of_lt_of_le (Heap.lt_size e) I.ok.above))).trans e1⟩
    · obtain ⟨o',e1⟩:=I.base.there b o e hx
      exact ⟨o',(hs.2 b (Nat.ne_of_lt (Nat.lt_of_lt_of_le (Heap.lt_size e) I.ok.above))).trans e1⟩
    · by_cases hj:j=i
      · subst hj
        rw [hi] at e1;cases e1
        rw [List.getElem?_set_self hiσ] at e2
        cases e2
        exact ⟨u,r,.inl ⟨hk,by simp⟩⟩
      · rw [List.getElem?_set_ne (Ne.symm hj)] at e2
        obtain ⟨u',r',q⟩:=hl j y v' e1 e2 e3
        refine ⟨u',r',?_⟩
        rcases q with ⟨k,e⟩ | ⟨k,c,e,z⟩
        · refine .inl ⟨k,?_⟩
          have:y≠x:=fun e=>hj (qP hN e1 (e▸hi))
          simp [this,e]
        · exact .inr ⟨k,c,e,z.sameBut hs (cne y c e)⟩
    · obtain ⟨w',z⟩:=I.cell y c e
      exact ⟨w',z.sameBut hs (cne y c e)⟩
    · obtain ⟨e,n,ne,nf,d⟩:=I.pin p hp
      exact ⟨(hs.2 p.1 ne).trans e,n,ne,nf,d⟩
  · have hfn:X.fn x=true:=by
      rcases hf with z | z
      · exact z
      · rw [z] at hk;cases hk
    obtain ⟨c,hc⟩:=I.ok.has x (.inl hk)
    obtain ⟨w',z⟩:=I.cell x c hc
    refine wpAny_storeName_cell I.ok.kind hk hc z (fun h' hc' hs=>?_)
    obtain ⟨oc,hoc,hocd⟩:=id z
    refine h { s with heap:=h' } ⟨I.ok,I.os,I.bare,⟨fun b o e n hb hx=>?_,fun b o e n hb hx=>?_,I.base.free,fun b o e hx=>?_,I.base.tups,I.base.gn,I.base.ia⟩,⟨m,hn.sameBut hs (Ne.symm (cne x c hc)),fun j y v' e1 e2 e3=>?_⟩,fun y c' e=>?_,I.free,I.freeC,fun p hp=>?_,tracked ⟨oc,hoc,I.freeC x c hc⟩ hs,by simpa using I.len⟩ ⟨c,hs,.inr hc⟩
    · exact (hs.2 b (Nat.ne_of_lt (Nat.lt_of_lt_of_le (Heap.lt_size e) (I.ok.cab x c hfn hc)))).trans (I.base.keep b o e n hb hx)
    · obtain ⟨sl,e1⟩:=I.base.slot b o e n hb hx
      exact ⟨sl,(hs.2 b (Nat.ne_of_lt (Nat.lt_of_lt_of_le (Heap.lt_size e) (I.ok.cab x c hfn hc)))).trans e1⟩
    · obtain ⟨o',e1⟩:=I.base.there b o e hx
      exact ⟨o',(hs.2 b (Nat.ne_of_lt (Nat.lt_of_lt_of_le (Heap.lt_size e) (I.ok.cab x c hfn hc)))).trans e1⟩
    · by_cases hj:j=i
      · subst hj
        rw [hi] at e1;cases e1
        rw [List.getElem?_set_self hiσ] at e2
        cases e2
        exact ⟨u,r,.inr ⟨.inl hk,c,hc,hc'⟩⟩
      · rw [List.getElem?_set_ne (Ne.symm hj)] at e2
        obtain ⟨u',r',q⟩:=hl j y v' e1 e2 e3
        refine ⟨u',r',?_⟩
        rcases q with q | ⟨k,c',e,z'⟩
        · exact .inl q
        · refine .inr ⟨k,c',e,z'.sameBut hs ?_⟩
          rintro rfl
          exact hj (qP hN e1 (I.ok.inj _ _ _ e hc▸hi))
    · by_cases hcc:c'=c
      · subst hcc;exact ⟨_,hc'⟩
      · obtain ⟨w2,z2⟩:=I.cell y c' e
        exact ⟨w2,z2.sameBut hs hcc⟩
    · obtain ⟨e,n,ne,nf,d⟩:=I.pin p hp
      refine ⟨(hs.2 p.1 ?_).trans e,n,ne,nf,d⟩
      intro q
      rw [q,hoc] at e
      have q':oc=p.2:=Option.some.inj e
      exact d w' (by rw [← q'];exact hocd)
theorem iR {M:Model} {A:Around} {E:Value→Shared→Prop} {i:Nat} {x:Str} {v:V} {u:Value} {Q:Unit→Shared→Prop} (I:Inv X pins σ H s) (hN:X.N.Nodup) (hi:X.N[i]?=some x) (hx:Loc X.env.scope x) (r:RelV v u)
    (h:∀ s',Inv X pins (σ.set i (some v)) H s'→Q () s') (hf:X.fn x=true∨X.env.scope.names.lookup x=some .local:=by first | exact .inl rfl | exact .inr rfl | assumption):wpAny M A (storeName X.env x u) Q E s:=
  mV I hN hi hx r (fun s' I' _=>h s' I') hf
theorem Inv.Au {s':Shared} {ch:List Addr} (I:Inv X pins σ H s) (ho:s'.os=s.os) (u:Un (frs X.stack) ch H H' s.heap s'.heap) (hok:HOk X.prog X.w H' s'.heap) (hg:AllBare s'.gens)
    (hch:∀ b∈ch,(b∈X.ex∨X.s₀.heap.objs.size≤b)∧b≠X.env.locals∧(∀ x c,X.env.cells.lookup x=some c→c≠b)∧∀ p∈X.pn++pins,p.1≠b):Inv X pins σ H' s':=by
  obtain ⟨h',g',d',t',o'⟩:=s'
  have e:o'=s.os:=ho
  subst e
  exact I.call (g':=g') (t':=t') (d':=d') u hok hg hch
end

abbrev XK:=Value→Option Addr→Hp→Prop
abbrev St:=List (Option V)
abbrev VK:=V→Hp→Prop
abbrev TE:=St→Hp→VK→Prop
abbrev TT:=St→Hp→(Bool→Hp→Prop)→Prop
abbrev TA:=St→Hp→(List V→Hp→Prop)→Prop
structure Ends where
  nx:St→Hp→Prop
  rt:VK
  bk:St→Hp→Prop:=fun _ _=>False
  ct:St→Hp→Prop:=fun _ _=>False
abbrev TS:=Ends→St→Hp→Prop

def EP (X:Cx) (pins:List (Addr×Obj)) (σ : St) (Q:VK) (u:Value) (s':Shared):Prop:=∃ v H',Inv X pins σ H' s'∧RelV v u∧Q v H'
def TP (X:Cx) (pins:List (Addr×Obj)) (σ : St) (Q:Bool→Hp→Prop) (b:Bool) (s':Shared):Prop:=∃ H',Inv X pins σ H' s'∧Q b H'
def AP (X:Cx) (pins:List (Addr×Obj)) (σ : St) (Q:List V→Hp→Prop) (us:List Value) (s':Shared):Prop:=∃ vs H',Inv X pins σ H' s'∧Vals vs us∧Q vs H'
def SP (X:Cx) (pins:List (Addr×Obj)) (D:Ends) (f:Flow) (s':Shared):Prop:=
  match f with
  | .next=>∃ σ' H',Inv X pins σ' H' s'∧D.nx σ' H'
  | .brk=>∃ σ' H',Inv X pins σ' H' s'∧D.bk σ' H'
  | .cont=>∃ σ' H',Inv X pins σ' H' s'∧D.ct σ' H'
  | .ret u=>∃ v σ' H',Inv X pins σ' H' s'∧RelV v u∧D.rt v H'

def PE (X:Cx) (e:Expr) (t:TE):Prop:=
  ∀ (pins:List (Addr×Obj)) (s:Shared) (σ : St) (H:Hp) (Q:VK),Inv X pins σ H s→t σ H Q→wpAny (model X.prog X.w) X.A (eval e X.env) (EP X pins σ Q) X.xe s
def PT (X:Cx) (e:Expr) (t:TT):Prop:=
  ∀ (pins:List (Addr×Obj)) (s:Shared) (σ : St) (H:Hp) (Q:Bool→Hp→Prop),Inv X pins σ H s→t σ H Q→wpAny (model X.prog X.w) X.A (isTrue e X.env (eval e X.env)) (TP X pins σ Q) X.xe s
def PW (X:Cx) (e:Expr) (t:TT):Prop:=
  ∀ (whole:Sem Value) (pins:List (Addr×Obj)) (s:Shared) (σ : St) (H:Hp) (Q:Bool→Hp→Prop),Inv X pins σ H s→t σ H Q→wpAny (model X.prog X.w) X.A (isTrue e X.env whole) (TP X pins σ Q) X.xe s
theorem PW.pt {X:Cx} {e:Expr} {t:TT} (h:PW X e t):PT X e t:=h _
def PA (X:Cx) (es:List Expr) (t:TA):Prop:=
  ∀ (pos:Pos) (pins:List (Addr×Obj)) (s:Shared) (σ : St) (H:Hp) (Q:List V→Hp→Prop),Inv X pins σ H s→t σ H Q→wpAny (model X.prog X.w) X.A (spliced (backTo pos (starEach es X.env))) (AP X pins σ Q) X.xe s
def PS (X:Cx) (st:Stmt) (t:TS):Prop:=
  ∀ (pins:List (Addr×Obj)) (s:Shared) (σ : St) (H:Hp) (D:Ends),Inv X pins σ H s→t D σ H→wpAny (model X.prog X.w) X.A (exec st X.env) (SP X pins D) X.xe s
def PSs (X:Cx) (st:List Stmt) (t:TS):Prop:=
  ∀ (pins:List (Addr×Obj)) (s:Shared) (σ : St) (H:Hp) (D:Ends),Inv X pins σ H s→t D σ H→wpAny (model X.prog X.w) X.A (execs st X.env) (SP X pins D) X.xe s
theorem thn {α : Type} {t:Sem α} {Q Q' : α→Shared→Prop} {M:Model} {A:Around} {E:Value→Shared→Prop} {s:Shared} (h:wpAny M A t Q E s) (hQ:∀ a s,Q a s→Q' a s):wpAny M A t Q' E s:=wpAny_mono h hQ fun _ _ x=>x
end L2

namespace L2
open PySem PySem.Spec PyProof.Rows
section
variable {X:Cx}

def DH (i:Nat):TE:=fun σ H Q=>∃ v,σ[i]?=some (some v)∧Q v H
def tC (v:V):TE:=fun _ H Q=>Q v H
theorem D7 {i:Nat} {x:Str} {pos:Pos} (hN:X.N[i]?=some x) (hv:Vis X.env.scope x) (hd:(x == ("__debug__" : Str))=false:=by decide) (hcd:(x == ("__classdict__" : Str))=false:=by decide):PE X (.Name x pos) (DH i):=by
  intro pins s σ H Q I h
  obtain ⟨v,e,h⟩:=h
  obtain ⟨m,hn,hl⟩:=I.loc
  obtain ⟨u,r,l⟩:=hl i x v hN e hv
  have fin:EP X pins σ Q u s:=⟨v,H,I,r,h⟩
  rcases l with ⟨hk,hm⟩ | ⟨hk,c,hc,hcell⟩
  · exact wpAny_Name (wpAny_loadName_local I.ok.kind hk hn hm fin) hd
  · rcases hk with hk | hk
    · exact wpAny_Name (wpAny_loadName_cell I.ok.kind hk hc hcell fin) hd
    · exact wpAny_Name (wpAny_loadName_free I.ok.kind hk hc hcell fin hcd) hd
theorem ah {i j pos}:PE X (.Constant (.int i) j pos) (tC (.int i)):=fun _ _ _ H _ I h=>wpAny_Constant_int ⟨.int i,H,I.tok _,⟨_,rfl⟩,h⟩
theorem cO {b j pos}:PE X (.Constant (.bool b) j pos) (tC (.bl b)):=fun _ _ _ H _ I h=>Constant_bool ⟨.bl b,H,I,rfl,h⟩
theorem D9 {j pos}:PE X (.Constant .none j pos) (tC .non):=fun _ _ _ H _ I h=>Constant_none ⟨.non,H,I,rfl,h⟩
theorem aq {x j pos}:PE X (.Constant (.str x) j pos) (tC (.str x)):=fun _ _ _ H _ I h=>Calls.Constant_str ⟨.str x,H,I.tok _,⟨_,rfl⟩,h⟩

def Gl (X:Cx) (x:Str):Prop:=X.env.kindOf x=some .globalImplicit
theorem cQ {E:Value→Shared→Prop} {pins:List (Addr×Obj)} {s:Shared} {σ : St} {H:Hp} {x:Str} {u:Value} {pos:Pos} {Q:Value→Shared→Prop} (I:Inv X pins σ H s) (hg:Gl X x) (hm:X.mg x=some u) (h:Q u s)
    (hd:(x == ("__debug__" : Str))=false:=by decide):wpAny (model X.prog X.w) X.A (eval (.Name x pos) X.env) Q E s:=
  Calls.Name_function_global I.ok.kind hg (Calls.loadGlobal_global (by rw [I.ok.glob];exact I.mod.glob.keeps I.bk) hm h) hd
theorem gj {E:Value→Shared→Prop} {pins:List (Addr×Obj)} {s:Shared} {σ : St} {H:Hp} {x:Str} {u:Value} {pos:Pos} {Q:Value→Shared→Prop} (I:Inv X pins σ H s) (hg:Gl X x) (hm:X.mg x=none) (hv:bootBuiltins x=some u) (h:Q u s)
    (hn:x ≠ "__name__" := by decide) (hd:(x == ("__debug__" : Str))=false:=by decide):wpAny (model X.prog X.w) X.A (eval (.Name x pos) X.env) Q E s:=by
  obtain ⟨mb,h1,h2⟩:=I.mod.blt
  exact Calls.Name_function_global I.ok.kind hg (Calls.loadGlobal_builtin (by rw [I.ok.glob];exact I.mod.glob.keeps I.bk) hm (by rw [I.ok.blt];exact h1.keeps I.bk) ((h2 x hn).trans hv) h) hd
theorem Bq {x:Str} {v:V} {u:Value} {pos:Pos} (hg:Gl X x) (hm:X.mg x=some u) (r:RelV v u) (hd:(x == ("__debug__" : Str))=false:=by decide):PE X (.Name x pos) (tC v):=
  fun _ _ _ H _ I h=>cQ I hg hm ⟨v,H,I,r,h⟩ hd
theorem o9 {x:Str} {v:V} {u:Value} {pos:Pos} (hg:Gl X x) (hm:X.mg x=none) (hv:bootBuiltins x=some u) (r:RelV v u) (hn:x ≠ "__name__" := by decide) (hd:(x == ("__debug__" : Str))=false:=by decide):PE X (.Name x pos) (tC v):=
  fun _ _ _ H _ I h=>gj I hg hm hv ⟨v,H,I,r,h⟩ hn hd

variable {a b:Expr} {ta tb:TE} {pos:Pos}
def PC (X:Cx) (op:CmpOp) (a b:Expr) (t:TE):Prop:=
  ∀ (pins:List (Addr×Obj)) (s:Shared) (σ : St) (H:Hp) (Q:VK),Inv X pins σ H s→t σ H Q →
    wpAny (model X.prog X.w) X.A (eval a X.env) (fun v s₁=>wpAny (model X.prog X.w) X.A (eval b X.env) (fun u s₂=>wpAny (model X.prog X.w) X.A (compareOp op v u) (EP X pins σ Q) X.xe s₂) X.xe s₁) X.xe s
theorem lF (b:Expr) {op:CmpOp} (h:op≠.In) (h2:op≠.NotIn):behindInMarks op b=false:=by
  have e1:(op == CmpOp.In)=false:=by cases op <;> first | rfl | exact absurd rfl h
  have e2:(op == CmpOp.NotIn)=false:=by cases op <;> first | rfl | exact absurd rfl h2
  cases b <;> simp [behindInMarks,e1,e2]
def FN (ta:TE):TE:=fun σ H Q=>ta σ H fun x H1=>Q (.bl (decide (x = .non))) H1
theorem RelV.zG {x:V} {v:Value} (r:RelV x v):(v == Value.none)=decide (x = .non):=by
  cases x with
  | non=>cases r;rfl
  | bl _=>cases r;rfl
  | int _=>obtain ⟨t,rfl⟩:=r;rfl
  | str _=>obtain ⟨t,rfl⟩:=r;rfl
  | byt _=>obtain ⟨t,rfl⟩:=r;rfl
  | flt _=>obtain ⟨t,rfl⟩:=r;rfl
  | ref _=>cases r;rfl
  | ty _=>cases r;rfl
theorem zd {j pos'} (ha:PE X a ta):PC X .Is a (.Constant .none j pos') (FN ta):=by
  intro pins s σ H Q I h
  refine thn (ha pins s σ H _ I h) fun v s1 ⟨x,H1,I1,r1,q1⟩=>?_
  exact Constant_none (is_none_gen ⟨.bl _,H1,I1,by rw [r1.zG];rfl,q1⟩)
def tB (t:TE):TT:=fun σ H Q=>t σ H fun x H1=>∃ c,x = .bl c∧Q c H1
theorem yU {op:CmpOp} {t:TE} (h:PC X op a b t) (h1:behindInMarks op b=false:=by first | exact lF _ (by decide) (by decide) | rfl):PT X (.Compare a [op] [b] pos) (tB t):=by
  intro pins s σ H Q I hw
  refine wpAny_isTrue_Compare1 (thn (h pins s σ H _ I hw) fun v s1 h1=>thn h1 fun u s2 h2=>thn h2 fun c s3 ⟨x,H1,I1,r1,q1⟩=>?_) h1
  obtain ⟨d,rfl,q⟩:=q1
  cases r1
  exact wpAny_truthy_bool ⟨H1,I1,q⟩
theorem cH {e:Expr} {t:TE} (h:PE X e t) (he:∀ whole,isTrue e X.env whole=(do let v ← whole;standAt e.pos;holding [v] (truthy v)):=by intro _;rfl):PT X e (tB t):=by
  intro pins s σ H Q I hw
  refine isTrue_plain (thn (h pins s σ H _ I hw) fun v s1 ⟨x,H1,I1,r1,q1⟩=>?_) (he _)
  obtain ⟨d,rfl,q⟩:=q1
  cases r1
  exact wpAny_truthy_bool ⟨H1,I1,q⟩

variable {tA tB':TT} {rest:List Expr}
def FT (t u:TT):TT:=fun σ H Q=>t σ H fun c H1=>if c=true then u σ H1 Q else Q false H1
def tOr (t u:TT):TT:=fun σ H Q=>t σ H fun c H1=>if c=true then Q true H1 else u σ H1 Q
def FJ (t:TT):TT:=fun σ H Q=>t σ H fun c H1=>Q (!c) H1
theorem oX (ha:PT X a tA):PW X (.BoolOp .And [a] pos) tA:=by
  intro wh pins s σ H Q I h
  refine isTrue_and (thn (ha pins s σ H Q I h) fun c s1 e=>?_)
  cases c with
  | true=>exact isTrue_and_nil e
  | false=>exact e
theorem iD (ha:PT X a tA):PW X (.BoolOp .Or [a] pos) tA:=by
  intro wh pins s σ H Q I h
  refine isTrue_or (thn (ha pins s σ H Q I h) fun c s1 e=>?_)
  cases c with
  | false=>exact isTrue_or_nil e
  | true=>exact e
theorem sV (ha:PT X a tA) (hb:PW X (.BoolOp .And (b::rest) pos) tB'):PW X (.BoolOp .And (a::b::rest) pos) (FT tA tB'):=by
  intro wh pins s σ H Q I h
  refine isTrue_and (thn (ha pins s σ H _ I h) fun c s1 ⟨H1,I1,q1⟩=>?_)
  cases c with
  | true=>exact hb wh pins s1 σ H1 Q I1 q1
  | false=>exact ⟨H1,I1,q1⟩
theorem j6 (ha:PT X a tA) (hb:PW X (.BoolOp .Or (b::rest) pos) tB'):PW X (.BoolOp .Or (a::b::rest) pos) (tOr tA tB'):=by
  intro wh pins s σ H Q I h
  refine isTrue_or (thn (ha pins s σ H _ I h) fun c s1 ⟨H1,I1,q1⟩=>?_)
  cases c with
  | true=>exact ⟨H1,I1,q1⟩
  | false=>exact hb wh pins s1 σ H1 Q I1 q1
theorem cB (ha:PT X a tA):PT X (.UnaryOp .Not a pos) (FJ tA):=by
  intro pins s σ H Q I h
  exact isTrue_not (ha pins s σ H (fun c H1=>Q (!c) H1) I h)
def C5 (ta tb:TE):TE:=fun σ H Q=>ta σ H fun x H1=>∃ c,x = .bl c∧if c=true then tb σ H1 Q else Q (.bl false) H1
def FI (ta tb:TE):TE:=fun σ H Q=>ta σ H fun x H1=>∃ c,x = .bl c∧if c=true then Q (.bl true) H1 else tb σ H1 Q
def C2 (ta:TE):TE:=fun σ H Q=>ta σ H fun x H1=>∃ c,x = .bl c∧Q (.bl (!c)) H1
theorem f7 {op} {t:TE} (h:PE X a t):PE X (.BoolOp op [a] pos) t:=fun pins s σ H Q I hw=>BoolOp_one (h pins s σ H Q I hw)
theorem iH (ha:PE X a ta) (hb:PE X (.BoolOp .And (b::rest) pos) tb):PE X (.BoolOp .And (a::b::rest) pos) (C5 ta tb):=by
  intro pins s σ H Q I h
  refine BoolOp_and (thn (ha pins s σ H _ I h) fun v s1 ⟨x,H1,I1,r1,q1⟩=>?_)
  obtain ⟨c,rfl,q1⟩:=q1
  cases r1
  refine wpAny_truthy_bool ?_
  cases c with
  | true=>exact hb pins s1 σ H1 Q I1 q1
  | false=>exact ⟨.bl false,H1,I1,rfl,q1⟩
theorem Ga (ha:PE X a ta) (hb:PE X (.BoolOp .Or (b::rest) pos) tb):PE X (.BoolOp .Or (a::b::rest) pos) (FI ta tb):=by
  intro pins s σ H Q I h
  refine BoolOp_or (thn (ha pins s σ H _ I h) fun v s1 ⟨x,H1,I1,r1,q1⟩=>?_)
  obtain ⟨c,rfl,q1⟩:=q1
  cases r1
  refine wpAny_truthy_bool ?_
  cases c with
  | false=>exact hb pins s1 σ H1 Q I1 q1
  | true=>exact ⟨.bl true,H1,I1,rfl,q1⟩
theorem D8 (ha:PE X a ta):PE X (.UnaryOp .Not a pos) (C2 ta):=by
  intro pins s σ H Q I h
  refine UnaryOp_ (thn (ha pins s σ H _ I h) fun v s1 ⟨x,H1,I1,r1,q1⟩=>?_)
  obtain ⟨c,rfl,q1⟩:=q1
  cases r1
  exact not_of (wpAny_truthy_bool ⟨.bl (!c),H1,I1,rfl,q1⟩)
def tIf (t:TT) (ta tb:TE):TE:=fun σ H Q=>t σ H fun c H1=>if c=true then ta σ H1 Q else tb σ H1 Q
theorem lC {c:Expr} (hc:PT X c tA) (ha:PE X a ta) (hb:PE X b tb):PE X (.IfExp c a b pos) (tIf tA ta tb):=by
  intro pins s σ H Q I h
  refine wpAny_IfExp (thn (hc pins s σ H _ I h) fun d s1 ⟨H1,I1,q1⟩=>?_)
  cases d with
  | true=>exact ha pins s1 σ H1 Q I1 q1
  | false=>exact hb pins s1 σ H1 Q I1 q1
end
end L2

namespace L2
open PySem PySem.Spec PyProof.Rows

def SqL (K:PySem.W.Frag) (H:Hp) (a:Addr) (xs:List V):Prop:=
  Rd H a (.lst xs) ∨
    ∃ (o:Obj) (its:Array Value) (n:Nat),K.lookup a=some o∧o.cls = .type "list" ∧ o.dict=none∧o.data = .seq its n∧its.size≤sizeLine∧Vals xs its.toList
def SqT (K:PySem.W.Frag) (H:Hp) (a:Addr) (xs:List V):Prop:=
  Rd H a (.tup xs) ∨
    ∃ (o:Obj) (its:Array Value) (n:Nat),K.lookup a=some o∧o.cls = .type "tuple" ∧ o.data = .seq its n∧its.size≤sizeLine∧Vals xs its.toList
def II:Value→Option V
  | .none=>some .non
  | .bool b=>some (.bl b)
  | .int i _=>some (.int i)
  | .str x _=>some (.str x)
  | .bytes b _=>some (.byt b)
  | .float b _=>some (.flt b)
  | .ref a=>some (.ref a)
  | .type n=>some (.ty n)
  | _=>none
theorem RelV.abs {x:V} {u:Value} (r:RelV x u):II u=some x:=by
  cases x with
  | non=>cases r;rfl
  | bl _=>cases r;rfl
  | int _=>obtain ⟨t,rfl⟩:=r;rfl
  | str _=>obtain ⟨t,rfl⟩:=r;rfl
  | byt _=>obtain ⟨t,rfl⟩:=r;rfl
  | flt _=>obtain ⟨t,rfl⟩:=r;rfl
  | ref _=>cases r;rfl
  | ty _=>cases r;rfl
theorem RelV.inj {x y:V} {u:Value} (r:RelV x u) (q:RelV y u):x=y:=Option.some.inj (r.abs.symm.trans q.abs)
theorem Vals.inj:∀ {xs ys:List V} {us:List Value},Vals xs us→Vals ys us→xs=ys
  | _,_,_,.nil,.nil=>rfl
  | _,_,_,.cons r t,.cons r' t'=>by rw [r.inj r',Vals.inj t t']
section
variable {X:Cx} {pins:List (Addr×Obj)} {σ : St} {H:Hp} {s:Shared} {a:Addr} {xs ys:List V}
theorem SqL.of {K:PySem.W.Frag} (h:H a=some (.lst xs)):SqL K H a xs:=.inl (.inl h)
theorem SqT.of {K:PySem.W.Frag} (h:H a=some (.tup xs)):SqT K H a xs:=.inl (.inl h)
theorem Inv.list (I:Inv X pins σ H s) (h:SqL X.K H a xs):∃ its:List Value,Vals xs its∧PlainL s.heap a its.toArray∧xs.length≤sizeLine:=by
  rcases h with h | ⟨o,its,n,hk,hc,hd,hs,hz,r⟩
  · obtain ⟨z,its,n,r,e⟩:=h.ok I.hok
    exact ⟨its,r,⟨_,n,e,rfl,rfl,rfl⟩,z⟩
  · refine ⟨its.toList,r,⟨o,n,I.kIn a o hk,hc,hd,by simpa using hs⟩,?_⟩
    have e:=r.length
    simp only [Array.length_toList] at e
    omega
theorem Inv.tuple (I:Inv X pins σ H s) (h:SqT X.K H a xs):∃ its:List Value,Vals xs its∧IsTup s.heap a its.toArray∧xs.length≤sizeLine:=by
  rcases h with h | ⟨o,its,n,hk,hc,hs,hz,r⟩
  · obtain ⟨z,its,r,p⟩:=h.ok I.hok
    exact ⟨its,r,p,z⟩
  · refine ⟨its.toList,r,⟨o,I.kIn a o hk,hc,n,by simpa using hs⟩,?_⟩
    have e:=r.length
    simp only [Array.length_toList] at e
    omega
theorem Inv.lH (I:Inv X pins σ H s) (h:SqL X.K H a xs) (h':SqL X.K H a ys):xs=ys:=by
  obtain ⟨its,r,⟨o,n,e,_,_,d⟩,_⟩:=I.list h
  obtain ⟨its',r',⟨o',n',e',_,_,d'⟩,_⟩:=I.list h'
  rw [e] at e';cases e'
  rw [d] at d'
  injection d' with d1 _
  have:its=its':=by simpa using congrArg Array.toList d1
  subst this
  exact r.inj r'
theorem Inv.jx (I:Inv X pins σ H s) (h:SqT X.K H a xs) (h':SqT X.K H a ys):xs=ys:=by
  obtain ⟨its,r,⟨o,e,_,n,d⟩,_⟩:=I.tuple h
  obtain ⟨its',r',⟨o',e',_,n',d'⟩,_⟩:=I.tuple h'
  rw [e] at e';cases e'
  rw [d] at d'
  injection d' with d1 _
  have:its=its':=by simpa using congrArg Array.toList d1
  subst this
  exact r.inj r'
end

abbrev Cx.eZ (X:Cx) (E:Value→Shared→Prop):Cx:={ X with xe:=E }
abbrev Cx.nox (X:Cx):Cx:=X.eZ fun _ _=>False
theorem Cx.Ok.eZ {X:Cx} (ok:X.Ok) (E:Value→Shared→Prop):(X.eZ E).Ok:=
  ⟨ok.mod,ok.kind,ok.glob,ok.blt,ok.above,ok.inj,ok.has,ok.cab,ok.hd,ok.frames,ok.stk,ok.exf,ok.bs,ok.bsz,ok.noex,ok.exfs,ok.iL,ok.frf⟩
theorem Cx.Ok.ck {X:Cx} {E:Value→Shared→Prop} (ok:(X.eZ E).Ok):X.Ok:=
  ⟨ok.mod,ok.kind,ok.glob,ok.blt,ok.above,ok.inj,ok.has,ok.cab,ok.hd,ok.frames,ok.stk,ok.exf,ok.bs,ok.bsz,ok.noex,ok.exfs,ok.iL,ok.frf⟩
section
variable {X:Cx} {pins:List (Addr×Obj)} {σ : St} {H:Hp} {s:Shared} {E:Value→Shared→Prop}
theorem Inv.eZ (I:Inv X pins σ H s) (E:Value→Shared→Prop):Inv (X.eZ E) pins σ H s:=⟨I.ok.eZ E,I.os,I.bare,I.base,I.loc,I.cell,I.free,I.freeC,I.pin,I.hok,I.len⟩
theorem Inv.ck (I:Inv (X.eZ E) pins σ H s):Inv X pins σ H s:=⟨I.ok.ck,I.os,I.bare,I.base,I.loc,I.cell,I.free,I.freeC,I.pin,I.hok,I.len⟩
theorem SP.ck {D:Ends} {f:Flow} {s':Shared} (h:SP (X.eZ E) pins D f s'):SP X pins D f s':=by
  cases f with
  | next=>obtain ⟨σ',H',I,q⟩:=h;exact ⟨σ',H',I.ck,q⟩
  | brk=>obtain ⟨σ',H',I,q⟩:=h;exact ⟨σ',H',I.ck,q⟩
  | cont=>obtain ⟨σ',H',I,q⟩:=h;exact ⟨σ',H',I.ck,q⟩
  | ret u=>obtain ⟨v,σ',H',I,r,q⟩:=h;exact ⟨v,σ',H',I.ck,r,q⟩
theorem PSs.nox {st:List Stmt} {t:TS} (h:PSs X.nox st t):PSs X st t:=fun pins s σ H D I hw=>
  wpAny_mono (h pins s σ H D (I.eZ _) hw) (fun _ _ q=>q.ck) fun _ _ z=>False.elim z
end

section
variable {X:Cx} {st:Stmt} {rest:List Stmt} {t u:TS} {e:Expr} {te:TE} {pos:Pos}
def C3:TS:=fun D σ H=>D.nx σ H
def DI (t u:TS):TS:=fun D σ H=>t { D with nx:=u D } σ H
theorem aF:PSs X [] C3:=fun _ _ σ H _ I h=>wpAny_execs_nil ⟨σ,H,I,h⟩
theorem ai (h1:PS X st t) (h2:PSs X rest u):PSs X (st::rest) (DI t u):=by
  intro pins s σ H D I h
  refine wpAny_execs_cons (thn (h1 pins s σ H { D with nx:=u D } I h) fun f s1 q=>?_)
  cases f with
  | next=>
    obtain ⟨σ',H',I',q⟩:=q
    exact h2 pins s1 σ' H' D I' q
  | ret v=>exact q
  | brk=>exact q
  | cont=>exact q
theorem ak (h1:PS X st t):PSs X [st] t:=by
  intro pins s σ H D I h
  refine wpAny_execs_cons (thn (h1 pins s σ H D I h) fun f s1 q=>?_)
  cases f with
  | next=>exact wpAny_execs_nil q
  | ret v=>exact q
  | brk=>exact q
  | cont=>exact q
theorem Inv.quiet {pins:List (Addr×Obj)} {σ : St} {H:Hp} {s:Shared} (I:Inv X pins σ H s):interactive X.env=false:=by simp [interactive,I.ok.kind]
def C4 (te:TE):TS:=fun D σ H=>te σ H fun _ H1=>D.nx σ H1
theorem bR (he:PE X e te) (hs:swapsWith e none pos.line X.env=pure false:=by rfl):PS X (.Expr e pos) (C4 te):=by
  intro pins s σ H D I h
  exact wpAny_Expr_any (thn (he pins s σ H _ I h) fun v s1 ⟨x,H1,I1,r1,q1⟩=>⟨σ,H1,I1,q1⟩) I.quiet hs
def FH (te:TE):TS:=fun D σ H=>te σ H D.rt
theorem av (he:PE X e te):PS X (.Return (some e) pos) (FH te):=by
  intro pins s σ H D I h
  exact wpAny_Return_some (thn (he pins s σ H _ I h) fun v s1 ⟨x,H1,I1,r1,q1⟩=>⟨x,σ,H1,I1,r1,q1⟩)
def FO (c:TT) (t u:TS):TS:=fun D σ H=>c σ H fun b H1=>if b=true then t D σ H1 else u D σ H1
theorem br {c:Expr} {a b:List Stmt} {tc:TT} (hc:PT X c tc) (ha:PSs X a t) (hb:PSs X b u):PS X (.If c a b pos) (FO tc t u):=by
  intro pins s σ H D I h
  refine wpAny_If (thn (hc pins s σ H _ I h) fun d s1 ⟨H1,I1,q1⟩=>?_)
  cases d with
  | true=>exact ha pins s1 σ H1 D I1 q1
  | false=>exact hb pins s1 σ H1 D I1 q1
end

abbrev TG:=V→St→Hp→(St→Hp→Prop)→Prop
abbrev TGs:=List V→St→Hp→(St→Hp→Prop)→Prop
def PG (X:Cx) (target:Expr) (t:TG):Prop:=
  ∀ (pins:List (Addr×Obj)) (s:Shared) (σ : St) (H:Hp) (v:V) (u:Value) (Q:St→Hp→Prop),Inv X pins σ H s→RelV v u→t v σ H Q →
    wpAny (model X.prog X.w) X.A (assign target X.env u) (fun _ s'=>∃ σ' H',Inv X pins σ' H' s'∧Q σ' H') X.xe s
def PGs (X:Cx) (ts:List Expr) (t:TGs):Prop:=
  ∀ (pins:List (Addr×Obj)) (s:Shared) (σ : St) (H:Hp) (vs:List V) (us:List Value) (Q:St→Hp→Prop),Inv X pins σ H s→Vals vs us→t vs σ H Q →
    wpAny (model X.prog X.w) X.A (assignInOrder ((assignEach ts X.env).map (·.2)) us) (fun _ s'=>∃ σ' H',Inv X pins σ' H' s'∧Q σ' H') X.xe s
abbrev CQ:=V→V→V→Hp→(Hp→Prop)→Prop
def HM (X:Cx) (t:CQ):Prop:=
  ∀ (pins:List (Addr×Obj)) (s:Shared) (σ : St) (H:Hp) (o i v:V) (ov iv u:Value) (Q:Hp→Prop),Inv X pins σ H s→RelV o ov→RelV i iv→RelV v u→t o i v H Q →
    wpAny (model X.prog X.w) X.A (setItem ov iv u) (fun _ s'=>∃ H',Inv X pins σ H' s'∧Q H') X.xe s
section
variable {X:Cx} {pos:Pos}
abbrev aS (i:Nat):TG:=fun v σ H Q=>Q (σ.set i (some v)) H
theorem bL {i:Nat} {x:Str} (hN:X.N.Nodup) (hi:X.N[i]?=some x) (hx:Loc X.env.scope x) (hf:X.fn x=true∨X.env.scope.names.lookup x=some .local:=by first | exact .inl rfl | exact .inr rfl | assumption):PG X (.Name x pos) (aS i):=by
  intro pins s σ H v u Q I r h
  exact wpAny_assign_Name (iR I hN hi hx r (fun s' I'=>⟨_,H,I',h⟩) hf)
def IF:TGs:=fun vs σ H Q=>vs=[]∧Q σ H
def Dr (t:TG) (u:TGs):TGs:=fun vs σ H Q=>∃ v r,vs=v::r∧t v σ H fun σ' H'=>u r σ' H' Q
theorem Bl:PGs X [] IF:=by
  intro pins s σ H vs us Q I r h
  obtain ⟨e,h⟩:=h
  subst e
  cases r
  exact assignInOrder_nil ⟨σ,H,I,h⟩
theorem f6 {e:Expr} {es:List Expr} {t:TG} {u:TGs} (h1:PG X e t) (h2:PGs X es u)
    (hs:(assignEach (e::es) X.env).map (·.2)=assign e X.env::(assignEach es X.env).map (·.2):=by rfl):PGs X (e::es) (Dr t u):=by
  intro pins s σ H vs us Q I r h
  obtain ⟨v,vr,e1,h⟩:=h
  subst e1
  cases r with
  | cons r rr=>
    rw [hs]
    refine assignInOrder_cons (thn (h1 pins s σ H _ _ _ I r h) fun _ s1 ⟨σ1,H1,I1,q1⟩=>?_)
    exact h2 pins s1 σ1 H1 _ _ Q I1 rr q1
def Hv (to ti:TE) (t:CQ):TG:=fun v σ H Q=>to σ H fun o H1=>ti σ H1 fun i H2=>t o i v H2 fun H3=>Q σ H3
theorem jE {o i:Expr} {to ti:TE} {t:CQ} (ho:PE X o to) (hi:PE X i ti) (hs:HM X t)
    (ha:∀ v,assign (.Subscript o i pos) X.env v=(do
      let ov ← holding [v] (eval o X.env)
      let iv ← holding [v,ov] (eval i X.env)
      standAt pos
      holding [v,ov,iv] (setItem ov iv v)
      release [v,ov,iv] []):=by intro _;rfl):PG X (.Subscript o i pos) (Hv to ti t):=by
  intro pins s σ H v u Q I r h
  rw [ha]
  refine wpAny_bind (wpAny_holding (thn (ho pins s σ H _ I h) fun ov s1 ⟨x,H1,I1,r1,q1⟩=>?_))
  refine wpAny_bind (wpAny_holding (thn (hi pins s1 σ H1 _ I1 q1) fun iv s2 ⟨y,H2,I2,r2,q2⟩=>?_))
  refine wpAny_bind (wpAny_standAt (wpAny_bind (wpAny_holding (thn (hs pins s2 σ H2 x y v ov iv u _ I2 r1 r2 r q2) fun _ s3 ⟨H3,I3,q3⟩=>?_))))
  exact wpAny_release ⟨σ,H3,I3,q3⟩
def DJ (te:TE) (g:TG):TS:=fun D σ H=>te σ H fun x H1=>g x σ H1 D.nx
theorem iF {tg e:Expr} {te:TE} {g:TG} (he:PE X e te) (hg:PG X tg g) (hs:swapsWithSole [tg] e pos.line X.env=pure false:=by rfl) (hw:swappedStores [tg] e X.env=pure none:=by rfl)
    (h1:(assignEach [tg] X.env).map (·.2)=[assign tg X.env]:=by rfl):PS X (.Assign [tg] e pos) (DJ te g):=by
  intro pins s σ H D I h
  refine wpAny_Assign_stores (thn (he pins s σ H _ I h) fun v s1 ⟨x,H1,I1,r1,q1⟩=>?_) hs hw
  rw [h1]
  exact thn (hg pins s1 σ H1 x v _ I1 r1 q1) fun _ s2 q=>q
theorem aM {i:Nat} {x:Str} {e:Expr} {te:TE} {pos':Pos} (hN:X.N.Nodup) (hi:X.N[i]?=some x) (hx:Loc X.env.scope x) (he:PE X e te) (hs:swapsWith e (some (.Name x pos')) pos.line X.env=pure false:=by rfl) (hf:X.fn x=true∨X.env.scope.names.lookup x=some .local:=by first | exact .inl rfl | exact .inr rfl | assumption) :
    PS X (.Assign [.Name x pos'] e pos) (DJ te (aS i)):=by
  intro pins s σ H D I h
  refine wpAny_Assign_Name (thn (he pins s σ H _ I h) fun v s1 ⟨y,H1,I1,r1,q1⟩=>?_) hs
  exact iR I1 hN hi hx r1 (fun s2 I2=>⟨_,H1,I2,q1⟩) hf
end

section
variable {X:Cx} {pos:Pos}
end

structure It where
  go:Nat→Hp→Prop
  yld:Nat→Hp→V→Hp→Prop
  stop:Nat→Hp→Prop
def jr (X:Cx) (pins:List (Addr×Obj)) (H:Hp) (b:Addr):Prop:=
  H b=none∧b≠X.env.locals∧b∉X.fs∧(b∈X.ex∨X.s₀.heap.objs.size≤b)∧(∀ x c,X.env.cells.lookup x=some c→c≠b)∧∀ p∈X.pn++pins,p.1≠b
theorem Inv.wW {X:Cx} {pins:List (Addr×Obj)} {σ : St} {H H':Hp} {s:Shared} {b:Addr} (I:Inv X pins σ H s) (hb:s.heap.objs.size≤b) (hn:H' b=none):jr X pins H' b:=by
  refine ⟨hn,Nat.ne_of_gt (Nat.lt_of_lt_of_le I.lt hb),I.Gh hb,.inr (Nat.le_trans I.sz hb),fun x c e z=>?_,fun p hp z=>?_⟩
  · obtain ⟨v,q⟩:=I.cell x c e
    exact absurd (Nat.lt_of_lt_of_le q.lt (by rw [z];exact hb)) (Nat.lt_irrefl _)
  · exact absurd (Nat.lt_of_lt_of_le (Heap.lt_size (I.pin p hp).1) (by rw [z];exact hb)) (Nat.lt_irrefl _)
structure Turn (P:Program) (w:World) (K:PySem.W.Frag) (tg:Expr) (J:It) (fp:List Addr) (it:Addr) (tn:Nat→Heap→Prop):Prop where
  mem:it∈fp
  obj:∀ i h,tn i h→∀ b∈fp,∃ o,h.get? b=some o∧∀ v,o.data≠.cell v
  keep:∀ i h h',tn i h→(∀ b∈fp,∀ o,h.get? b=some o→h'.get? b=some o)→tn i h'
  item:∀ (X:Cx),X.prog=P→X.w=w→X.K=K→X.calm=true→∀ (i:Nat) (pins:List (Addr×Obj)) (s:Shared) (σ : St) (H:Hp) (E:Value→Shared→Prop),Inv X pins σ H s→(∀ b∈fp,jr X pins H b)→tn i s.heap→J.go i H →
    wpAny (model P w) X.A (pyNext (.ref it)) (fun r s1=>∃ u,r=some u ∧
      wpAny (model P w) X.A (letOwnedTupleGo tg (.ref it) u) (fun _ s2=>∃ x H',Inv X pins σ H' s2∧RelV x u∧J.yld i H x H'∧tn (i+1) s2.heap∧∀ b∈fp,H' b=none) E s1) E s
  done:∀ (X:Cx),X.prog=P→X.w=w→X.K=K→X.calm=true→∀ (i:Nat) (pins:List (Addr×Obj)) (s:Shared) (σ : St) (H:Hp) (E:Value→Shared→Prop),Inv X pins σ H s→(∀ b∈fp,jr X pins H b)→tn i s.heap→J.stop i H →
    wpAny (model P w) X.A (pyNext (.ref it)) (fun r s1=>r=none∧Inv X pins σ H s1) E s
  self:∀ (A:Around) (i:Nat) (s:Shared) (Q:Value→Shared→Prop) (E:Value→Shared→Prop),tn i s.heap→Q (.ref it) s→wpAny (model P w) A (pyIter (.ref it)) Q E s
abbrev TI:=St→Hp→(It→Hp→Prop)→Prop
def PIE (X:Cx) (pins:List (Addr×Obj)) (σ : St) (tg:Expr) (R:It→Hp→Prop) (itv:Value) (s2:Shared):Prop:=
  ∃ (it:Addr) (fp:List Addr) (tn:Nat→Heap→Prop) (J:It) (H':Hp),itv = .ref it∧Inv X pins σ H' s2∧Turn X.prog X.w X.K tg J fp it tn∧tn 0 s2.heap∧(∀ b∈fp,jr X pins H' b)∧R J H'
def PI (X:Cx) (tg iter:Expr) (wi:TI):Prop:=
  ∀ (pins:List (Addr×Obj)) (s:Shared) (σ : St) (H:Hp) (R:It→Hp→Prop),Inv X pins σ H s→wi σ H R →
    wpAny (model X.prog X.w) X.A (eval iter X.env) (fun v s1=>wpAny (model X.prog X.w) X.A (pyIter v) (PIE X pins σ tg R) X.xe s1) X.xe s

theorem vn {M:Model} {A:Around} {E:Value→Shared→Prop} {s:Shared} {tg:Expr} {it:Addr} {u:Value} {o:Obj} {n:String} {vs:Array Value} {Q:Unit→Shared→Prop} (ho:s.heap.get? it=some o) (hc:o.cls = .type n) (hd:o.data = .fields vs)
    (hn:["enumerate", "zip", "dict_itemiterator", "dict_reverseitemiterator", "odict_iterator", "itertools.zip_longest", "itertools.pairwise"].contains n=false) (hQ:Q () s):wpAny M A (letOwnedTupleGo tg (.ref it) u) Q E s:=by
  unfold letOwnedTupleGo
  cases tg <;> first
    | exact wpAny_pure hQ
    | (cases u <;> first
        | exact wpAny_pure hQ
        | (refine wpAny_bind (wpAny_load ho ?_)
           rw [hc,hd]
           show wpAny M A (if (["enumerate", "zip", "dict_itemiterator", "dict_reverseitemiterator", "odict_iterator", "itertools.zip_longest", "itertools.pairwise"].contains n && vs[0]? == some (rawInt _))=true then _ else _) Q E s
           rw [if_neg (by intro h;rw [hn,Bool.false_and] at h;cases h)]
           exact wpAny_pure hQ))

def Itl (K:PySem.W.Frag) (a:Addr):It:=
  ⟨fun i H=>∃ xs x,SqL K H a xs∧xs[i]?=some x,fun i H x H'=>H'=H∧∀ xs,SqL K H a xs→xs[i]?=some x,fun i H=>∃ xs,SqL K H a xs∧xs.length≤i⟩
def Itt (K:PySem.W.Frag) (a:Addr):It:=
  ⟨fun i H=>∃ xs x,SqT K H a xs∧xs[i]?=some x,fun i H x H'=>H'=H∧∀ xs,SqT K H a xs→xs[i]?=some x,fun i H=>∃ xs,SqT K H a xs∧xs.length≤i⟩
def Itr (lo:Int) (n:Nat):It:=⟨fun i _=>i < n,fun i H x H'=>H'=H∧x = .int (lo+i),fun i _=>n≤i⟩
theorem mS {P:Program} {w:World} {K:PySem.W.Frag} {tg:Expr} (a it:Addr):Turn P w K tg (Itl K a) [it] it (fun i h=>h.IsListIter it a i) where
  mem:=by simp
  obj:=fun i h st b hb=>by
    have e:b=it:=by simpa using hb
    subst e
    obtain ⟨o,e,c,d⟩:=st
    exact ⟨o,e,fun v z=>by rw [d] at z;cases z⟩
  keep:=fun i h h' st k=>st.at fun o e=>k it (by simp) o e
  item:=by
    intro X hP hw hK hc i pins s σ H E I hf st hg
    subst hP hw hK
    obtain ⟨xs,x,hq,hx⟩:=hg
    obtain ⟨its,rv,p,hz⟩:=I.list hq
    obtain ⟨u,hu,ru⟩:=rv.get hx
    obtain ⟨f0,f1,f2,f3,f4,f5⟩:=hf it (by simp)
    refine wpAny_pyNext_list_item st p.isList (x:=u) (by simpa using hu) fun h' st' sb=>?_
    have I1:Inv X pins σ H { s with heap:=h' }:=I.turned (t':=s.toks) (fun b o hb e=>(sb.2 b hb).trans e) f0 f1 f3 f4 f5
    obtain ⟨o,e,c,d⟩:=id st'
    exact ⟨u,rfl,vn (s:={ s with heap:=h' }) e c d (by decide) ⟨x,H,I1,ru,⟨rfl,fun ys hy=>by rw [I.lH hy hq];exact hx⟩,st',fun b hb=>(hf b hb).1⟩⟩
  done:=by
    intro X hP hw hK hc i pins s σ H E I hf st hg
    subst hP hw hK
    obtain ⟨xs,hq,hx⟩:=hg
    obtain ⟨its,rv,p,hz⟩:=I.list hq
    obtain ⟨f0,f1,f2,f3,f4,f5⟩:=hf it (by simp)
    have hl:=rv.length
    exact wpAny_pyNext_list_end (I.ok.hd hc) st p.isList (by simp;omega) fun h' eb=>⟨rfl,I.turned (t':=s.toks) (fun b o hb e=>eb b o hb e) f0 f1 f3 f4 f5⟩
  self:=fun _ _ _ _ _ st h=>wpAny_pyIter_listiter st h
theorem kX {P:Program} {w:World} {K:PySem.W.Frag} {tg:Expr} (a it:Addr):Turn P w K tg (Itt K a) [it] it (fun i h=>h.IsTupleIter it a i) where
  mem:=by simp
  obj:=fun i h st b hb=>by
    have e:b=it:=by simpa using hb
    subst e
    obtain ⟨o,e,c,d⟩:=st
    exact ⟨o,e,fun v z=>by rw [d] at z;cases z⟩
  keep:=fun i h h' st k=>st.at fun o e=>k it (by simp) o e
  item:=by
    intro X hP hw hK hc i pins s σ H E I hf st hg
    subst hP hw hK
    obtain ⟨xs,x,hq,hx⟩:=hg
    obtain ⟨its,rv,p,hz⟩:=I.tuple hq
    obtain ⟨u,hu,ru⟩:=rv.get hx
    obtain ⟨f0,f1,f2,f3,f4,f5⟩:=hf it (by simp)
    refine wpAny_pyNext_tuple_item st (show s.heap.IsTuple a its.toArray from p) (x:=u) (by simpa using hu) fun h' st' sb=>?_
    have I1:Inv X pins σ H { s with heap:=h' }:=I.turned (t':=s.toks) (fun b o hb e=>(sb.2 b hb).trans e) f0 f1 f3 f4 f5
    obtain ⟨o,e,c,d⟩:=id st'
    exact ⟨u,rfl,vn (s:={ s with heap:=h' }) e c d (by decide) ⟨x,H,I1,ru,⟨rfl,fun ys hy=>by rw [I.jx hy hq];exact hx⟩,st',fun b hb=>(hf b hb).1⟩⟩
  done:=by
    intro X hP hw hK hc i pins s σ H E I hf st hg
    subst hP hw hK
    obtain ⟨xs,hq,hx⟩:=hg
    obtain ⟨its,rv,p,hz⟩:=I.tuple hq
    obtain ⟨f0,f1,f2,f3,f4,f5⟩:=hf it (by simp)
    have hl:=rv.length
    exact wpAny_pyNext_tuple_end (I.ok.hd hc) st (show s.heap.IsTuple a its.toArray from p) (by simp;omega) fun h' eb=>⟨rfl,I.turned (t':=s.toks) (fun b o hb e=>eb b o hb e) f0 f1 f3 f4 f5⟩
  self:=fun _ _ _ _ _ st h=>wpAny_pyIter_tupleiter st h
theorem sA {P:Program} {w:World} {K:PySem.W.Frag} {tg:Expr} (it:Addr) (lo:Int) (n:Nat):Turn P w K tg (Itr lo n) [it] it (fun i h=>IsRangeIter h it (lo+(i:Nat) * 1) ((n:Int) - (i:Nat)) 1) where
  mem:=by simp
  obj:=fun i h st b hb=>by
    have e:b=it:=by simpa using hb
    subst e
    exact ⟨_,st,fun v z=>by
      have z':Data.fields _=Data.cell v:=z
      cases z'⟩
  keep:=fun i h h' st k=>k it (by simp) _ st
  item:=by
    intro X hP hw hK hc i pins s σ H E I hf st hg
    subst hP hw hK
    obtain ⟨f0,f1,f2,f3,f4,f5⟩:=hf it (by simp)
    have W:=Walks.range (prog:=X.prog) (w:=X.w) (I.ok.hd hc) it lo 1 n
    refine W.item i s _ _ hg st fun v h' tk hv st' kk=>?_
    obtain ⟨t,rfl⟩:=hv
    have I1:Inv X pins σ H { s with heap:=h',toks:=tk }:=I.turned (fun b o hb e=>kk b o (by simpa using hb) e) f0 f1 f3 f4 f5
    refine ⟨_,rfl,vn (s:={ s with heap:=h',toks:=tk }) (n:="range_iterator") st' rfl rfl (by decide) ⟨.int (lo+i),H,I1,⟨t,?_⟩,⟨rfl,rfl⟩,st',fun b hb=>(hf b hb).1⟩⟩
    rw [Int.mul_one]
  done:=by
    intro X hP hw hK hc i pins s σ H E I hf st hg
    subst hP hw hK
    obtain ⟨f0,f1,f2,f3,f4,f5⟩:=hf it (by simp)
    exact wpAny_pyNext_range_end (I.ok.hd hc) st (by have:n≤i:=hg;omega) fun h' eb=>⟨rfl,I.turned (t':=s.toks) (fun b o hb e=>eb b o hb e) f0 f1 f3 f4 f5⟩
  self:=fun _ _ _ _ _ st h=>wpAny_pyIter_rangeiter st h
end L2

namespace L2
open PySem PySem.Spec PyProof.Rows
section
variable {X:Cx} {tg:Expr}
def Dm (K:PySem.W.Frag) (tl:TE):TI:=fun σ H R=>tl σ H fun x H1=>∃ a,x = .ref a∧(∃ xs,SqL K H1 a xs)∧R (Itl K a) H1
def Gk (K:PySem.W.Frag) (tl:TE):TI:=fun σ H R=>tl σ H fun x H1=>∃ a,x = .ref a∧(∃ xs,SqT K H1 a xs)∧R (Itt K a) H1
theorem fE {l:Expr} {tl:TE} (hl:PE X l tl):PI X tg l (Dm X.K tl):=by
  intro pins s σ H R I h
  refine thn (hl pins s σ H _ I h) fun v s1 ⟨x,H1,I1,r1,q1⟩=>?_
  obtain ⟨a,e,⟨xs,hq⟩,q⟩:=q1
  subst e
  cases r1
  obtain ⟨its,rv,p,hz⟩:=I1.list hq
  refine wpAny_pyIter_list p.isList ?_
  refine ⟨s1.heap.objs.size,[s1.heap.objs.size],_,_,H1,rfl,I1.kept (t':=s1.toks) fun b o e=>Heap.get?_push_of_some _ e,mS a _,⟨_,Heap.get?_push_size _ rfl,rfl,rfl⟩,fun b hb=>?_,q⟩
  have e:b=s1.heap.objs.size:=by simpa using hb
  subst e
  exact I1.wW (Nat.le_refl _) (I1.hok.fresh (Nat.le_refl _))
theorem sX {l:Expr} {tl:TE} (hl:PE X l tl):PI X tg l (Gk X.K tl):=by
  intro pins s σ H R I h
  refine thn (hl pins s σ H _ I h) fun v s1 ⟨x,H1,I1,r1,q1⟩=>?_
  obtain ⟨a,e,⟨xs,hq⟩,q⟩:=q1
  subst e
  cases r1
  obtain ⟨its,rv,p,hz⟩:=I1.tuple hq
  refine wpAny_pyIter_tuple (show s1.heap.IsTuple a its.toArray from p) ?_
  refine ⟨s1.heap.objs.size,[s1.heap.objs.size],_,_,H1,rfl,I1.kept (t':=s1.toks) fun b o e=>Heap.get?_push_of_some _ e,kX a _,⟨_,Heap.get?_push_size _ rfl,rfl,rfl⟩,fun b hb=>?_,q⟩
  have e:b=s1.heap.objs.size:=by simpa using hb
  subst e
  exact I1.wW (Nat.le_refl _) (I1.hok.fresh (Nat.le_refl _))
theorem yM {pins:List (Addr×Obj)} {σ : St} {H:Hp} {s:Shared} {R:It→Hp→Prop} {E:Value→Shared→Prop} {lo hi:Int} {t u v:Tok} {tk:Nat} (I:Inv X pins σ H s) (h1 : -(2 ^ 62)≤lo) (h2:lo < 2 ^ 62) (h3 : -(2 ^ 62)≤hi) (h4:hi < 2 ^ 62)
    (q:R (Itr lo (hi - lo).toNat) H):wpAny (model X.prog X.w) X.A (pyIter (.ref s.heap.objs.size)) (PIE X pins σ tg R) E { s with heap:=s.heap.push { cls:=.type "range",data:=.fields #[.int lo t,.int hi u,.int 1 v] },toks:=tk }:=by
  refine wpAny_pyIter_range (IsRange.new ..) (small_one h1 h2 h3 h4) ?_
  have I1:Inv X pins σ H { s with heap:=s.heap.push { cls:=.type "range",data:=.fields #[.int lo t,.int hi u,.int 1 v] },toks:=tk }:=I.kept fun b o e=>Heap.get?_push_of_some _ e
  refine ⟨(s.heap.push { cls:=.type "range",data:=.fields #[.int lo t,.int hi u,.int 1 v] }).objs.size,[(s.heap.push { cls:=.type "range",data:=.fields #[.int lo t,.int hi u,.int 1 v] }).objs.size],_,_,H,rfl,
    I1.kept (t':=tk) fun b o e=>Heap.get?_push_of_some _ e,sA _ lo (hi - lo).toNat,?_,fun b hb=>?_,q⟩
  · have e1:lo+((0:Nat):Int) * 1=lo:=by simp
    have e2:(((hi - lo).toNat:Nat):Int) - ((0:Nat):Int)=Builtin.Range.rangeSize lo hi 1:=by rw [rangeSize_one];split <;> omega
    show IsRangeIter _ _ (lo+((0:Nat):Int) * 1) ((((hi - lo).toNat:Nat):Int) - ((0:Nat):Int)) 1
    rw [e1,e2]
    exact Heap.get?_push_size _ rfl
  · have e:b=(s.heap.push { cls:=.type "range",data:=.fields #[.int lo t,.int hi u,.int 1 v] }).objs.size:=by simpa using hb
    subst e
    exact I1.wW (Nat.le_refl _) (I1.hok.fresh (Nat.le_refl _))
def Dl (ta:TA):TI:=fun σ H R=>ta σ H fun vs H1=>∃ j:Int,vs=[.int j]∧-(2 ^ 62)≤j∧j < 2 ^ 62∧R (Itr 0 j.toNat) H1
theorem ng {a:Expr} {ta:TA} {p pos:Pos} (hg:Gl X "range") (hm:X.mg "range" = none) (ha:PA X [a] ta) (hs:starEach [a] X.env=[(false,eval a X.env)]:=by rfl):PI X tg (.Call (.Name "range" p) [a] [] pos) (Dl ta):=by
  intro pins s σ H R I h
  refine Call_ (gj I hg hm boot_range (PyProof.Rows.callWith_type1 (thn (ha pos pins s σ H _ I h) fun us s1 ⟨vs,H1,I1,r1,q1⟩=>?_) hs rfl))
  obtain ⟨j,e,q1,q2,q⟩:=q1
  subst e
  cases r1 with
  | cons r rr=>
    cases rr
    obtain ⟨t,rfl⟩:=r
    exact call_range_1 (yM I1 (by omega) (by omega) q1 q2 (by simpa using q))
def FP (wi:TI) (g:TG) (tb:TS):TS:=fun D σ H=>wi σ H fun J H1=>∃ W:Nat→Nat→St→Hp→Prop,(∃ m,W 0 m σ H1)∧∀ i m σ H,W i m σ H →
  (J.stop i H∧D.nx σ H)∨(J.go i H∧∃ N:St→Hp→Prop,(∀ σ' H',N σ' H'→∃ m',m' < m∧W (i+1) m' σ' H')∧∀ x H',J.yld i H x H'→g x σ H' fun σ2 H2=>tb { D with nx:=N,ct:=N,bk:=D.nx } σ2 H2)
def dH (fp:List Addr) (h:Heap):List (Addr×Obj):=fp.filterMap fun b=>(h.get? b).map fun o=>(b,o)
theorem fH {fp:List Addr} {h:Heap} {b:Addr} {o:Obj} (hb:b∈fp) (e:h.get? b=some o):(b,o)∈dH fp h:=List.mem_filterMap.mpr ⟨b,hb,by rw [e];rfl⟩
theorem jH {fp:List Addr} {h:Heap} {p:Addr×Obj} (hp:p∈dH fp h):p.1∈fp∧h.get? p.1=some p.2:=by
  obtain ⟨b,hb,e⟩:=List.mem_filterMap.mp hp
  cases q:h.get? b with
  | none=>rw [q] at e;cases e
  | some o=>
    rw [q] at e
    have e':(b,o)=p:=Option.some.inj e
    subst e'
    exact ⟨hb,q⟩
theorem Inv.pinned {pins:List (Addr×Obj)} {σ : St} {H:Hp} {s:Shared} {fp:List Addr} (I:Inv X pins σ H s) (hf:∀ b∈fp,jr X pins H b) (ho:∀ b∈fp,∃ o,s.heap.get? b=some o∧∀ v,o.data≠.cell v):Inv X (pins++dH fp s.heap) σ H s:=
  I.gQ fun p hp=>(List.mem_append.mp hp).elim (fun z=>I.pin p (List.mem_append_right _ z)) fun z=>by
    obtain ⟨hb,e⟩:=jH z
    obtain ⟨f0,f1,f2,_⟩:=hf p.1 hb
    obtain ⟨o,e',d⟩:=ho p.1 hb
    rw [e] at e';cases e'
    exact ⟨e,f0,f1,f2,d⟩
theorem Inv.fW {pins pl:List (Addr×Obj)} {σ : St} {H:Hp} {s:Shared} (I:Inv X (pins++pl) σ H s):Inv X pins σ H s:=I.gQ fun p hp=>I.pin p (List.mem_append_right _ (List.mem_append_left _ hp))
theorem oY {iter:Expr} {body:List Stmt} {wi:TI} {g:TG} {tb:TS} {pos:Pos} (hp:PassesOwn (model X.prog X.w) X.A X.env X.xe) (hc:X.calm=true) (hi:PI X tg iter wi) (hg:PG X tg g) (hb:PSs X body tb)
    (hs:∀ x,foldedSetIterable iter X.env x=pure x:=by intro _;rfl):PS X (.For tg iter body [] pos) (FP wi g tb):=by
  intro pins s σ H D I h
  refine wpAny_For (thn (hi pins s σ H _ I h) fun v s1 h1=>thn h1 fun itv s2 h2=>?_) hs
  obtain ⟨it,fp,tn,J,H2,e,I2,T,st2,f2,W,⟨m0,w0⟩,turn⟩:=h2
  subst e
  -- what stays true of the iterator's objects through the loop
  have DK:∀ {H':Hp},(∀ b∈fp,H' b=none)→∀ b∈fp,jr X pins H' b:=fun hn b hb=>⟨hn b hb,(f2 b hb).2⟩
  refine codeAny_forLoop_any (fun n s'=>∃ i σ' H',Inv X pins σ' H' s'∧tn i s'.heap∧(∀ b∈fp,H' b=none)∧W i n σ' H') ?_ m0 ⟨0,σ,H2,I2,st2,fun b hb=>(f2 b hb).1,w0⟩
  rintro n s3 ⟨i,σ3,H3,I3,st3,fr3,w3⟩
  rcases turn i n σ3 H3 w3 with ⟨stop,qn⟩ | ⟨go,N,hN,step⟩
  · refine wpAny_passesOwn hp (thn (T.done X rfl rfl rfl hc i pins s3 σ3 H3 X.xe I3 (DK fr3) st3 stop) fun r s4 ⟨hr,I4⟩=>?_)
    subst hr
    exact wpAny_execs_nil ⟨σ3,H3,I4,qn⟩
  · refine wpAny_passesOwn hp (thn (T.item X rfl rfl rfl hc i pins s3 σ3 H3 X.xe I3 (DK fr3) st3 go) fun r s4 ⟨u,hr,h4⟩=>?_)
    subst hr
    refine wpAny_passesOwn hp (thn h4 fun _ s5 ⟨x,H5,I5,r5,y5,st5,fr5⟩=>?_)
    have I5':=I5.pinned (DK fr5) (T.obj _ _ st5)
    refine wpAny_passesOwn hp (thn (hg _ s5 σ3 H5 x u _ I5' r5 (step x H5 y5)) fun _ s6 ⟨σ6,H6,I6,q6⟩=>?_)
    refine wpAny_passesOwn hp (thn (hb _ s6 σ6 H6 _ I6 q6) fun f s7 q7=>?_)
    have again:∀ {σ7:St} {H7:Hp},Inv X (pins++dH fp s5.heap) σ7 H7 s7→N σ7 H7→∃ m,m < n∧∃ i σ' H',Inv X pins σ' H' s7∧tn i s7.heap∧(∀ b∈fp,H' b=none)∧W i m σ' H':=fun {σ7 H7} I7 n7=>by
      obtain ⟨m',hm,w7⟩:=hN σ7 H7 n7
      refine ⟨m',hm,i+1,σ7,H7,I7.fW,T.keep _ _ _ st5 fun b hb o e=>(I7.pin (b,o) (List.mem_append_right _ (List.mem_append_right _ (fH hb e)))).1,fun b hb=>?_,w7⟩
      obtain ⟨o,e,d⟩:=T.obj _ _ st5 b hb
      exact (I7.pin (b,o) (List.mem_append_right _ (List.mem_append_right _ (fH hb e)))).2.1
    cases f with
    | next=>obtain ⟨σ7,H7,I7,n7⟩:=q7;exact again I7 n7
    | cont=>obtain ⟨σ7,H7,I7,n7⟩:=q7;exact again I7 n7
    | brk=>obtain ⟨σ7,H7,I7,q7⟩:=q7;exact ⟨σ7,H7,I7.fW,q7⟩
    | ret v=>obtain ⟨x7,σ7,H7,I7,r7,q7⟩:=q7;exact ⟨x7,σ7,H7,I7.fW,r7,q7⟩
end

theorem Ac {K:PySem.W.Frag} {a:Addr} {xs:List V} {g:TG} {tb:TS} {D:Ends} {σ : St} {H:Hp} (Pv:Nat→St→Hp→Prop) (h0:Pv 0 σ H) (hl:∀ i σ H,i≤xs.length→Pv i σ H→SqL K H a xs)
    (hs:∀ i x σ H,xs[i]?=some x→Pv i σ H→g x σ H fun σ2 H2=>tb { D with nx:=Pv (i+1),ct:=Pv (i+1),bk:=D.nx } σ2 H2) (hd:∀ σ H,Pv xs.length σ H→D.nx σ H) :
    ∃ W:Nat→Nat→St→Hp→Prop,(∃ m,W 0 m σ H)∧∀ i m σ H,W i m σ H →
      ((Itl K a).stop i H∧D.nx σ H)∨((Itl K a).go i H∧∃ N:St→Hp→Prop,(∀ σ' H',N σ' H'→∃ m',m' < m∧W (i+1) m' σ' H')∧∀ x H',(Itl K a).yld i H x H'→g x σ H' fun σ2 H2=>tb { D with nx:=N,ct:=N,bk:=D.nx } σ2 H2):=by
  refine ⟨fun i m σ H=>m=xs.length - i∧i≤xs.length∧Pv i σ H,⟨xs.length,by simp,Nat.zero_le _,h0⟩,?_⟩
  rintro i m σ H ⟨rfl,hi,p⟩
  have q:=hl i σ H hi p
  by_cases hlt:i < xs.length
  · refine .inr ⟨⟨xs,xs[i],q,by simp [hlt]⟩,Pv (i+1),fun σ' H' p'=>⟨xs.length - (i+1),by omega,rfl,hlt,p'⟩,fun x H' y=>?_⟩
    obtain ⟨e,y⟩:=y
    subst e
    exact hs i x σ _ (y xs q) p
  · have e:i=xs.length:=by omega
    subst e
    exact .inl ⟨⟨xs,q,Nat.le_refl _⟩,hd σ H p⟩
theorem wX {lo:Int} {n:Nat} {g:TG} {tb:TS} {D:Ends} {σ : St} {H:Hp} (Pv:Nat→St→Hp→Prop) (h0:Pv 0 σ H)
    (hs:∀ i σ H,i < n→Pv i σ H→g (.int (lo+i)) σ H fun σ2 H2=>tb { D with nx:=Pv (i+1),ct:=Pv (i+1),bk:=D.nx } σ2 H2) (hd:∀ σ H,Pv n σ H→D.nx σ H) :
    ∃ W:Nat→Nat→St→Hp→Prop,(∃ m,W 0 m σ H)∧∀ i m σ H,W i m σ H →
      ((Itr lo n).stop i H∧D.nx σ H)∨((Itr lo n).go i H∧∃ N:St→Hp→Prop,(∀ σ' H',N σ' H'→∃ m',m' < m∧W (i+1) m' σ' H')∧∀ x H',(Itr lo n).yld i H x H'→g x σ H' fun σ2 H2=>tb { D with nx:=N,ct:=N,bk:=D.nx } σ2 H2):=by
  refine ⟨fun i m σ H=>m=n - i∧i≤n∧Pv i σ H,⟨n,by simp,Nat.zero_le _,h0⟩,?_⟩
  rintro i m σ H ⟨rfl,hi,p⟩
  by_cases hlt:i < n
  · refine .inr ⟨hlt,Pv (i+1),fun σ' H' p'=>⟨n - (i+1),by omega,rfl,hlt,p'⟩,fun x H' y=>?_⟩
    obtain ⟨e,y⟩:=y
    subst e y
    exact hs i σ _ hlt p
  · have e:i=n:=by omega
    subst e
    exact .inl ⟨Nat.le_refl _,hd σ H p⟩
end L2

namespace L2
open PySem PySem.Spec PyProof.Rows

abbrev R2:=V→V→Hp→VK→Prop
def OpR (X:Cx) (f:Value→Value→Sem Value) (r:R2):Prop:=
  ∀ (pins:List (Addr×Obj)) (s:Shared) (σ : St) (H:Hp) (x y:V) (v u:Value) (Q:VK),Inv X pins σ H s→RelV x v→RelV y u→r x y H Q →
    wpAny (model X.prog X.w) X.A (f v u) (EP X pins σ Q) X.xe s
def UnR (X:Cx) (f:Value→Sem Value) (r:V→Hp→VK→Prop):Prop:=
  ∀ (pins:List (Addr×Obj)) (s:Shared) (σ : St) (H:Hp) (x:V) (v:Value) (Q:VK),Inv X pins σ H s→RelV x v→r x H Q →
    wpAny (model X.prog X.w) X.A (f v) (EP X pins σ Q) X.xe s
def cV (X:Cx) (f:Value) (r:List V→Hp→VK→Prop):Prop:=
  ∀ (pins:List (Addr×Obj)) (s:Shared) (σ : St) (H:Hp) (xs:List V) (us:List Value) (Q:VK),Inv X pins σ H s→Vals xs us→r xs H Q →
    wpAny (model X.prog X.w) X.A (call f us) (EP X pins σ Q) X.xe s
def tOp (r:R2) (ta tb:TE):TE:=fun σ H Q=>ta σ H fun x H1=>tb σ H1 fun y H2=>r x y H2 Q
def tUn (r:V→Hp→VK→Prop) (ta:TE):TE:=fun σ H Q=>ta σ H fun x H1=>r x H1 Q
def rI (C:Int→Int→Prop) (g:Int→Int→V):R2:=fun x y H Q=>∃ i j,x = .int i∧y = .int j∧C i j∧Q (g i j) H
def rI0 (g:Int→Int→V):R2:=fun x y H Q=>∃ i j,x = .int i∧y = .int j∧Q (g i j) H
def rU (g:Int→V):V→Hp→VK→Prop:=fun x H Q=>∃ i,x = .int i∧Q (g i) H

section
variable {X:Cx} {a b c:Expr} {ta tb tc:TE} {pos:Pos}

theorem Fv (ha:PE X a ta) (hb:PE X b tb) {pins:List (Addr×Obj)} {s:Shared} {σ : St} {H:Hp} {R:V→V→Hp→Prop} (I:Inv X pins σ H s)
    (h:ta σ H fun x H1=>tb σ H1 fun y H2=>R x y H2) {Q:Value→Shared→Prop} {f:Value→Value→Sem Value}
    (hf:∀ v u s2 x y H2,Inv X pins σ H2 s2→RelV x v→RelV y u→R x y H2→wpAny (model X.prog X.w) X.A (f v u) Q X.xe s2) :
    wpAny (model X.prog X.w) X.A (eval a X.env) (fun v s₁=>wpAny (model X.prog X.w) X.A (eval b X.env) (fun u s₂=>wpAny (model X.prog X.w) X.A (f v u) Q X.xe s₂) X.xe s₁) X.xe s:=by
  refine thn (ha pins s σ H _ I h) fun v s1 ⟨x,H1,I1,r1,q1⟩=>?_
  refine thn (hb pins s1 σ H1 _ I1 q1) fun u s2 ⟨y,H2,I2,r2,q2⟩=>?_
  exact hf v u s2 x y H2 I2 r1 r2 q2

theorem aG {op:Operator} {r:R2} (ho:OpR X (binaryOp op) r) (ha:PE X a ta) (hb:PE X b tb):PE X (.BinOp a op b pos) (tOp r ta tb):=by
  intro pins s σ H Q I h
  exact wpAny_BinOp (Fv ha hb I h fun v u s2 x y H2 I2 rx ry q=>ho pins s2 σ H2 x y v u Q I2 rx ry q)
theorem F9 {op:UnaryOp} {r:V→Hp→VK→Prop} (ho:UnR X (unaryOp op) r) (ha:PE X a ta):PE X (.UnaryOp op a pos) (tUn r ta):=by
  intro pins s σ H Q I h
  exact UnaryOp_ (thn (ha pins s σ H _ I h) fun v s1 ⟨x,H1,I1,r1,q1⟩=>ho pins s1 σ H1 x v Q I1 r1 q1)
theorem opI {f:Value→Value→Sem Value} {C:Int→Int→Prop} {g:Int→Int→Int}
    (rule:∀ (i j:Int) (t u:Tok) (s:Shared) (Q:Value→Shared→Prop) (E:Value→Shared→Prop),C i j→Q (.int (g i j) s.toks) { s with toks:=s.toks+1 }→wpAny (model X.prog X.w) X.A (f (.int i t) (.int j u)) Q E s) :
    OpR X f (rI C fun i j=>.int (g i j)):=by
  intro pins s σ H x y v u Q I rx ry h
  obtain ⟨i,j,rfl,rfl,hc,q⟩:=h
  obtain ⟨t,rfl⟩:=rx
  obtain ⟨t',rfl⟩:=ry
  exact rule i j t t' s _ _ hc ⟨.int (g i j),H,I.tok _,⟨_,rfl⟩,q⟩
theorem Ge {f:Value→Value→Sem Value} {g:Int→Int→Int}
    (rule:∀ (i j:Int) (t u:Tok) (s:Shared) (Q:Value→Shared→Prop) (E:Value→Shared→Prop),Q (.int (g i j) s.toks) { s with toks:=s.toks+1 }→wpAny (model X.prog X.w) X.A (f (.int i t) (.int j u)) Q E s) :
    OpR X f (rI0 fun i j=>.int (g i j)):=by
  intro pins s σ H x y v u Q I rx ry h
  obtain ⟨i,j,rfl,rfl,q⟩:=h
  obtain ⟨t,rfl⟩:=rx
  obtain ⟨t',rfl⟩:=ry
  exact rule i j t t' s _ _ ⟨.int (g i j),H,I.tok _,⟨_,rfl⟩,q⟩
theorem Bv {f:Value→Value→Sem Value} {g:Int→Int→Bool}
    (rule:∀ (i j:Int) (t u:Tok) (s:Shared) (Q:Value→Shared→Prop) (E:Value→Shared→Prop),Q (.bool (g i j)) s→wpAny (model X.prog X.w) X.A (f (.int i t) (.int j u)) Q E s) :
    OpR X f (rI0 fun i j=>.bl (g i j)):=by
  intro pins s σ H x y v u Q I rx ry h
  obtain ⟨i,j,rfl,rfl,q⟩:=h
  obtain ⟨t,rfl⟩:=rx
  obtain ⟨t',rfl⟩:=ry
  exact rule i j t t' s _ _ ⟨.bl (g i j),H,I,rfl,q⟩

def IL (i j:Int):Prop:=0≤j∧j≤1000000∧i.natAbs < 2 ^ 64
theorem cu:OpR X (binaryOp .Add) (rI0 fun i j=>.int (i+j)):=Ge fun _ _ _ _ _ _ _ q=>add_int q
theorem Eb:OpR X (binaryOp .Sub) (rI0 fun i j=>.int (i - j)):=Ge fun _ _ _ _ _ _ _ q=>sub_int q
theorem fF:OpR X (binaryOp .Mod) (rI (fun _ j=>0 < j) fun i j=>.int (i % j)):=opI fun i j _ _ _ _ _ hc q=>by
  have h1:(0:Int) < j:=hc
  exact mod_int' (by omega) (by rw [Int.fmod_eq_emod_of_nonneg i (by omega)];exact q)
theorem dc:OpR X (binaryOp .Pow) (rI IL fun i j=>.int (i ^ j.toNat)):=opI fun _ _ _ _ _ _ _ hc q=>pow_int_small hc.1 hc.2.1 hc.2.2 q
theorem unI {f:Value→Sem Value} {g:Int→Int}
    (rule:∀ (i:Int) (t:Tok) (s:Shared) (Q:Value→Shared→Prop) (E:Value→Shared→Prop),Q (.int (g i) s.toks) { s with toks:=s.toks+1 }→wpAny (model X.prog X.w) X.A (f (.int i t)) Q E s) :
    UnR X f (rU fun i=>.int (g i)):=by
  intro pins s σ H x v Q I rx h
  obtain ⟨i,rfl,q⟩:=h
  obtain ⟨t,rfl⟩:=rx
  exact rule i t s _ _ ⟨.int (g i),H,I.tok _,⟨_,rfl⟩,q⟩
theorem DA:UnR X (unaryOp .USub) (rU fun i=>.int (-i)):=unI fun _ _ _ _ _ q=>neg_int q
end

def F0:V→V→Bool
  | .non,.non=>true | .non,.int _=>true | .int _,.non=>true | .non,.bl _=>true | .bl _,.non=>true | .non,.str _=>true | .str _,.non=>true
  | .int _,.int _=>true | .bl _,.bl _=>true | .str _,.str _=>true | .byt _,.byt _=>true
  | .int _,.str _=>true | .str _,.int _=>true | .bl _,.str _=>true | .str _,.bl _=>true
  | _,_=>false
def rEq:R2:=fun x y H Q=>F0 x y=true∧Q (.bl (decide (x=y))) H
def rNe:R2:=fun x y H Q=>F0 x y=true∧Q (.bl (!decide (x=y))) H

theorem vz {i j:Int}:decide (V.int i=V.int j)=(i == j):=by
  rw [Bool.eq_iff_iff]
  simp
theorem An {i j:Bool}:decide (V.bl i=V.bl j)=(i == j):=by
  rw [Bool.eq_iff_iff]
  simp
theorem vv {i j:Str}:decide (V.str i=V.str j)=(i == j):=by
  rw [Bool.eq_iff_iff]
  simp
theorem vA {i j:Array UInt8}:decide (V.byt i=V.byt j)=(i.toList == j.toList):=by
  rw [Bool.eq_iff_iff]
  cases i
  cases j
  simp

section
variable {X:Cx} {a b c:Expr} {ta tb tc:TE} {pos:Pos}
theorem bh {pins:List (Addr×Obj)} {σ : St} {H:Hp} {s:Shared} {Q:VK} {k k':Bool} (I:Inv X pins σ H s) (q:Q (.bl k) H) (e:k=k'):EP X pins σ Q (.bool k') s:=by
  subst e
  exact ⟨.bl k,H,I,rfl,q⟩
theorem cM:OpR X (compareOp .Eq) rEq:=by
  intro pins s σ H x y v u Q I rx ry h
  obtain ⟨hs,q⟩:=h
  cases x with
  | non=>
    cases rx
    cases y with
    | non=>cases ry;exact PySem.EqNone.eq_none_none (bh I q (by simp))
    | bl j=>cases ry;exact PySem.EqNone.eq_none_bool (bh I q (by simp))
    | int j=>obtain ⟨t',rfl⟩:=ry;exact PySem.EqNone.eq_none_int (bh I q (by simp))
    | str j=>obtain ⟨t',rfl⟩:=ry;exact PySem.EqNone.eq_none_str (bh I q (by simp))
    | _=>exact absurd (show false=true from hs) Bool.false_ne_true
  | bl i=>
    cases rx
    cases y with
    | non=>cases ry;exact PySem.EqNone.eq_bool_none (bh I q (by simp))
    | bl j=>cases ry;exact eq_bool (bh I q An)
    | str j=>obtain ⟨t',rfl⟩:=ry;exact PySem.EqMixed.eq_bool_str (bh I q (by simp))
    | _=>exact absurd (show false=true from hs) Bool.false_ne_true
  | int i=>
    obtain ⟨t,rfl⟩:=rx
    cases y with
    | non=>cases ry;exact PySem.EqNone.eq_int_none (bh I q (by simp))
    | int j=>obtain ⟨t',rfl⟩:=ry;exact eq_int (bh I q vz)
    | str j=>obtain ⟨t',rfl⟩:=ry;exact PySem.EqMixed.eq_int_str (bh I q (by simp))
    | _=>exact absurd (show false=true from hs) Bool.false_ne_true
  | str i=>
    obtain ⟨t,rfl⟩:=rx
    cases y with
    | non=>cases ry;exact PySem.EqNone.eq_str_none (bh I q (by simp))
    | bl j=>cases ry;exact PySem.EqMixed.eq_str_bool (bh I q (by simp))
    | int j=>obtain ⟨t',rfl⟩:=ry;exact PySem.EqMixed.eq_str_int (bh I q (by simp))
    | str j=>obtain ⟨t',rfl⟩:=ry;exact eq_str (bh I q vv)
    | _=>exact absurd (show false=true from hs) Bool.false_ne_true
  | byt i=>
    obtain ⟨t,rfl⟩:=rx
    cases y with
    | byt j=>obtain ⟨t',rfl⟩:=ry;exact PySem.W.eq_bytes (bh I q vA)
    | _=>exact absurd (show false=true from hs) Bool.false_ne_true
  | _=>cases y <;> exact absurd (show false=true from hs) Bool.false_ne_true
theorem j7:OpR X (compareOp .NotEq) rNe:=by
  intro pins s σ H x y v u Q I rx ry h
  obtain ⟨hs,q⟩:=h
  cases x with
  | non=>
    cases rx
    cases y with
    | non=>cases ry;exact PySem.EqNone.ne_none_none (bh I q (by simp))
    | bl j=>cases ry;exact PySem.EqNone.ne_none_bool (bh I q (by simp))
    | int j=>obtain ⟨t',rfl⟩:=ry;exact PySem.EqNone.ne_none_int (bh I q (by simp))
    | str j=>obtain ⟨t',rfl⟩:=ry;exact PySem.EqNone.ne_none_str (bh I q (by simp))
    | _=>exact absurd (show false=true from hs) Bool.false_ne_true
  | bl i=>
    cases rx
    cases y with
    | non=>cases ry;exact PySem.EqNone.ne_bool_none (bh I q (by simp))
    | bl j=>cases ry;exact ne_bool (bh I q (congrArg not An))
    | str j=>obtain ⟨t',rfl⟩:=ry;exact PySem.EqMixed.ne_bool_str (bh I q (by simp))
    | _=>exact absurd (show false=true from hs) Bool.false_ne_true
  | int i=>
    obtain ⟨t,rfl⟩:=rx
    cases y with
    | non=>cases ry;exact PySem.EqNone.ne_int_none (bh I q (by simp))
    | int j=>obtain ⟨t',rfl⟩:=ry;exact ne_int (bh I q (congrArg not vz))
    | str j=>obtain ⟨t',rfl⟩:=ry;exact PySem.EqMixed.ne_int_str (bh I q (by simp))
    | _=>exact absurd (show false=true from hs) Bool.false_ne_true
  | str i=>
    obtain ⟨t,rfl⟩:=rx
    cases y with
    | non=>cases ry;exact PySem.EqNone.ne_str_none (bh I q (by simp))
    | bl j=>cases ry;exact PySem.EqMixed.ne_str_bool (bh I q (by simp))
    | int j=>obtain ⟨t',rfl⟩:=ry;exact PySem.EqMixed.ne_str_int (bh I q (by simp))
    | str j=>obtain ⟨t',rfl⟩:=ry;exact ne_str (bh I q (congrArg not vv))
    | _=>exact absurd (show false=true from hs) Bool.false_ne_true
  | byt i=>
    obtain ⟨t,rfl⟩:=rx
    cases y with
    | byt j=>obtain ⟨t',rfl⟩:=ry;exact PySem.W.ne_bytes (bh I q (congrArg not vA))
    | _=>exact absurd (show false=true from hs) Bool.false_ne_true
  | _=>cases y <;> exact absurd (show false=true from hs) Bool.false_ne_true

theorem Gd:OpR X (compareOp .Lt) (rI0 fun i j=>.bl (decide (i < j))):=Bv fun _ _ _ _ _ _ _ q=>lt_int q
theorem eU:OpR X (compareOp .LtE) (rI0 fun i j=>.bl (decide (i≤j))):=Bv fun _ _ _ _ _ _ _ q=>le_int q
theorem uY:OpR X (compareOp .Gt) (rI0 fun i j=>.bl (decide (j < i))):=Bv fun _ _ _ _ _ _ _ q=>gt_int q
theorem Dj:OpR X (compareOp .GtE) (rI0 fun i j=>.bl (decide (j≤i))):=Bv fun _ _ _ _ _ _ _ q=>ge_int q
theorem v9:OpR X (compareOp .In) (fun x y H Q=>∃ i j,x = .str i∧y = .str j∧Q (.bl (!(Builtin.Str.occurrences j i 0 j.length 1).isEmpty)) H):=by
  intro pins s σ H x y v u Q I rx ry h
  obtain ⟨i,j,rfl,rfl,q⟩:=h
  obtain ⟨t,rfl⟩:=rx
  obtain ⟨t',rfl⟩:=ry
  exact in_str (bh I q rfl)

theorem aH (b:Expr) {op:CmpOp} (h:op≠.In:=by decide) (h2:op≠.NotIn:=by decide):behindInMarks op b=false:=by
  have e1:(op == CmpOp.In)=false:=by cases op <;> first | rfl | exact absurd rfl h
  have e2:(op == CmpOp.NotIn)=false:=by cases op <;> first | rfl | exact absurd rfl h2
  cases b <;> simp [behindInMarks,e1,e2]
theorem bA {op:CmpOp} {r:R2} (ho:OpR X (compareOp op) r) (ha:PE X a ta) (hb:PE X b tb) (hm:behindInMarks op b=false):PE X (.Compare a [op] [b] pos) (tOp r ta tb):=by
  intro pins s σ H Q I h
  exact wpAny_Compare1 (Fv ha hb I h fun v u s2 x y H2 I2 rx ry q=>ho pins s2 σ H2 x y v u Q I2 rx ry q) hm
def xV (t:TE):TT:=fun σ H Q=>t σ H fun x H'=>∃ k,x = .bl k∧Q k H'
theorem aJ {op:CmpOp} {r:R2} (ho:OpR X (compareOp op) r) (ha:PE X a ta) (hb:PE X b tb) (hm:behindInMarks op b=false):PT X (.Compare a [op] [b] pos) (xV (tOp r ta tb)):=by
  intro pins s σ H Q I h
  refine wpAny_isTrue_Compare1 (thn (ha pins s σ H _ I h) fun v s1 ⟨x,H1,I1,r1,q1⟩=>thn (hb pins s1 σ H1 _ I1 q1) fun u s2 ⟨y,H2,I2,r2,q2⟩=>
    thn (ho pins s2 σ H2 x y v u _ I2 r1 r2 q2) fun c s3 ⟨z,H3,I3,r3,k,e,q3⟩=>?_) hm
  subst e
  cases r3
  exact wpAny_truthy_bool ⟨H3,I3,q3⟩
def ya (r r':R2) (ta tb tc:TE):TE:=fun σ H Q=>ta σ H fun x H1=>tb σ H1 fun y H2=>r x y H2 fun z H3=>∃ k,z = .bl k ∧
  (if k=true then tc σ H3 fun w' H4=>r' y w' H4 Q else Q (.bl false) H3)
theorem iZ {op op':CmpOp} {r r':R2} (ho:OpR X (compareOp op) r) (ho':OpR X (compareOp op') r') (ha:PE X a ta) (hb:PE X b tb) (hc:PE X c tc)
    (hm:lastMarks [op,op'] [b,c]=false:=by with_unfolding_all rfl):PT X (.Compare a [op,op'] [b,c] pos) (xV (ya r r' ta tb tc)):=by
  intro pins s σ H Q I h
  refine isTrue_chain (thn (ha pins s σ H _ I h) fun v s1 ⟨x,H1,I1,r1,q1⟩=>test_link (thn (hb pins s1 σ H1 _ I1 q1) fun u s2 ⟨y,H2,I2,r2,q2⟩=>
    thn (ho pins s2 σ H2 x y v u _ I2 r1 r2 q2) fun d s3 ⟨z,H3,I3,r3,k,e,q3⟩=>?_)) hm
  subst e
  cases r3
  refine wpAny_truthy_bool ?_
  cases k with
  | false=>
    obtain ⟨k',e',q'⟩:=q3
    cases e'
    exact ite_ff ⟨H3,I3,q'⟩
  | true=>
    refine ite_tt (test_last (thn (hc pins s3 σ H3 _ I3 q3) fun w' s4 ⟨z',H4,I4,r4,q4⟩=>thn (ho' pins s4 σ H4 y z' u w' _ I4 r2 r4 q4) fun d' s5 ⟨z2,H5,I5,r5,k2,e2,q5⟩=>?_))
    subst e2
    cases r5
    exact wpAny_truthy_bool ⟨H5,I5,q5⟩

theorem jK:(sizeLine:Nat) < 2 ^ 63:=by rw [sizeLine_eq];decide
theorem vals1 {x:V} {us:List Value} (r:Vals [x] us):∃ u,us=[u]∧RelV x u:=by
  cases r with
  | cons r1 r2=>cases r2;exact ⟨_,rfl,r1⟩
theorem vals2 {x y:V} {us:List Value} (r:Vals [x,y] us):∃ u w',us=[u,w']∧RelV x u∧RelV y w':=by
  cases r with
  | cons r1 r2=>
    cases r2 with
    | cons r3 r4=>cases r4;exact ⟨_,_,rfl,r1,r3⟩
theorem xj (hc:X.calm=true):cV X (.builtin "max") (fun xs H Q=>∃ i j,xs=[.int i,.int j]∧Q (.int (if j > i then j else i)) H):=by
  intro pins s σ H xs us Q I r h
  obtain ⟨i,j,rfl,q⟩:=h
  obtain ⟨u,w',rfl,⟨t,rfl⟩,⟨t',rfl⟩⟩:=vals2 r
  refine max_two_ints (I.ok.hd hc) fun h' tk k=>⟨_,H,I.kept k,?_,q⟩
  by_cases hj:j > i
  · rw [if_pos hj,if_pos hj];exact ⟨_,rfl⟩
  · rw [if_neg hj,if_neg hj];exact ⟨_,rfl⟩
theorem xh (hc:X.calm=true):cV X (.builtin "min") (fun xs H Q=>∃ i j,xs=[.int i,.int j]∧Q (.int (if j < i then j else i)) H):=by
  intro pins s σ H xs us Q I r h
  obtain ⟨i,j,rfl,q⟩:=h
  obtain ⟨u,w',rfl,⟨t,rfl⟩,⟨t',rfl⟩⟩:=vals2 r
  refine min_two_ints (I.ok.hd hc) fun h' tk k=>⟨_,H,I.kept k,?_,q⟩
  by_cases hj:j < i
  · rw [if_pos hj,if_pos hj];exact ⟨_,rfl⟩
  · rw [if_neg hj,if_neg hj];exact ⟨_,rfl⟩
end
end L2

namespace L2
open PySem PySem.Spec PyProof.Rows

structure xD (h:Heap) (x dx C:Addr) (mA:Str→Option Value):Prop where
  obj:h.get? x=some (PySem.W.instObj C dx)
  ns:h.Ns1 dx mA
  ne:dx≠x

theorem nB {h:Heap} {dx:Addr} {mA:Str→Option Value} (n:h.Ns1 dx mA):∃ od,h.get? dx=some od∧∀ name,PySem.W.lookIn name od=some (mA name):=by
  obtain ⟨o,es,ep,ho,hd,hk,_,hm⟩:=n
  refine ⟨o,ho,fun name=>?_⟩
  have e:=hm name
  unfold nsFind findBy at e
  rw [← Array.find?_toList] at e
  unfold PySem.W.lookIn
  rw [hd]
  dsimp only
  split
  · rename_i y q
    rw [q] at e
    exact congrArg some e
  · rename_i q
    rw [q] at e
    have a:es.toList.any (·.refKey)=false:=by
      rw [List.any_eq_false]
      intro y hy
      obtain ⟨z,t,hkey⟩:=hk y (Array.mem_toList_iff.mp hy)
      simp [DictEntry.refKey,hkey]
    have a':¬ es.toList.any (·.refKey)=true:=by rw [a];exact Bool.false_ne_true
    rw [if_neg a']
    exact congrArg some e

theorem xD.look {h:Heap} {x dx C:Addr} {mA:Str→Option Value} (I:xD h x dx C mA):∃ od,PySem.W.InstAt h x (PySem.W.instObj C dx) C (some od)∧∀ name,PySem.W.lookIn name od=some (mA name):=
  let ⟨od,ho,hl⟩:=nB I.ns
  ⟨od,⟨I.obj,rfl,rfl,ho⟩,hl⟩

section
variable {prog:Program} {w:World} {A:Around} {E:Value→Shared→Prop} {s:Shared} {K:PySem.W.Frag} {x dx C f:Addr} {mA:Str→Option Value} {name:Str} {v:Value}

theorem get_map {expr:Bool} {Q:Value→Shared→Prop} (X:K.In s.heap) (I:xD s.heap x dx C mA) (hg:PySem.W.plainGet K C name=true) (hh:PySem.W.hasDictIn K C=true)
    (ha:PySem.W.findIn K (.ref C) name=some none) (hv:mA name=some v) (hv':PySem.W.handedIn v=true) (h:Q v { s with toks:=s.toks+1 }) :
    wpAny (model prog w) A (getAttr (.ref x) name expr) Q E s:=by
  obtain ⟨od,J,hl⟩:=I.look
  exact PySem.W.get_value X J (PySem.W.plainGet_of hg).1 (PySem.W.findObj_own hh ha rfl (by rw [hl,hv])) hv' h

theorem A0 {ns:List Str} {Q:Unit→Shared→Prop} (X:K.In s.heap) (I:xD s.heap x dx C mA)
    (hs:PySem.W.findIn K (.ref C) "__setattr__" = some (some (.builtin "object.__setattr__"))) (hp:PySem.W.plainOver K C=true) (ht:PySem.W.takerIn K C name=some none) (hh:PySem.W.hasDictIn K C=true)
    (hw:PySem.Within mA ns) (hsz:ns.length≤sizeLine)
    (h:∀ h',xD h' x dx C (fun y=>if y=name then some v else mA y)→Heap.SameBut dx s.heap h'→Q () { s with heap:=h',toks:=s.toks+2 }) :
    wpAny (model prog w) A (setAttr (.ref x) name v) Q E s:=by
  obtain ⟨od,J,hl⟩:=I.look
  refine PySem.W.set_plain X J hs (PySem.W.osa_open (s:={ s with toks:=s.toks+1 }) (r:=none) X J hp ht fun b=>?_)
  obtain ⟨cd,hc,hd'⟩:=PySem.W.any_some hh
  have hx:s.heap.get? x=some ⟨.ref C,some dx,.plain,#[]⟩:=I.obj
  refine wpAny_bind (wpAny_pure (wpAny_bind (wpAny_bind (wpAny_loadPart hx (wpAny_bind (PySem.W.Looks.here (s:={ s with toks:=s.toks+1 }) (PySem.W.looks_clsIn X hc) ?_))))))
  rw [hd']
  refine wpAny_pure (a:=some dx) (wpAny_bind (wpAny_pure (wpAny_bind ?_)))
  refine wpAny_nsSet1 (s:={ s with toks:=s.toks+1 }) I.ns fun h' hn2 hs2=>?_
  obtain ⟨oD,esD,epD,hoD,hdD,hcD⟩:=hn2.count (PySem.Within.cons name v hw)
  refine wpAny_bind (wpAny_lookBehind hoD (by rw [hdD];exact pastItsLine_dict (Nat.le_trans hcD (by rw [List.length_cons];omega))) ?_)
  exact wpAny_pure (h _ ⟨(hs2.2 _ (Ne.symm I.ne)).trans I.obj,hn2,I.ne⟩ hs2)

theorem qR {R:Result→Shared→Prop} {vs:List Value} {kw:List (Str×Value)} (X:K.In s.heap) (hm:PySem.W.makesIn K C=true)
    (hi:PySem.W.findIn K (.ref C) "__init__" = some (some (.ref f))) (hf:PySem.W.typeIn K (.ref f)=some (.type "function"))
    (h:codeAny (model prog w) (A.under (.builtin "type.__call__" ⟨.ref C::vs,kw⟩)) (.call (.ref f) ⟨.ref (s.heap.objs.size+1)::vs,kw⟩) (PySem.W.InitBack (s.heap.objs.size+1) R)
      { s with heap:=(s.heap.push PySem.W.emptyDict).push (PySem.W.instObj C s.heap.objs.size) }) :
    codeAny (model prog w) A (.call (.ref C) ⟨vs,kw⟩) R s:=by
  obtain ⟨hh,g,d,t,os⟩:=s
  exact PySem.W.make_core (PySem.W.makes_of X hm) (PySem.W.looks_findIn X hi) (fun self=>PySem.W.bind_fn X self hf) (.inl rfl) h
end

def bY (f:Str) (v:V):List (Str×V)→List (Str×V)
  | []=>[(f,v)]
  | (g,x)::r=>if g=f then (g,v)::r else (g,x)::bY f v r
theorem gi (f g:Str) (v:V):∀ fs:List (Str×V),(bY f v fs).lookup g=if g=f then some v else fs.lookup g
  | []=>by
    show List.lookup g [(f,v)]=_
    by_cases h:g=f
    · have hb:(g == f)=true:=beq_iff_eq.mpr h
      simp only [List.lookup,hb,if_pos h]
    · have hb:(g == f)=false:=beq_eq_false_iff_ne.mpr h
      simp only [List.lookup,hb,if_neg h]
  | (k,x)::r=>by
    have ih:=gi f g v r
    rw [show bY f v ((k,x)::r)=(if k=f then (k,v)::r else (k,x)::bY f v r) from rfl]
    by_cases hk:k=f
    · rw [if_pos hk]
      by_cases h:g=k
      · have hb:(g == k)=true:=beq_iff_eq.mpr h
        simp only [List.lookup,hb,if_pos (h.trans hk)]
      · have hb:(g == k)=false:=beq_eq_false_iff_ne.mpr h
        simp only [List.lookup,hb,if_neg (fun e:g=f=>h (e.trans hk.symm))]
    · rw [if_neg hk]
      by_cases h:g=k
      · have hb:(g == k)=true:=beq_iff_eq.mpr h
        simp only [List.lookup,hb,if_neg (fun e:g=f=>hk (h.symm.trans e))]
      · have hb:(g == k)=false:=beq_eq_false_iff_ne.mpr h
        simp only [List.lookup,hb]
        exact ih
theorem fm (f:Str) (v:V):∀ fs:List (Str×V),f∈(bY f v fs).map (·.1)∧∀ g,g∈fs.map (·.1)→g∈(bY f v fs).map (·.1)
  | []=>⟨by simp [bY],fun g h=>by simp at h⟩
  | (k,x)::r=>by
    obtain ⟨i1,i2⟩:=fm f v r
    rw [show bY f v ((k,x)::r)=(if k=f then (k,v)::r else (k,x)::bY f v r) from rfl]
    by_cases hk:k=f
    · rw [if_pos hk]
      subst hk
      exact ⟨by simp,fun g h=>by simpa using h⟩
    · rw [if_neg hk]
      refine ⟨?_,fun g h=>?_⟩
      · rw [List.map_cons]
        exact List.mem_cons_of_mem _ i1
      · rw [List.map_cons] at h ⊢
        rcases List.mem_cons.mp h with e | e
        · exact List.mem_cons.mpr (.inl e)
        · exact List.mem_cons_of_mem _ (i2 g e)
theorem j8 (f:Str) (v:V):∀ fs:List (Str×V),(bY f v fs).length≤fs.length+1
  | []=>by simp [bY]
  | (k,x)::r=>by
    have ih:=j8 f v r
    rw [show bY f v ((k,x)::r)=(if k=f then (k,v)::r else (k,x)::bY f v r) from rfl]
    by_cases hk:k=f
    · rw [if_pos hk,List.length_cons,List.length_cons];omega
    · rw [if_neg hk,List.length_cons,List.length_cons];omega

theorem jq.some_of {v:V} {o:Option Value} (r:jq (some v) o):∃ u,o=some u∧RelV v u:=by
  cases o with
  | none=>exact (show False from r).elim
  | some u=>exact ⟨u,rfl,r⟩
theorem nK {v:V} {u:Value} (r:RelV v u):PySem.W.handedIn u=true:=by
  cases v with
  | non=>cases (show u=Value.none from r);rfl
  | bl b=>cases (show u=Value.bool b from r);rfl
  | int i=>obtain ⟨t,e⟩:=(show ∃ t,u=Value.int i t from r);cases e;rfl
  | str x=>obtain ⟨t,e⟩:=(show ∃ t,u=Value.str x t from r);cases e;rfl
  | byt b=>obtain ⟨t,e⟩:=(show ∃ t,u=Value.bytes b t from r);cases e;rfl
  | flt b=>obtain ⟨t,e⟩:=(show ∃ t,u=Value.float b t from r);cases e;rfl
  | ref a=>cases (show u=Value.ref a from r);rfl
  | ty n=>cases (show u=Value.type n from r);rfl

section
variable {P:Program} {w:World} {H H':Hp} {h h':Heap} {a C dx:Addr} {fs fs':List (Str×V)}
theorem kM (hok:HOk P w H h) (e:H a=some (.ins C dx fs)):∃ mA,xD h a dx C mA∧(∀ f,jq (fs.lookup f) (mA f))∧PySem.Within mA (fs.map (·.1))∧fs.length≤1000∧H dx=some (.own a):=by
  obtain ⟨d,z,ne,ob,mA,n,r,q⟩:=(show bH P w H h a (.ins C dx fs) from hok a _ e)
  exact ⟨mA,⟨ob,n,ne⟩,r,q,z,d⟩
end

structure Cls (K:PySem.W.Frag) (C:Addr):Prop where
  pg:PySem.W.plainGet K C Str.empty=true
  hd:PySem.W.hasDictIn K C=true
  po:PySem.W.plainOver K C=true
  sa:PySem.W.findIn K (.ref C) "__setattr__" = some (some (.builtin "object.__setattr__"))
theorem Cls.get {K:PySem.W.Frag} {C:Addr} (c:Cls K C) (f:Str):PySem.W.plainGet K C f=true:=c.pg
def bz (K:PySem.W.Frag) (C:Addr) (f:Str):Prop:=PySem.W.findIn K (.ref C) f=some none
theorem bz.FG {K:PySem.W.Frag} {C:Addr} {f:Str} (n:bz K C f):PySem.W.takerIn K C f=some none:=by
  unfold PySem.W.takerIn
  rw [show PySem.W.findIn K (.ref C) f=some none from n]
  rfl
structure Con (K:PySem.W.Frag) (C:Addr) (f:Str) (v:V) (u:Value):Prop where
  at_:PySem.W.findIn K (.ref C) f=some (some u)
  rel:RelV v u
  get:PySem.W.specialIn K u "__get__" = some none
  cp:PySem.W.copiedNames.contains f=false
structure Meth (K:PySem.W.Frag) (C:Addr) (m:Str) (f:Addr):Prop where
  at_:PySem.W.findIn K (.ref C) m=some (some (.ref f))
  fn:PySem.W.isFn K (.ref f)=true
  kp:PySem.W.keepIn K (.ref f)=true

section
variable {X:Cx} {pins:List (Addr×Obj)} {σ : St} {H:Hp} {s:Shared} {a C dx:Addr} {fs:List (Str×V)} {f:Str} {v:V} {A:Around} {E:Value→Shared→Prop}

theorem tO {b:Bool} {Q:Value→Shared→Prop} (I:Inv X pins σ H s) (e:H a=some (.ins C dx fs)) (c:Cls X.K C) (n:bz X.K C f) (l:fs.lookup f=some v)
    (h:∀ u s',Inv X pins σ H s'→RelV v u→Q u s'):wpAny (model X.prog X.w) A (getAttr (.ref a) f b) Q E s:=by
  obtain ⟨mA,O,r,_,_,_⟩:=kM I.hok e
  obtain ⟨u,hu,ru⟩:=jq.some_of (v:=v) (o:=mA f) (by rw [← l];exact r f)
  exact get_map I.kIn O (c.get f) c.hd n hu (nK ru) (h u _ (I.tok _) ru)

theorem sN {y:V} {u:Value} {Q:Unit→Shared→Prop} (I:Inv X pins σ H s) (e:H a=some (.ins C dx fs)) (c:Cls X.K C) (n:bz X.K C f) (hl:fs.length < 1000) (ry:RelV y u)
    (h:∀ s',Inv X pins σ (upd H a (.ins C dx (bY f y fs))) s'→Q () s'):wpAny (model X.prog X.w) A (setAttr (.ref a) f u) Q E s:=by
  obtain ⟨mA,O,r,wi,_,ho⟩:=kM I.hok e
  have hz:(fs.map (·.1)).length≤sizeLine:=by rw [List.length_map,sizeLine_eq];omega
  refine A0 I.kIn O c.sa c.po n.FG c.hd wi hz fun h' O' sb=>h _ ?_
  have hd:∃ o,h'.get? dx=some o:=let ⟨o,_,_,e',_⟩:=O'.ns;⟨o,e'⟩
  refine I.write (x:=a) (e:=dx) (by rw [e];exact True.intro) (.inr ho) (fun b q hb z=>(sb.2 b hb).trans z) hd ?_
  refine ⟨by rw [aD O.ne];exact ho,?_,O.ne,O'.obj,_,O'.ns,fun g=>?_,fun g hg=>?_⟩
  · have:=j8 f y fs;omega
  · show jq ((bY f y fs).lookup g) (if g=f then some u else mA g)
    rw [gi]
    by_cases q:g=f
    · rw [if_pos q,if_pos q];exact ry
    · rw [if_neg q,if_neg q];exact r g
  · by_cases q:g=f
    · rw [q];exact (fm f y fs).1
    · refine (fm f y fs).2 g (wi g fun z=>hg ?_)
      show (if g=f then some u else mA g)=none
      rw [if_neg q];exact z

theorem Inv.made (I:Inv X pins σ H s):Inv X pins σ (upd (upd H s.heap.objs.size (.own (s.heap.objs.size+1))) (s.heap.objs.size+1) (.ins C s.heap.objs.size []))
    { s with heap:=(s.heap.push PySem.W.emptyDict).push (PySem.W.instObj C s.heap.objs.size) }:=by
  have e1:(s.heap.push PySem.W.emptyDict).get? s.heap.objs.size=some PySem.W.emptyDict:=Heap.get?_push_size s.heap rfl
  have e2:((s.heap.push PySem.W.emptyDict).push (PySem.W.instObj C s.heap.objs.size)).get? (s.heap.objs.size+1)=some (PySem.W.instObj C s.heap.objs.size):=by
    have:=Heap.get?_push_size (s.heap.push PySem.W.emptyDict) (o:=PySem.W.instObj C s.heap.objs.size) rfl
    rwa [Heap.size_push] at this
  have e3:(s.heap.push PySem.W.emptyDict).Ns s.heap.objs.size (fun _=>none):=⟨PySem.W.emptyDict,#[],_,e1,rfl,(fun e he=>absurd he (by simp)),fun _=>rfl⟩
  have I1:=I.laid (a:=s.heap.objs.size) (o:=.own (s.heap.objs.size+1)) (h':=s.heap.push PySem.W.emptyDict) (t':=s.toks) (fun b u q=>Heap.get?_push_of_some _ q) (Nat.le_refl _) ⟨_,e1⟩
  refine I1.laid (a:=s.heap.objs.size+1) (o:=.ins C s.heap.objs.size []) (t':=s.toks) (fun b u q=>Heap.get?_push_of_some _ q) (Nat.le_of_eq (Heap.size_push _ _)) ?_
  have ne:s.heap.objs.size≠s.heap.objs.size+1:=Nat.ne_of_lt (Nat.lt_succ_self _)
  refine ⟨by rw [aD ne,ao],Nat.zero_le _,ne,e2,fun _=>none,(Heap.Ns1.of_empty e3).at fun o q=>Heap.get?_push_of_some _ q,fun _=>True.intro,fun y hy=>absurd rfl hy⟩

theorem vE {prog:Program} {w:World} {env:Env} {e:Expr} {f:Str} {pos:Pos} {s:Shared} {Q:Value→Shared→Prop} (hb:attributeBase e f env (eval e env)=eval e env)
    (h:wpAny (model prog w) A (eval e env) (fun o s₁=>wpAny (model prog w) A (getAttr o f true) Q E s₁) E s):wpAny (model prog w) A (eval (.Attribute e f pos) env) Q E s:=
  Attribute_any_ h (by rw [arm_eval_Attribute,hb])
end

def FQ (K:PySem.W.Frag) (ta:TE) (f:Str):TE:=fun σ H Q=>ta σ H fun x H1=>∃ a C dx fs v,x = .ref a∧H1 a=some (.ins C dx fs)∧Cls K C∧bz K C f∧fs.lookup f=some v∧Q v H1
def F2 (K:PySem.W.Frag) (ta tv:TE) (f:Str):TS:=fun D σ H=>tv σ H fun y H1=>ta σ H1 fun x H2=>∃ a C dx fs,x = .ref a∧H2 a=some (.ins C dx fs)∧Cls K C∧bz K C f∧fs.length < 1000 ∧
  D.nx σ (upd H2 a (.ins C dx (bY f y fs)))
section
variable {X:Cx} {o e value:Expr} {f:Str} {pos pos' tpos:Pos} {ta tv:TE}
theorem bg (he:PE X e ta) (hb:attributeBase e f X.env (eval e X.env)=eval e X.env):PE X (.Attribute e f pos) (FQ X.K ta f):=by
  intro pins s σ H Q I h
  refine vE hb (thn (he pins s σ H _ I h) fun u s1 ⟨x,H1,I1,rx,a,C,dx,fs,v,ex,ea,c,n,l,q⟩=>?_)
  subst ex
  obtain rfl:u=Value.ref a:=rx
  exact tO I1 ea c n l fun u' s2 I2 ru=>⟨v,H1,I2,ru,q⟩
theorem iE (ha:PE X o ta) (hv:PE X value tv) (hs:swapsWith value (some (.Attribute o f pos')) pos.line X.env=pure false):PS X (.Assign [.Attribute o f pos'] value pos) (F2 X.K ta tv f):=by
  intro pins s σ H D I h
  refine plainObj_wpAny_Assign_Attribute (thn (hv pins s σ H _ I h) fun u s1 ⟨y,H1,I1,ry,q⟩=>thn (ha pins s1 σ H1 _ I1 q) fun ov s2 ⟨x,H2,I2,rx,a,C,dx,fs,ex,ea,c,n,l,q2⟩=>?_) hs
  subst ex
  obtain rfl:ov=Value.ref a:=rx
  exact sN I2 ea c n l ry fun s3 I3=>⟨σ,_,I3,q2⟩
end

section
variable {X:Cx} {pins:List (Addr×Obj)} {σ : St} {H:Hp} {s:Shared} {A:Around} {E:Value→Shared→Prop} {Q:Value→Shared→Prop} {c:Value} {b:Bool}
inductive ie (K:PySem.W.Frag) (H:Hp):V→Value→Prop where
  | non:ie K H .non (.type "NoneType")
  | bl (x:Bool):ie K H (.bl x) (.type "bool")
  | int (i:Int):ie K H (.int i) (.type "int")
  | str (x:Str):ie K H (.str x) (.type "str")
  | flt (x:UInt64):ie K H (.flt x) (.type "float")
  | lst {a:Addr} {xs:List V} (e:H a=some (.lst xs)):ie K H (.ref a) (.type "list")
  | frz {a:Addr} {o:Obj} {xs:List V} (e:H a=some (.frz o (.lst xs))):ie K H (.ref a) (.type "list")
  | tup {a:Addr} {xs:List V} (e:H a=some (.tup xs)):ie K H (.ref a) (.type "tuple")
  | dK {a:Addr} {kvs:List (Key×V)} (e:H a=some (.dK kvs)):ie K H (.ref a) (.type "dict")
  | dT {a:Addr} {kvs:List (List Key×V)} (e:H a=some (.dT kvs)):ie K H (.ref a) (.type "dict")
  | ins {a C dx:Addr} {fs:List (Str×V)} (e:H a=some (.ins C dx fs)) (cl:Cls K C) (ha:PySem.W.findIn K (.ref C) "__class__" = some (some (.builtin "object.__class__")))
      (hn:PySem.W.specialIn K (.builtin "object.__class__") "__get__" = some (some (.builtin "getset_descriptor.__get__"))) (htk:PySem.W.takesIn K (.builtin "object.__class__")=some true)
      (hm:PySem.W.mroIn K C (.type "object")=some true):ie K H (.ref a) (.ref C)
theorem nF {x:V} {u t:Value} (I:Inv X pins σ H s) (rx:RelV x u) (ty:ie X.K H x t) (e:PySem.W.kitOne X.K t c=some b) (h:∀ tk,Q (.bool b) { s with toks:=tk }) :
    wpAny (model X.prog X.w) A (call (.builtin "isinstance") [u,c]) Q E s:=by
  cases ty with
  | non=>cases (show u=Value.none from rx);exact PySem.W.kia_one PySem.W.kitx_none I.kIn True.intro e (fun z=>nomatch z) h
  | bl y=>cases (show u=Value.bool y from rx);exact PySem.W.kia_one PySem.W.kitx_bool I.kIn True.intro e (fun z=>nomatch z) h
  | int i=>obtain ⟨t,q⟩:=(show ∃ t,u=Value.int i t from rx);cases q;exact PySem.W.kia_one PySem.W.kitx_int I.kIn True.intro e (fun z=>nomatch z) h
  | str y=>obtain ⟨t,q⟩:=(show ∃ t,u=Value.str y t from rx);cases q;exact PySem.W.kia_one PySem.W.kitx_str I.kIn True.intro e (fun z=>nomatch z) h
  | flt y=>obtain ⟨t,q⟩:=(show ∃ t,u=Value.float y t from rx);cases q;exact PySem.W.kia_one PySem.W.kitx_float I.kIn True.intro e (fun z=>nomatch z) h
  | @lst a xs ea=>
    cases (show u=Value.ref a from rx)
    obtain ⟨_,_,n,_,h1⟩:=(show bH X.prog X.w H s.heap a (.lst xs) from I.hok a _ ea)
    exact PySem.W.kia_one PySem.W.kitx_list I.kIn ⟨_,h1,rfl⟩ e (fun z=>nomatch z) h
  | @frz a ob xs ea=>
    cases (show u=Value.ref a from rx)
    obtain ⟨_,_,_,n,_,h1⟩:=(show bH X.prog X.w H s.heap a (.frz ob (.lst xs)) from I.hok a _ ea)
    exact PySem.W.kia_one PySem.W.kitx_list I.kIn ⟨_,h1,rfl⟩ e (fun z=>nomatch z) h
  | @tup a xs ea=>
    cases (show u=Value.ref a from rx)
    obtain ⟨_,_,_,p⟩:=(show bH X.prog X.w H s.heap a (.tup xs) from I.hok a _ ea)
    obtain ⟨o,h1,h2,_⟩:=p
    exact PySem.W.kia_one PySem.W.kitx_tuple I.kIn ⟨o,h1,h2⟩ e (fun z=>nomatch z) h
  | @dK a kvs ea=>
    cases (show u=Value.ref a from rx)
    obtain ⟨_,_,vs,_,p⟩:=(show bH X.prog X.w H s.heap a (.dK kvs) from I.hok a _ ea)
    obtain ⟨o,es,ep,h1,h2,_⟩:=p
    exact PySem.W.kia_one PySem.W.kitx_dict I.kIn ⟨o,h1,h2.1⟩ e (fun z=>nomatch z) h
  | @dT a kvs ea=>
    cases (show u=Value.ref a from rx)
    obtain ⟨_,_,xs,_,o,es,ep,h1,h2,_⟩:=(show bH X.prog X.w H s.heap a (.dT kvs) from I.hok a _ ea)
    exact PySem.W.kia_one PySem.W.kitx_dict I.kIn ⟨o,h1,h2.1⟩ e (fun z=>nomatch z) h
  | @ins a C dx fs ea cl ha hn htk hm=>
    cases (show u=Value.ref a from rx)
    obtain ⟨mA,O,_⟩:=kM I.hok ea
    obtain ⟨od,J,_⟩:=O.look
    exact PySem.W.kia_one (PySem.W.kitx_own (cl.get _) cl.hd ha hn htk hm) I.kIn J e (fun z=>nomatch z) h
end
end L2

namespace L2
open PySem PySem.Spec PyProof.Rows

structure cy (k:Nat) (A:Around):Prop where
  hd:A.handled=none
  dp:A.depth+3 * k+5 < recursionLimit
  un:A.units+16 * k+200 < cLine
theorem cy.mono {j k:Nat} {A:Around} (r:cy k A) (h:j≤k):cy j A:=⟨r.hd,by have:=r.dp;omega,by have:=r.un;omega⟩
theorem cy.deeper {k:Nat} {A:Around} (r:cy (k+1) A) (env:Env):cy k (A.deeper env):=
  ⟨r.hd,by have:=r.dp;show A.depth+1+3 * k+5 < _;omega,by have:=r.un;show A.units+3+16 * k+200 < _;omega⟩
theorem tH {A:Around} {C:Addr} {us:List Value} {kw:List (Str×Value)}:(A.under (.builtin "type.__call__" ⟨.ref C::us,kw⟩)).depth=A.depth+1:=by
  first | rfl | simp [Around.under,Code.weight,Code.isCreation,Code.isGuard,Code.isCaller,Code.frames,Code.isFrame,guardIds]
theorem tG {A:Around} {C:Addr} {us:List Value} {kw:List (Str×Value)}:(A.under (.builtin "type.__call__" ⟨.ref C::us,kw⟩)).units=A.units+1:=by
  first | rfl | simp [Around.under,Code.cUnits,Code.frames,Code.isFrame]
theorem cy.make {k:Nat} {A:Around} (r:cy (k+1) A) (C:Addr) (us:List Value) (kw:List (Str×Value)):cy k (A.under (.builtin "type.__call__" ⟨.ref C::us,kw⟩)):=
  ⟨r.hd,by have:=r.dp;rw [tH];omega,by have:=r.un;rw [tG];omega⟩
theorem cy.depth {k:Nat} {A:Around} (r:cy k A):A.depth < recursionLimit:=by have:=r.dp;omega
def xX:TA:=fun _ H Q=>Q [] H
def j4 (ta:TE) (tr:TA):TA:=fun σ H Q=>ta σ H fun x H1=>tr σ H1 fun xs H2=>Q (x::xs) H2
section
variable {X:Cx} {e:Expr} {es:List Expr} {te:TE} {t:TA} {pos:Pos}
theorem af:PA X [] xX:=fun _ _ _ _ H Q I h=>Calls.spliced_nil ⟨[],H,I,.nil,h⟩
theorem aa (ha:PE X e te) (hr:PA X es t) (hs:starEach (e::es) X.env=(false,eval e X.env)::starEach es X.env:=by rfl):PA X (e::es) (j4 te t):=by
  intro pos pins s σ H Q I h
  rw [hs]
  show wpAny _ _ (spliced ((false,eval e X.env)::backTo pos (starEach es X.env))) _ _ s
  refine Calls.spliced_cons (thn (ha pins s σ H _ I h) fun u s1 ⟨x,H1,I1,r1,q1⟩=>?_)
  exact thn (hr pos pins s1 σ H1 _ I1 q1) fun us s2 ⟨xs,H2,I2,r2,q2⟩=>⟨x::xs,H2,I2,.cons r1 r2,q2⟩

def AS (t:TA):TE:=fun σ H Q=>t σ H fun xs H1=>xs.length≤sizeLine∧∀ p,H1 p=none→Q (.ref p) (upd H1 p (.tup xs))
def FL (t:TA):TE:=fun σ H Q=>t σ H fun xs H1=>xs.length≤sizeLine∧∀ p,H1 p=none→Q (.ref p) (upd H1 p (.lst xs))
theorem aP {x1} (h:PA X es t):PE X (.Tuple es x1 pos) (AS t):=by
  intro pins s σ H Q I hq
  refine wpAny_Tuple_spliced (thn (h pos pins s σ H _ I hq) fun us s1 ⟨xs,H1,I1,r,z,q⟩=>⟨by rw [← r.length];exact z,?_⟩)
  have hf:H1 s1.heap.objs.size=none:=I1.hok.fresh (Nat.le_refl _)
  refine ⟨.ref s1.heap.objs.size,upd H1 s1.heap.objs.size (.tup xs),I1.laid (t':=s1.toks) (fun b u e=>Heap.get?_push_of_some _ e) (Nat.le_refl _) ?_,rfl,q _ hf⟩
  exact ⟨z,us,r,⟨_,Heap.get?_push_size _ rfl,rfl,_,rfl⟩⟩
theorem bC (h:PA X es t):PE X (.List es pos) (FL t):=by
  intro pins s σ H Q I hq
  refine wpAny_List_spliced (thn (h pos pins s σ H _ I hq) fun us s1 ⟨xs,H1,I1,r,z,q⟩=>⟨by rw [← r.length];exact z,?_⟩)
  have hf:H1 s1.heap.objs.size=none:=I1.hok.fresh (Nat.le_refl _)
  refine ⟨.ref s1.heap.objs.size,upd H1 s1.heap.objs.size (.lst xs),I1.laid (t':=s1.toks) (fun b u e=>Heap.get?_push_of_some _ e) (Nat.le_refl _) ?_,rfl,q _ hf⟩
  exact ⟨z,us,0,r,Heap.get?_push_size _ rfl⟩
end

abbrev Sp:=List V→Hp→VK→XK→Prop
abbrev CXT:=List Env→Hp→Shared→XK→Value→Shared→Prop

structure rR (P:Program) (w:World) (K:PySem.W.Frag) (mg:Str→Option Value) (base:Heap) (A:Around) (outer:List Env) (s:Shared) (H:Hp):Prop where
  frames:A.frames=some outer
  mod:Mod K mg base
  bs:∀ b o,base.get? b=some o→s.heap.get? b=some o∧H b=none
  bsz:base.objs.size≤s.heap.objs.size
  iL:s.heap.FunFrames base outer
  frf:∀ b∈frs outer,H b=none
  hok:HOk P w H s.heap
  bare:AllBare s.gens
def CE (outer:List Env) (P:Program) (w:World) (H:Hp) (s:Shared) (Q:VK) (u:Value) (s':Shared):Prop:=
  ∃ v H',s'.os=s.os∧AllBare s'.gens∧Un (frs outer) [] H H' s.heap s'.heap∧HOk P w H' s'.heap∧RelV v u∧Q v H'
def CR (CX:CXT) (outer:List Env) (P:Program) (w:World) (H:Hp) (s:Shared) (Q:VK) (E:XK) (r:Result) (s':Shared):Prop:=
  match r with
  | .ok (.ret u)=>CE outer P w H s Q u s'
  | .ok _=>False
  | .error e=>CX outer H s E e s'
structure fz (P:Program) (w:World) (K:PySem.W.Frag) (mg:Str→Option Value) (base:Heap) (CX:CXT) (k:Nat) (f:Addr) (fd:FuncData) (ps:List Str) (sp:Sp):Prop where
  len:∀ vs H Q E,sp vs H Q E→vs.length=ps.length
  run:∀ (A:Around) (outer:List Env) (s:Shared) (H:Hp) (args:Args) (us:List Value) (vs:List V) (Q:VK) (E:XK),cy k A→rR P w K mg base A outer s H→BindsTo s fd args (ps.zip us)→Vals vs us→sp vs H Q E →
    codeAny (model P w) A (.call (.ref f) args) (CR CX outer P w H s Q E) s
theorem fz.imp {P:Program} {w:World} {K:PySem.W.Frag} {mg:Str→Option Value} {base:Heap} {CX:CXT} {k:Nat} {f:Addr} {fd:FuncData} {ps:List Str} {sp sp':Sp} (F:fz P w K mg base CX k f fd ps sp)
    (h:∀ vs H Q E,sp' vs H Q E→sp vs H Q E):fz P w K mg base CX k f fd ps sp':=
  ⟨fun vs H Q E q=>F.len vs H Q E (h _ _ _ _ q),fun A outer s H args us vs Q E hr he hb hv hs=>F.run A outer s H args us vs Q E hr he hb hv (h _ _ _ _ hs)⟩

theorem rR.make {P:Program} {w:World} {K:PySem.W.Frag} {mg:Str→Option Value} {base:Heap} {A:Around} {outer:List Env} {s:Shared} {H:Hp} (e:rR P w K mg base A outer s H) (C:Addr) (us:List Value) (kw:List (Str×Value)) :
    rR P w K mg base (A.under (.builtin "type.__call__" ⟨.ref C::us,kw⟩)) outer s H:=⟨by first | exact e.frames | (simpa [Around.under,Code.envs,Code.isFrame,pushEnvs] using e.frames),e.mod,e.bs,e.bsz,e.iL,e.frf,e.hok,e.bare⟩
section
variable {X:Cx} {pins:List (Addr×Obj)} {σ : St} {H:Hp} {s s':Shared}
theorem Inv.w6 (I:Inv X pins σ H s):rR X.prog X.w X.K X.mg X.base X.A X.stack s H:=
  ⟨I.ok.frames,I.ok.mod,I.bs,Nat.le_trans I.ok.bsz I.sz,I.stack,I.oB,I.hok,I.bare⟩
theorem Inv.after {Q:VK} {u:Value} (I:Inv X pins σ H s) (h:CE X.stack X.prog X.w H s Q u s'):EP X pins σ Q u s':=by
  obtain ⟨v,H',os,bare,un,hok,r,q⟩:=h
  obtain ⟨hh,g,d,t,os'⟩:=s'
  obtain rfl:os'=s.os:=os
  exact ⟨v,H',I.call (h':=hh) (g':=g) (d':=d) (t':=t) (ch:=[]) un hok bare (fun b z=>absurd z (by simp)),r,q⟩
end

def yb (sp:Sp) (dvs:List V) (E:XK) (t:TA):TE:=fun σ H Q=>t σ H fun vs H1=>sp (vs++dvs) H1 Q E
def xZ (C:Addr) (sp:Sp) (dvs:List V) (E:XK) (t:TA):TE:=fun σ H Q=>t σ H fun vs H1=>∀ x dx,H1 x=none→H1 dx=none→dx≠x →
  sp (.ref x::(vs++dvs)) (upd (upd H1 dx (.own x)) x (.ins C dx [])) (fun v H2=>v = .non∧Q (.ref x) H2) E

def Binds (K:PySem.W.Frag) (fd:FuncData) (ps:List Str) (ds:List Value):Prop:=
  ∀ (s:Shared) (us:List Value),K.In s.heap→(us++ds).length=ps.length→BindsTo s fd ⟨us,[]⟩ (ps.zip (us++ds))
theorem Binds.all {K:PySem.W.Frag} {fd:FuncData} {ps:List Str} (h:∀ us:List Value,us.length=ps.length→bindArgs fd ⟨us,[]⟩=pure (ps.zip us)):Binds K fd ps []:=fun s us _ hl=>by
  rw [List.append_nil] at hl ⊢
  exact .of_eq (h us hl)

def Passes (CX:CXT) (X:Cx) (E:XK):Prop:=∀ (pins:List (Addr×Obj)) (σ : St) (H:Hp) (s:Shared) (e:Value) (s':Shared),Inv X pins σ H s→CX X.stack H s E e s'→X.xe e s'

section
variable {X:Cx} {CX:CXT} {k:Nat} {f C:Addr} {fd:FuncData} {ps:List Str} {sp:Sp} {dvs:List V} {ds:List Value} {E:XK} {x m:Str} {p pos apos:Pos} {e o:Expr} {es:List Expr} {ta:TE} {t:TA}

theorem DU {pins:List (Addr×Obj)} {σ : St} {H:Hp} {s:Shared} {Q:VK} {us:List Value} {vs:List V} (F:fz X.prog X.w X.K X.mg X.base CX k f fd ps sp) (hr:cy k X.A) (hb:Binds X.K fd ps ds) (hd:Vals dvs ds) (hx:Passes CX X E)
    (I:Inv X pins σ H s) (r:Vals vs us) (h:sp (vs++dvs) H Q E):wpAny (model X.prog X.w) X.A (call (.ref f) us) (EP X pins σ Q) X.xe s:=by
  have r2:Vals (vs++dvs) (us++ds):=r.append hd
  have hl:(us++ds).length=ps.length:=by rw [← r2.length];exact F.len _ _ _ _ h
  refine wpAny_call (codeAny_mono (F.run X.A X.stack s H ⟨us,[]⟩ (us++ds) (vs++dvs) Q E hr I.w6 (hb s us I.kIn hl) r2 h) fun r s' hq=>?_)
  cases r with
  | error e=>exact hx pins σ H s e s' I hq
  | ok fl=>
    cases fl with
    | ret u=>exact I.after hq
    | next=>exact False.elim hq
    | brk=>exact False.elim hq
    | cont=>exact False.elim hq

theorem Bs (F:fz X.prog X.w X.K X.mg X.base CX k f fd ps sp) (hr:cy k X.A) (hg:Gl X x) (hm:X.mg x=some (.ref f)) (hk:PySem.W.keepIn X.K (.ref f)=true) (hb:Binds X.K fd ps ds) (hd:Vals dvs ds) (hx:Passes CX X E)
    (ha:PA X (e::es) t) (hdb:(x == ("__debug__" : Str))=false:=by decide) (he:starEach (e::es) X.env=(false,eval e X.env)::starEach es X.env:=by rfl) (hpl:(backTo pos (starEach es X.env)).any (·.1)=false:=by rfl) :
    PE X (.Call (.Name x p) (e::es) [] pos) (yb sp dvs E t):=by
  intro pins s σ H Q I h
  refine wpAny_Call_Name_kw (cQ I hg hm ?_ hdb)
  refine PySem.W.callWith_K (h₀:=X.base) I.ok.mod.kin hk (thn (ha pos pins s σ H _ I h) fun us s1 ⟨vs,H1,I1,r,q⟩=>⟨I1.kIn,?_⟩) he hpl
  exact DU F hr hb hd hx I1 r q
structure Mk (K:PySem.W.Frag) (C f:Addr):Prop where
  makes:PySem.W.makesIn K C=true
  init:PySem.W.findIn K (.ref C) "__init__" = some (some (.ref f))
  fn:PySem.W.isFn K (.ref f)=true
  kp:PySem.W.keepIn K (.ref C)=true

theorem yJ {pins:List (Addr×Obj)} {σ : St} {H:Hp} {s:Shared} {Q:VK} {us:List Value} {vs:List V} (M:Mk X.K C f) (F:fz X.prog X.w X.K X.mg X.base CX k f fd ps sp) (hr:cy (k+1) X.A) (hb:Binds X.K fd ps ds) (hd:Vals dvs ds)
    (hx:Passes CX X E) (I:Inv X pins σ H s) (r:Vals vs us)
    (h:∀ x dx,H x=none→H dx=none→dx≠x→sp (.ref x::(vs++dvs)) (upd (upd H dx (.own x)) x (.ins C dx [])) (fun v H2=>v = .non∧Q (.ref x) H2) E) :
    wpAny (model X.prog X.w) X.A (call (.ref C) us) (EP X pins σ Q) X.xe s:=by
  have hq:=h (s.heap.objs.size+1) s.heap.objs.size (I.hok.fresh (Nat.le_succ _)) (I.hok.fresh (Nat.le_refl _)) (Nat.ne_of_lt (Nat.lt_succ_self _))
  have I2:=Inv.made (C:=C) I
  have r2:Vals (V.ref (s.heap.objs.size+1)::(vs++dvs)) (Value.ref (s.heap.objs.size+1)::(us++ds)):=.cons rfl (r.append hd)
  have hl:(Value.ref (s.heap.objs.size+1)::us++ds).length=ps.length:=by
    have e:=r2.length
    rw [F.len _ _ _ _ hq] at e
    exact e.symm
  refine wpAny_call (qR (f:=f) I.kIn M.makes M.init (beq_iff_eq.mp M.fn) (codeAny_mono (F.run _ X.stack _ _ ⟨Value.ref (s.heap.objs.size+1)::us,[]⟩ (Value.ref (s.heap.objs.size+1)::(us++ds)) _ _ E (hr.make C us [])
    (I2.w6.make C us []) (hb _ (Value.ref (s.heap.objs.size+1)::us) I2.kIn hl) r2 hq) fun r s' hq'=>?_))
  cases r with
  | error e=>exact hx pins σ _ _ e s' I2 hq'
  | ok fl=>
    cases fl with
    | ret u=>
      obtain ⟨v,H',I3,rv,ev,q3⟩:=I2.after hq'
      subst ev
      exact ⟨rv,⟨V.ref (s.heap.objs.size+1),H',I3,rfl,q3⟩⟩
    | next=>exact False.elim hq'
    | brk=>exact False.elim hq'
    | cont=>exact False.elim hq'
theorem Bo (M:Mk X.K C f) (F:fz X.prog X.w X.K X.mg X.base CX k f fd ps sp) (hr:cy (k+1) X.A) (hg:Gl X x) (hm:X.mg x=some (.ref C)) (hb:Binds X.K fd ps ds) (hd:Vals dvs ds) (hx:Passes CX X E)
    (ha:PA X (e::es) t) (hdb:(x == ("__debug__" : Str))=false:=by decide) (he:starEach (e::es) X.env=(false,eval e X.env)::starEach es X.env:=by rfl) (hpl:(backTo pos (starEach es X.env)).any (·.1)=false:=by rfl) :
    PE X (.Call (.Name x p) (e::es) [] pos) (xZ C sp dvs E t):=by
  intro pins s σ H Q I h
  refine wpAny_Call_Name_kw (cQ I hg hm ?_ hdb)
  refine PySem.W.callWith_K (h₀:=X.base) I.ok.mod.kin M.kp (thn (ha pos pins s σ H _ I h) fun us s1 ⟨vs,H1,I1,r,q⟩=>⟨I1.kIn,?_⟩) he hpl
  exact yJ M F hr hb hd hx I1 r q
end

section
variable {X:Cx} {CX:CXT} {k:Nat} {f C:Addr} {fd:FuncData} {ps ks:List Str} {sp:Sp} {E:XK} {x m:Str} {p pos apos kpos:Pos} {e o:Expr} {es:List Expr} {kws:List Keyword} {te ta:TE} {t tk:TA} {nm:Option Str}
structure IK (K:PySem.W.Frag) (fd:FuncData) (ps ks:List Str) (g:List Value→List Value→List Value) (gV:List V→List V→List V):Prop where
  to:∀ (s:Shared) (us ws:List Value),K.In s.heap→(g us ws).length=ps.length→BindsTo s fd ⟨us,ks.zip ws⟩ (ps.zip (g us ws))
  rel:∀ {vs:List V} {us:List Value} {zs:List V} {ws:List Value},Vals vs us→Vals zs ws→Vals (gV vs zs) (g us ws)
variable {g:List Value→List Value→List Value} {gV:List V→List V→List V}
end

structure aB (N P:List Str) (sc:Scope):Prop where
  kind:sc.kind = .function
  co:sc.isCoroutine=false
  gen:sc.isGenerator=false
  nd:N.Nodup
  pre:N.take P.length=P
  par:∀ x∈P,sc.names.lookup x=some .local∨sc.names.lookup x=some .cell
  nofree:∀ y∈sc.names,y.2≠.free

theorem nX {kindOf:Str→Option NameKind} {x:Str}:∀ {binds:List (Str×Value)} {m:Str→Option Value},(∀ v,(x,v)∉binds)→bindL kindOf binds m x=m x
  | [],_,_=>rfl
  | (n,v)::r,m,h=>by
    unfold bindL
    rw [nX fun w hw=>h w (List.mem_cons_of_mem _ hw)]
    split
    · have:x≠n:=by rintro rfl;exact h v List.mem_cons_self
      simp [this]
    · rfl
theorem nZ {kindOf:Str→Option NameKind} {x:Str}:∀ {binds:List (Str×Value)} {m:Str→Option Value},(∀ v,(x,v)∉binds)→bindC kindOf binds m x=m x
  | [],_,_=>rfl
  | (n,v)::r,m,h=>by
    unfold bindC
    rw [nZ fun w hw=>h w (List.mem_cons_of_mem _ hw)]
    split
    · rfl
    · have:x≠n:=by rintro rfl;exact h v List.mem_cons_self
      simp [this]
theorem nY {kindOf:Str→Option NameKind} {x:Str} {v:Value}:∀ {P:List Str} {vs:List Value} {i:Nat} {m:Str→Option Value},P.Nodup→P[i]?=some x→vs[i]?=some v→kindOf x=some .local →
    bindL kindOf (P.zip vs) m x=some v
  | [],_,_,_,_,h,_,_=>by simp at h
  | _::_,[],_,_,_,_,h,_=>by simp at h
  | p::P,w::vs,0,m,nd,h1,h2,hk=>by
    simp at h1 h2;subst h1;subst h2
    show bindL kindOf ((p,w)::P.zip vs) m p=_
    unfold bindL
    rw [nX fun v hv=>(List.nodup_cons.mp nd).1 (List.of_mem_zip hv).1,if_pos hk]
    simp
  | p::P,w::vs,i+1,m,nd,h1,h2,hk=>by
    show bindL kindOf ((p,w)::P.zip vs) m x=_
    unfold bindL
    exact nY (i:=i) (List.nodup_cons.mp nd).2 (by simpa using h1) (by simpa using h2) hk
theorem n6 {kindOf:Str→Option NameKind} {x:Str} {v:Value}:∀ {P:List Str} {vs:List Value} {i:Nat} {m:Str→Option Value},P.Nodup→P[i]?=some x→vs[i]?=some v→kindOf x≠some .local →
    bindC kindOf (P.zip vs) m x=some v
  | [],_,_,_,_,h,_,_=>by simp at h
  | _::_,[],_,_,_,_,h,_=>by simp at h
  | p::P,w::vs,0,m,nd,h1,h2,hk=>by
    simp at h1 h2;subst h1;subst h2
    show bindC kindOf ((p,w)::P.zip vs) m p=_
    unfold bindC
    rw [nZ fun v hv=>(List.nodup_cons.mp nd).1 (List.of_mem_zip hv).1,if_neg hk]
    simp
  | p::P,w::vs,i+1,m,nd,h1,h2,hk=>by
    show bindC kindOf ((p,w)::P.zip vs) m x=_
    unfold bindC
    exact n6 (i:=i) (List.nodup_cons.mp nd).2 (by simpa using h1) (by simpa using h2) hk

def start (N:List Str) (vs:List V):St:=vs.map some++List.replicate (N.length - vs.length) none

def bM (CX:CXT) (P:Program) (w:World) (K:PySem.W.Frag) (mg:Str→Option Value) (base:Heap) (N:List Str) (qual:Str) (scope:Scope) (f:Addr) (cd:Value) (A:Around) (outer:List Env) (s:Shared) (H:Hp) (E:XK):Cx where
  prog:=P
  w:=w
  K:=K
  mg:=mg
  base:=base
  A:=A.deeper (envOfC qual scope s.heap.objs.size f cd)
  N:=N
  s₀:=s
  H₀:=H
  env:=envOfC qual scope s.heap.objs.size f cd
  outer:=outer
  stack:=envOfC qual scope s.heap.objs.size f cd::outer
  ex:=[]
  calm:=true
  fn:=fun _=>true
  pn:=[]
  xe:=fun e s'=>wpAny (model P w) (A.deeper (envOfC qual scope s.heap.objs.size f cd)) (leaving (envOfC qual scope s.heap.objs.size f cd) e) (fun _ s''=>CX outer H s E e s'') (fun e' s''=>CX outer H s E e' s'') s'

theorem rA {sc:Scope} {n:Nat} {x:Str} (h:sc.names.lookup x=some .cell):∃ c,(cellsFrom n sc.names []).lookup x=some c:=by
  have q:=PySem.W.cellsFrom_some sc.names n [] (.inl h)
  exact Option.isSome_iff_exists.mp q

theorem wM {CX:CXT} {P:Program} {w:World} {K:PySem.W.Frag} {mg:Str→Option Value} {base:Heap} {N ps:List Str} {qual:Str} {scope:Scope} {f:Addr} {cd:Value} {A:Around} {outer:List Env} {s s1:Shared} {H:Hp} {E:XK} {us:List Value} {vs:List V}
    (S:aB N ps scope) (hd:A.handled=none) (e0:rR P w K mg base A outer s H) (hl:vs.length=ps.length) (r:Vals vs us)
    (x:InCallC s s.heap.objs.size (bindL (envOfC qual scope s.heap.objs.size f cd).kindOf (ps.zip us) fun _=>none) (cellsFrom (s.heap.objs.size+1) scope.names []) (bindC (envOfC qual scope s.heap.objs.size f cd).kindOf (ps.zip us) fun _=>none) s1) :
    Inv (bM CX P w K mg base N qual scope f cd A outer s H E) [] (start N vs) H s1:=by
  have hpl:ps.length≤N.length:=by have:=congrArg List.length S.pre;rw [List.length_take] at this;omega
  obtain ⟨h1,tk,rfl,hk⟩:=x.done
  have noA:∀ b:Addr,b∉(bM CX P w K mg base N qual scope f cd A outer s H E).ex:=fun b z=>absurd (show b∈([]:List Addr) from z) (by simp)
  refine ⟨⟨e0.mod,S.kind,rfl,rfl,Nat.le_refl _,fun y z c h1 h2=>?_,fun y hy=>?_,fun y c _ h=>?_,fun _=>hd,Around.frames_deeper e0.frames,.inr ⟨rfl,rfl⟩,fun b z=>absurd z (noA b),e0.bs,e0.bsz,fun b _ _=>noA b,fun b z=>absurd z (noA b),e0.iL,e0.frf⟩,
    rfl,e0.bare,Un.kept hk,⟨_,x.toInCall.ns,fun i y v h1 h2 h3=>?_⟩,fun y c h=>⟨_,x.cell y c h⟩,e0.hok.fresh (Nat.le_refl _),fun y c h=>?_,fun p hp=>absurd (show p∈([]:List (Addr×Obj)) from hp) (by simp),e0.hok.kept hk,?_⟩
  · exact name_of_addr x.apart (PySem.mem_of_lookup h1) (PySem.mem_of_lookup h2)
  · have hy:scope.names.lookup y=some .cell∨scope.names.lookup y=some .free:=hy
    rcases hy with hy | hy
    · exact rA hy
    · exact absurd rfl (S.nofree _ (PySem.mem_of_lookup hy))
  · exact Nat.le_of_lt (x.above y c (PySem.mem_of_lookup h))
  · have hi:i < vs.length:=by
      unfold start at h2
      by_cases hi:i < vs.length
      · exact hi
      · rw [List.getElem?_append_right (by simpa using hi)] at h2
        rw [List.getElem?_replicate] at h2
        split at h2 <;> cases h2
    have ha:vs[i]?=some v:=by
      unfold start at h2
      rw [List.getElem?_append_left (by simpa using hi),List.getElem?_map] at h2
      cases e:vs[i]? with
      | none=>rw [e] at h2;cases h2
      | some a=>rw [e] at h2;cases h2;rfl
    obtain ⟨u,hu,rv⟩:=r.get ha
    have hp:ps[i]?=some y:=by
      rw [← S.pre,List.getElem?_take_of_lt (by omega)];exact h1
    have ndP:ps.Nodup:=by rw [← S.pre];exact S.nd.sublist (List.take_sublist _ _)
    refine ⟨u,rv,?_⟩
    rcases S.par y (List.mem_of_getElem? hp) with k | k
    · exact .inl ⟨k,nY ndP hp hu k⟩
    · obtain ⟨c,e⟩:=rA (n:=s.heap.objs.size+1) k
      refine .inr ⟨.inl k,c,e,?_⟩
      have q:=x.cell y c e
      rw [n6 ndP hp hu (by show scope.names.lookup y≠_;rw [k];decide)] at q
      exact q
  · exact e0.hok.fresh (Nat.le_of_lt (x.above y c (PySem.mem_of_lookup h)))
  · unfold start
    show _=N.length
    rw [List.length_append,List.length_map,List.length_replicate]
    omega

theorem vp {CX:CXT} {P:Program} {w:World} {K:PySem.W.Frag} {mg:Str→Option Value} {base:Heap} {k:Nat} {f:Addr} {name qual:Str} {params:Arguments} {body:List Stmt} {scope:Scope} {dV kV doc pm cdv ct oc:Value} {an od:Option Addr}
    {osl:Array (Option Value)} {N ps:List Str} {sp:Sp} (lk:K.lookup f=some ⟨oc,od,.func (PySem.W.fnOf name qual params body scope dV kV doc pm an cdv ct),osl⟩) (hcd:PySem.W.codeIn K cdv qual=true) (S:aB N ps scope)
    (len:∀ vs H Q E,sp vs H Q E→vs.length=ps.length)
    (hbody:∀ (A:Around) (outer:List Env) (s:Shared) (H:Hp) (vs:List V) (Q:VK) (E:XK),cy k (A.deeper (envOfC qual scope s.heap.objs.size f cdv))→sp vs H Q E →
      ∃ t,PSs (bM CX P w K mg base N qual scope f cdv A outer s H E) body t∧t { nx:=fun _ H'=>Q .non H',rt:=Q } (start N vs) H) :
    fz P w K mg base CX (k+1) f (PySem.W.fnOf name qual params body scope dV kV doc pm an cdv ct) ps sp:=by
  refine ⟨len,fun A outer s H args us vs Q E hr e0 hb r hsp=>?_⟩
  have hl:=len _ _ _ _ hsp
  have KX:K.In s.heap:=e0.mod.kin.keeps fun b o e=>(e0.bs b o e).1
  have lim:s.heap.NoLimit:=e0.mod.nolimit.keeps fun b o e=>(e0.bs b o e).1
  have hkind:∀ y∈ps.zip us,scope.names.lookup y.1=some .local∨(scope.names.lookup y.1=some .cell∧((cellsFrom (s.heap.objs.size+1) scope.names []).lookup y.1).isSome=true):=fun ⟨n,v⟩ hy=>by
    rcases S.par n (List.of_mem_zip hy).1 with q | q
    · exact .inl q
    · exact .inr ⟨q,PySem.W.cellsFrom_some _ _ _ (.inl q)⟩
  refine codeAny_call_function hr.depth (KX _ _ lk) rfl S.co S.gen rfl (PySem.W.codeRec_of KX hcd) (hb _ _ _ _ ?_)
  refine wpAny_newFunctionEnv_cells S.kind hkind fun env he s1 x=>?_
  subst he
  refine ⟨lim.keeps x.toInCall.keep,codeAny_func ?_⟩
  obtain ⟨t,ht,hq⟩:=hbody A outer s H vs Q E (hr.deeper _) hsp
  have I:Inv (bM CX P w K mg base N qual scope f cdv A outer s H E) [] (start N vs) H s1:=wM S hr.hd e0 hl r x
  refine wpAny_mono (ht [] s1 (start N vs) H _ I hq) (fun fl s' hs=>?_) fun e s' hs=>hs
  have fin:∀ {σ':St} {H':Hp} {v:V} {u:Value},Inv (bM CX P w K mg base N qual scope f cdv A outer s H E) [] σ' H' s'→RelV v u→Q v H'→CE outer P w H s Q u s':=
    fun {σ' H' v u} J rv q=>⟨v,H',J.os,J.bare,J.base,J.hok,rv,q⟩
  cases fl with
  | ret u=>
    obtain ⟨v,σ',H',J,rv,q⟩:=hs
    exact fin J rv q
  | next=>
    obtain ⟨σ',H',J,q⟩:=hs
    exact fin (v:=V.non) (u:=Value.none) J rfl q
  | brk=>
    obtain ⟨_,_,_,q⟩:=hs
    exact False.elim q
  | cont=>
    obtain ⟨_,_,_,q⟩:=hs
    exact False.elim q
end L2

namespace L2
open PySem PySem.Spec PyProof.Rows
section
variable {X:Cx} {x:Str} {p pos:Pos} {e:Expr} {es:List Expr} {t:TA} {id T:String} {r:List V→Hp→VK→Prop}

def tCB (r:List V→Hp→VK→Prop) (t:TA):TE:=fun σ H Q=>t σ H fun vs H1=>r vs H1 Q
theorem aW (hc:cV X (.builtin id) r) (hg:Gl X x) (hm:X.mg x=none) (hv:bootBuiltins x=some (.builtin id)) (ha:PA X (e::es) t) (hn:x ≠ "__name__" := by decide) (hdb:(x == ("__debug__" : Str))=false:=by decide)
    (he:starEach (e::es) X.env=(false,eval e X.env)::starEach es X.env:=by rfl) (hpl:(backTo pos (starEach es X.env)).any (·.1)=false:=by rfl):PE X (.Call (.Name x p) (e::es) [] pos) (tCB r t):=by
  intro pins s σ H Q I h
  refine wpAny_Call_Name_kw (gj I hg hm hv ?_ hn hdb)
  exact PyProof.Rows.callWith_builtin1 (thn (ha pos pins s σ H _ I h) fun us s1 ⟨vs,H1,I1,r1,q1⟩=>hc pins s1 σ H1 vs us Q I1 r1 q1) he hpl
theorem b9 (hc:cV X (.type T) r) (hg:Gl X x) (hm:X.mg x=none) (hv:bootBuiltins x=some (.type T)) (ha:PA X (e::es) t) (hn:x ≠ "__name__" := by decide) (hdb:(x == ("__debug__" : Str))=false:=by decide)
    (he:starEach (e::es) X.env=(false,eval e X.env)::starEach es X.env:=by rfl) (hpl:(backTo pos (starEach es X.env)).any (·.1)=false:=by rfl):PE X (.Call (.Name x p) (e::es) [] pos) (tCB r t):=by
  intro pins s σ H Q I h
  refine wpAny_Call_Name_kw (gj I hg hm hv ?_ hn hdb)
  exact PyProof.Rows.callWith_type1 (thn (ha pos pins s σ H _ I h) fun us s1 ⟨vs,H1,I1,r1,q1⟩=>hc pins s1 σ H1 vs us Q I1 r1 q1) he hpl
end
end L2

namespace HT
open PySem PyProof.Rows

section
open PySem.SeqAt
open PySem.AutoSeq1 (wpAny_loadPart')
open PySem.MeetsSeq PySem.MeetsSeq2 PySem.MeetsSeq3

end

section
variable {prog:Program} {w:World} {A:Around} {E:Value→Shared→Prop} {s:Shared}

def sIx (n d:Nat):Option Int→Nat
  | none=>d
  | some v=>if v < 0 then (v+(n:Int)).toNat else min v.toNat n
theorem ly (n d:Nat):sIx n d none=d:=rfl
theorem oQ (n d k:Nat):sIx n d (some (k:Int))=min k n:=by
  show (if (k:Int) < 0 then ((k:Int)+(n:Int)).toNat else min (k:Int).toNat n)=min k n
  rw [if_neg (by omega),Int.toNat_natCast]
theorem DR (n d:Nat) (hd:d≤n) (o:Option Int):sIx n d o≤n:=by
  cases o with
  | none=>exact hd
  | some v=>
    show (if v < 0 then (v+(n:Int)).toNat else min v.toNat n)≤n
    by_cases hv:v < 0
    · rw [if_pos hv];omega
    · rw [if_neg hv];exact Nat.min_le_right _ _
theorem vB (v:Int) (n d:Nat):(if v < 0 then max (v+(n:Int)) 0 else min v (n:Int))=((sIx n d (some v):Nat):Int):=by
  show (if v < 0 then max (v+(n:Int)) 0 else min v (n:Int))=(((if v < 0 then (v+(n:Int)).toNat else min v.toNat n):Nat):Int)
  by_cases hv:v < 0
  · simp only [if_pos hv];omega
  · simp only [if_neg hv];omega
theorem ur (lo hi:Option Int) (n:Nat):Builtin.Slice.sliceAdjust lo hi 1 (n:Int)=(((sIx n 0 lo:Nat):Int),((sIx n n hi:Nat):Int)):=by
  have h1:¬ ((1:Int) < 0):=by omega
  unfold Builtin.Slice.sliceAdjust
  simp only [h1,if_false]
  refine Prod.ext ?_ ?_
  · cases lo with
    | none=>rfl
    | some v=>exact vB v n 0
  · cases hi with
    | none=>rfl
    | some v=>exact vB v n n
theorem sW (i j:Nat):Builtin.Slice.slicePlaces (i:Int) (j:Int) 1=j - i:=by
  unfold Builtin.Slice.slicePlaces
  have h1:(1:Int) > 0:=by omega
  simp only [h1,if_true,Int.ediv_one]
  split <;> omega
theorem lq {v:Value} {o:Option Int} {Q:Option Int→Shared→Prop} (p:IsPart v o) (h:Q o s):wpAny (model prog w) A (Builtin.Slice.slicePartIndex v) Q E s:=by
  cases p with
  | none=>exact slicePart_none h
  | int i t=>exact slicePart_int h
theorem jA {sl:Addr} {vl vu:Value} {lo hi:Option Int} {n:Nat} {Q:Int×Int×Nat→Shared→Prop} (hs:s.heap.IsSliceOf sl vl vu .none) (pl:IsPart vl lo) (pu:IsPart vu hi)
    (h:Q (((sIx n 0 lo:Nat):Int),1,sIx n n hi - sIx n 0 lo) s):wpAny (model prog w) A (Builtin.Slice.sliceApplied (.ref sl) (pure (n:Int))) Q E s:=by
  obtain ⟨os,hos,hcs,hds⟩:=id hs
  unfold Builtin.Slice.sliceApplied Builtin.Slice.sliceFields
  refine wpAny_bind (wpAny_bind (wpAny_field hos hds (x:=vl) rfl (wpAny_bind (wpAny_field hos hds (x:=vu) rfl (wpAny_bind (wpAny_field hos hds (x:=.none) rfl (wpAny_pure ?_)))))))
  refine wpAny_bind (slicePart_none ?_)
  show wpAny _ _ (if ((1:Int) == 0)=true then _ else _) _ _ s
  rw [if_neg (by decide)]
  refine wpAny_bind (lq pl (wpAny_bind (lq pu (wpAny_bind (wpAny_pure ?_)))))
  show wpAny _ _ (match Builtin.Slice.sliceAdjust lo hi 1 (n:Int) with | (lo,hi)=>pure (lo,(1:Int),Builtin.Slice.slicePlaces lo hi 1)) _ _ s
  rw [ur lo hi n]
  show wpAny _ _ (pure (((sIx n 0 lo:Nat):Int),(1:Int),Builtin.Slice.slicePlaces ((sIx n 0 lo:Nat):Int) ((sIx n n hi:Nat):Int) 1)) _ _ s
  rw [sW]
  exact wpAny_pure h
theorem yZ (xs:Array Value) (i k:Nat):((List.range k).filterMap fun (m:Nat)=>xs[((i:Int)+(m:Int) * 1).toNat]?).toArray=((xs.toList.drop i).take k).toArray:=by
  have e:(fun (m:Nat)=>xs[((i:Int)+(m:Int) * 1).toNat]?)=fun m=>xs[i+m]?:=by
    funext m
    have:((i:Int)+(m:Int) * 1).toNat=i+m:=by omega
    rw [this]
  rw [e]
  have:=pick_run xs i k
  rw [List.filterMap_map] at this
  have e2:((fun x=>xs[x]?) ∘ fun x=>i+x)=fun m=>xs[i+m]?:=rfl
  rw [e2] at this
  rw [this]

theorem jc {t sl:Addr} {items:Array Value} {vl vu:Value} {lo hi:Option Int} {Q:Value→Shared→Prop} (ht:IsTup s.heap t items) (hs:s.heap.IsSliceOf sl vl vu .none) (pl:IsPart vl lo) (pu:IsPart vu hi)
    (hw:¬ (sIx items.size 0 lo=0∧sIx items.size items.size hi=items.size))
    (h:Q (.ref s.heap.objs.size) { s with heap:=s.heap.push { cls:=.type "tuple",data:=.seq ((items.toList.drop (sIx items.size 0 lo)).take (sIx items.size items.size hi - sIx items.size 0 lo)).toArray } })
    (hsz:items.size≤sizeLine):wpAny (model prog w) A (getItem (.ref t) (.ref sl)) Q E s:=by
  have vg:sizeOk (.seq ((items.toList.drop (sIx items.size 0 lo)).take (sIx items.size items.size hi - sIx items.size 0 lo)).toArray):=by
    show ((items.toList.drop (sIx items.size 0 lo)).take (sIx items.size items.size hi - sIx items.size 0 lo)).toArray.size≤sizeLine
    rw [List.size_toArray,List.length_take,List.length_drop,Array.length_toList]
    omega
  have hj:sIx items.size items.size hi≤items.size:=DR _ _ (Nat.le_refl _) hi
  obtain ⟨os,hos,hcs,hds⟩:=id hs
  have hTs:s.TypeIs (.ref sl) "slice" := ⟨os,hos,hcs⟩
  unfold getItem
  try with_reducible refine wpAny_holding ?_
  first | refine wpAny_bind (wpAny_pure ?_) | skip
  refine wpAny_bind (wpAny_sequenceKey ht.typeIs (by decide) ?_)
  refine wpAny_bind (wpAny_callSpecial?_slot (name:=Str.ofString "__getitem__") ht.typeIs PyProof.Rows.slot_tuple_getitem
    (wpAny_call_entry PyProof.Rows.slot_tuple_getitem ht.typeIs entry_tuple_getitem ?_ (args_tuple_getitem _ _)))
  show wpAny _ _ (Builtin.Tuple.tupleItemsOf (.ref t) >>= _) _ _ s
  refine wpAny_bind (tupleItemsOf_ ht ?_)
  refine wpAny_bind (wpAny_typeOf hTs ?_)
  rw [if_pos (by decide)]
  refine wpAny_bind (jA hs pl pu ?_)
  have hno:¬ ((((sIx items.size 0 lo:Nat):Int) == 0 && (1:Int) == 1 && (sIx items.size items.size hi - sIx items.size 0 lo) == items.size)=true):=by
    intro q
    rw [Bool.and_eq_true,Bool.and_eq_true] at q
    have q1:((sIx items.size 0 lo:Nat):Int)=0:=eq_of_beq q.1.1
    have q2:sIx items.size items.size hi - sIx items.size 0 lo=items.size:=eq_of_beq q.2
    exact hw ⟨by omega,by omega⟩
  show wpAny _ _ (if (((sIx items.size 0 lo:Nat):Int) == 0 && (1:Int) == 1 && (sIx items.size items.size hi - sIx items.size 0 lo) == items.size)=true then _ else _) _ _ s
  rw [if_neg hno,yZ]
  first
    | exact wpAny_bind (m:=Builtin.Tuple.tupleExact _) (wpAny_newObj_type (wpAny_pure ⟨_,rfl,wpAny_pure h⟩) vg)
    | exact wpAny_bind (m:=Builtin.Tuple.tupleExact _) (wpAny_newObj_type (wpAny_bind (wpAny_pure (wpAny_pure ⟨_,rfl,wpAny_pure h⟩))) vg)
    | exact wpAny_bind (wpAny_bind (m:=Builtin.Tuple.tupleExact _) (wpAny_newObj_type (wpAny_pure (wpAny_pure ⟨_,rfl,wpAny_pure h⟩)) vg))
    | exact wpAny_bind (wpAny_bind (m:=Builtin.Tuple.tupleExact _) (wpAny_newObj_type (wpAny_pure ⟨_,rfl,wpAny_pure h⟩) vg))
end
end HT

namespace L2
open PySem PySem.Spec PyProof.Rows

abbrev TO:=St→Hp→(Option Int→Hp→Prop)→Prop
def PO (X:Cx) (e:Option Expr) (t:TO):Prop:=
  ∀ (pins:List (Addr×Obj)) (s:Shared) (σ : St) (H:Hp) (Q:Option Int→Hp→Prop),Inv X pins σ H s→t σ H Q →
    wpAny (model X.prog X.w) X.A (evalPart e X.env) (fun u s'=>∃ o H',Inv X pins σ H' s'∧IsPart u o∧Q o H') X.xe s
def uG:TO:=fun _ H Q=>Q none H
def C1 (t:TE):TO:=fun σ H Q=>t σ H fun x H1=>∃ i,x = .int i∧Q (some i) H1

section
variable {X:Cx} {e:Expr} {te:TE} {lo hi:Option Expr} {tl th:TO} {pos p2:Pos}

theorem b6:PO X none uG:=by
  intro pins s σ H Q I h
  rw [evalPart_none]
  exact wpAny_pure ⟨none,H,I,.none,h⟩
theorem b5 (h:PE X e te):PO X (some e) (C1 te):=by
  intro pins s σ H Q I hw
  rw [evalPart_some]
  refine thn (h pins s σ H _ I hw) fun u s1 ⟨x,H1,I1,r1,q1⟩=>?_
  obtain ⟨i,rfl,q⟩:=q1
  obtain ⟨t,rfl⟩:=r1
  exact ⟨some i,H1,I1,.int i t,q⟩

def SlR (X:Cx) (r:V→Option Int→Option Int→Hp→VK→Prop):Prop:=
  ∀ (pins:List (Addr×Obj)) (s:Shared) (σ : St) (H:Hp) (x:V) (v vl vu:Value) (lo hi:Option Int) (sl:Addr) (Q:VK),Inv X pins σ H s→RelV x v→s.heap.IsSliceOf sl vl vu .none→IsPart vl lo→IsPart vu hi→r x lo hi H Q →
    ∃ T id,typeLookup (.type T) "__getitem__" = pure (some (.builtin id))∧s.TypeIs v T∧wpAny (model X.prog X.w) X.A (getItem v (.ref sl)) (EP X pins σ Q) X.xe s
def tSl (r:V→Option Int→Option Int→Hp→VK→Prop) (te:TE) (tl th:TO):TE:=fun σ H Q=>te σ H fun x H1=>tl σ H1 fun l H2=>th σ H2 fun u H3=>r x l u H3 Q
theorem bO {r:V→Option Int→Option Int→Hp→VK→Prop} (hr:SlR X r) (he:PE X e te) (hl:PO X lo tl) (hu:PO X hi th):PE X (.Subscript e (.Slice lo hi none p2) pos) (tSl r te tl th):=by
  intro pins s σ H Q I h
  refine Subscript_ (thn (he pins s σ H _ I h) fun v s1 ⟨x,H1,I1,r1,q1⟩=>?_)
  refine wpAny_Slice (thn (hl pins s1 σ H1 _ I1 q1) fun vl s2 ⟨l,H2,I2,pl,q2⟩=>thn (hu pins s2 σ H2 _ I2 q2) fun vu s3 ⟨u,H3,I3,pu,q3⟩=>?_)
  rw [evalPart_none]
  refine wpAny_pure ?_
  have I4:Inv X pins σ H3 { s3 with heap:=s3.heap.push { cls:=.type "slice",data:=.fields #[vl,vu,.none] } }:=I3.kept (t':=s3.toks) fun b ob q=>Heap.get?_push_of_some _ q
  obtain ⟨T,id,hT,ht,hg⟩:=hr pins { s3 with heap:=s3.heap.push { cls:=.type "slice",data:=.fields #[vl,vu,.none] } } σ H3 x v vl vu l u s3.heap.objs.size Q I4 r1 (Heap.IsSliceOf.new ..) pl pu q3
  show wpAny (model X.prog X.w) X.A (subscriptTail e (.Slice lo hi none p2) v (.ref s3.heap.objs.size)) (EP X pins σ Q) X.xe { s3 with heap:=s3.heap.push { cls:=.type "slice",data:=.fields #[vl,vu,.none] } }
  exact tail_any (ops:=[.ref s3.heap.objs.size,v]) ht hT hg (by with_unfolding_all rfl)

def jh (xs:List V) (lo hi:Option Int):List V:=(xs.drop (HT.sIx xs.length 0 lo)).take (HT.sIx xs.length xs.length hi - HT.sIx xs.length 0 lo)
theorem kg (xs:List V) (lo hi:Option Int):(jh xs lo hi).length≤xs.length:=by
  unfold jh
  rw [List.length_take,List.length_drop]
  omega
def DX (K:PySem.W.Frag):V→Option Int→Option Int→Hp→VK→Prop:=fun x lo hi H Q=>∃ a xs,x = .ref a∧SqT K H a xs ∧
  ¬ (HT.sIx xs.length 0 lo=0∧HT.sIx xs.length xs.length hi=xs.length)∧∀ p,H p=none→Q (.ref p) (upd H p (.tup (jh xs lo hi)))
theorem yk:SlR X (DX X.K):=by
  intro pins s σ H x v vl vu lo hi sl Q I rx hs pl pu h
  obtain ⟨a,xs,rfl,hx,hw,q⟩:=h
  cases rx
  obtain ⟨its,r,ht,hz⟩:=I.tuple hx
  have hlen:its.toArray.size=xs.length:=by rw [List.size_toArray];exact r.length.symm
  refine ⟨"tuple",_,PyProof.Rows.slot_tuple_getitem.lookup,ht.typeIs,?_⟩
  refine HT.jc ht hs pl pu (by rw [hlen];exact hw) ?_ (by rw [hlen];exact hz)
  rw [hlen]
  refine ⟨.ref s.heap.objs.size,_,I.laid (t':=s.toks) (o:=.tup (jh xs lo hi)) (fun b ob q=>Heap.get?_push_of_some _ q) (Nat.le_refl _) ?_,rfl,q _ (I.hok.fresh (Nat.le_refl _))⟩
  exact ⟨Nat.le_trans (kg xs lo hi) hz,_,(r.drop (HT.sIx xs.length 0 lo)).take (HT.sIx xs.length xs.length hi - HT.sIx xs.length 0 lo),IsTup.new _ _⟩

theorem Vals.kK {xs:List V} {us:List Value} (r:Vals xs us):us=[]↔xs=[]:=by
  cases r with
  | nil=>simp
  | cons _ _=>simp
end
end L2

namespace L2
open PySem PySem.Spec PyProof.Rows

def ixN (n:Nat) (i:Int):Option Nat:=if 0≤i then (if i < n then some i.toNat else none) else if -(n:Int)≤i then some (i+n).toNat else none
def atI {α : Type} (xs:List α) (i:Int):Option α:=(ixN xs.length i).bind fun j=>xs[j]?
theorem vd {n:Nat} {i:Int} {j:Nat} (h:ixN n i=some j):seqIndex? i n=some j∧j < n∧-(n:Int)≤i∧i < n:=by
  unfold ixN at h
  by_cases h0 : 0≤i
  · rw [if_pos h0] at h
    by_cases h1:i < n
    · rw [if_pos h1] at h
      have e:i.toNat=j:=Option.some.inj h
      exact ⟨by rw [seqIndex_of h0 h1,e],by omega,by omega,h1⟩
    · rw [if_neg h1] at h;cases h
  · rw [if_neg h0] at h
    by_cases h1 : -(n:Int)≤i
    · rw [if_pos h1] at h
      have e:(i+n).toNat=j:=Option.some.inj h
      exact ⟨by rw [seqIndex_neg (by omega) h1,e],by omega,h1,by omega⟩
    · rw [if_neg h1] at h;cases h
theorem pY {α : Type} {xs:List α} {i:Int} {v : α} (h:atI xs i=some v):∃ j,seqIndex? i xs.length=some j∧xs[j]?=some v∧j < xs.length∧-(xs.length:Int)≤i∧i < xs.length:=by
  unfold atI at h
  cases e:ixN xs.length i with
  | none=>rw [e] at h;cases h
  | some j=>
    rw [e] at h
    obtain ⟨h1,h2,h3,h4⟩:=vd e
    exact ⟨j,h1,h,h2,h3,h4⟩
theorem fN {α : Type} {xs:List α} {j:Nat} {v : α} (h:xs[j]?=some v):atI xs (j:Int)=some v:=by
  have hj:j < xs.length:=(List.getElem?_eq_some_iff.mp h).1
  have e:ixN xs.length (j:Int)=some j:=by
    unfold ixN
    rw [if_pos (by omega),if_pos (by omega)];simp
  unfold atI;rw [e];exact h
def CU (b:Expr):Prop:=∀ o i,subscripted b false o i=operate [o,i] (getItem o i)
def IxR (X:Cx) (r:R2):Prop:=
  ∀ (value slice:Expr) (pins:List (Addr×Obj)) (s:Shared) (σ : St) (H:Hp) (x y:V) (v u:Value) (Q:VK),Inv X pins σ H s→RelV x v→RelV y u→r x y H Q →
    subscripted slice false v u=operate [v,u] (getItem v u)→wpAny (model X.prog X.w) X.A (subscriptTail value slice v u) (EP X pins σ Q) X.xe s
def MtR (X:Cx) (id:String) (r:V→List V→Hp→VK→Prop):Prop:=
  ∀ (pins:List (Addr×Obj)) (s:Shared) (σ : St) (H:Hp) (x:V) (xs:List V) (v:Value) (us:List Value) (Q:VK),Inv X pins σ H s→RelV x v→Vals xs us→r x xs H Q →
    wpAny (model X.prog X.w) X.A (call (.builtin id) (v::us)) (EP X pins σ Q) X.xe s
section
variable {X:Cx} {a b:Expr} {ta tb:TE} {pos:Pos}
theorem aL {r:R2} (hr:IxR X r) (ha:PE X a ta) (hb:PE X b tb) (hs:CU b):PE X (.Subscript a b pos) (tOp r ta tb):=by
  intro pins s σ H Q I h
  exact Subscript_ (Fv ha hb I h fun v u s2 x y H2 I2 rx ry q=>hr a b pins s2 σ H2 x y v u Q I2 rx ry q (hs _ _))

def yR (K:PySem.W.Frag):R2:=fun x y H Q=>∃ p xs i v,x = .ref p∧y = .int i∧SqL K H p xs∧atI xs i=some v∧Q v H
def D3 (K:PySem.W.Frag):R2:=fun x y H Q=>∃ p xs i v,x = .ref p∧y = .int i∧SqT K H p xs∧atI xs i=some v∧Q v H
def F7:R2:=fun x y H Q=>∃ z i c,x = .str z∧y = .int i∧z.length≤sizeLine∧atI z.cps.toList i=some c∧Q (.str ⟨#[c]⟩) H
theorem aK:IxR X (yR X.K):=by
  intro value slice pins s σ H x y v u Q I rx ry h hs
  obtain ⟨p,xs,i,z,rfl,rfl,hq,he,q⟩:=h
  cases rx
  obtain ⟨t,rfl⟩:=ry
  obtain ⟨its,r,pl,hz⟩:=I.list hq
  obtain ⟨j,h1,h2,h3,h4,h5⟩:=pY he
  obtain ⟨w,ew,rw'⟩:=r.get h2
  have hl:=r.length
  have hn:=jK
  have fin:EP X pins σ Q w s:=⟨z,H,I,rw',q⟩
  by_cases h0 : 0≤i
  · have hj:i.toNat=j:=by
      rw [seqIndex_of h0 h5] at h1
      exact Option.some.inj h1
    exact item_listR pl.isList h0 (by omega) (by rw [hj];simpa using ew) fin hs
  · have hj:(i+(its.toArray.size:Int)).toNat=j:=by
      rw [seqIndex_neg (by omega) h4] at h1
      rw [List.size_toArray,← hl]
      exact Option.some.inj h1
    exact subscriptTail_builtinR (x:=w) pl.isList.typeIs slot_list_getitem.lookup
      (wpAny_getItem_list_neg (Q:=fun r s'=>r=w∧EP X pins σ Q r s') pl.isList (by omega) (by rw [List.size_toArray] <;> omega) (by omega) (by rw [hj];simpa using ew) ⟨rfl,fin⟩) hs
theorem bU:IxR X (D3 X.K):=by
  intro value slice pins s σ H x y v u Q I rx ry h hs
  obtain ⟨p,xs,i,z,rfl,rfl,hq,he,q⟩:=h
  cases rx
  obtain ⟨t,rfl⟩:=ry
  obtain ⟨its,r,pl,hz⟩:=I.tuple hq
  obtain ⟨j,h1,h2,h3,h4,h5⟩:=pY he
  obtain ⟨w,ew,rw'⟩:=r.get h2
  have hl:=r.length
  have hn:=jK
  have fin:EP X pins σ Q w s:=⟨z,H,I,rw',q⟩
  exact subscriptTail_builtinR (x:=w) pl.typeIs slot_tuple_getitem.lookup
    (getItem_tuple (j:=j) (Q:=fun r s'=>r=w∧EP X pins σ Q r s') pl (by omega) (by omega) (by rw [List.size_toArray,← hl];exact h1) (by simpa using ew) ⟨rfl,fin⟩) hs
theorem Ew:IxR X F7:=by
  intro value slice pins s σ H x y v u Q I rx ry h hs
  obtain ⟨z,i,c,rfl,rfl,hz,he,q⟩:=h
  obtain ⟨t,rfl⟩:=rx
  obtain ⟨t',rfl⟩:=ry
  obtain ⟨j,h1,h2,h3,h4,h5⟩:=pY he
  have hl:z.cps.toList.length=z.length:=by simp [Str.length]
  rw [hl] at h1 h4 h5
  have hn:=jK
  exact tail_any (typeIs_str s z t) slot_str_getitem.lookup (getItem_str (c:=c) (by
    have e1:decide (i < -(2 ^ 63:Int))=false:=decide_eq_false (by omega)
    have e2:decide (i≥2 ^ 63)=false:=decide_eq_false (by omega)
    rw [e1,e2,Bool.or_false]) (by rw [h1];simpa using h2) ⟨.str ⟨#[c]⟩,H,I.tok _,⟨_,rfl⟩,q⟩) hs
theorem tF (its:List Value) (n j:Nat) (u:Value):Obj.mapSeq (·.setIfInBounds j u) { cls:=.type "list",data:=.seq its.toArray n }={ cls:=.type "list",data:=.seq (its.set j u).toArray n }:=by
  simp [Obj.mapSeq]
theorem Inv.lst {pins:List (Addr×Obj)} {σ : St} {H:Hp} {s:Shared} {p:Addr} {xs:List V} (I:Inv X pins σ H s) (h:H p=some (.lst xs)) :
    ∃ (its:List Value) (n:Nat),Vals xs its∧s.heap.get? p=some { cls:=.type "list",data:=.seq its.toArray n }∧xs.length≤sizeLine:=by
  obtain ⟨z,its,n,r,e⟩:=I.hok p _ h
  exact ⟨its,n,r,e,z⟩
theorem Inv.En {pins:List (Addr×Obj)} {σ : St} {H:Hp} {s:Shared} {p:Addr} {xs ys:List V} {its its':List Value} {n n':Nat} {f:Obj→Obj} (I:Inv X pins σ H s) (h:H p=some (.lst xs))
    (ho:s.heap.get? p=some { cls:=.type "list",data:=.seq its.toArray n }) (hf:f { cls:=.type "list",data:=.seq its.toArray n }={ cls:=.type "list",data:=.seq its'.toArray n' }) (r:Vals ys its') (hz:ys.length≤sizeLine) (t:Nat) :
    Inv X pins σ (upd H p (.lst ys)) { s with heap:=s.heap.update p f,toks:=t }:=by
  have e:(s.heap.update p f).get? p=some { cls:=.type "list",data:=.seq its'.toArray n' }:=by
    rw [Heap.get?_update_self f ho (by rw [hf] <;> rfl),hf]
  refine I.write (x:=p) (e:=p) (by rw [h];trivial) (.inl rfl) (fun b u hb q=>(Heap.get?_update_other _ _ (Ne.symm hb)).trans q) ⟨_,e⟩ ?_
  exact ⟨hz,its',n',r,e⟩
def De:V→V→V→Hp→(Hp→Prop)→Prop:=fun o i v H Q=>∃ p xs k j,o = .ref p∧i = .int k∧H p=some (.lst xs)∧ixN xs.length k=some j∧Q (upd H p (.lst (xs.set j v)))
theorem set_list:HM X De:=by
  intro pins s σ H o i v ov iv u Q I ro ri rv h
  obtain ⟨p,xs,k,j,rfl,rfl,hp,hj,q⟩:=h
  cases ro
  obtain ⟨t,rfl⟩:=ri
  obtain ⟨its,n,r,ho,hz⟩:=I.lst hp
  obtain ⟨h1,h2,h3,h4⟩:=vd hj
  have hl:=r.length
  have hn:=jK
  have I':Inv X pins σ (upd H p (.lst (xs.set j v))) { s with heap:=s.heap.update p (Obj.mapSeq (·.setIfInBounds j u)) }:=
    I.En hp ho (tF its n j u) (r.set rv j) (by rw [List.length_set];exact hz) s.toks
  by_cases h0 : 0≤k
  · have hk:k.toNat=j:=by
      rw [seqIndex_of h0 h4] at h1
      exact Option.some.inj h1
    exact PySem.W.ki_setAt ho h0 (by omega) (by rw [List.size_toArray,← hl];exact h4) (by rw [hk];exact ⟨_,I',q⟩)
  · have hk:(k+(its.toArray.size:Int)).toNat=j:=by
      rw [seqIndex_neg (by omega) h3] at h1
      rw [List.size_toArray,← hl]
      exact Option.some.inj h1
    exact PySem.W.ki_setBack ho (by omega) (by rw [List.size_toArray,← hl];exact h3) (by omega) (by rw [hk];exact ⟨_,I',q⟩)

theorem oO (lo hi:Option Int) (n:Nat):(sliceBounds lo hi none n).1=((HT.sIx n 0 lo:Nat):Int)∧(sliceBounds lo hi none n).2.1=((HT.sIx n n hi:Nat):Int)∧(sliceBounds lo hi none n).2.2=1:=by
  refine ⟨?_,?_,rfl⟩
  · cases lo with
    | none=>simp [sliceBounds,HT.sIx]
    | some i=>
      simp only [sliceBounds,HT.sIx,Option.getD_none,show (1:Int) > 0 by decide,if_true]
      by_cases h:i < 0
      · simp only [h,if_true] <;> omega
      · simp only [h,if_false] <;> omega
  · cases hi with
    | none=>simp [sliceBounds,HT.sIx]
    | some i=>
      simp only [sliceBounds,HT.sIx,Option.getD_none,show (1:Int) > 0 by decide,if_true]
      by_cases h:i < 0
      · simp only [h,if_true] <;> omega
      · simp only [h,if_false] <;> omega
theorem l7 (its:List Value) (lo hi:Option Int):slicePick its.toArray lo hi none=((its.drop (HT.sIx its.length 0 lo)).take (HT.sIx its.length its.length hi - HT.sIx its.length 0 lo)).toArray:=by
  obtain ⟨h1,h2,h3⟩:=oO lo hi its.toArray.size
  unfold slicePick
  rw [h1,h2,h3]
  simp only [sliceRange_one,pick_run,List.size_toArray] <;> rfl
def DY (K:PySem.W.Frag):V→Option Int→Option Int→Hp→VK→Prop:=fun x lo hi H Q=>∃ a xs,x = .ref a∧SqL K H a xs∧∀ p,H p=none→Q (.ref p) (upd H p (.lst (jh xs lo hi)))
theorem cC:SlR X (DY X.K):=by
  intro pins s σ H x v vl vu lo hi sl Q I rx hs pl pu h
  obtain ⟨a,xs,rfl,hx,q⟩:=h
  cases rx
  obtain ⟨its,r,ht,hz⟩:=I.list hx
  have hlen:=r.length
  refine ⟨"list",_,slot_list_getitem.lookup,ht.isList.typeIs,?_⟩
  refine wpAny_getItem_list_slice ht.isList hs pl pu .none (by simp) ?_ (by rw [List.size_toArray] <;> omega)
  rw [l7,← hlen]
  refine ⟨.ref s.heap.objs.size,_,I.laid (t':=s.toks) (o:=.lst (jh xs lo hi)) (fun b ob q=>Heap.get?_push_of_some _ q) (Nat.le_refl _) ?_,rfl,q _ (I.hok.fresh (Nat.le_refl _))⟩
  exact ⟨Nat.le_trans (kg xs lo hi) hz,_,0,(r.drop (HT.sIx xs.length 0 lo)).take (HT.sIx xs.length xs.length hi - HT.sIx xs.length 0 lo),Heap.get?_push_size _ rfl⟩

def bX:V→Bool
  | .non=>true
  | .bl _=>true
  | .int _=>true
  | .str _=>true
  | _=>false
def eqV:V→V→Bool
  | .non,.non=>true
  | .bl a,.bl b=>a == b
  | .bl a,.int b=>(if a then 1 else 0) == b
  | .int a,.bl b=>a == (if b then 1 else 0)
  | .int a,.int b=>a == b
  | .str a,.str b=>a == b
  | _,_=>false
theorem tZ {A:Around} {s:Shared} {y x:V} {u v:Value} (ry:RelV y u) (rx:RelV x v) (fy:bX y=true) (fx:bX x=true):SeqAt.EqAt A s u v (eqV y x):=by
  cases y with
  | non=>
    cases ry
    cases x with
    | non=>cases rx;exact SeqAt.EqAt.same _
    | bl b=>cases rx;exact SeqAt.EqAt.none_bool b
    | int b=>obtain ⟨t,rfl⟩:=rx;exact SeqAt.EqAt.none_int b t
    | str b=>obtain ⟨t,rfl⟩:=rx;exact SeqAt.EqAt.none_str b t
    | _=>exact absurd (show false=true from fx) Bool.false_ne_true
  | bl a=>
    cases ry
    cases x with
    | non=>cases rx;exact SeqAt.EqAt.bool_none a
    | bl b=>cases rx;exact SeqAt.EqAt.bool_bool a b
    | int b=>obtain ⟨t,rfl⟩:=rx;exact SeqAt.EqAt.bool_int a b t
    | str b=>obtain ⟨t,rfl⟩:=rx;exact SeqAt.EqAt.bool_str a b t
    | _=>exact absurd (show false=true from fx) Bool.false_ne_true
  | int a=>
    obtain ⟨t',rfl⟩:=ry
    cases x with
    | non=>cases rx;exact SeqAt.EqAt.int_none a t'
    | bl b=>cases rx;exact SeqAt.EqAt.int_bool a t' b
    | int b=>obtain ⟨t,rfl⟩:=rx;exact SeqAt.EqAt.int_int a t' b t
    | str b=>obtain ⟨t,rfl⟩:=rx;exact SeqAt.EqAt.int_str a t' b t
    | _=>exact absurd (show false=true from fx) Bool.false_ne_true
  | str a=>
    obtain ⟨t',rfl⟩:=ry
    cases x with
    | non=>cases rx;exact SeqAt.EqAt.str_none a t'
    | bl b=>cases rx;exact SeqAt.EqAt.str_bool a t' b
    | int b=>obtain ⟨t,rfl⟩:=rx;exact SeqAt.EqAt.str_int a t' b t
    | str b=>obtain ⟨t,rfl⟩:=rx;exact SeqAt.EqAt.str_str a t' b t
    | _=>exact absurd (show false=true from fx) Bool.false_ne_true
  | _=>exact absurd (show false=true from fy) Bool.false_ne_true
def eqU (x:V) (u:Value):Bool:=match u with
  | .none=>eqV .non x
  | .bool b=>eqV (.bl b) x
  | .int i _=>eqV (.int i) x
  | .str z _=>eqV (.str z) x
  | _=>false
theorem Aj {x y:V} {u:Value} (r:RelV y u) (f:bX y=true):eqU x u=eqV y x:=by
  cases y with
  | non=>cases r;rfl
  | bl b=>cases r;rfl
  | int i=>obtain ⟨t,rfl⟩:=r;rfl
  | str z=>obtain ⟨t,rfl⟩:=r;rfl
  | _=>exact absurd (show false=true from f) Bool.false_ne_true
theorem jn {x:V}:∀ {xs:List V} {us:List Value},Vals xs us→xs.all bX=true→us.any (eqU x)=xs.any fun y=>eqV y x
  | _,_,.nil,_=>rfl
  | y::xs,u::us,.cons r t,f=>by
    rw [List.all_cons,Bool.and_eq_true] at f
    rw [List.any_cons,List.any_cons,Aj r f.1,jn t f.2]
theorem gf {A:Around} {s:Shared} {x:V} {v:Value} (rx:RelV x v) (fx:bX x=true):∀ {xs:List V} {us:List Value},Vals xs us→xs.all bX=true→∀ u∈us,SeqAt.EqAt A s u v (eqU x u)
  | _,_,.nil,_=>fun u hu=>by cases hu
  | y::xs,u::us,.cons r t,f=>fun u' hu=>by
    rw [List.all_cons,Bool.and_eq_true] at f
    rcases List.mem_cons.mp hu with rfl | hu
    · rw [Aj r f.1];exact tZ r rx f.1 fx
    · exact gf rx fx t f.2 u' hu
def inV (x:V) (xs:List V):Bool:=xs.any fun y=>eqV y x
def rIn (K:PySem.W.Frag) (neg:Bool):R2:=fun x y H Q=>∃ p xs,y = .ref p∧(SqL K H p xs∨SqT K H p xs)∧bX x=true∧xs.all bX=true∧Q (.bl (if neg then !inV x xs else inV x xs)) H
theorem fh:OpR X (compareOp .In) (rIn X.K false):=by
  intro pins s σ H x y v u Q I rx ry h
  obtain ⟨p,xs,rfl,hq,fx,fs,q⟩:=h
  cases ry
  rcases hq with hq | hq
  · obtain ⟨its,r,pl,hz⟩:=I.list hq
    refine SeqAt.in_listAt (eqU x) pl.isList (fun w hw=>gf rx fx r fs w (by simpa using hw)) ⟨.bl _,H,I,rfl,?_⟩
    rw [show its.toArray.any (eqU x)=its.any (eqU x) by simp,jn r fs]
    exact q
  · obtain ⟨its,r,pl,hz⟩:=I.tuple hq
    refine SeqAt.in_tupleAt (eqU x) pl (fun w hw=>gf rx fx r fs w (by simpa using hw)) ⟨.bl _,H,I,rfl,?_⟩
    rw [show its.toArray.any (eqU x)=its.any (eqU x) by simp,jn r fs]
    exact q
theorem pq:OpR X (compareOp .NotIn) (rIn X.K true):=by
  intro pins s σ H x y v u Q I rx ry h
  obtain ⟨p,xs,rfl,hq,fx,fs,q⟩:=h
  cases ry
  rcases hq with hq | hq
  · obtain ⟨its,r,pl,hz⟩:=I.list hq
    refine SeqAt.notIn_listAt (eqU x) pl.isList (fun w hw=>gf rx fx r fs w (by simpa using hw)) ⟨.bl _,H,I,rfl,?_⟩
    rw [show its.toArray.any (eqU x)=its.any (eqU x) by simp,jn r fs]
    exact q
  · obtain ⟨its,r,pl,hz⟩:=I.tuple hq
    refine SeqAt.notIn_tupleAt (eqU x) pl (fun w hw=>gf rx fx r fs w (by simpa using hw)) ⟨.bl _,H,I,rfl,?_⟩
    rw [show its.toArray.any (eqU x)=its.any (eqU x) by simp,jn r fs]
    exact q
theorem pR:cV X (.builtin "len") (fun xs H Q=>∃ p ys,xs=[.ref p]∧(SqL X.K H p ys∨SqT X.K H p ys)∧Q (.int ys.length) H):=by
  intro pins s σ H xs us Q I r h
  obtain ⟨p,ys,rfl,hq,q⟩:=h
  obtain ⟨u,rfl,rx⟩:=vals1 r
  cases rx
  have hn:=jK
  rcases hq with hq | hq
  · obtain ⟨its,r',pl,hz⟩:=I.list hq
    have hlen:=r'.length
    exact Calls.call_len_list pl.isList (by simp only [List.size_toArray] <;> omega) ⟨.int ys.length,H,I.tok _,⟨s.toks+1,by rw [List.size_toArray,hlen]⟩,q⟩
  · obtain ⟨its,r',pl,hz⟩:=I.tuple hq
    have hlen:=r'.length
    exact len_tuple pl (by simp only [List.size_toArray] <;> omega) ⟨.int ys.length,H,I.tok _,⟨s.toks+1,by rw [List.size_toArray,hlen]⟩,q⟩
theorem pQ:cV X (.builtin "len") (fun xs H Q=>∃ z,xs=[.str z]∧z.length≤sizeLine∧Q (.int z.length) H):=by
  intro pins s σ H xs us Q I r h
  obtain ⟨z,rfl,hz,q⟩:=h
  obtain ⟨u,rfl,t,rfl⟩:=vals1 r
  have hn:=jK
  exact len_str (by omega) ⟨.int z.length,H,I.tok _,⟨_,rfl⟩,q⟩
theorem mE:cV X (.type "tuple") (fun xs H Q=>∃ p ys,xs=[.ref p]∧((SqL X.K H p ys∧∀ l,H l=none→Q (.ref l) (upd H l (.tup ys)))∨(SqT X.K H p ys∧Q (.ref p) H))):=by
  intro pins s σ H xs us Q I r h
  obtain ⟨p,ys,rfl,h⟩:=h
  obtain ⟨u,rfl,rx⟩:=vals1 r
  cases rx
  rcases h with ⟨hq,q⟩ | ⟨hq,q⟩
  · obtain ⟨its,r',pl,hz⟩:=I.list hq
    have hlen:=r'.length
    refine call_tuple_list pl.isList (fun h' kp=>?_) (by simp only [List.size_toArray] <;> omega)
    have I1:Inv X pins σ H { s with heap:=h' }:=I.kept (t':=s.toks) kp
    have I2:Inv X pins σ (upd H h'.objs.size (.tup ys)) { s with heap:=h'.push { cls:=.type "tuple",data:=.seq its.toArray } }:=
      I1.laid (t':=s.toks) (fun b o e=>Heap.get?_push_of_some _ e) (Nat.le_refl _) (show bH X.prog X.w _ _ _ (.tup ys) from ⟨hz,its,r',IsTup.new _ _⟩)
    exact ⟨.ref h'.objs.size,_,I2,rfl,q _ (I1.hok.fresh (Nat.le_refl _))⟩
  · obtain ⟨its,r',pl,hz⟩:=I.tuple hq
    exact call_tuple_same pl ⟨.ref p,H,I,rfl,q⟩

def tyV (K:PySem.W.Frag) (T:String) (x:V) (H:Hp):Prop:=match x with
  | .str _=>T = "str"
  | .int _=>T = "int"
  | .ref p=>(T = "list" ∧ ∃ xs,SqL K H p xs)∨(T = "tuple" ∧ ∃ o,K.lookup p=some o∧o.cls = .type "tuple" ∧ o.dict=none) ∨
      (T = "dict" ∧ ((∃ kvs,H p=some (.dK kvs))∨∃ kvs,H p=some (.dT kvs)))∨(T = "set" ∧ ∃ S n,H p=some (.set S n))
  | _=>False
theorem DC {pins:List (Addr×Obj)} {σ : St} {H:Hp} {s:Shared} {T:String} {x:V} {v:Value} (I:Inv X pins σ H s) (r:RelV x v) (ty:tyV X.K T x H) :
    s.TypeIs v T∧∀ a,v = .ref a→∃ ob,s.heap.get? a=some ob∧ob.dict=none:=by
  cases x with
  | str z=>
    obtain ⟨t,rfl⟩:=r
    cases (show T = "str" from ty)
    exact ⟨typeIs_str s z t,fun _ e=>nomatch e⟩
  | int i=>
    obtain ⟨t,rfl⟩:=r
    cases (show T = "int" from ty)
    exact ⟨typeIs_int s i t,fun _ e=>nomatch e⟩
  | ref p=>
    cases r
    rcases ty with ⟨rfl,xs,hq⟩ | ⟨rfl,o,hk,hc,hd⟩ | ⟨rfl,hk⟩ | ⟨rfl,S,n,hk⟩
    · obtain ⟨its,_,pl,_⟩:=I.list hq
      refine ⟨pl.isList.typeIs,fun a e=>?_⟩
      cases e
      obtain ⟨o,n,e,c,hd,_⟩:=pl
      exact ⟨o,e,hd⟩
    · refine ⟨⟨o,I.kIn p o hk,hc⟩,fun a e=>?_⟩
      cases e
      exact ⟨o,I.kIn _ o hk,hd⟩
    · have z:∃ o,s.heap.get? p=some o∧o.ExactDict:=by
        rcases hk with ⟨kvs,hk⟩ | ⟨kvs,hk⟩
        · obtain ⟨_,_,_,_,o,_,_,e,ex,_⟩:=I.hok p _ hk
          exact ⟨o,e,ex⟩
        · obtain ⟨_,_,_,_,o,_,_,e,ex,_⟩:=I.hok p _ hk
          exact ⟨o,e,ex⟩
      obtain ⟨o,e,ex⟩:=z
      refine ⟨⟨o,e,ex.1⟩,fun a e2=>?_⟩
      cases e2
      exact ⟨o,e,ex.2.1⟩
    · obtain ⟨o,_,_,_,e,ex,_⟩:=I.hok p _ hk
      refine ⟨⟨o,e,ex.1⟩,fun a e2=>?_⟩
      cases e2
      exact ⟨o,e,ex.2.1⟩
  | _=>exact False.elim ty
def tBM (K:PySem.W.Frag) (T:String) (r:V→List V→Hp→VK→Prop) (to:TE) (t:TA):TE:=fun σ H Q=>to σ H fun x H1=>tyV K T x H1∧t σ H1 fun xs H2=>r x xs H2 Q
variable {o e:Expr} {es:List Expr} {to:TE} {t:TA} {name:Str} {apos cpos:Pos} {T id:String} {r:V→List V→Hp→VK→Prop}
theorem dX (pa:PlainAttrs T) (slot:Slot T name id) (hty:typeOf (.builtin id)=pure (.type "method_descriptor")) (hm:MtR X id r) (ho:PE X o to) (ha:PA X (e::es) t)
    (hbase:attributeBase o name X.env (eval o X.env)=eval o X.env:=by rfl)
    (hfew:((backTo cpos (starEach (e::es) X.env)).all (fun x=>!x.1) && (backToKw cpos (keywordEach [] X.env)).all (fun x=>x.1.isSome)
      && decide ((e::es).length+([]:List Keyword).length+(if ([]:List Keyword).isEmpty then 0 else 1) < 30))=true:=by rfl)
    (hline:(apos.endLine == cpos.line)=true:=by rfl) (hs:starEach (e::es) X.env=(false,eval e X.env)::starEach es X.env:=by rfl) (hplain:(backTo cpos (starEach es X.env)).any (·.1)=false:=by rfl) :
    PE X (.Call (.Attribute o name apos) (e::es) [] cpos) (tBM X.K T r to t):=by
  intro pins s σ H Q I h
  refine wpAny_Call_method_late hbase hfew hline rfl (thn (ho pins s σ H _ I h) fun v s1 ⟨x,H1,I1,r1,ty,q1⟩=>?_)
  obtain ⟨h1,h2⟩:=DC I1 r1 ty
  refine ⟨T,id,pa,slot,hty,h1,h2,?_⟩
  have hA:=ha cpos pins s1 σ H1 _ I1 q1
  rw [hs] at hA ⊢
  refine Calls.callWith_builtin (by show (false || (backTo cpos (starEach es X.env)).any (·.1))=false;rw [hplain] <;> rfl) (Calls.evalArgs_plain ?_)
  exact thn hA fun us s2 ⟨vs,H2,I2,r2,q2⟩=>hm pins s2 σ H2 x vs v us Q I2 r1 r2 q2
end
end L2

namespace L2
open PySem PySem.Spec PyProof.Rows

def MtM (X:Cx) (id:String) (r:V→List V→Hp→VK→Prop):Prop:=
  ∀ (pins:List (Addr×Obj)) (s:Shared) (σ : St) (H:Hp) (x:V) (xs:List V) (v:Value) (us:List Value) (Q:VK),Inv X pins σ H s→RelV x v→Vals xs us→r x xs H Q →
    wpAny (model X.prog X.w) X.A (call (.builtin id) (v::us)) (EP X pins σ Q) X.xe s

theorem Vals.one:∀ {x:V} {us:List Value},Vals [x] us→∃ u,us=[u]∧RelV x u
  | _,_,.cons r .nil=>⟨_,rfl,r⟩
theorem Vals.two:∀ {x y:V} {us:List Value},Vals [x,y] us→∃ u v,us=[u,v]∧RelV x u∧RelV y v
  | _,_,_,.cons r (.cons q .nil)=>⟨_,_,rfl,r,q⟩
section
variable {X:Cx} {pins:List (Addr×Obj)} {σ : St} {H:Hp} {s:Shared} {l b:Addr} {xs ys zs:List V}

theorem Inv.Ik {its:List Value} {t':Nat} (I:Inv X pins σ H s) (hv:Vals ys its) (hz:ys.length≤sizeLine) :
    Inv X pins σ (upd H s.heap.objs.size (.lst ys)) { s with heap:=s.heap.push { cls:=.type "list",data:=.seq its.toArray },toks:=t' }:=
  I.laid (fun _ _ q=>Heap.get?_push_of_some _ q) (Nat.le_refl _) ⟨hz,its,0,hv,Heap.get?_push_size _ rfl⟩
theorem Inv.fresh (I:Inv X pins σ H s):H s.heap.objs.size=none:=I.hok.fresh (Nat.le_refl _)
theorem Inv.BN (I:Inv X pins σ H s) (hH:H l=some (.lst xs)):xs.length≤sizeLine∧∃ (its:List Value) (n:Nat),Vals xs its∧xs.length=its.length∧s.heap.get? l=some { cls:=.type "list",data:=.seq its.toArray n }:=by
  obtain ⟨z,its,n,r,e⟩:=I.hok l _ hH
  exact ⟨z,its,n,r,r.length,e⟩

end

section
variable {X:Cx}

def D5:R2:=fun x y H Q=>∃ l b xs zs,x = .ref l∧y = .ref b∧H l=some (.lst xs)∧H b=some (.lst zs)∧xs.length+zs.length≤sizeLine∧∀ p,H p=none→Q (.ref p) (upd H p (.lst (xs++zs)))
theorem dY:OpR X (binaryOp .Add) D5:=by
  intro pins s σ H x y v u Q I rx ry h
  obtain ⟨l,b,xs,zs,rfl,rfl,hH,hB,hz,q⟩:=h
  cases rx
  cases ry
  obtain ⟨z,its,n,r,hl,e⟩:=I.BN hH
  obtain ⟨z2,its2,n2,r2,hl2,e2⟩:=I.BN hB
  refine PySem.P.add_list e e2 ?_ (by rw [List.size_toArray,List.size_toArray];omega)
  have ea:its.toArray++its2.toArray=(its++its2).toArray:=by simp
  rw [ea]
  exact ⟨.ref _,_,I.Ik (t':=s.toks) (r.append r2) (by rw [List.length_append];omega),rfl,q _ I.fresh⟩
end

section
variable {prog:Program} {w:World} {A:Around} {E:Value→Shared→Prop} {s:Shared}
end

section
variable {X:Cx}
end
end L2

namespace L2
open PySem PySem.Spec PyProof.Rows

section
variable {κ : Type} [DecidableEq κ]
def ki (kvs:List (κ×V)) (k : κ):Option V:=(kvs.find? fun kv=>decide (kv.1=k)).map (·.2)
def putK (kvs:List (κ×V)) (k : κ) (v:V):List (κ×V):=
  if (kvs.any fun kv=>decide (kv.1=k))=true then kvs.map (fun kv=>if kv.1=k then (kv.1,v) else kv) else kvs++[(k,v)]
theorem kT {p : κ×V} {r:List (κ×V)} {k : κ} (e:p.1=k):ki (p::r) k=some p.2:=by simp [ki,List.find?_cons,e]
theorem kU {p : κ×V} {r:List (κ×V)} {k : κ} (e:¬ p.1=k):ki (p::r) k=ki r k:=by simp [ki,List.find?_cons,e]
theorem qg (k : κ):∀ kvs:List (κ×V),(kvs.any fun kv=>decide (kv.1=k))=(ki kvs k).isSome
  | []=>rfl
  | p::r=>by
    rw [List.any_cons]
    by_cases e:p.1=k
    · simp only [kT e,decide_eq_true e,Bool.true_or,Option.isSome_some]
    · rw [kU e,decide_eq_false e,Bool.false_or];exact qg k r
theorem jq.wK {o:Option V} {u:Option Value} (r:jq o u):o.isSome=u.isSome:=by
  cases o with
  | none=>cases u with
    | none=>rfl
    | some _=>exact (show False from r).elim
  | some _=>cases u with
    | none=>exact (show False from r).elim
    | some _=>rfl
theorem KV.val {kvs:List (κ×V)} {vs:List (κ×Value)} (r:KV kvs vs) (k : κ):jq (ki kvs k) (valueAt vs k):=by
  unfold KV at r
  induction r with
  | nil=>exact True.intro
  | @cons p q ps qs h t ih=>
    obtain ⟨h1,h2⟩:=h
    by_cases e:p.1=k
    · have e':q.1=k:=h1.symm.trans e
      have b:valueAt (q::qs) k=some q.2:=by simp [valueAt,List.find?_cons,e']
      rw [kT e,b];exact h2
    · have e':¬ q.1=k:=fun z=>e (h1.trans z)
      have b:valueAt (q::qs) k=valueAt qs k:=by simp [valueAt,List.find?_cons,e']
      rw [kU e,b];exact ih
theorem KV.any {kvs:List (κ×V)} {vs:List (κ×Value)} (r:KV kvs vs) (k : κ):(kvs.any fun kv=>decide (kv.1=k))=vs.any fun kv=>decide (kv.1=k):=by
  unfold KV at r
  induction r with
  | nil=>rfl
  | cons h t ih=>rw [List.any_cons,List.any_cons,ih,h.1]
theorem KV.repl {kvs:List (κ×V)} {vs:List (κ×Value)} (r:KV kvs vs) (k : κ) {y:V} {u:Value} (ry:RelV y u) :
    KV (kvs.map fun kv=>if kv.1=k then (kv.1,y) else kv) (vs.map fun kv=>if kv.1=k then (kv.1,u) else kv):=by
  unfold KV at r ⊢
  induction r with
  | nil=>exact .nil
  | @cons p q ps qs h t ih=>
    rw [List.map_cons,List.map_cons]
    refine .cons ?_ ih
    obtain ⟨h1,h2⟩:=h
    by_cases e:p.1=k
    · rw [if_pos e,if_pos (h1.symm.trans e)];exact ⟨h1,ry⟩
    · rw [if_neg e,if_neg (fun z=>e (h1.trans z))];exact ⟨h1,h2⟩
theorem KV.put {kvs:List (κ×V)} {vs:List (κ×Value)} (r:KV kvs vs) (k : κ) {y:V} {u:Value} (ry:RelV y u):KV (putK kvs k y) (stored vs k u):=by
  unfold putK stored
  rw [r.any k]
  by_cases e:(vs.any fun kv=>decide (kv.1=k))=true
  · rw [if_pos e,if_pos e];exact r.repl k ry
  · rw [if_neg e,if_neg e];exact Paired.snoc r ⟨rfl,ry⟩
theorem KV.length {kvs:List (κ×V)} {vs:List (κ×Value)} (r:KV kvs vs):kvs.length=vs.length:=Paired.length r
end


abbrev KT (H:Hp):List (List Key×V)→List (List Key×Addr×Value)→Prop:=Paired fun p q=>p.1=q.1∧H q.2.1=some (.tup (p.1.map kV))∧RelV p.2 q.2.2
theorem KT.val {H:Hp} {kvs:List (List Key×V)} {xs:List (List Key×Addr×Value)} (r:KT H kvs xs) (k:List Key):jq (ki kvs k) ((atKey xs k).map (·.2)):=by
  induction r with
  | nil=>exact True.intro
  | @cons p q ps qs h t ih=>
    obtain ⟨h1,_,h2⟩:=h
    by_cases e:p.1=k
    · have e':q.1=k:=h1.symm.trans e
      have b:atKey (q::qs) k=some q.2:=by simp [atKey,List.find?_cons,e']
      rw [kT e,b];exact h2
    · have e':¬ q.1=k:=fun z=>e (h1.trans z)
      have b:atKey (q::qs) k=atKey qs k:=by simp [atKey,List.find?_cons,e']
      rw [kU e,b];exact ih
theorem KT.repl {H:Hp} {kvs:List (List Key×V)} {xs:List (List Key×Addr×Value)} (r:KT H kvs xs) (k:List Key) {y:V} {u:Value} (ry:RelV y u) :
    KT H (kvs.map fun kv=>if kv.1=k then (kv.1,y) else kv) (xs.map (putAt k u)):=by
  induction r with
  | nil=>exact .nil
  | @cons p q ps qs h t ih=>
    rw [List.map_cons,List.map_cons]
    refine .cons ?_ ih
    obtain ⟨h1,h2,h3⟩:=h
    unfold putAt
    by_cases e:p.1=k
    · rw [if_pos e,if_pos (h1.symm.trans e)];exact ⟨h1,h2,ry⟩
    · rw [if_neg e,if_neg (fun z=>e (h1.trans z))];exact ⟨h1,h2,h3⟩
theorem KT.put {H:Hp} {kvs:List (List Key×V)} {xs:List (List Key×Addr×Value)} (r:KT H kvs xs) (k:List Key) {b:Addr} {y:V} {u:Value} (hb:H b=some (.tup (k.map kV))) (ry:RelV y u) :
    KT H (putK kvs k y) (storedH xs k b u):=by
  have e:(kvs.any fun kv=>decide (kv.1=k))=(atKey xs k).isSome:=by
    rw [qg,(r.val k).wK,Option.isSome_map]
  unfold putK storedH
  rw [e]
  by_cases q:(atKey xs k).isSome=true
  · rw [if_pos q,if_pos q];exact r.repl k ry
  · rw [if_neg q,if_neg q];exact Paired.snoc r ⟨rfl,hb,ry⟩
section
variable {P:Program} {w:World} {H:Hp} {h:Heap} {a:Addr}
end

def C0 (H:Hp) (a:Addr) (y:V) (r:Option V):Prop:=
  (∃ kvs k,Rd H a (.dK kvs)∧y=kV k∧r=ki kvs k)∨∃ kvs k b,Rd H a (.dT kvs)∧y = .ref b∧H b=some (.tup (k.map kV))∧r=ki kvs k
def CZ (H:Hp) (a:Addr) (y v:V) (H':Hp):Prop:=
  (∃ kvs k,H a=some (.dK kvs)∧y=kV k∧kvs.length < sizeLine∧H'=upd H a (.dK (putK kvs k v))) ∨
  ∃ kvs k b,H a=some (.dT kvs)∧y = .ref b∧H b=some (.tup (k.map kV))∧kvs.length < sizeLine∧H'=upd H a (.dT (putK kvs k v))
theorem C0.k {H:Hp} {a:Addr} {kvs:List (Key×V)} {k:Key} (e:H a=some (.dK kvs)):C0 H a (kV k) (ki kvs k):=.inl ⟨kvs,k,.inl e,rfl,rfl⟩
theorem C0.t {H:Hp} {a b:Addr} {kvs:List (List Key×V)} {k:List Key} (e:H a=some (.dT kvs)) (eb:H b=some (.tup (k.map kV))):C0 H a (.ref b) (ki kvs k):=.inr ⟨kvs,k,b,.inl e,rfl,eb,rfl⟩
theorem CZ.k {H:Hp} {a:Addr} {kvs:List (Key×V)} {k:Key} {v:V} (e:H a=some (.dK kvs)) (hl:kvs.length < sizeLine):CZ H a (kV k) v (upd H a (.dK (putK kvs k v))):=.inl ⟨kvs,k,e,rfl,hl,rfl⟩
theorem CZ.t {H:Hp} {a b:Addr} {kvs:List (List Key×V)} {k:List Key} {v:V} (e:H a=some (.dT kvs)) (eb:H b=some (.tup (k.map kV))) (hl:kvs.length < sizeLine) :
    CZ H a (.ref b) v (upd H a (.dT (putK kvs k v))):=.inr ⟨kvs,k,b,e,rfl,eb,hl,rfl⟩


section
variable {X:Cx} {pins:List (Addr×Obj)} {σ : St} {H:Hp} {s:Shared} {a:Addr} {y v:V} {u r:Value} {o:Option V} {A:Around} {E:Value→Shared→Prop}

theorem Inv.big (I:Inv X pins σ H s):sysModules < s.heap.objs.size:=by
  have h:mainGlobals < s.heap.objs.size:=(I.mod.glob.keeps I.bk).lt
  exact Nat.lt_trans (by decide) h

end

section
variable {X:Cx} {pins:List (Addr×Obj)} {σ : St} {H:Hp} {s:Shared} {a:Addr} {kvs:List (Key×V)} {k:Key} {u:Value} {A:Around} {E:Value→Shared→Prop}
end


section
variable {X:Cx} {o i e value:Expr} {pos pos' tpos:Pos} {td ty tv:TE}
end


theorem Am {P:Program} {w:World} {H:Hp} (h:Heap) (hb:sysModules < h.objs.size):bH P w H (h.push { cls:=.type "dict",data:=.dict #[] }) h.objs.size (.dK []):=
  ⟨Nat.zero_le _,beq_eq_false_iff_ne.mpr (Ne.symm (Nat.ne_of_lt hb)),[],.nil,Heap.DictOf.new h⟩
def x8:TE:=fun _ H Q=>∀ p,H p=none→Q (.ref p) (upd H p (.dK []))
section
variable {X:Cx} {pos:Pos}
theorem za:PE X (.Dict [] [] pos) x8:=fun pins s σ H Q I h=>
  wpAny_Dict_empty ⟨.ref s.heap.objs.size,_,I.laid (a:=s.heap.objs.size) (o:=.dK []) (t':=s.toks) (fun _ _ q=>Heap.get?_push_of_some _ q) (Nat.le_refl _) (Am s.heap I.big),rfl,h _ (I.hok.fresh (Nat.le_refl _))⟩
end

structure M1 (X:Cx) (o:Expr) (m:Str) (apos:Pos) (e:Expr) (cpos:Pos):Prop where
  base:attributeBase o m X.env (eval o X.env)=eval o X.env
  few:((backTo cpos (starEach [e] X.env)).all (fun x=>!x.1) && (backToKw cpos (keywordEach [] X.env)).all (fun x=>x.1.isSome)
    && decide (([e]:List Expr).length+([]:List Keyword).length+(if ([]:List Keyword).isEmpty then 0 else 1) < 30))=true
  line:(apos.endLine == cpos.line)=true
  trees:backTo cpos (starEach [e] X.env)=[(false,eval e X.env)]
structure M2 (X:Cx) (o:Expr) (m:Str) (apos:Pos) (e f:Expr) (cpos:Pos):Prop where
  base:attributeBase o m X.env (eval o X.env)=eval o X.env
  few:((backTo cpos (starEach [e,f] X.env)).all (fun x=>!x.1) && (backToKw cpos (keywordEach [] X.env)).all (fun x=>x.1.isSome)
    && decide (([e,f]:List Expr).length+([]:List Keyword).length+(if ([]:List Keyword).isEmpty then 0 else 1) < 30))=true
  line:(apos.endLine == cpos.line)=true
  trees:backTo cpos (starEach [e,f] X.env)=[(false,eval e X.env),(false,eval f X.env)]

section
variable {X:Cx} {pins:List (Addr×Obj)} {σ : St} {H:Hp} {s:Shared} {a:Addr} {y d:V} {u r:Value} {o:Option V} {A:Around} {E:Value→Shared→Prop}
end

section
variable {X:Cx} {o e f:Expr} {apos cpos:Pos} {td ty tx:TE}
end

section
variable {X:Cx} {pins:List (Addr×Obj)} {σ : St} {H:Hp} {s:Shared} {a:Addr} {kvs:List (Key×V)} {A:Around} {E:Value→Shared→Prop}
end


section
variable {X:Cx} {pins:List (Addr×Obj)} {σ : St} {H:Hp} {s:Shared} {a:Addr} {y:V} {u:Value} {A:Around} {E:Value→Shared→Prop}
end
end L2

namespace Att
open PySem PySem.W PySem.Calls PyProof.Rows

theorem ko {P:Params} {h:Heap}:∀ (ns:List Int) (vs:List Value),WellAll P h vs (ns.map WData.int)→IntsAre vs ns:=by
  intro ns
  induction ns with
  | nil=>
    intro vs w
    rw [List.map_nil] at w
    cases w
    exact .nil
  | cons n ns ih=>
    intro vs w
    rw [List.map_cons] at w
    cases w with
    | cons a b=>
      cases a
      exact .cons _ _ (ih _ b)

theorem vP {l:OpenLaw} {n:Nat} (hn:l.most=some n) {P:Params} {h:Heap} {args:List WData} {vals:List Value}
    (hpre:l.row.toRowW.claim.pre args=true) (hwl:WellAll P h vals args) :
    ∃ a vs ns,vals=[Value.ref a]∧args=[WData.list (ns.map WData.int)]∧h.get? a=some { cls:=.type "list",data:=.seq vs.toArray }∧IntsAre vs ns∧ns.length≤n:=by
  have hsh:WShape.hasAll [] args [.list .int]=true:=(pre_splitW hpre).1
  have hc:l.pre.holds [] { args:=args }=true:=(pre_splitW hpre).2
  obtain ⟨d,r,rfl,h1,h2⟩:=hasAllW_cons hsh
  obtain rfl:=hasAllW_nil h2
  obtain ⟨xs,rfl,h3⟩:=hasW_list h1
  obtain ⟨ns,rfl⟩:=items_int h3
  have hlen:ns.length≤n:=by
    unfold OpenLaw.pre at hc
    have h4:(WTm.not (.lt (.lit (.int (n:Int))) (.len (.arg 0)))).holds [] { args:=[.list (ns.map .int)] }=true:=by
      have h4:=(holds_andW hc).1
      rw [hn] at h4
      exact h4
    have h5:=condW_of h4 (w_not (w_lt w_lit (w_len_list (w_arg rfl))))
    rw [List.length_map] at h5
    refine Nat.le_of_not_lt fun q=>?_
    have q':(n:Int) < ((ns.length:Nat):Int):=by omega
    first
      | (rw [decide_eq_true q'] at h5;exact absurd h5 (by decide))
      | (simp at h5;omega)
  cases hwl with
  | cons w1 w2=>
    cases w2
    cases w1 with
    | list ho hall=>exact ⟨_,_,ns,rfl,rfl,ho,ko ns _ hall,hlen⟩

theorem v7 (l:OpenLaw) (args:List WData):l.row.toRowW.claim.post args (.bool true) args=true:=
  postW_of (r:=l.row.toRowW) (X:=(true == true))
    (show WShape.has [] (.bool true) .bool=true by first | rfl | decide | simp [WShape.has,WShape.arms,WShape.armsAll])
    (show (WTm.eq .res (.lit (.bool true))).value [] { args:=args,res:=some (.bool true),after:=args }=some (.bool (true == true)) from w_eq_bool (w_res rfl) w_lit) rfl

theorem rK {l:OpenLaw} {n:Nat} {q:Program} {loose:List Str} {XP:(Str→Option Value)→Heap→Prop} {YP:World→Heap→Prop} {d:DefRec}
    (hn:l.most=some n) (hdf:d.params.defaults=[])
    (call:∀ (w:World) (s₀ s₁ : Shared) (mg mb:Str→Option Value) (fa:Addr) (o:Obj) (pm cd doc:Value) (a:Addr) (vs:List Value) (ns:List Int),
      Ground q loose [] XP w s₀ mg mb s₁.heap→YP w s₁.heap →
      s₁.heap.get? fa=some o→o.data = .func (docDef d.name d.params d.body d.scope pm cd doc)→s₁.heap.CodeRec cd d.name→mg d.name=some (.ref fa) →
      s₁.heap.get? a=some { cls:=.type "list",data:=.seq vs.toArray }→IntsAre vs ns→ns.length≤n→s₁.gens=#[] →
      codeAny (model l.prog w) callerA (.call (.ref fa) ⟨[.ref a],[]⟩) (fun r s'=>r = .ok (.ret (.bool true))∧OldK s₁.heap s'.heap∧s'.os=s₁.os∧AllBare s'.gens) s₁) :
    WalkO q loose XP YP l.row.toRowW d [] (fun f vs=>PySem.call f vs):=by
  intro w s₀ s₁ mg mb G Y fa o pm cd doc dV kV ho hd hcd hD hmg hg args vals as hpre hlay hrd hwl hlo
  obtain rfl:dV = .none:=Dflts.none hD hdf
  obtain rfl:kV = .none:=Dflts.noKw hD
  obtain ⟨a,vs,ns,rfl,rfl,hobj,hints,hlen⟩:=vP hn hpre hwl
  refine enter_call (codeAny_mono (call w s₀ s₁ mg mb fa o pm cd doc a vs ns G Y ho (fd_plain hd) hcd hmg hobj hints hlen hg) fun r s' hq=>?_)
  obtain ⟨rfl,h2,h3,h4⟩:=hq
  exact ⟨.inl ⟨.bool true,.bool true,[],rfl,fun _=>rfl,.bool true,v7 l _,fun _=>⟨List.Pairwise.nil,fun _ hm=>(nomatch hm)⟩⟩,h2,h3,h4⟩

section
variable {prog:Program} {w:World} {A:Around} {E:Value→Shared→Prop} {s:Shared} {K:Frag}

end
end Att

namespace L2
open PySem PySem.Spec PyProof.Rows

theorem gG:∀ {vs:List Value} {ns:List Int},IntsAre vs ns→Vals (ns.map V.int) vs
  | _,_,.nil=>.nil
  | _,_,.cons n t h=>.cons ⟨t,rfl⟩ (gG h)

def CV (H:Hp):Prop:=∀ b,H b=none∨∃ o xs,H b=some (.frz o (.lst xs))

theorem zN {P:Program} {w:World} {K:PySem.W.Frag} {mg mb:Str→Option Value} {CX:CXT} {k:Nat} {fa a:Addr} {fd:FuncData} {x:Str} {sp:Sp} {s₁ : Shared} {vs:List Value} {ns:List Int}
    (KX:K.In s₁.heap) (hns:s₁.heap.Ns mainGlobals mg) (hb:s₁.heap.Ns builtinsNs mb) (hbb:∀ x:Str,x ≠ "__name__" → mb x=bootBuiltins x) (hlim:s₁.heap.NoLimit) (hg:s₁.gens=#[])
    (ha:s₁.heap.get? a=some { cls:=.type "list",data:=.seq vs.toArray }) (hi:IntsAre vs ns) (hl:ns.length≤sizeLine) (hr:cy k callerA)
    (F:∀ base:Heap,K.In base→base.Ns mainGlobals mg→fz P w K mg base CX k fa fd [x] sp) (hbind:∀ (s:Shared) (u:Value),BindsTo s fd ⟨[u],[]⟩ [(x,u)])
    (hsp:∀ H:Hp,CV H→SqL K H a (ns.map V.int)→sp [.ref a] H (fun v _=>v = .bl true) fun _ _ _=>False)
    (hCX:∀ H e s',CX [] H s₁ (fun _ _ _=>False) e s'→False) :
    codeAny (model P w) callerA (.call (.ref fa) ⟨[.ref a],[]⟩) (fun r s'=>r = .ok (.ret (.bool true))∧OldK s₁.heap s'.heap∧s'.os=s₁.os∧AllBare s'.gens) s₁:=by
  have rv:=gG hi
  have Il:=hi.length
  -- from an abstract heap in which nothing but the script may be tracked
  have core:∀ H:Hp,CV H→SqL K H a (ns.map V.int)→HOk P w H s₁.heap→(∀ b,H b≠none→b=a)→(H a≠none→K.lookup a=none) →
      codeAny (model P w) callerA (.call (.ref fa) ⟨[.ref a],[]⟩) (fun r s'=>r = .ok (.ret (.bool true))∧OldK s₁.heap s'.heap∧s'.os=s₁.os∧AllBare s'.gens) s₁:=by
    intro H hO hS hok hA hK
    have vD:∀ {b:Addr} {o:Obj},s₁.heap.get? b=some o→H b=none→(pF s₁.heap H).get? b=some o:=fun e n=>zR e n
    have noA:∀ {b:Addr} {o:Obj} {es:Array DictEntry} {ep:Nat},s₁.heap.get? b=some o→o.data = .dict es ep→H b=none:=fun {b o es ep} e d=>by
      cases q:H b with
      | none=>rfl
      | some u=>
        have e':b=a:=hA b (by rw [q];simp)
        subst e'
        rw [ha] at e;cases e
        have d':Data.seq vs.toArray _=Data.dict es ep:=d
        cases d'
    have nsK:∀ {b:Addr} {m:Str→Option Value},s₁.heap.Ns b m→(pF s₁.heap H).Ns b m:=fun {b m} ⟨o,es,ep,e,d,r⟩=>⟨o,es,ep,vD e (noA e d),d,r⟩
    have hKb:K.In (pF s₁.heap H):=fun b o e=>vD (KX b o e) (by
      cases q:H b with
      | none=>rfl
      | some u=>
        have e':b=a:=hA b (by rw [q];simp)
        subst e'
        rw [hK (by rw [q];simp)] at e;cases e)
    have hM:Mod K mg (pF s₁.heap H):=⟨hKb,nsK hns,⟨mb,nsK hb,hbb⟩,let ⟨mc,h1,h2⟩:=hlim;⟨mc,nsK h1,h2⟩⟩
    have e0:rR P w K mg (pF s₁.heap H) callerA [] s₁ H:=⟨rfl,hM,fun b o e=>BG e,Nat.le_of_eq (wR _ _),trivial,fun b hb=>absurd (show b∈([]:List Addr) from hb) (by simp),hok,.of_eq hg⟩
    refine codeAny_mono ((F _ hKb (nsK hns)).run callerA [] s₁ H ⟨[.ref a],[]⟩ [.ref a] [.ref a] _ _ hr e0 (hbind s₁ (.ref a)) (.cons rfl .nil) (hsp H hO hS)) fun r s' h=>?_
    cases r with
    | error e=>exact (hCX H e s' h).elim
    | ok fl=>
      cases fl with
      | next=>exact False.elim h
      | brk=>exact False.elim h
      | cont=>exact False.elim h
      | ret u=>
        obtain ⟨v,H',os,bare,un,hok',r',q⟩:=h
        have q':v = .bl true:=q
        subst q'
        obtain rfl:u=Value.bool true:=r'
        refine ⟨rfl,OldK.of_keep fun b o e=>?_,os,bare⟩
        cases q:H b with
        | none=>exact un.keep b o e q (by intro z;exact absurd (show b∈([]:List Addr) from z) (by simp)) (by simp)
        | some u=>
          rcases hO b with z | ⟨ob,xs,z⟩
          · rw [q] at z;cases z
          · have z2:=un.gn b ob _ z
            obtain ⟨e1,_⟩:=hok b _ z
            obtain ⟨e2,_⟩:=hok' b _ z2
            rw [e] at e1;cases e1
            exact e2
  cases hk:K.lookup a with
  | some o=>
    -- the script is one of the module's own objects
    have e:=KX a o hk
    rw [ha] at e
    cases e
    refine core (fun _=>none) (fun _=>.inl rfl) (.inr ⟨_,vs.toArray,_,hk,rfl,rfl,rfl,by rw [List.size_toArray,Il];exact hl,by simpa using rv⟩) (fun b u z=>by have z':(none:Option HO)=some u:=z;cases z') (fun b z=>absurd rfl z) fun z=>absurd rfl z
  | none=>
    refine core (fun b=>if b=a then some (.frz { cls:=.type "list",data:=.seq vs.toArray } (.lst (ns.map V.int))) else none) (fun b=>?_) (.inl (.inr ⟨{ cls:=.type "list",data:=.seq vs.toArray },if_pos rfl⟩)) (fun b u z=>?_) (fun b z=>?_) fun _=>hk
    · by_cases hb:b=a
      · exact .inr ⟨_,_,if_pos hb⟩
      · exact .inl (if_neg hb)
    · by_cases hb:b=a
      · have z':=(if_pos hb).symm.trans z
        cases z'
        subst hb
        exact ⟨ha,by rw [List.length_map];exact hl,vs,_,rv,ha⟩
      · have z':=(if_neg hb).symm.trans z
        cases z'
    · by_cases hb:b=a
      · exact hb
      · exact absurd (if_neg hb) z
end L2

namespace L2
open PySem PySem.Spec PyProof.Rows

abbrev KOf {K:PySem.W.Frag} {h:Heap} (_:K.In h):PySem.W.Frag:=K

theorem AN {l:PySem.W.OpenLaw} {n k:Nat} {q:Program} {loose:List Str} {XP:(Str→Option Value)→Heap→Prop} {YP:World→Heap→Prop} {d:DefRec} {K:Params→PySem.W.Frag} {CX:World→CXT} {sp:World→Sp} {x:Str}
    (hn:l.most=some n) (hn2:n≤sizeLine) (hdf:d.params.defaults=[]) (hr:cy k callerA)
    (hY:∀ (w:World) (h:Heap),YP w h→(K w.params).In h)
    (F:∀ (w:World) (mg:Str→Option Value) (fa:Addr) (h:Heap),(K w.params).In h→h.Ns mainGlobals mg→mg d.name=some (.ref fa) →
      ∃ fd:FuncData,(∀ (s:Shared) (u:Value),BindsTo s fd ⟨[u],[]⟩ [(x,u)]) ∧
        ∀ base:Heap,(K w.params).In base→base.Ns mainGlobals mg→fz l.prog w (K w.params) mg base (CX w) k fa fd [x] (sp w))
    (hsp:∀ (w:World) (H:Hp) (a:Addr) (ns:List Int),ns.length≤n→CV H→SqL (K w.params) H a (ns.map V.int)→sp w [.ref a] H (fun v _=>v = .bl true) fun _ _ _=>False)
    (hCX:∀ (w:World) (H:Hp) (s:Shared) (e:Value) (s':Shared),CX w [] H s (fun _ _ _=>False) e s'→False) :
    PySem.W.WalkO q loose XP YP l.row.toRowW d [] (fun f vs=>PySem.call f vs):=by
  refine Att.rK hn hdf fun w s₀ s₁ mg mb fa o pm cd doc a vs ns G Y ho hd hcd hmg hobj hints hlen hg=>?_
  have KX:=hY w _ Y
  obtain ⟨fd,hb,hF⟩:=F w mg fa _ KX G.T.g hmg
  exact zN KX G.T.g G.T.b G.T.builtins G.T.nolimit hg hobj hints (Nat.le_trans hlen hn2) hr hF hb (fun H hO hS=>hsp w H a ns hlen hO hS) fun H e s'=>hCX w H s₁ e s'
end L2


namespace L2
open PySem PySem.Spec PyProof.Rows

def inClass (s:Stmt) (j:Nat):Stmt:=match s with
  | .ClassDef _ _ _ body _ _ _ _ _ _ _=>body.getD j (.Pass ⟨0,0,0,0⟩)
  | _=>.Pass ⟨0,0,0,0⟩
def bD (s:Stmt):Arguments:=match s with
  | .FunctionDef _ a _ _ _ _ _ _ _ _=>a
  | _=>{ posonlyargs:=[],args:=[],vararg:=none,kwonlyargs:=[],kw_defaults:=[],kwarg:=none,defaults:=[] }
def aU (s:Stmt):List Stmt:=match s with
  | .FunctionDef _ _ b _ _ _ _ _ _ _=>b
  | _=>[]
def aj (s:Stmt):Scope:=match s with
  | .FunctionDef _ _ _ _ _ _ sc _ _ _=>sc
  | _=>{ kind:=.function,names:=[],isGenerator:=false,isCoroutine:=false }

abbrev E0:XK:=fun _ _ _=>False
structure Fun (K:PySem.W.Frag) (x qual:Str) (st:Stmt) (f:Addr) (fd:FuncData):Prop where
  ex:∃ (oc:Value) (od:Option Addr) (kV doc pm:Value) (an:Option Addr) (cdv ct:Value) (osl:Array (Option Value)),
    fd=PySem.W.fnOf x qual (bD st) (aU st) (aj st) .none kV doc pm an cdv ct∧K.lookup f=some ⟨oc,od,.func fd,osl⟩∧PySem.W.codeIn K cdv qual=true
  kp:PySem.W.keepIn K (.ref f)=true
section
variable {P:Program} {w:World} {K:PySem.W.Frag} {mg:Str→Option Value} {base:Heap}
theorem Fun.binds {x qual:Str} {st:Stmt} {f:Addr} {fd:FuncData} {ps:List Str} (F:Fun K x qual st f fd)
    (h:∀ (kV doc pm:Value) (an:Option Addr) (cdv ct:Value) (us:List Value),us.length=ps.length→bindArgs (PySem.W.fnOf x qual (bD st) (aU st) (aj st) .none kV doc pm an cdv ct) ⟨us,[]⟩=pure (ps.zip us)):Binds K fd ps []:=by
  obtain ⟨oc,od,kV,doc,pm,an,cdv,ct,osl,rfl,lk,hcd⟩:=F.ex
  exact .all (h kV doc pm an cdv ct)
theorem tU {x qual:Str} {st:Stmt} {f:Addr} {oc:Value} {od an:Option Addr} {osl:Array (Option Value)} {kV doc pm cdv ct:Value} (l:K.lookup f=some ⟨oc,od,.func (PySem.W.fnOf x qual (bD st) (aU st) (aj st) .none kV doc pm an cdv ct),osl⟩)
    (c:PySem.W.codeIn K cdv qual=true) (k:PySem.W.keepIn K (.ref f)=true):Fun K x qual st f (PySem.W.fnOf x qual (bD st) (aU st) (aj st) .none kV doc pm an cdv ct):=⟨⟨oc,od,kV,doc,pm,an,cdv,ct,osl,rfl,l,c⟩,k⟩
end
theorem small1000 {n:Nat} (h:n≤1000):n < sizeLine:=Nat.lt_of_le_of_lt h (by decide)

section
variable {X:Cx}
theorem pv (i:Nat) {x:Str} {pos:Pos} (hN:X.N[i]?=some x:=by rfl) (hv:Vis X.env.scope x:=by first | exact Or.inl rfl | exact Or.inr (Or.inl rfl) | exact Or.inr (Or.inr rfl)) (hd:(x == ("__debug__" : Str))=false:=by decide)
    (hcd:(x == ("__classdict__" : Str))=false:=by decide):PE X (.Name x pos) (DH i):=D7 hN hv hd hcd
end

theorem Io {A B:Prop} (h:B):if false=true then A else B:=by
  rw [if_neg Bool.false_ne_true]
  exact h
theorem wJ {c A B:Prop} [Decidable c] (h1:c→A) (h2:¬ c→B):if c then A else B:=by
  by_cases h:c
  · rw [if_pos h]
    exact h1 h
  · rw [if_neg h]
    exact h2 h
def az (H H':Hp):Prop:=∀ b o,H b=some o→H' b=some o
theorem az.refl (H:Hp):az H H:=fun _ _ h=>h
theorem az.trans {H H1 H2:Hp} (a:az H H1) (b:az H1 H2):az H H2:=fun c o h=>b c o (a c o h)
theorem az.seq {K:PySem.W.Frag} {H H':Hp} {a:Addr} {xs:List V} (e:az H H') (h:SqL K H a xs):SqL K H' a xs:=by
  rcases h with (h | ⟨o,h⟩) | h
  · exact .inl (.inl (e _ _ h))
  · exact .inl (.inr ⟨o,e _ _ h⟩)
  · exact .inr h

end L2

namespace L2
open PySem PySem.Spec PyProof.Rows
section
variable {X:Cx} {κ : Type} [DecidableEq κ]
end
end L2
namespace L3
open PySem PySem.Spec PyProof.Rows L2
abbrev St:=L2.St

def bN (CX:CXT):Prop:=∀ outer H s e s',¬ CX outer H s E0 e s'
theorem bN.pass {CX:CXT} (n:bN CX) {X:Cx}:Passes CX X E0:=fun _ _ H s e s' _ h=>(n _ H s e s' h).elim

structure Cal (P:Program) (w:World) (K:PySem.W.Frag) (mg:Str→Option Value) (base:Heap) (CX:CXT) (x:Str) (k:Nat) (ps:List Str) (sp:Sp):Prop where
  ex:∃ f fd,fz P w K mg base CX k f fd ps sp∧Binds K fd ps []∧PySem.W.keepIn K (.ref f)=true∧mg x=some (.ref f)
structure Dat (K:PySem.W.Frag) (mg:Str→Option Value) (x qual:Str) (st:Stmt) (ps:List Str):Prop where
  ex:∃ f fd,Fun K x qual st f fd∧Binds K fd ps []∧mg x=some (.ref f)
section
variable {P:Program} {w:World} {K:PySem.W.Frag} {mg:Str→Option Value} {base:Heap} {CX:CXT} {x qual:Str} {st:Stmt} {N ps:List Str} {k j:Nat} {sp sp':Sp}
theorem Cal.imp (c:Cal P w K mg base CX x k ps sp) (h:∀ vs H Q E,sp' vs H Q E→sp vs H Q E):Cal P w K mg base CX x k ps sp':=by
  obtain ⟨f,fd,F,r⟩:=c.ex
  exact ⟨f,fd,F.imp h,r⟩
theorem tT {f:Addr} {fd:FuncData} (F:Fun K x qual st f fd) (S:aB N ps (aj st)) (len:∀ vs H Q E,sp vs H Q E→vs.length=ps.length)
    (hbody:∀ (f:Addr) (cdv:Value) (A:Around) (outer:List Env) (s:Shared) (H:Hp) (vs:List V) (Q:VK) (E:XK),cy k (A.deeper (envOfC qual (aj st) s.heap.objs.size f cdv))→sp vs H Q E →
      ∃ t,PSs (bM CX P w K mg base N qual (aj st) f cdv A outer s H E).nox (aU st) t∧t { nx:=fun _ H'=>Q .non H',rt:=Q } (start N vs) H):fz P w K mg base CX (k+1) f fd ps sp:=by
  obtain ⟨oc,od,kV,doc,pm,an,cdv,ct,osl,rfl,lk,hcd⟩:=F.ex
  refine vp lk hcd S len fun A outer s H vs Q E hr hsp=>?_
  obtain ⟨t,h,q⟩:=hbody f cdv A outer s H vs Q E hr hsp
  exact ⟨t,h.nox,q⟩
theorem Dat.ok (D:Dat K mg x qual st ps) (S:aB N ps (aj st)) (len:∀ vs H Q E,sp vs H Q E→vs.length=ps.length)
    (hbody:∀ (f:Addr) (cdv:Value) (A:Around) (outer:List Env) (s:Shared) (H:Hp) (vs:List V) (Q:VK) (E:XK),cy k (A.deeper (envOfC qual (aj st) s.heap.objs.size f cdv))→sp vs H Q E →
      ∃ t,PSs (bM CX P w K mg base N qual (aj st) f cdv A outer s H E).nox (aU st) t∧t { nx:=fun _ H'=>Q .non H',rt:=Q } (start N vs) H):Cal P w K mg base CX x (k+1) ps sp:=by
  obtain ⟨f,fd,F,b,m⟩:=D.ex
  exact ⟨f,fd,tT F S len hbody,b,F.kp,m⟩
theorem Dat.okX (D:Dat K mg x qual st ps) (S:aB N ps (aj st)) (len:∀ vs H Q E,sp vs H Q E→vs.length=ps.length)
    (hbody:∀ (f:Addr) (cdv:Value) (A:Around) (outer:List Env) (s:Shared) (H:Hp) (vs:List V) (Q:VK) (E:XK),cy k (A.deeper (envOfC qual (aj st) s.heap.objs.size f cdv))→sp vs H Q E →
      ∃ t,PSs (bM CX P w K mg base N qual (aj st) f cdv A outer s H E) (aU st) t∧t { nx:=fun _ H'=>Q .non H',rt:=Q } (start N vs) H):Cal P w K mg base CX x (k+1) ps sp:=by
  obtain ⟨f,fd,F,b,m⟩:=D.ex
  have kp:=F.kp
  obtain ⟨oc,od,kV,doc,pm,an,cdv,ct,osl,rfl,lk,hcd⟩:=F.ex
  refine ⟨f,_,vp lk hcd S len fun A outer s H vs Q E hr hsp=>?_,b,kp,m⟩
  exact hbody f cdv A outer s H vs Q E hr hsp
theorem dat_mk {h:Heap} (X:K.In h) (G:h.Ns mainGlobals mg) {f:Addr} {oc:Value} {od an:Option Addr} {osl:Array (Option Value)} {kV doc pm cdv ct:Value} (a:PySem.W.nsIn K mainGlobals x=some (some (.ref f)))
    (l:K.lookup f=some ⟨oc,od,.func (PySem.W.fnOf x qual (bD st) (aU st) (aj st) .none kV doc pm an cdv ct),osl⟩) (c:PySem.W.codeIn K cdv qual=true) (kp:PySem.W.keepIn K (.ref f)=true)
    (b:∀ (kV doc pm:Value) (an:Option Addr) (cdv ct:Value) (us:List Value),us.length=ps.length→bindArgs (PySem.W.fnOf x qual (bD st) (aU st) (aj st) .none kV doc pm an cdv ct) ⟨us,[]⟩=pure (ps.zip us)):Dat K mg x qual st ps:=by
  have F:=tU (st:=st) l c kp
  exact ⟨f,_,F,F.binds b,PySem.W.mg_of X G a⟩
end
section
variable {X:Cx} {CX:CXT} {k:Nat} {ps:List Str} {sp:Sp} {E:XK} {x:Str} {p pos:Pos} {e:Expr} {es:List Expr} {t:TA}
theorem aI (C:Cal X.prog X.w X.K X.mg X.base CX x k ps sp) (hr:cy k X.A) (hx:Passes CX X E) (ha:PA X (e::es) t) (hg:Gl X x:=by rfl)
    (hdb:(x == ("__debug__" : Str))=false:=by decide) (he:starEach (e::es) X.env=(false,eval e X.env)::starEach es X.env:=by rfl) (hpl:(backTo pos (starEach es X.env)).any (·.1)=false:=by rfl) :
    PE X (.Call (.Name x p) (e::es) [] pos) (yb sp [] E t):=by
  obtain ⟨f,fd,F,b,kp,m⟩:=C.ex
  exact Bs F hr hg m kp b .nil hx ha hdb he hpl
end

def bQ (cells:List (Str×Addr)):List (Str×NameKind)→List (Str×Addr)→List (Str×Addr)
  | [],acc=>acc
  | (n,k)::r,acc=>if k == .free then (match cells.lookup n with | some a=>bQ cells r ((n,a)::acc) | none=>bQ cells r acc) else bQ cells r acc
theorem ji {env:Env}:∀ (l:List (Str×NameKind)) (acc:List (Str×Addr)),(∀ y∈l,y.2 = .free→∃ c,env.cells.lookup y.1=some c) →
    (forIn l acc (fun (y:Str×NameKind) cs=>do
      if y.2 == .free then let c ← cellOf env y.1;pure (ForInStep.yield ((y.1,c)::cs)) else pure (ForInStep.yield cs)):Sem (List (Str×Addr)))=pure (bQ env.cells l acc)
  | [],acc,_=>rfl
  | (n,k)::r,acc,h=>by
    have ih:=fun acc=>ji (env:=env) r acc fun y hy=>h y (List.mem_cons_of_mem _ hy)
    rw [List.forIn_cons]
    cases hk:k == NameKind.free with
    | true=>
      have ek:k = .free:=by simpa using hk
      obtain ⟨c,hc⟩:=h (n,k) List.mem_cons_self ek
      have e1:cellOf env n=pure c:=by unfold cellOf;rw [hc]
      simp only [hk,if_true,e1,pure_bind]
      rw [ih]
      simp only [bQ,hk,if_true,hc]
    | false=>
      simp only [hk,Bool.false_eq_true,if_false,pure_bind]
      rw [ih]
      simp only [bQ,hk,Bool.false_eq_true,if_false]
theorem jS {scope:Scope} {env:Env} (h:∀ y∈scope.names,y.2 = .free→∃ c,env.cells.lookup y.1=some c):closureFor scope env=pure (bQ env.cells scope.names []):=by
  unfold closureFor
  have e:=ji (env:=env) scope.names [] h
  have:(forIn scope.names ([]:List (Str×Addr)) (fun (y:Str×NameKind) cs=>do
      if y.2 == .free then let c ← cellOf env y.1;pure (ForInStep.yield ((y.1,c)::cs)) else pure (ForInStep.yield cs)):Sem (List (Str×Addr))) >>= (fun cs=>pure cs)=pure (bQ env.cells scope.names []):=by rw [e];rfl
  exact this
theorem d8 {cells:List (Str×Addr)}:∀ (l:List (Str×NameKind)) (acc:List (Str×Addr)) {x:Str} {c:Addr},(bQ cells l acc).lookup x=some c→acc.lookup x=some c∨(cells.lookup x=some c∧(x,NameKind.free)∈l)
  | [],acc,x,c,h=>.inl h
  | (n,k)::r,acc,x,c,h=>by
    unfold bQ at h
    cases hk:k == NameKind.free with
    | true=>
      have ek:k = .free:=by simpa using hk
      subst ek
      rw [if_pos hk] at h
      cases hc:cells.lookup n with
      | none=>
        rw [hc] at h
        rcases d8 r acc h with z | z
        · exact .inl z
        · exact .inr ⟨z.1,List.mem_cons_of_mem _ z.2⟩
      | some a=>
        rw [hc] at h
        rcases d8 r _ h with z | z
        · rw [List.lookup_cons] at z
          cases hx:x == n with
          | true=>
            rw [hx] at z
            have:x=n:=by simpa using hx
            subst this
            cases z
            exact .inr ⟨hc,List.mem_cons_self⟩
          | false=>rw [hx] at z;exact .inl z
        · exact .inr ⟨z.1,List.mem_cons_of_mem _ z.2⟩
    | false=>
      rw [if_neg (by rw [hk];exact Bool.false_ne_true)] at h
      rcases d8 r acc h with z | z
      · exact .inl z
      · exact .inr ⟨z.1,List.mem_cons_of_mem _ z.2⟩
theorem fM {cells:List (Str×Addr)}:∀ (l:List (Str×NameKind)) (acc:List (Str×Addr)) {x:Str},(∃ c,acc.lookup x=some c)→∃ c,(bQ cells l acc).lookup x=some c
  | [],_,_,h=>h
  | (n,k)::r,acc,x,h=>by
    unfold bQ
    split
    · split
      · refine fM r _ ?_
        rw [List.lookup_cons]
        split
        · exact ⟨_,rfl⟩
        · exact h
      · exact fM r acc h
    · exact fM r acc h
theorem dj {cells:List (Str×Addr)}:∀ (l:List (Str×NameKind)) (acc:List (Str×Addr)) {x:Str},(x,NameKind.free)∈l→(∃ c,cells.lookup x=some c)→∃ c,(bQ cells l acc).lookup x=some c
  | [],_,_,h,_=>by simp at h
  | (n,k)::r,acc,x,h,hc=>by
    unfold bQ
    rcases List.mem_cons.mp h with e | h
    · cases e
      obtain ⟨c,hc⟩:=hc
      rw [if_pos (by decide),hc]
      exact fM r _ ⟨c,by rw [List.lookup_cons];simp⟩
    · split
      · split
        · exact dj r _ h hc
        · exact dj r _ h hc
      · exact dj r _ h hc

def jW (N own:List Str) (cap:List Nat):List Str:=own++cap.map fun j=>N.getD j Str.empty
def mH (own:Nat) (cap:List Nat) (σ : St):St:=List.replicate own none++cap.map fun j=>(σ[j]?).join
structure Blk (X:Cx) (scope:Scope) (own:List Str) (cap:List Nat):Prop where
  kind:scope.kind = .function
  nocell:∀ y∈scope.names,y.2≠.cell
  names:∀ y∈scope.names,y.2 = .local→scope.names.lookup y.1=some .local
  free:∀ y∈scope.names,y.2 = .free→X.env.kindOf y.1=some .cell
  nd:(jW X.N own cap).Nodup
  caps:∀ j∈cap,∃ x,X.N[j]?=some x∧(x,NameKind.free)∈scope.names∧scope.names.lookup x=some .free
def blk (X:Cx) (scope:Scope) (own:List Str) (cap:List Nat) (C:Addr) (s:Shared) (H:Hp) (fp:List Addr):Cx:=
  { prog:=X.prog,w:=X.w,K:=X.K,mg:=X.mg,base:=X.base,A:=X.A,N:=jW X.N own cap,s₀:=s,H₀:=H,env:=compEnvC scope (bQ X.env.cells scope.names []) C X.env,outer:=X.stack,stack:=X.stack,
    ex:=fp,fn:=fun _=>false,calm:=true,pn:=[],xe:=fun _ _=>False }
theorem cD {env:Env}:∀ {names:List (Str×NameKind)} {x:Str},env.scope.kind = .function→env.kindOf x=some .cell→names.lookup x=some .free →
    (names.map fun (n,k)=>if (k == NameKind.free && env.scope.kind == .function && env.kindOf n == some .cell) then (n,NameKind.cell) else (n,k)).lookup x=some .cell
  | [],_,_,_,h=>by simp at h
  | (n,k)::r,x,hf,hc,h=>by
    have ih:=@cD env r x hf hc
    show List.lookup x ((if (k == NameKind.free && env.scope.kind == .function && env.kindOf n == some .cell)=true then (n,NameKind.cell) else (n,k))::_)=_
    cases hx:x == n with
    | true=>
      have e:x=n:=by simpa using hx
      subst e
      simp only [List.lookup_cons,hx] at h
      cases h
      rw [if_pos (by simp [hf,hc])]
      simp [List.lookup_cons]
    | false=>
      simp only [List.lookup_cons,hx] at h
      split
      · simp only [List.lookup_cons,hx];exact ih h
      · simp only [List.lookup_cons,hx];exact ih h
theorem iY {env:Env}:∀ {names:List (Str×NameKind)} {x:Str},(∀ y∈names,y.2≠.cell) →
    ((names.map fun (n,k)=>if (k == NameKind.free && env.scope.kind == .function && env.kindOf n == some .cell) then (n,NameKind.cell) else (n,k)).lookup x=some .cell ∨
     (names.map fun (n,k)=>if (k == NameKind.free && env.scope.kind == .function && env.kindOf n == some .cell) then (n,NameKind.cell) else (n,k)).lookup x=some .free)→(x,NameKind.free)∈names
  | [],_,_,h=>by simp at h
  | (n,k)::r,x,hn,h=>by
    have ih:=@iY env r x fun y hy=>hn y (List.mem_cons_of_mem _ hy)
    have hk:k≠.cell:=hn (n,k) List.mem_cons_self
    rw [List.map_cons] at h
    cases hx:x == n with
    | true=>
      have e:x=n:=by simpa using hx
      subst e
      by_cases hf:k = .free
      · subst hf;exact List.mem_cons_self
      · exfalso
        have hb:(k == NameKind.free)=false:=by simpa using hf
        simp only [hb,Bool.false_and,Bool.false_eq_true,if_false,List.lookup_cons,beq_self_eq_true,Option.some.injEq] at h
        rcases h with h | h
        · exact hk h
        · exact hf h
    | false=>
      refine List.mem_cons_of_mem _ (ih ?_)
      by_cases hc:(k == NameKind.free && env.scope.kind == .function && env.kindOf n == some .cell)=true
      · simp only [hc,if_true,List.lookup_cons,hx] at h;exact h
      · simp only [Bool.not_eq_true] at hc
        simp only [hc,Bool.false_eq_true,if_false,List.lookup_cons,hx] at h;exact h

section
variable {X:Cx} {pins:List (Addr×Obj)} {σ : St} {H:Hp} {s:Shared} {scope:Scope} {own:List Str} {cap:List Nat} {fp:List Addr}
theorem Blk.cells (B:Blk X scope own cap) (ok:X.Ok):∀ y∈scope.names,y.2 = .free→∃ c,X.env.cells.lookup y.1=some c:=fun y hy hf=>ok.has y.1 (.inl (B.free y hy hf))
theorem Inv.enter {C:Addr} {h4:Heap} {m:Str→Option Value} {t':Nat} (I:Inv X pins σ H s) (hc:X.calm=true) (B:Blk X scope own cap) (f2:∀ b∈fp,jr X pins H b) (flt:∀ b∈fp,b < s.heap.objs.size)
    (k:∀ b o,s.heap.get? b=some o→h4.get? b=some o) (hC:s.heap.objs.size≤C) (hn:h4.Ns C m) (pl:List (Addr×Obj)) (hpl:∀ p∈pl,h4.get? p.1=some p.2∧s.heap.objs.size≤p.1∧p.1≠C∧∀ v,p.2.data≠.cell v) :
    Inv (blk X scope own cap C s H fp) pl (mH own.length cap σ) H { s with heap:=h4,toks:=t' }:=by
  have cls:∀ x c,(bQ X.env.cells scope.names []).lookup x=some c→X.env.cells.lookup x=some c∧(x,NameKind.free)∈scope.names:=fun x c e=>(d8 _ _ e).elim (fun z=>by simp at z) fun z=>z
  refine ⟨⟨I.ok.mod,B.kind,I.ok.glob,I.ok.blt,hC,fun x y c e1 e2=>I.ok.inj x y c (cls x c e1).1 (cls y c e2).1,fun x hx=>?_,fun x c hf _=>(Bool.false_ne_true hf).elim,fun _=>I.ok.hd hc,I.ok.frames,.inl rfl,
    fun b hb=>⟨Nat.ne_of_lt (Nat.lt_of_lt_of_le (flt b hb) hC),fun x c e=>(f2 b hb).2.2.2.2.1 x c (cls x c e).1⟩,I.bs,Nat.le_trans I.ok.bsz I.sz,fun b o e hb=>?_,fun b hb hfs=>?_,I.stack,I.oB⟩,
    rfl,I.bare,Un.kept k,⟨m,hn,fun i x v e1 e2 e3=>?_⟩,fun x c e=>?_,I.hok.fresh hC,fun x c e=>I.freeC x c (cls x c e).1,fun p hp=>?_,I.hok.kept k,?_⟩
  · have hx':((relabel scope X.env).names.lookup x=some .cell∨(relabel scope X.env).names.lookup x=some .free):=hx
    have hf:=iY B.nocell hx'
    exact dj _ _ hf (B.cells I.ok _ hf rfl)
  · rcases (f2 b hb).2.2.2.1 with z | z
    · exact I.ok.noex b o e z
    · exact absurd (Nat.lt_of_lt_of_le (Heap.lt_size e) (Nat.le_trans I.ok.bsz z)) (Nat.lt_irrefl _)
  · rcases List.mem_cons.mp (I.oA b hfs) with z | z
    · exact (f2 b hb).2.1 z
    · exact (f2 b hb).2.2.1 z
  · -- the names
    have e2':(List.replicate own.length (none:Option V)++cap.map fun j=>(σ[j]?).join)[i]?=some (some v):=e2
    have e1':(own++cap.map fun j=>X.N.getD j Str.empty)[i]?=some x:=e1
    by_cases hi:i < own.length
    · rw [List.getElem?_append_left (by simpa using hi),List.getElem?_replicate,if_pos hi] at e2'
      cases e2'
    · rw [List.getElem?_append_right (by simpa using hi),List.getElem?_map] at e2'
      rw [List.getElem?_append_right (by simpa using hi),List.getElem?_map] at e1'
      rw [List.length_replicate] at e2'
      cases hj:cap[i - own.length]? with
      | none=>rw [hj] at e2';cases e2'
      | some j=>
        rw [hj] at e1' e2'
        have Fe:X.N.getD j Str.empty=x:=Option.some.inj e1'
        have pO:(σ[j]?).join=some v:=Option.some.inj e2'
        obtain ⟨y,hy,hm,hl⟩:=B.caps j (List.mem_of_getElem? hj)
        have exy:x=y:=by rw [← Fe,List.getD_eq_getElem?_getD,hy];rfl
        subst exy
        have hσ : σ[j]?=some (some v):=by
          cases q : σ[j]? with
          | none=>rw [q] at pO;cases pO
          | some z=>rw [q] at pO;rw [show z=some v from pO]
        have kc:=B.free _ hm rfl
        obtain ⟨m0,hn0,hl0⟩:=I.loc
        obtain ⟨u,r,lk⟩:=hl0 j x v hy hσ (.inr (.inl kc))
        refine ⟨u,r,.inr ⟨.inl (cD I.ok.kind kc hl),?_⟩⟩
        rcases lk with ⟨k1,_⟩ | ⟨_,c,hc1,o,ho,hd⟩
        · rw [kc] at k1;cases k1
        · obtain ⟨c',hc'⟩:=dj (cells:=X.env.cells) scope.names [] hm ⟨c,hc1⟩
          have:=(cls x c' hc').1
          rw [hc1] at this;cases this
          exact ⟨c,hc',o,k c o ho,hd⟩
  · obtain ⟨v,o,ho,hd⟩:=I.cell x c (cls x c e).1
    exact ⟨v,o,k c o ho,hd⟩
  · have hp':p∈pl:=hp
    obtain ⟨h1,h2,h3,h5⟩:=hpl p hp'
    refine ⟨h1,I.hok.fresh h2,h3,fun hfs=>?_,h5⟩
    rcases List.mem_cons.mp (I.oA p.1 hfs) with z | z
    · exact absurd (Nat.lt_of_lt_of_le I.lt h2) (by rw [z];exact Nat.lt_irrefl _)
    · exact I.Gh h2 z
  · show (List.replicate own.length (none:Option V)++cap.map fun j=>(σ[j]?).join).length=(own++cap.map fun j=>X.N.getD j Str.empty).length
    simp
theorem Inv.leave {C D:Addr} {s':Shared} {h':Heap} {H':Hp} {σ':St} {ys:List V} {its:List Value} {n:Nat} (I:Inv X pins σ H s) (f2:∀ b∈fp,jr X pins H b) (hC:s.heap.objs.size≤C) (hD:s.heap.objs.size≤D) (hDC:D≠C)
    (J:Inv (blk X scope own cap C s H fp) [(D,{ cls:=.type "list",data:=.seq its.toArray n })] σ' H' s') (hs:Heap.SameBut C s'.heap h') (r:Vals ys its) (hz:ys.length≤sizeLine) :
    Inv X pins σ (upd H' D (.lst ys)) { s' with heap:=h' }:=by
  obtain ⟨eD,nD,_,_,_⟩:=J.pin (D,{ cls:=.type "list",data:=.seq its.toArray n }) (List.mem_append_right _ (List.mem_singleton.mpr rfl))
  have HD:H D=none:=I.hok.fresh hD
  have nC:H' C=none:=J.free
  have neC:∀ b o,s.heap.get? b=some o→b≠C:=fun b o e=>Nat.ne_of_lt (Nat.lt_of_lt_of_le (Heap.lt_size e) hC)
  have neD:∀ b o,s.heap.get? b=some o→b≠D:=fun b o e=>Nat.ne_of_lt (Nat.lt_of_lt_of_le (Heap.lt_size e) hD)
  have J0:Un (frs X.stack) fp H H' s.heap s'.heap:=J.base
  have u:Un (frs X.stack) fp H (upd H' D (.lst ys)) s.heap h':=by
    refine ⟨fun b o e n hb hx=>?_,fun b o e n hb hx=>?_,fun b o e n hx=>?_,fun b o e hx=>?_,fun b xs e=>?_,fun b o xs e=>?_,fun b ps e=>?_⟩
    · exact (hs.2 b (neC b o e)).trans (J0.keep b o e n hb hx)
    · obtain ⟨sl,q⟩:=J0.slot b o e n hb hx
      exact ⟨sl,(hs.2 b (neC b o e)).trans q⟩
    · rw [aD (neD b o e)];exact J0.free b o e n hx
    · obtain ⟨o',q⟩:=J0.there b o e hx
      exact ⟨o',(hs.2 b (neC b o e)).trans q⟩
    · rw [aD (ay e HD)];exact J0.tups b xs e
    · rw [aD (ay e HD)];exact J0.gn b o xs e
    · rw [aD (ay e HD)];exact J0.ia b ps e
  have hok:HOk X.prog X.w (upd H' D (.lst ys)) h':=fun b o e=>by
    by_cases hb:b=D
    · subst hb
      rw [ao] at e;cases e
      exact ⟨hz,its,n,r,(hs.2 b hDC).trans eD⟩
    · rw [aD hb] at e
      refine (J.hok b o e).stay (fun c v hc q=>(hs.2 c ?_).trans q) (fun c q=>?_) fun c xs q=>?_
      · rcases hc with rfl | hc
        · exact ay e nC
        · exact ay hc nC
      · rw [aD (ay q nD)];exact q
      · rw [aD (ay q nD)];exact q
  obtain ⟨hh,g,d,t,os⟩:=s'
  have eos:os=s.os:=J.os
  subst eos
  exact Inv.call (s:=s) (h':=h') (g':=g) (d':=d) (t':=t) (ch:=fp) I u hok J.bare fun b hb=>⟨(f2 b hb).2.2.2.1,(f2 b hb).2.1,fun x c e=>(f2 b hb).2.2.2.2.1 x c e,(f2 b hb).2.2.2.2.2⟩
end

end L3
namespace L3
open PySem PySem.Spec PyProof.Rows L2
section
variable {X:Cx} {pins:List (Addr×Obj)} {σ : St} {H:Hp} {s:Shared} {scope:Scope} {own:List Str} {cap:List Nat} {fp:List Addr}
theorem Inv.again {C:Addr} {pl:List (Addr×Obj)} {σ2:St} {H3:Hp} {s3:Shared} (I:Inv X pins σ H s) (B:Blk X scope own cap) (f2:∀ b∈fp,jr X pins H b) (J:Inv (blk X scope own cap C s H fp) pl σ2 H3 s3) :
    Inv (blk X scope own cap C s H fp) pl (mH own.length cap σ) H3 s3:=by
  obtain ⟨m,hn,_⟩:=J.loc
  refine ⟨J.ok,J.os,J.bare,J.base,⟨m,hn,fun i x v e1 e2 e3=>?_⟩,J.cell,J.free,J.freeC,J.pin,J.hok,?_⟩
  · have e2':(List.replicate own.length (none:Option V)++cap.map fun j=>(σ[j]?).join)[i]?=some (some v):=e2
    have e1':(own++cap.map fun j=>X.N.getD j Str.empty)[i]?=some x:=e1
    by_cases hi:i < own.length
    · rw [List.getElem?_append_left (by simpa using hi),List.getElem?_replicate,if_pos hi] at e2'
      cases e2'
    · rw [List.getElem?_append_right (by simpa using hi),List.getElem?_map] at e2'
      rw [List.getElem?_append_right (by simpa using hi),List.getElem?_map] at e1'
      rw [List.length_replicate] at e2'
      cases hj:cap[i - own.length]? with
      | none=>rw [hj] at e2';cases e2'
      | some j=>
        rw [hj] at e1' e2'
        have Fe:X.N.getD j Str.empty=x:=Option.some.inj e1'
        have pO:(σ[j]?).join=some v:=Option.some.inj e2'
        obtain ⟨y,hy,hm,hl⟩:=B.caps j (List.mem_of_getElem? hj)
        have exy:x=y:=by rw [← Fe,List.getD_eq_getElem?_getD,hy];rfl
        subst exy
        have hσ : σ[j]?=some (some v):=by
          cases q : σ[j]? with
          | none=>rw [q] at pO;cases pO
          | some z=>rw [q] at pO;rw [show z=some v from pO]
        have kc:=B.free _ hm rfl
        obtain ⟨m0,hn0,hl0⟩:=I.loc
        obtain ⟨u,r,lk⟩:=hl0 j x v hy hσ (.inr (.inl kc))
        refine ⟨u,r,.inr ⟨.inl (cD I.ok.kind kc hl),?_⟩⟩
        rcases lk with ⟨k1,_⟩ | ⟨_,c,hc1,o,ho,hd⟩
        · rw [kc] at k1;cases k1
        · obtain ⟨c',hc'⟩:=dj (cells:=X.env.cells) scope.names [] hm ⟨c,hc1⟩
          have:=((d8 _ _ hc').elim (fun z=>by simp at z) fun z=>z.1:X.env.cells.lookup x=some c')
          rw [hc1] at this;cases this
          have J0:Un (frs X.stack) fp H H3 s.heap s3.heap:=J.base
          obtain ⟨sl,q⟩:=J0.any ho (I.freeC x c hc1) fun z=>(f2 c z).2.2.2.2.1 x c hc1 rfl
          exact ⟨c,hc',_,q,hd⟩
  · show (List.replicate own.length (none:Option V)++cap.map fun j=>(σ[j]?).join).length=(own++cap.map fun j=>X.N.getD j Str.empty).length
    simp
end

theorem rq {prog:Program} {w:World} {A:Around} {R:Result→Shared→Prop} {s:Shared} {elt target iter:Expr} {ifs:List Expr} {scope:Scope} {pos:Pos} {it acc:Value} {env:Env} (I:Nat→Shared→Prop)
    (turn:∀ n s,I n s→wpAny (model prog w) A (pyNext it) (fun r s₁=>match r with
      | none=>R (.ok .next) s₁
      | some v=>wpAny (model prog w) A (letOwnedTupleGo target it v) (fun _ s₁'=>wpAny (model prog w) A (assign target env v) (fun _ s₂=>
          wpAny (model prog w) A (forIn ifs true fun c r=>if r=true then do let ok ← isTrue c env (eval c env);pure (ForInStep.yield ok) else pure (ForInStep.yield r)) (fun ok s₃=>
            if ok=true then wpAny (model prog w) A (eval elt env) (fun x s₄=>
              wpAny (model prog w) A (call (.builtin "list.append") [acc,x]) (fun _ s₅=>∃ m,m < n∧I m s₅) (fun _ _=>False) s₄) (fun _ _=>False) s₃
            else ∃ m,m < n∧I m s₃) (fun _ _=>False) s₂) (fun _ _=>False) s₁') (fun _ _=>False) s₁) (fun _ _=>False) s)
    (n:Nat) (h:I n s) :
    codeAny (model prog w) A (.compLoop (.ListComp elt [⟨target,iter,ifs,0⟩] scope pos) 0 it acc env) R s:=by
  refine codeAny_loop rfl I (fun n s hI=>?_) n h
  show wpAny _ A ((compTurn (.ListComp elt [⟨target,iter,ifs,0⟩] scope pos) 0 it acc env).onRaise (fun x=>do noteFrame x env;theTreesLotGoes x)) _ _ s
  refine wpAny_noted ?_
  rw [compTurn_list]
  refine wpAny_bind (wpAny_standAt (wpAny_bind (wpAny_mono (turn n s hI) (fun r s₁ h₁=>?_) fun _ _ z=>z.elim)))
  cases r with
  | none=>exact wpAny_pure h₁
  | some v=>
    refine wpAny_bind (wpAny_mono h₁ (fun _ s₁' h₁'=>?_) fun _ _ z=>z.elim)
    refine wpAny_bind (wpAny_mono h₁' (fun _ s₂ h₂=>wpAny_bind (wpAny_mono h₂ (fun ok s₃ h₃=>?_) fun _ _ z=>z.elim)) fun _ _ z=>z.elim)
    cases ok with
    | false=>exact wpAny_pure ⟨rfl,h₃⟩
    | true=>
      exact wpAny_bind (wpAny_bind (wpAny_mono h₃ (fun x s₄ h₄=>wpAny_bind (wpAny_mono h₄ (fun _ s₅ h₅=>wpAny_pure (wpAny_pure ⟨rfl,h₅⟩)) fun _ _ z=>z.elim)) fun _ _ z=>z.elim))

def uu (X:Cx) (ifs:List Expr) (tc:TT):Prop:=
  ∀ (pins:List (Addr×Obj)) (s:Shared) (σ : St) (H:Hp) (Q:Bool→Hp→Prop),Inv X pins σ H s→tc σ H Q →
    wpAny (model X.prog X.w) X.A (forIn ifs true fun c r=>if r=true then do let ok ← isTrue c X.env (eval c X.env);pure (ForInStep.yield ok) else pure (ForInStep.yield r)) (TP X pins σ Q) X.xe s
def FU:TT:=fun _ H Q=>Q true H
theorem cN {X:Cx}:uu X [] FU:=fun _ _ _ H _ I h=>wpAny_tests_nil ⟨H,I,h⟩
theorem yY {X:Cx} {c:Expr} {tc:TT} (h:PT X c tc):uu X [c] tc:=fun pins s σ H Q I hw=>wpAny_tests_one (h pins s σ H Q I hw)

def oj (J:It) (W:Nat→Nat→List V→Hp→Prop) (D:List V→Hp→Prop) (σb:St) (g:TG) (tc:TT) (te:TE):Prop:=
  ∀ i m ys H,W i m ys H→ys.length≤sizeLine ∧
    ((J.stop i H∧D ys H)∨(J.go i H∧∃ N:List V→Hp→Prop,(∀ ys' H',N ys' H'→∃ m',m' < m∧W (i+1) m' ys' H')∧∀ x H',J.yld i H x H'→g x σb H' fun σ2 H2=>tc σ2 H2 fun b H3=>
      if b=true then te σ2 H3 fun y H4=>N (ys++[y]) H4 else N ys H3))
def ql (wi:TI) (own:Nat) (cap:List Nat) (g:TG) (tc:TT) (te:TE):TE:=fun σ H Q=>wi σ H fun J H1=>∃ W:Nat→Nat→List V→Hp→Prop,(∃ m,W 0 m [] H1) ∧
  oj J W (fun ys H=>∀ p,H p=none→Q (.ref p) (upd H p (.lst ys))) (mH own cap σ) g tc te

section
variable {X:Cx} {scope:Scope} {own:List Str} {cap:List Nat} {tg elt iter:Expr} {ifs:List Expr} {pos:Pos} {wi:TI} {g:TG} {tc:TT} {te:TE}
theorem lV (B:Blk X scope own cap) (hc:X.calm=true) (hg:∀ C s H fp,PG (blk X scope own cap C s H fp) tg g) (ht:∀ C s H fp,uu (blk X scope own cap C s H fp) ifs tc) (he:∀ C s H fp,PE (blk X scope own cap C s H fp) elt te)
    {pins:List (Addr×Obj)} {s2:Shared} {σ : St} {H2:Hp} {it:Addr} {fp:List Addr} {tn:Nat→Heap→Prop} {J:It} {W:Nat→Nat→List V→Hp→Prop} {D:List V→Hp→Prop} {m0:Nat} {E:Value→Shared→Prop} {RR:Value→Addr→Result→Shared→Prop}
    (I2:Inv X pins σ H2 s2) (T:Turn X.prog X.w X.K tg J fp it tn) (st2:tn 0 s2.heap) (f2:∀ b∈fp,jr X pins H2 b) (w0:W 0 m0 [] H2) (turn:oj J W D (mH own.length cap σ) g tc te)
    (done:∀ (C L:Addr) (s':Shared) (H':Hp) (σ':St) (ys:List V) (its:List Value) (n:Nat),s2.heap.objs.size≤C→s2.heap.objs.size≤L→L≠C→Inv (blk X scope own cap C s2 H2 fp) [(L,{ cls:=.type "list",data:=.seq its.toArray n })] σ' H' s'→Vals ys its→ys.length≤sizeLine→D ys H' →
      RR (.ref L) C (.ok .next) s') :
    wpAny (model X.prog X.w) X.A (newList []) (fun acc s₃=>wpAny (model X.prog X.w) X.A (newFunctionEnv scope X.env.globals (bQ X.env.cells scope.names []) [] X.env.qual none .none (some X.env)) (fun cenv s₄=>
      codeAny (model X.prog X.w) X.A (.compStart (.ListComp elt [⟨tg,iter,ifs,0⟩] scope pos) 0 (.ref it) acc { cenv with scope:=relabel scope X.env }) (RR acc cenv.locals) s₄) E s₃) E s2:=by
  refine wpAny_newObj_type (wpAny_newFunctionEnv B.nocell (by intro y hy;simp at hy) (fun h₁ hns₁ hsb₁=>?_) B.kind)
  dsimp only at hns₁ hsb₁ ⊢
  have flt:∀ b∈fp,b < s2.heap.objs.size:=fun b hb=>by
    obtain ⟨o,e,_⟩:=T.obj _ _ st2 b hb
    exact Heap.lt_size e
  generalize hH2:s2.heap.push { cls:=.type "list",dict:=none,data:=.seq ([]:List Value).toArray }=G2 at hns₁ hsb₁ ⊢
  have hCs:G2.objs.size=s2.heap.objs.size+1:=by rw [← hH2,Heap.size_push]
  have hC:s2.heap.objs.size≤G2.objs.size:=by rw [hCs];exact Nat.le_succ _
  have hDC:s2.heap.objs.size≠G2.objs.size:=by rw [hCs];exact Nat.ne_of_lt (Nat.lt_succ_self _)
  have old:∀ b o,s2.heap.get? b=some o→h₁.get? b=some o:=fun b o e=>
    hsb₁.extBut b o (Nat.ne_of_lt (Nat.lt_of_lt_of_le (Heap.lt_size e) hC)) (Heap.get?_push_of_some _ (hH2▸Heap.get?_push_of_some _ e))
  have hacc:h₁.get? s2.heap.objs.size=some { cls:=.type "list",data:=.seq ([]:List Value).toArray 0 }:=hsb₁.extBut _ _ hDC (Heap.get?_push_of_some _ (hH2▸Heap.get?_push_size _ rfl))
  have loop:∀ s₃ : Shared,s₃={ s2 with heap:=h₁,toks:=s2.toks+([]:List (Str×Value)).length } →
      codeAny (model X.prog X.w) X.A (.compLoop (.ListComp elt [⟨tg,iter,ifs,0⟩] scope pos) 0 (.ref it) (.ref s2.heap.objs.size) (compEnvC scope (bQ X.env.cells scope.names []) G2.objs.size X.env))
        (RR (.ref s2.heap.objs.size) G2.objs.size) s₃:=by
    rintro s₃ rfl
    refine rq (fun n s'=>∃ i ys its nn H',Inv (blk X scope own cap G2.objs.size s2 H2 fp) [(s2.heap.objs.size,{ cls:=.type "list",data:=.seq (its:List Value).toArray nn })] (mH own.length cap σ) H' s'∧tn i s'.heap∧(∀ b∈fp,H' b=none)∧Vals ys its∧W i n ys H')
      ?_ m0 ⟨0,[],[],0,H2,L3.Inv.enter I2 hc B f2 flt old hC hns₁ _ (fun p hp=>?_),T.keep _ _ _ st2 (fun b _ o e=>old b o e),fun b hb=>(f2 b hb).1,.nil,w0⟩
    · rintro n s3 ⟨i,ys,its,nn,H3,J3,st3,fr3,rv,w3⟩
      have fpb:∀ {pl:List (Addr×Obj)} {H':Hp},(∀ b∈fp,H' b=none)→(∀ p∈pl,∀ b∈fp,p.1≠b)→∀ b∈fp,jr (blk X scope own cap G2.objs.size s2 H2 fp) pl H' b:=fun {pl H'} hn hp b hb=>
        ⟨hn b hb,Nat.ne_of_lt (Nat.lt_of_lt_of_le (flt b hb) hC),fun z=>J3.ok.exfs b hb z,.inl hb,fun x c e=>(J3.ok.exf b hb).2 x c e,fun p hp'=>by
          rcases List.mem_append.mp hp' with z | z
          · exact absurd (show p∈([]:List (Addr×Obj)) from z) (by simp)
          · exact hp p z b hb⟩
      have nD:∀ (o:Obj),∀ p∈[(s2.heap.objs.size,o)],∀ b∈fp,p.1≠b:=fun o p hp b hb=>by
        have e:p=(s2.heap.objs.size,o):=by simpa using hp
        subst e
        exact (Nat.ne_of_lt (flt b hb)).symm
      obtain ⟨hz,tr⟩:=turn i n ys H3 w3
      rcases tr with ⟨stop,qD⟩ | ⟨go,N,hN,step⟩
      · refine thn (T.done (blk X scope own cap G2.objs.size s2 H2 fp) rfl rfl rfl rfl i _ s3 _ H3 (fun _ _=>False) J3 (fpb fr3 (nD _)) st3 stop) fun r s4 ⟨hr,J4⟩=>?_
        subst hr
        exact done _ _ s4 H3 _ ys its nn hC (Nat.le_refl _) hDC J4 rv hz qD
      · refine thn (T.item (blk X scope own cap G2.objs.size s2 H2 fp) rfl rfl rfl rfl i _ s3 _ H3 (fun _ _=>False) J3 (fpb fr3 (nD _)) st3 go) fun r s4 ⟨u,hr,h4⟩=>?_
        subst hr
        refine thn h4 fun _ s5 ⟨x,H5,J5,r5,y5,st5,fr5⟩=>?_
        have J5':=J5.pinned (fpb fr5 (nD _)) (T.obj _ _ st5)
        refine thn (hg _ _ _ _ _ s5 _ H5 x u _ J5' r5 (step x H5 y5)) fun _ s6 ⟨σ6,H6,J6,q6⟩=>?_
        -- a turn's end,the list at L as it stands
        have again:∀ {pl:List (Addr×Obj)} {its':List Value} {nn':Nat} {ys':List V} {s8:Shared} {H8:Hp} {σ8:St} {m':Nat},Inv (blk X scope own cap G2.objs.size s2 H2 fp) ([(s2.heap.objs.size,{ cls:=.type "list",data:=.seq its'.toArray nn' })]++dH fp s5.heap) σ8 H8 s8→Vals ys' its'→m' < n→W (i+1) m' ys' H8 →
            ∃ m,m < n∧∃ i ys its nn H',Inv (blk X scope own cap G2.objs.size s2 H2 fp) [(s2.heap.objs.size,{ cls:=.type "list",data:=.seq (its:List Value).toArray nn })] (mH own.length cap σ) H' s8∧tn i s8.heap∧(∀ b∈fp,H' b=none)∧Vals ys its∧W i m ys H':=by
          intro pl its' nn' ys' s8 H8 σ8 m' J8 rv' hm w8
          have yX:∀ b∈fp,∀ o,s5.heap.get? b=some o→s8.heap.get? b=some o∧H8 b=none:=fun b hb o e=>by
            have q:=J8.pin (b,o) (List.mem_append_right _ (List.mem_append_right _ (fH hb e)))
            exact ⟨q.1,q.2.1⟩
          refine ⟨m',hm,i+1,ys',its',nn',H8,Inv.again I2 B f2 J8.fW,T.keep _ _ _ st5 fun b hb o e=>(yX b hb o e).1,fun b hb=>?_,rv',w8⟩
          obtain ⟨o,e,_⟩:=T.obj _ _ st5 b hb
          exact (yX b hb o e).2
        refine thn (ht _ _ _ _ _ s6 _ H6 _ J6 q6) fun ok s7 ⟨H7,J7,q7⟩=>?_
        cases ok with
        | false=>
          rw [if_neg Bool.false_ne_true]
          rw [if_neg Bool.false_ne_true] at q7
          obtain ⟨m',hm,w7⟩:=hN _ _ q7
          exact again (pl:=[]) J7 rv hm w7
        | true=>
          rw [if_pos rfl]
          rw [if_pos rfl] at q7
          refine thn (he _ _ _ _ _ s7 _ H7 _ J7 q7) fun v s8 ⟨y,H8,J8,ry,q8⟩=>?_
          obtain ⟨m',hm,w8⟩:=hN _ _ q8
          have pL:=J8.pin (s2.heap.objs.size,{ cls:=.type "list",data:=.seq its.toArray nn }) (List.mem_append_right _ (List.mem_append_left _ (List.mem_singleton.mpr rfl)))
          refine wpAny_list_append_plain (l:=s2.heap.objs.size) (items:=its.toArray) ⟨nn,pL.1⟩ (fun h' hp' hsb=>?_) (by rw [List.size_toArray,← rv.length];exact hz)
          obtain ⟨nn',hL'⟩:=hp'
          have J9:Inv (blk X scope own cap G2.objs.size s2 H2 fp) (dH fp s5.heap) σ6 H8 s8:=J8.gQ fun p hp=>J8.pin p (List.mem_append_right _ (List.mem_append_right _ hp))
          have Ek:∀ p∈(blk X scope own cap G2.objs.size s2 H2 fp).pn++dH fp s5.heap,p.1≠s2.heap.objs.size:=fun p hp=>by
            rcases List.mem_append.mp hp with z | z
            · exact absurd (show p∈([]:List (Addr×Obj)) from z) (by simp)
            · exact Nat.ne_of_lt (flt _ (jH z).1)
          have J10:Inv (blk X scope own cap G2.objs.size s2 H2 fp) (dH fp s5.heap) σ6 H8 { s8 with heap:=h' }:=J9.turned (t':=s8.toks) (it:=s2.heap.objs.size) (fun b o hb e=>(hsb.2 b hb).trans e) pL.2.1 pL.2.2.1 (.inr (Nat.le_refl _))
            (fun x c e z=>by
              obtain ⟨v',o',ho',hd'⟩:=J9.cell x c e
              rw [z,pL.1] at ho';cases ho';cases hd') Ek
          refine again (pl:=[]) (its':=its++[v]) (nn':=nn') (J10.gQ fun p hp=>?_) (rv.append (.cons ry .nil)) hm w8
          rcases List.mem_append.mp hp with z | z
          · have e:p=(s2.heap.objs.size,{ cls:=.type "list",data:=.seq (its++[v]).toArray nn' }):=by simpa using z
            subst e
            refine ⟨?_,pL.2.1,pL.2.2.1,pL.2.2.2.1,fun v'=>by intro q;cases q⟩
            rw [hL']
            simp
          · exact J10.pin p (List.mem_append_right _ z)
    · have e:p=(s2.heap.objs.size,{ cls:=.type "list",data:=.seq ([]:List Value).toArray 0 }):=by simpa using hp
      subst e
      exact ⟨hacc,Nat.le_refl _,hDC,fun v'=>by intro q;cases q⟩
  exact codeAny_compStart_list (loop _ rfl) (T.self _ 0 _ _ _ (T.keep _ _ _ st2 fun b _ o e=>old b o e) (loop _ rfl))

theorem eS (hc:X.calm=true) (hi:PI X tg iter wi) (B:Blk X scope own cap) (hg:∀ C s H fp,PG (blk X scope own cap C s H fp) tg g) (ht:∀ C s H fp,uu (blk X scope own cap C s H fp) ifs tc) (he:∀ C s H fp,PE (blk X scope own cap C s H fp) elt te)
    (hs:∀ x,foldedSetIterable iter X.env x=pure x:=by intro _;rfl):PE X (.ListComp elt [⟨tg,iter,ifs,0⟩] scope pos) (ql wi own.length cap g tc te):=by
  intro pins s σ H Q I h
  rw [eval_ListComp]
  refine wpAny_comprehension_free (use:=none) rfl hs (jS (B.cells I.ok)) B.kind B.names (thn (hi pins s σ H _ I h) fun v s1 h1=>thn h1 fun itv s2 h2=>?_)
  obtain ⟨it,fp,tn,J,H2,e,I2,T,st2,f2,W,⟨m0,w0⟩,turn⟩:=h2
  subst e
  refine lV (RR:=fun acc C=>compPost (model X.prog X.w) X.A X.xe none (EP X pins σ Q) acc C) B hc hg ht he I2 T st2 f2 w0 turn ?_
  intro C L s' H' σ' ys its n hC hL hLC J' rv hz hD
  obtain ⟨m,hn,_⟩:=J'.loc
  have nL:=(J'.pin _ (List.mem_append_right _ (List.mem_singleton.mpr rfl))).2.1
  exact ⟨m,hn,fun h' hs'=>⟨.ref L,_,Inv.leave I2 f2 hC hL hLC J' hs' rv hz,rfl,hD L nL⟩⟩

def x9 (i:Nat) (wi:TI) (own:Nat) (cap:List Nat) (g:TG) (tc:TT) (te:TE):TS:=fun D σ H=>ql wi own cap g tc te σ H fun v H1=>D.nx (σ.set i (some v)) H1
theorem yW {i:Nat} {x:Str} {px spos:Pos} (hc:X.calm=true) (hN:X.N.Nodup) (hi':X.N[i]?=some x) (hx:Loc X.env.scope x) (hi:PI X tg iter wi) (B:Blk X scope own cap) (hg:∀ C s H fp,PG (blk X scope own cap C s H fp) tg g)
    (ht:∀ C s H fp,uu (blk X scope own cap C s H fp) ifs tc) (he:∀ C s H fp,PE (blk X scope own cap C s H fp) elt te)
    (hsw:swapsWith (.ListComp elt [⟨tg,iter,ifs,0⟩] scope pos) (some (.Name x px)) spos.line X.env=pure true) (hf:X.fn x=true∨X.env.scope.names.lookup x=some .local:=by first | exact .inl rfl | exact .inr rfl | assumption)
    (hs:∀ x,foldedSetIterable iter X.env x=pure x:=by intro _;rfl):PS X (.Assign [.Name x px] (.ListComp elt [⟨tg,iter,ifs,0⟩] scope pos) spos) (x9 i wi own.length cap g tc te):=by
  intro pins s σ H D I h
  rw [exec_Assign_Name_used _ _ _ _ hsw]
  refine wpAny_bind (wpAny_standAt (wpAny_bind ?_))
  show wpAny _ X.A (do let _ ← comprehension (.ListComp elt [⟨tg,iter,ifs,0⟩] scope pos) scope X.env _ (newList []) false (eval iter X.env) (some (assign (.Name x px) X.env))) _ _ s
  refine wpAny_bind (thn (wpAny_comprehension_free (use:=some (assign (.Name x px) X.env)) (Q:=fun _ s'=>SP X pins D .next s') rfl hs (jS (B.cells I.ok)) B.kind B.names
    (thn (hi pins s σ H _ I h) fun v s1 h1=>thn h1 fun itv s2 h2=>?_)) (fun _ s' hq=>wpAny_pure (wpAny_pure hq)))
  obtain ⟨it,fp,tn,J,H2,e,I2,T,st2,f2,W,⟨m0,w0⟩,turn⟩:=h2
  subst e
  refine lV (RR:=fun acc C=>compPost (model X.prog X.w) X.A X.xe (some (assign (.Name x px) X.env)) (fun _ s'=>SP X pins D .next s') acc C) B hc hg ht he I2 T st2 f2 w0 turn ?_
  intro C L s' H' σ' ys its n hC hL hLC J' rv hz hD
  obtain ⟨m,hn,_⟩:=J'.loc
  have nL:=(J'.pin _ (List.mem_append_right _ (List.mem_singleton.mpr rfl))).2.1
  have I3:=Inv.leave I2 f2 hC hL hLC J' (.refl ..) rv hz
  show wpAny _ X.A (assign (.Name x px) X.env (.ref L)) _ _ s'
  have cL:C≠X.env.locals:=Ne.symm (Nat.ne_of_lt (Nat.lt_of_lt_of_le I2.lt hC))
  have cc:∀ y c,X.env.cells.lookup y=some c→c≠C:=fun y c e=>by
    obtain ⟨v,q⟩:=I2.cell y c e
    exact Nat.ne_of_lt (Nat.lt_of_lt_of_le q.lt hC)
  refine wpAny_assign_Name (mV I3 hN hi' hx (v:=.ref L) rfl (fun s4 I4 ⟨a,hsb,ha⟩=>?_) hf)
  have aC:C≠a:=by
    rcases ha with rfl | e
    · exact cL
    · exact Ne.symm (cc _ _ e)
  refine ⟨m,hn.sameBut hsb aC,fun h5 hs5=>⟨_,_,I4.turned (t':=s4.toks) (it:=C) (fun b o hb e=>(hs5.2 b hb).trans e) (by rw [aD (Ne.symm hLC)];exact J'.free) cL (.inr (Nat.le_trans I2.sz hC)) cc (fun p hp=>?_),hD L nL⟩⟩
  exact Nat.ne_of_lt (Nat.lt_of_lt_of_le (Heap.lt_size (I2.pin p hp).1) hC)
end
theorem xg {K:PySem.W.Frag} {a:Addr} {xs:List V} {g:TG} {tc:TT} {te:TE} {D:List V→Hp→Prop} {σb:St} {H:Hp} (Pv:Nat→List V→Hp→Prop) (h0:Pv 0 [] H) (hl:∀ i ys H,i≤xs.length→Pv i ys H→SqL K H a xs∧ys.length≤sizeLine)
    (hs:∀ i x ys H,xs[i]?=some x→Pv i ys H→g x σb H fun σ2 H2=>tc σ2 H2 fun b H3=>if b=true then te σ2 H3 fun y H4=>Pv (i+1) (ys++[y]) H4 else Pv (i+1) ys H3) (hd:∀ ys H,Pv xs.length ys H→D ys H) :
    ∃ W:Nat→Nat→List V→Hp→Prop,(∃ m,W 0 m [] H)∧oj (Itl K a) W D σb g tc te:=by
  refine ⟨fun i m ys H=>m=xs.length - i∧i≤xs.length∧Pv i ys H,⟨xs.length,by simp,Nat.zero_le _,h0⟩,?_⟩
  rintro i m ys H ⟨rfl,hi,p⟩
  obtain ⟨q,hz⟩:=hl i ys H hi p
  refine ⟨hz,?_⟩
  by_cases hlt:i < xs.length
  · refine .inr ⟨⟨xs,xs[i],q,by simp [hlt]⟩,Pv (i+1),fun ys' H' p'=>⟨xs.length - (i+1),by omega,rfl,hlt,p'⟩,fun x H' y=>?_⟩
    obtain ⟨e,y⟩:=y
    subst e
    exact hs i x ys _ (y xs q) p
  · have e:i=xs.length:=by omega
    subst e
    exact .inl ⟨⟨xs,q,Nat.le_refl _⟩,hd ys H p⟩
theorem Aq {K:PySem.W.Frag} {a:Addr} {xs:List V} {g:TG} {tc:TT} {te:TE} {D:List V→Hp→Prop} {σb:St} {H:Hp} (Pv:Nat→List V→Hp→Prop) (h0:Pv 0 [] H) (hl:∀ i ys H,i≤xs.length→Pv i ys H→SqT K H a xs∧ys.length≤sizeLine)
    (hs:∀ i x ys H,xs[i]?=some x→Pv i ys H→g x σb H fun σ2 H2=>tc σ2 H2 fun b H3=>if b=true then te σ2 H3 fun y H4=>Pv (i+1) (ys++[y]) H4 else Pv (i+1) ys H3) (hd:∀ ys H,Pv xs.length ys H→D ys H) :
    ∃ W:Nat→Nat→List V→Hp→Prop,(∃ m,W 0 m [] H)∧oj (Itt K a) W D σb g tc te:=by
  refine ⟨fun i m ys H=>m=xs.length - i∧i≤xs.length∧Pv i ys H,⟨xs.length,by simp,Nat.zero_le _,h0⟩,?_⟩
  rintro i m ys H ⟨rfl,hi,p⟩
  obtain ⟨q,hz⟩:=hl i ys H hi p
  refine ⟨hz,?_⟩
  by_cases hlt:i < xs.length
  · refine .inr ⟨⟨xs,xs[i],q,by simp [hlt]⟩,Pv (i+1),fun ys' H' p'=>⟨xs.length - (i+1),by omega,rfl,hlt,p'⟩,fun x H' y=>?_⟩
    obtain ⟨e,y⟩:=y
    subst e
    exact hs i x ys _ (y xs q) p
  · have e:i=xs.length:=by omega
    subst e
    exact .inl ⟨⟨xs,q,Nat.le_refl _⟩,hd ys H p⟩
end L3
namespace L3
open PySem PySem.Spec PyProof.Rows L2

structure GlV (mg:Str→Option Value) (x:Str) (v:V):Prop where
  ex:∃ u,mg x=some u∧RelV v u
theorem oZ {X:Cx} {x:Str} {v:V} {pos:Pos} (h:GlV X.mg x v) (hg:Gl X x:=by rfl) (hd:(x == ("__debug__" : Str))=false:=by decide):PE X (.Name x pos) (tC v):=by
  obtain ⟨u,m,r⟩:=h.ex
  exact Bq hg m r hd
theorem cT:bootBuiltins "len" = some (.builtin "len"):=by decide +kernel
theorem eX:bootBuiltins "isinstance" = some (.builtin "isinstance"):=by decide +kernel
theorem Ft:bootBuiltins "max" = some (.builtin "max"):=by decide +kernel
theorem Fq:bootBuiltins "min" = some (.builtin "min"):=by decide +kernel
theorem ug:bootBuiltins "all" = some (.builtin "all"):=by decide +kernel
theorem nW:bootBuiltins "sorted" = some (.builtin "sorted"):=by decide +kernel
theorem ee:bootBuiltins "str" = some (.type "str"):=by decide +kernel
theorem CJ:bootBuiltins "list" = some (.type "list"):=by decide +kernel
theorem jl:bootBuiltins "tuple" = some (.type "tuple"):=by decide +kernel
theorem AA:bootBuiltins "set" = some (.type "set"):=by decide +kernel
theorem AB:bootBuiltins "int" = some (.type "int"):=by decide +kernel
theorem CK:bootBuiltins "bool" = some (.type "bool"):=by decide +kernel
structure Bt (mg:Str→Option Value):Prop where
  len:mg "len" = none
  range:mg "range" = none
  isinstance:mg "isinstance" = none
  max:mg "max" = none
  min:mg "min" = none
  all:mg "all" = none
  any:mg "any" = none
  sorted:mg "sorted" = none
  sum:mg "sum" = none
  int_:mg "int" = none
  bool_:mg "bool" = none
  str_:mg "str" = none
  list_:mg "list" = none
  tuple_:mg "tuple" = none
  dict_:mg "dict" = none
  set_:mg "set" = none
  zip_:mg "zip" = none
  ValueError_:mg "ValueError" = none

section
variable {X:Cx}
def HV (_ j:Int):Prop:=0 < j∧j < 2 ^ 250
def HU (i j:Int):Prop:=(-(2 ^ 250) < i∧i < 2 ^ 250)∧(-(2 ^ 250) < j∧j < 2 ^ 250)
theorem log2_lt {n k:Nat} (h:n < 2 ^ k) (hk : 0 < k):n.log2 < k:=by
  by_cases h0:n=0
  · subst h0;simpa using hk
  · exact (Nat.log2_lt h0).mpr h
theorem i7:OpR X (binaryOp .FloorDiv) (rI HV fun i j=>.int (i / j)):=opI fun i j t u A s Q hc q=>by
  have e:i.fdiv j=i / j:=Int.fdiv_eq_ediv_of_nonneg _ (Int.le_of_lt hc.1)
  refine floordiv_int (by have:=hc.1;omega) (by rw [e];exact q) (.inl (PyProof.noPylong_of_log2 ?_))
  refine Nat.lt_of_lt_of_le (log2_lt (k:=250) ?_ (by decide)) (by decide)
  have h1:=hc.1
  have h2:=hc.2
  have e2:((2:Int) ^ 250)=((2 ^ 250:Nat):Int):=by norm_cast
  rw [e2] at h2
  omega
theorem eT:OpR X (binaryOp .Mult) (rI HU fun i j=>.int (i * j)):=opI fun i j t u A s Q hc q=>by
  have bits:∀ {k:Int},-(2 ^ 250) < k→k < 2 ^ 250→Builtin.Int.intBits k≤2 ^ 20:=fun {k} h1 h2=>by
    have e2:((2:Int) ^ 250)=((2 ^ 250:Nat):Int):=by norm_cast
    rw [e2] at h1 h2
    have h3:k.natAbs < 2 ^ 250:=by omega
    have h4:=log2_lt h3 (by decide)
    unfold Builtin.Int.intBits
    split
    · exact Nat.zero_le _
    · exact Nat.le_trans (Nat.succ_le_succ (Nat.le_of_lt h4)) (by decide)
  exact mul_int q (IntMulOk.of_bits (bits hc.1.1 hc.1.2) (bits hc.2.1 hc.2.2))

theorem iQ:∀ {ys:List Str} {us:List Value},Vals (ys.map V.str) us→StrsAre us ys
  | [],_,.nil=>.nil
  | y::ys,_,.cons r t=>by
    obtain ⟨tk,rfl⟩:=r
    exact .cons y tk (iQ t)
theorem qQ:MtR X "str.join" (fun x xs H Q=>∃ z p ys,x = .str z∧xs=[.ref p]∧SqL X.K H p (ys.map V.str)∧(ys.map (·.length)).sum+ys.length * z.length≤16777216∧Q (.str (Txt.join z ys)) H):=by
  intro pins s σ H x xs v us Q I rx rs h
  obtain ⟨z,p,ys,rfl,rfl,hq,hz,q⟩:=h
  obtain ⟨t,rfl⟩:=rx
  obtain ⟨u,rfl,ru⟩:=vals1 rs
  cases ru
  obtain ⟨its,r,pl,_⟩:=I.list hq
  exact join_list pl.isList (by simpa using iQ r) hz fun t' k=>⟨.str _,H,I.tok _,⟨_,rfl⟩,q⟩

def Be (K:PySem.W.Frag):List V→Hp→VK→Prop:=fun xs H Q=>∃ x c t b,xs=[x,c]∧ie K H x t∧((∃ T,c = .ty T∧PySem.W.kitOne K t (.type T)=some b)∨∃ C,c = .ref C∧PySem.W.kitOne K t (.ref C)=some b)∧Q (.bl b) H
theorem As:cV X (.builtin "isinstance") (Be X.K):=by
  intro pins s σ H xs us Q I r h
  obtain ⟨x,c,t,b,rfl,ty,e,q⟩:=h
  obtain ⟨u,w',rfl,rx,rc⟩:=vals2 r
  rcases e with ⟨T,rfl,e⟩ | ⟨C,rfl,e⟩
  · cases (show w'=Value.type T from rc)
    exact nF I rx ty e fun tk=>⟨.bl b,H,I.tok _,rfl,q⟩
  · cases (show w'=Value.ref C from rc)
    exact nF I rx ty e fun tk=>⟨.bl b,H,I.tok _,rfl,q⟩
theorem iG {e:Expr} {te:TE} {c:Str} {T:String} {p p' pos:Pos} (hm:X.mg "isinstance" = none) (hc:X.mg c=none) (hv:bootBuiltins c=some (.type T)) (he:PE X e te) (hg:Gl X "isinstance" := by rfl) (hg':Gl X c:=by rfl) (hn:c ≠ "__name__" := by decide) (hd:(c == ("__debug__" : Str))=false:=by decide)
    (hs:starEach [e,.Name c p'] X.env=(false,eval e X.env)::starEach [.Name c p'] X.env:=by rfl) (hs2:starEach [.Name c p'] X.env=(false,eval (.Name c p') X.env)::starEach [] X.env:=by rfl) (hpl:(backTo pos (starEach [.Name c p'] X.env)).any (·.1)=false:=by rfl) :
    PE X (.Call (.Name "isinstance" p) [e,.Name c p'] [] pos) (tCB (Be X.K) (j4 te (j4 (tC (.ty T)) xX))):=
  aW As hg hm eX (aa he (aa (o9 hg' hc hv rfl hn hd) af hs2) hs) (by decide) (by decide) hs hpl
end

def Ds (names:List (Str×NameKind)) (N:List Str) (scope:Scope) (own:List Str) (cap:List Nat):Bool:=
  scope.names.all (fun y=>y.2 != .cell && (y.2 != .local || scope.names.lookup y.1 == some .local) && (y.2 != .free || names.lookup y.1 == some .cell)) &&
  decide (jW N own cap).Nodup &&
  cap.all (fun j=>match N[j]? with | some x=>scope.names.any (fun y=>y.1 == x && y.2 == .free) && scope.names.lookup x == some .free | none=>false)
theorem eY {X:Cx} {scope:Scope} {own:List Str} {cap:List Nat} (names:List (Str×NameKind)) (N:List Str) (hn:X.env.scope.names=names) (hN:X.N=N) (hk:scope.kind = .function) (h:Ds names N scope own cap=true):Blk X scope own cap:=by
  unfold Ds at h
  simp only [Bool.and_eq_true,List.all_eq_true,decide_eq_true_eq] at h
  obtain ⟨⟨h1,h2⟩,h3⟩:=h
  refine ⟨hk,fun y hy e=>?_,fun y hy e=>?_,fun y hy e=>?_,by rw [hN];exact h2,fun j hj=>?_⟩
  · have:=(h1 y hy).1.1
    rw [e] at this;exact absurd this (by decide)
  · have:=(h1 y hy).1.2
    rw [e] at this;simpa using this
  · have:=(h1 y hy).2
    rw [e] at this
    show X.env.scope.names.lookup y.1=some .cell
    rw [hn]
    simpa using this
  · have:=h3 j hj
    rw [hN]
    split at this
    · rename_i x e
      simp only [Bool.and_eq_true,List.any_eq_true,beq_iff_eq] at this
      obtain ⟨⟨y,hy,e1,e2⟩,e3⟩:=this
      obtain ⟨y1,y2⟩:=y
      dsimp only at e1 e2
      subst e1 e2
      exact ⟨_,e,hy,e3⟩
    · cases this
structure Mak (P:Program) (w:World) (K:PySem.W.Frag) (mg:Str→Option Value) (base:Heap) (CX:CXT) (x:Str) (C:Addr) (k:Nat) (ps:List Str) (sp:Sp):Prop where
  ex:∃ f fd,Mk K C f∧fz P w K mg base CX k f fd ps sp∧Binds K fd ps []∧mg x=some (.ref C)
structure uB (K:PySem.W.Frag) (mg:Str→Option Value) (x qual:Str) (C:Addr) (st:Stmt) (ps:List Str):Prop where
  ex:∃ f fd,Fun K "__init__" qual st f fd∧Binds K fd ps []∧mg x=some (.ref C)∧Mk K C f∧Cls K C
structure IV (K:PySem.W.Frag) (C:Addr) (x qual:Str) (st:Stmt) (ps:List Str):Prop where
  ex:∃ f fd,Fun K x qual st f fd∧Binds K fd ps []∧Meth K C x f∧Cls K C
section
variable {P:Program} {w:World} {K:PySem.W.Frag} {mg:Str→Option Value} {base:Heap} {CX:CXT} {x qual:Str} {C:Addr} {st:Stmt} {N ps:List Str} {k j:Nat} {sp sp':Sp}
theorem uB.cls (D:uB K mg x qual C st ps):Cls K C:=D.ex.elim fun _ h=>h.elim fun _ h=>h.2.2.2.2
theorem Cr {h:Heap} (X:K.In h) (G:h.Ns mainGlobals mg) {f:Addr} {oc:Value} {od an:Option Addr} {osl:Array (Option Value)} {kV doc pm cdv ct:Value} (aC:PySem.W.nsIn K mainGlobals x=some (some (.ref C)))
    (a:PySem.W.findIn K (.ref C) "__init__" = some (some (.ref f))) (i:PySem.W.isFn K (.ref f)=true)
    (l:K.lookup f=some ⟨oc,od,.func (PySem.W.fnOf "__init__" qual (bD st) (aU st) (aj st) .none kV doc pm an cdv ct),osl⟩) (c:PySem.W.codeIn K cdv qual=true) (kp:PySem.W.keepIn K (.ref f)=true)
    (pg:PySem.W.plainGet K C Str.empty=true) (hd:PySem.W.hasDictIn K C=true) (po:PySem.W.plainOver K C=true) (sa:PySem.W.findIn K (.ref C) "__setattr__" = some (some (.builtin "object.__setattr__"))) (mk:PySem.W.makesIn K C=true) (kc:PySem.W.keepIn K (.ref C)=true)
    (b:∀ (kV doc pm:Value) (an:Option Addr) (cdv ct:Value) (us:List Value),us.length=ps.length→bindArgs (PySem.W.fnOf "__init__" qual (bD st) (aU st) (aj st) .none kV doc pm an cdv ct) ⟨us,[]⟩=pure (ps.zip us)):uB K mg x qual C st ps:=by
  have F:=tU (st:=st) l c kp
  exact ⟨f,_,F,F.binds b,PySem.W.mg_of X G aC,⟨mk,a,i,kc⟩,⟨pg,hd,po,sa⟩⟩
end
section
variable {X:Cx} {CX:CXT} {k:Nat} {ps:List Str} {sp:Sp} {E:XK} {x:Str} {C:Addr} {p pos:Pos} {e:Expr} {es:List Expr} {t:TA}
theorem Di (M:Mak X.prog X.w X.K X.mg X.base CX x C k ps sp) (hr:cy (k+1) X.A) (hx:Passes CX X E) (ha:PA X (e::es) t) (hg:Gl X x:=by rfl)
    (hdb:(x == ("__debug__" : Str))=false:=by decide) (he:starEach (e::es) X.env=(false,eval e X.env)::starEach es X.env:=by rfl) (hpl:(backTo pos (starEach es X.env)).any (·.1)=false:=by rfl) :
    PE X (.Call (.Name x p) (e::es) [] pos) (xZ C sp [] E t):=by
  obtain ⟨f,fd,m,F,b,g⟩:=M.ex
  exact Bo m F hr hg g b .nil hx ha hdb he hpl
end
end L3
namespace L4
open PySem PySem.Spec PyProof.Rows L2 L3

def jo (H H':Hp):Prop:=∀ q xs,H q=some (.tup xs)→H' q=some (.tup xs)
theorem jo.trans {H H1 H2:Hp} (a:jo H H1) (b:jo H1 H2):jo H H2:=fun q xs h=>b q xs (a q xs h)
theorem kY {H H':Hp} (s:az H H'):jo H H':=fun q _ h=>s q _ h
theorem DG {H:Hp} {p:Addr} {o u:HO} (h:H p=some u) (n:∀ xs,u≠.tup xs):jo H (upd H p o):=fun q xs e=>by
  have:q≠p:=fun z=>by subst z;rw [h] at e;exact n xs (Option.some.inj e)
  rw [aD this];exact e
structure Ob where
  p:Hp→HO→Prop
  mono:∀ {H H':Hp} {o:HO},jo H H'→p H o→p H' o
def Eo (o:HO):Ob:=⟨fun _ u=>u=o,fun _ h=>h⟩
structure Pr where
  p:Hp→Prop
  mono:∀ {H H':Hp},jo H H'→p H→p H'
def cz (r:Addr) (xs:List V):Pr:=⟨fun H=>H r=some (.tup xs),fun t h=>t _ _ h⟩

structure Led (P:Addr→Prop) (H0 H:Hp) (l:List (Addr×Ob)) (fs:List Pr):Prop where
  at_:∀ x∈l,∃ o,H x.1=some o∧x.2.p H o
  nd:(l.map (·.1)).Nodup
  own:∀ x∈l,P x.1∨H0 x.1=none
  fr:∀ q o,H0 q=some o→¬ P q→H q=some o
  st:∀ f∈fs,f.p H
inductive Put (p:Addr) (a b:Ob):List (Addr×Ob)→List (Addr×Ob)→Prop
  | head {l}:Put p a b ((p,a)::l) ((p,b)::l)
  | tail {x l l'}:Put p a b l l'→Put p a b (x::l) (x::l')
section
variable {P:Addr→Prop} {H0 H H':Hp} {l l':List (Addr×Ob)} {fs:List Pr} {p:Addr} {a b:Ob} {o:HO}
theorem Put.mem (h:Put p a b l l'):(p,a)∈l:=by
  induction h with
  | head=>exact List.mem_cons_self
  | tail _ ih=>exact List.mem_cons_of_mem _ ih
theorem Put.keys (h:Put p a b l l'):l'.map (·.1)=l.map (·.1):=by
  induction h with
  | head=>rfl
  | tail _ ih=>rw [List.map_cons,List.map_cons,ih]
theorem Put.or (h:Put p a b l l'):∀ x∈l',x=(p,b)∨x∈l:=by
  induction h with
  | head=>
    intro x hx
    rcases List.mem_cons.mp hx with e | e
    · exact .inl e
    · exact .inr (List.mem_cons_of_mem _ e)
  | tail _ ih=>
    intro x hx
    rcases List.mem_cons.mp hx with e | e
    · exact .inr (by rw [e];exact List.mem_cons_self)
    · exact (ih x e).imp_right (List.mem_cons_of_mem _)
theorem zH:∀ {l:List (Addr×Ob)},(l.map (·.1)).Nodup→∀ {x y},x∈l→y∈l→x.1=y.1→x=y
  | [],_,_,_,hx,_,_=>by simp at hx
  | z::l,hn,x,y,hx,hy,e=>by
    rw [List.map_cons,List.nodup_cons] at hn
    rcases List.mem_cons.mp hx with e1 | h1
    · rcases List.mem_cons.mp hy with e2 | h2
      · rw [e1,e2]
      · exact absurd (show z.1∈l.map (·.1) from List.mem_map.mpr ⟨y,h2,by rw [← e1];exact e.symm⟩) hn.1
    · rcases List.mem_cons.mp hy with e2 | h2
      · exact absurd (show z.1∈l.map (·.1) from List.mem_map.mpr ⟨x,h1,by rw [← e2];exact e⟩) hn.1
      · exact zH hn.2 h1 h2 e
theorem Put.or' (h:Put p a b l l') (nd:(l.map (·.1)).Nodup):∀ x∈l',x=(p,b)∨(x∈l∧x.1≠p):=by
  intro x hx
  have nd':(l'.map (·.1)).Nodup:=by rw [h.keys];exact nd
  have hb:(p,b)∈l':=by
    clear nd nd' hx
    induction h with
    | head=>exact List.mem_cons_self
    | tail _ ih=>exact List.mem_cons_of_mem _ ih
  by_cases e:x.1=p
  · exact .inl (zH nd' hx hb e)
  · rcases h.or x hx with z | z
    · exact .inl z
    · exact .inr ⟨z,e⟩
theorem Led.get (L:Led P H0 H l fs) (m:Put p a a l l'):∃ o,H p=some o∧a.p H o:=L.at_ _ m.mem
theorem Led.eo (L:Led P H0 H l fs) (m:Put p (Eo o) (Eo o) l l'):H p=some o:=by
  obtain ⟨u,e,h⟩:=L.get m
  have:u=o:=h
  rw [← this];exact e
theorem Led.tup (L:Led P H0 H l fs) {r:Addr} {xs:List V} (m:cz r xs∈fs):H r=some (.tup xs):=L.st _ m
theorem Led.more (L:Led P H0 H l fs) (f:Pr) (h:f.p H):Led P H0 H l (f::fs):=
  ⟨L.at_,L.nd,L.own,L.fr,fun g hg=>(List.mem_cons.mp hg).elim (fun e=>e▸h) (L.st g)⟩
theorem Led.start (H:Hp) (P:Addr→Prop):Led P H H [] []:=⟨fun _ h=>by simp at h,List.nodup_nil,fun _ h=>by simp at h,fun _ _ h _=>h,fun _ h=>by simp at h⟩
theorem Led.same (L:Led (fun _=>False) H0 H l fs):az H0 H:=fun q o h=>L.fr q o h id
theorem Led.keep (L:Led P H0 H l fs) (s:az H H'):Led P H0 H' l fs:=
  ⟨fun x hx=>let ⟨o,e,h⟩:=L.at_ x hx;⟨o,s _ _ e,x.2.mono (kY s) h⟩,L.nd,L.own,fun q o h n=>s _ _ (L.fr q o h n),fun f hf=>f.mono (kY s) (L.st f hf)⟩
theorem Led.fresh (L:Led P H0 H l fs) (h:H p=none):(∀ x∈l,x.1≠p)∧(P p∨H0 p=none):=by
  refine ⟨fun x hx e=>?_,?_⟩
  · obtain ⟨o,q,_⟩:=L.at_ x hx
    rw [e,h] at q;cases q
  · by_cases hp:P p
    · exact .inl hp
    · cases q:H0 p with
      | none=>exact .inr rfl
      | some o=>rw [L.fr p o q hp] at h;cases h
theorem aQ (h:H p=none):az H (upd H p o):=fun b u q=>by rw [aD (ay q h)];exact q
theorem Led.BK (L:Led P H0 H l fs) {xs:List V} (h:H p=none):Led P H0 (upd H p (.tup xs)) l (cz p xs::fs):=(L.keep (aQ h)).more _ ao
theorem Led.BL (L:Led P H0 H l fs) (h:H p=none) (ho:a.p (upd H p o) o):Led P H0 (upd H p o) ((p,a)::l) fs:=by
  have K:=L.keep (aQ (o:=o) h)
  obtain ⟨f1,f2⟩:=L.fresh h
  refine ⟨fun x hx=>?_,?_,fun x hx=>?_,K.fr,K.st⟩
  · rcases List.mem_cons.mp hx with rfl | hx
    · exact ⟨o,ao,ho⟩
    · exact K.at_ x hx
  · rw [List.map_cons,List.nodup_cons]
    refine ⟨fun z=>?_,L.nd⟩
    obtain ⟨x,hx,e⟩:=List.mem_map.mp z
    exact f1 x hx e
  · rcases List.mem_cons.mp hx with rfl | hx
    · exact f2
    · exact L.own x hx
structure Chg (p:Addr) (H H':Hp):Prop where
  oth:∀ q o,H q=some o→q≠p→H' q=some o
  ts:jo H H'
theorem Chg.upd {u:HO} (h:H p=some u) (n:∀ xs,u≠.tup xs):Chg p H (upd H p o):=⟨fun q o e z=>by rw [aD z];exact e,DG h n⟩
theorem Chg.trans {H1:Hp} (x:Chg p H H1) (y:Chg p H1 H'):Chg p H H':=⟨fun q o e n=>y.oth q o (x.oth q o e n) n,x.ts.trans y.ts⟩
theorem Led.set (L:Led P H0 H l fs) (m:Put p a b l l') (c:Chg p H H') (ho:∃ o,H' p=some o∧b.p H' o):Led P H0 H' l' fs:=by
  have own:=L.own _ m.mem
  refine ⟨fun x hx=>?_,by rw [m.keys];exact L.nd,fun x hx=>?_,fun q o h n=>?_,fun f hf=>f.mono c.ts (L.st f hf)⟩
  · rcases m.or' L.nd x hx with rfl | ⟨hx,n⟩
    · exact ho
    · obtain ⟨u,e,h⟩:=L.at_ x hx
      exact ⟨u,c.oth _ _ e n,x.2.mono c.ts h⟩
  · rcases m.or x hx with rfl | hx
    · exact own
    · exact L.own x hx
  · have:q≠p:=fun z=>by
      subst z
      rcases own with h1 | h1
      · exact n h1
      · rw [h] at h1;cases h1
    exact c.oth _ _ (L.fr q o h n) this
theorem Led.add (L:Led P H0 H l fs) (s:az H H') (n:H p=none) (ho:∃ o,H' p=some o∧a.p H' o):Led P H0 H' ((p,a)::l) fs:=by
  have K:=L.keep s
  obtain ⟨f1,f2⟩:=L.fresh n
  refine ⟨fun x hx=>?_,?_,fun x hx=>?_,K.fr,K.st⟩
  · rcases List.mem_cons.mp hx with rfl | hx
    · exact ho
    · exact K.at_ x hx
  · rw [List.map_cons,List.nodup_cons]
    refine ⟨fun z=>?_,L.nd⟩
    obtain ⟨x,hx,e⟩:=List.mem_map.mp z
    exact f1 x hx e
  · rcases List.mem_cons.mp hx with rfl | hx
    · exact f2
    · exact L.own x hx
end
end L4
namespace L4
open PySem PySem.Spec PyProof.Rows L2 L3
abbrev St:=L2.St

def Ia:R2:=fun x y H Q=>∃ i j,x = .str i∧y = .str j∧Q (.bl (!(Builtin.Str.occurrences j i 0 j.length 1).isEmpty)) H
abbrev RL:=List V→Hp→VK→Prop
def F6:RL:=fun xs H Q=>∃ i j,xs=[.int i,.int j]∧Q (.int (if j > i then j else i)) H
def F5:RL:=fun xs H Q=>∃ i j,xs=[.int i,.int j]∧Q (.int (if j < i then j else i)) H
def Bd (K:PySem.W.Frag):RL:=fun xs H Q=>∃ p ys,xs=[.ref p]∧(SqL K H p ys∨SqT K H p ys)∧Q (.int ys.length) H
def Df:RL:=fun xs H Q=>∃ z:Str,xs=[.str z]∧z.length≤sizeLine∧Q (.int z.length) H
def yN (K:PySem.W.Frag):RL:=fun xs H Q=>∃ p ys,xs=[.ref p]∧((SqL K H p ys∧∀ l,H l=none→Q (.ref l) (upd H l (.tup ys)))∨(SqT K H p ys∧Q (.ref p) H))
def rJoin (K:PySem.W.Frag):V→List V→Hp→VK→Prop:=fun x xs H Q=>∃ z p ys,x = .str z∧xs=[.ref p]∧SqL K H p (ys.map V.str)∧(ys.map (·.length)).sum+ys.length * z.length≤16777216∧Q (.str (Txt.join z ys)) H
section
variable {X:Cx}
theorem Gf:OpR X (compareOp .In) Ia:=v9
theorem HC (hc:X.calm=true):cV X (.builtin "max") F6:=xj hc
theorem HB (hc:X.calm=true):cV X (.builtin "min") F5:=xh hc
theorem iA:cV X (.builtin "len") (Bd X.K):=pR
theorem ud:cV X (.builtin "len") Df:=pQ
theorem pS:cV X (.type "tuple") (yN X.K):=mE
theorem gg:MtR X "str.join" (rJoin X.K):=qQ
end
def HN (xs:List V) (H:Hp) (Q:VK):Prop:=xs.length≤sizeLine∧∀ p,H p=none→Q (.ref p) (upd H p (.tup xs))
def Fx (xs:List V) (H:Hp) (Q:VK):Prop:=xs.length≤sizeLine∧∀ p,H p=none→Q (.ref p) (upd H p (.lst xs))
def IsB (x:V) (H:Hp) (Q:Bool→Hp→Prop):Prop:=∃ k,x = .bl k∧Q k H
def Fld (K:PySem.W.Frag) (f:Str) (x:V) (H:Hp) (Q:VK):Prop:=∃ a C dx fs v,x = .ref a∧H a=some (.ins C dx fs)∧Cls K C∧bz K C f∧fs.lookup f=some v∧Q v H
section
variable {K:PySem.W.Frag} {σ : St} {H:Hp} {Q:VK} {D:Ends} {t u:TS} {ta tb te:TE} {tt tt':TT} {tl:TA} {v x y:V} {i:Nat} {B:Bool→Hp→Prop}
-- statements
theorem g_seq (h:t { D with nx:=u D } σ H):DI t u D σ H:=h
theorem EJ (h:D.nx σ H):C3 D σ H:=h
theorem Hr {g:TG} (h:te σ H fun x H1=>g x σ H1 D.nx):DJ te g D σ H:=h
theorem EZ (h:te σ H fun _ H1=>D.nx σ H1):C4 te D σ H:=h
theorem GQ (h:te σ H D.rt):FH te D σ H:=h
theorem IC (h:tt σ H fun b H1=>if b=true then t D σ H1 else u D σ H1):FO tt t u D σ H:=h
-- expressions
theorem GJ (e : σ[i]?=some (some v)) (h:Q v H):DH i σ H Q:=⟨v,e,h⟩
theorem g_c (h:Q v H):tC v σ H Q:=h
theorem IB {r:R2} (h:ta σ H fun x H1=>tb σ H1 fun y H2=>r x y H2 Q):tOp r ta tb σ H Q:=h
theorem Iu {r:V→Hp→VK→Prop} (h:ta σ H fun x H1=>r x H1 Q):tUn r ta σ H Q:=h
theorem Hh (h:tt σ H fun c H1=>if c=true then ta σ H1 Q else tb σ H1 Q):tIf tt ta tb σ H Q:=h
theorem E5 (h:ta σ H fun x H1=>IsB x H1 fun c H1=>if c=true then tb σ H1 Q else Q (.bl false) H1):C5 ta tb σ H Q:=h
theorem GS (h:ta σ H fun x H1=>IsB x H1 fun c H1=>if c=true then Q (.bl true) H1 else tb σ H1 Q):FI ta tb σ H Q:=h
theorem EI (h:ta σ H fun x H1=>IsB x H1 fun c H1=>Q (.bl (!c)) H1):C2 ta σ H Q:=h
theorem Hg (h:ta σ H fun x H1=>Q (.bl (decide (x = .non))) H1):FN ta σ H Q:=h
theorem GN (h:tl σ H fun xs H1=>HN xs H1 Q):AS tl σ H Q:=h
theorem G0 (h:tl σ H fun xs H1=>Fx xs H1 Q):FL tl σ H Q:=h
theorem GV {W:List V→Hp→Prop} (h:W [] H):xX σ H W:=h
theorem E1 {W:List V→Hp→Prop} (h:te σ H fun x H1=>tl σ H1 fun xs H2=>W (x::xs) H2):j4 te tl σ H W:=h
theorem ID {r:List V→Hp→VK→Prop} (h:tl σ H fun vs H1=>r vs H1 Q):tCB r tl σ H Q:=h
theorem E4 {sp:Sp} {E:XK} (h:tl σ H fun vs H1=>sp vs H1 Q E):yb sp [] E tl σ H Q:=by
  have e:(fun (vs:List V) H1=>sp (vs++[]) H1 Q E)=fun vs H1=>sp vs H1 Q E:=by funext vs H1;rw [List.append_nil]
  show tl σ H (fun vs H1=>sp (vs++[]) H1 Q E)
  rw [e];exact h
def Made (C:Addr) (sp:Sp) (E:XK) (vs:List V) (H:Hp) (Q:VK):Prop:=∀ x dx,H x=none→H dx=none→dx≠x→sp (.ref x::vs) (upd (upd H dx (.own x)) x (.ins C dx [])) (fun v H2=>v = .non∧Q (.ref x) H2) E
theorem EN {C:Addr} {sp:Sp} {E:XK} (h:tl σ H fun vs H1=>Made C sp E vs H1 Q):xZ C sp [] E tl σ H Q:=by
  have e:(fun (vs:List V) H1=>∀ x dx,H1 x=none→H1 dx=none→dx≠x→sp (.ref x::(vs++[])) (upd (upd H1 dx (.own x)) x (.ins C dx [])) (fun v H2=>v = .non∧Q (.ref x) H2) E)=fun vs H1=>Made C sp E vs H1 Q:=by
    funext vs H1;rw [List.append_nil];rfl
  show tl σ H (fun vs H1=>∀ x dx,H1 x=none→H1 dx=none→dx≠x→sp (.ref x::(vs++[])) (upd (upd H1 dx (.own x)) x (.ins C dx [])) (fun v H2=>v = .non∧Q (.ref x) H2) E)
  rw [e];exact h
def IJ (K:PySem.W.Frag) (f:Str) (y x:V) (H:Hp) (R:Hp→Prop):Prop:=∃ a C dx fs,x = .ref a∧H a=some (.ins C dx fs)∧Cls K C∧bz K C f∧fs.length < 1000∧R (upd H a (.ins C dx (bY f y fs)))
theorem EE {f:Str} (h:tb σ H fun y H1=>ta σ H1 fun x H2=>IJ K f y x H2 fun H3=>D.nx σ H3):F2 K ta tb f D σ H:=h
theorem Hj {f:Str} (h:ta σ H fun x H1=>Fld K f x H1 Q):FQ K ta f σ H Q:=h
theorem IE {T:String} {r:V→List V→Hp→VK→Prop} (h:ta σ H fun x H1=>tyV K T x H1∧tl σ H1 fun xs H2=>r x xs H2 Q):tBM K T r ta tl σ H Q:=h
theorem Iv {r:V→Option Int→Option Int→Hp→VK→Prop} {a b:TO} (h:te σ H fun x H1=>a σ H1 fun l H2=>b σ H2 fun u H3=>r x l u H3 Q):tSl r te a b σ H Q:=h
theorem zY {W:Option Int→Hp→Prop} (h:W none H):uG σ H W:=h
def Prt (x:V) (H:Hp) (W:Option Int→Hp→Prop):Prop:=∃ i,x = .int i∧W (some i) H
theorem EH {W:Option Int→Hp→Prop} (h:te σ H fun x H1=>Prt x H1 W):C1 te σ H W:=h
-- tests
theorem g_b (h:te σ H fun x H1=>IsB x H1 B):tB te σ H B:=h
theorem EC (h:te σ H fun x H1=>IsB x H1 B):xV te σ H B:=h
theorem Hs (h:tt σ H fun c H1=>if c=true then tt' σ H1 B else B false H1):FT tt tt' σ H B:=h
theorem IA (h:tt σ H fun c H1=>if c=true then B true H1 else tt' σ H1 B):tOr tt tt' σ H B:=h
theorem GU (h:tt σ H fun c H1=>B (!c) H1):FJ tt σ H B:=h
theorem iw {k:Bool} (h:B k H):IsB (.bl k) H B:=⟨k,rfl,h⟩
-- values
theorem GR {g:Int→Int→V} {i j:Int} (h:Q (g i j) H):rI0 g (.int i) (.int j) H Q:=⟨i,j,rfl,rfl,h⟩
theorem Iz {C:Int→Int→Prop} {g:Int→Int→V} {i j:Int} (c:C i j) (h:Q (g i j) H):rI C g (.int i) (.int j) H Q:=⟨i,j,rfl,rfl,c,h⟩
theorem Iw {g:Int→V} {i:Int} (h:Q (g i) H):rU g (.int i) H Q:=⟨i,rfl,h⟩
theorem Ho {i j:Int} (h:Q (.bl (decide (i=j))) H):rEq (.int i) (.int j) H Q:=⟨rfl,by
  have e:decide (V.int i=V.int j)=decide (i=j):=by
    by_cases z:i=j
    · subst z;simp
    · rw [decide_eq_false z,decide_eq_false fun w=>z (V.int.inj w)]
  rw [e];exact h⟩
theorem Hl {i j:Str} (h:Q (.bl (decide (i=j))) H):rEq (.str i) (.str j) H Q:=⟨rfl,by
  have e:decide (V.str i=V.str j)=decide (i=j):=by
    by_cases z:i=j
    · subst z;simp
    · rw [decide_eq_false z,decide_eq_false fun w=>z (V.str.inj w)]
  rw [e];exact h⟩
theorem GX {i j:Int} (h:Q (.bl (!decide (i=j))) H):rNe (.int i) (.int j) H Q:=⟨rfl,by
  have e:decide (V.int i=V.int j)=decide (i=j):=by
    by_cases z:i=j
    · subst z;simp
    · rw [decide_eq_false z,decide_eq_false fun w=>z (V.int.inj w)]
  rw [e];exact h⟩
theorem GW {i j:Str} (h:Q (.bl (!decide (i=j))) H):rNe (.str i) (.str j) H Q:=⟨rfl,by
  have e:decide (V.str i=V.str j)=decide (i=j):=by
    by_cases z:i=j
    · subst z;simp
    · rw [decide_eq_false z,decide_eq_false fun w=>z (V.str.inj w)]
  rw [e];exact h⟩
-- branches
theorem z6 {A B:Prop} (h:A):if true=true then A else B:=by rw [if_pos rfl];exact h
theorem iy {A B:Prop} (h:B):if false=true then A else B:=by rw [if_neg Bool.false_ne_true];exact h
theorem bW {p A B:Prop} [Decidable p] (h1:p→A) (h2:¬ p→B):if decide p=true then A else B:=by
  by_cases h:p
  · rw [if_pos (decide_eq_true h)];exact h1 h
  · rw [if_neg (by rw [decide_eq_false h];exact Bool.false_ne_true)];exact h2 h
theorem EU {p A B:Prop} [Decidable p] (h:p) (a:A):if decide p=true then A else B:=by rw [if_pos (decide_eq_true h)];exact a
theorem EV {p A B:Prop} [Decidable p] (h:¬ p) (b:B):if decide p=true then A else B:=by rw [if_neg (by rw [decide_eq_false h];exact Bool.false_ne_true)];exact b
theorem nO {p A B:Prop} [Decidable p] (h1:p→B) (h2:¬ p→A):if (!decide p)=true then A else B:=by
  by_cases h:p
  · rw [if_neg (by rw [decide_eq_true h];exact Bool.false_ne_true)];exact h1 h
  · rw [if_pos (by rw [decide_eq_false h];rfl)];exact h2 h
theorem ET {p A B:Prop} [Decidable p] (h:p) (b:B):if (!decide p)=true then A else B:=by rw [if_neg (by rw [decide_eq_true h];exact Bool.false_ne_true)];exact b
theorem Cb {A B:Prop} (h:B):if (!true)=true then A else B:=iy h
theorem Cc {A B:Prop} (h:A):if (!false)=true then A else B:=z6 h
-- sizes of things,text
theorem B9 {W:Option Int→Hp→Prop} {j:Int} (h:W (some j) H):Prt (.int j) H W:=⟨j,rfl,h⟩
end
theorem lk_hit {f:Str} {v:V} {r:List (Str×V)}:List.lookup f ((f,v)::r)=some v:=by simp
theorem lk_miss {f g:Str} {v:V} {r:List (Str×V)} (h:(f == g)=false):List.lookup f ((g,v)::r)=List.lookup f r:=by simp only [List.lookup_cons,h]
section
variable {K:PySem.W.Frag} {P:Addr→Prop} {H0 H H':Hp} {l l':List (Addr×Ob)} {fs:List Pr} {p:Addr} {a b:Ob} {o:HO} {Q:VK} {xs:List V} {v:V} {i:Int}
-- what the ledger knows
theorem EK (L:Led P H0 H l fs) (hz:xs.length≤sizeLine) (h:∀ p H',H p=none→Led P H0 H' l (cz p xs::fs)→az H H'→Q (.ref p) H'):HN xs H Q:=
  ⟨hz,fun p hp=>h p _ hp (L.BK hp) (aQ hp)⟩
theorem EL (L:Led P H0 H l fs) (hz:xs.length≤sizeLine) (h:∀ p H',H p=none→Led P H0 H' ((p,Eo (.lst xs))::l) fs→az H H'→Q (.ref p) H'):Fx xs H Q:=
  ⟨hz,fun p hp=>h p _ hp (L.BL hp rfl) (aQ hp)⟩
theorem qZ (L:Led P H0 H l fs) (m:Put p (Eo (.lst xs)) (Eo (.lst xs)) l l') (e:atI xs i=some v) (h:Q v H):yR K (.ref p) (.int i) H Q:=⟨p,xs,i,v,rfl,rfl,SqL.of (L.eo m),e,h⟩
theorem G5 (L:Led P H0 H l fs) (m:cz p xs∈fs) (e:atI xs i=some v) (h:Q v H):D3 K (.ref p) (.int i) H Q:=⟨p,xs,i,v,rfl,rfl,SqT.of (L.tup m),e,h⟩
theorem cS (hs:SqL K H p xs) (e:atI xs i=some v) (h:Q v H):yR K (.ref p) (.int i) H Q:=⟨p,xs,i,v,rfl,rfl,hs,e,h⟩
theorem GP {R:Hp→Prop} {j:Nat} (L:Led P H0 H l fs) (m:Put p (Eo (.lst xs)) (Eo (.lst (xs.set j v))) l l') (e:ixN xs.length i=some j) (h:∀ H',Led P H0 H' l' fs→Chg p H H'→R H'):De (.ref p) (.int i) v H R:=by
  obtain ⟨o,ho,hp⟩:=L.at_ _ m.mem
  have hp':o = .lst xs:=hp
  subst hp'
  have c:Chg p H (upd H p (.lst (xs.set j v))):=Chg.upd ho fun _ z=>by cases z
  exact ⟨p,xs,i,j,rfl,rfl,ho,e,h _ (L.set m c ⟨_,ao,rfl⟩) c⟩
theorem GL {R:Prop} (hs:SqL K H p xs) (h:R):tyV K "list" (.ref p) H∧R:=⟨.inl ⟨rfl,_,hs⟩,h⟩
theorem GK {R:Prop} {z:Str} (h:R):tyV K "str" (.str z) H∧R:=⟨rfl,h⟩
theorem gZ {t:TG} {u:TGs} {σ : St} {R:St→Hp→Prop} (h:t v σ H fun σ' H'=>u xs σ' H' R):Dr t u (v::xs) σ H R:=⟨v,xs,rfl,h⟩
theorem EW {to ti:TE} {t:CQ} {σ : St} {R:St→Hp→Prop} (h:to σ H fun o H1=>ti σ H1 fun i H2=>t o i v H2 fun H3=>R σ H3):Hv to ti t v σ H R:=h
end
def Fy (J:It) (g:TG) (tb:TS) (D:Ends) (σ : St) (H:Hp):Prop:=∃ W:Nat→Nat→St→Hp→Prop,(∃ m,W 0 m σ H)∧∀ i m σ H,W i m σ H →
  (J.stop i H∧D.nx σ H)∨(J.go i H∧∃ N:St→Hp→Prop,(∀ σ' H',N σ' H'→∃ m',m' < m∧W (i+1) m' σ' H')∧∀ x H',J.yld i H x H'→g x σ H' fun σ2 H2=>tb { D with nx:=N,ct:=N,bk:=D.nx } σ2 H2)
def HL (vs:List V) (H:Hp) (R:It→Hp→Prop):Prop:=∃ j:Int,vs=[.int j]∧-(2 ^ 62)≤j∧j < 2 ^ 62∧R (Itr 0 j.toNat) H
def WkL (K:PySem.W.Frag) (x:V) (H:Hp) (R:It→Hp→Prop):Prop:=∃ a,x = .ref a∧(∃ xs,SqL K H a xs)∧R (Itl K a) H
def WkT (K:PySem.W.Frag) (x:V) (H:Hp) (R:It→Hp→Prop):Prop:=∃ a,x = .ref a∧(∃ xs,SqT K H a xs)∧R (Itt K a) H
def vH (J:It) (Q:VK) (σb:St) (g:TG) (tc:TT) (te:TE) (H:Hp):Prop:=∃ W:Nat→Nat→List V→Hp→Prop,(∃ m,W 0 m [] H)∧oj J W (fun ys H=>∀ p,H p=none→Q (.ref p) (upd H p (.lst ys))) σb g tc te
section
variable {K:PySem.W.Frag} {σ : St} {H:Hp} {Q:VK} {D:Ends} {wi:TI} {g:TG} {tb:TS} {ta:TE} {tl:TA} {R:It→Hp→Prop} {tc:TT} {te:TE}
theorem Hi (h:wi σ H fun J H1=>Fy J g tb D σ H1):FP wi g tb D σ H:=h
theorem EG (h:tl σ H fun vs H1=>HL vs H1 R):Dl tl σ H R:=h
theorem GH (h:ta σ H fun x H1=>WkL K x H1 R):Dm K ta σ H R:=h
theorem GF (h:ta σ H fun x H1=>WkT K x H1 R):Gk K ta σ H R:=h
theorem B7 {j:Int} (b : -(2 ^ 62)≤j∧j < 2 ^ 62) (h:R (Itr 0 j.toNat) H):HL [.int j] H R:=⟨j,rfl,b.1,b.2,h⟩
theorem jM {a:Addr} {xs:List V} (s:SqL K H a xs) (h:R (Itl K a) H):WkL K (.ref a) H R:=⟨a,rfl,⟨xs,s⟩,h⟩
theorem pH {a:Addr} {xs:List V} (s:SqT K H a xs) (h:R (Itt K a) H):WkT K (.ref a) H R:=⟨a,rfl,⟨xs,s⟩,h⟩
theorem z7 {lo:Int} {n:Nat} (Pv:Nat→St→Hp→Prop) (h0:Pv 0 σ H) (hs:∀ i σ H,i < n→Pv i σ H→g (.int (lo+i)) σ H fun σ2 H2=>tb { D with nx:=Pv (i+1),ct:=Pv (i+1),bk:=D.nx } σ2 H2)
    (hd:∀ σ H,Pv n σ H→D.nx σ H):Fy (Itr lo n) g tb D σ H:=wX Pv h0 hs hd
theorem z8 {a:Addr} (xs:List V) (Pv:Nat→St→Hp→Prop) (h0:Pv 0 σ H) (hl:∀ i σ H,i≤xs.length→Pv i σ H→SqL K H a xs) (hs:∀ i x σ H,xs[i]?=some x→Pv i σ H→g x σ H fun σ2 H2=>tb { D with nx:=Pv (i+1),ct:=Pv (i+1),bk:=D.nx } σ2 H2)
    (hd:∀ σ H,Pv xs.length σ H→D.nx σ H):Fy (Itl K a) g tb D σ H:=Ac (xs:=xs) Pv h0 hl hs hd
theorem E2 {own:Nat} {cap:List Nat} (h:wi σ H fun J H1=>vH J Q (mH own cap σ) g tc te H1):ql wi own cap g tc te σ H Q:=h
theorem Ce {i own:Nat} {cap:List Nat} (h:ql wi own cap g tc te σ H fun v H1=>D.nx (σ.set i (some v)) H1):x9 i wi own cap g tc te D σ H:=h
theorem g9 {a:Addr} (xs:List V) {σb:St} (Pv:Nat→List V→Hp→Prop) (h0:Pv 0 [] H) (hl:∀ i ys H,i≤xs.length→Pv i ys H→SqL K H a xs∧ys.length≤sizeLine)
    (hs:∀ i x ys H,xs[i]?=some x→Pv i ys H→g x σb H fun σ2 H2=>tc σ2 H2 fun b H3=>if b=true then te σ2 H3 fun y H4=>Pv (i+1) (ys++[y]) H4 else Pv (i+1) ys H3) (hd:∀ ys H,Pv xs.length ys H→∀ p,H p=none→Q (.ref p) (upd H p (.lst ys))) :
    vH (Itl K a) Q σb g tc te H:=xg (xs:=xs) Pv h0 hl hs hd
theorem kO {a:Addr} (xs:List V) {σb:St} (Pv:Nat→List V→Hp→Prop) (h0:Pv 0 [] H) (hl:∀ i ys H,i≤xs.length→Pv i ys H→SqT K H a xs∧ys.length≤sizeLine)
    (hs:∀ i x ys H,xs[i]?=some x→Pv i ys H→g x σb H fun σ2 H2=>tc σ2 H2 fun b H3=>if b=true then te σ2 H3 fun y H4=>Pv (i+1) (ys++[y]) H4 else Pv (i+1) ys H3) (hd:∀ ys H,Pv xs.length ys H→∀ p,H p=none→Q (.ref p) (upd H p (.lst ys))) :
    vH (Itt K a) Q σb g tc te H:=Aq (xs:=xs) Pv h0 hl hs hd
theorem ED {B:Bool→Hp→Prop} (h:B true H):FU σ H B:=h
-- builtins
theorem GZ {a b:Int} (h:Q (.int (max a b)) H):F6 [V.int a,V.int b] H Q:=⟨a,b,rfl,by
  have e:(if b > a then b else a)=max a b:=by omega
  rw [e];exact h⟩
theorem GY {a b:Int} (h:Q (.int (min a b)) H):F5 [V.int a,V.int b] H Q:=⟨a,b,rfl,by
  have e:(if b < a then b else a)=min a b:=by omega
  rw [e];exact h⟩
theorem jd {a:Addr} {ys:List V} (s:SqL K H a ys) (h:Q (.int ys.length) H):Bd K [V.ref a] H Q:=⟨a,ys,rfl,.inl s,h⟩
theorem kN {a:Addr} {ys:List V} (s:SqT K H a ys) (h:Q (.int ys.length) H):Bd K [V.ref a] H Q:=⟨a,ys,rfl,.inr s,h⟩
theorem z5 {z:Str} (hz:z.length≤sizeLine) (h:Q (.int z.length) H):Df [V.str z] H Q:=⟨z,rfl,hz,h⟩
theorem EO {P:Addr→Prop} {H0:Hp} {l:List (Addr×Ob)} {fs:List Pr} {a:Addr} {ns:List Int} (L:Led P H0 H l fs) (s:SqL K H0 a (ns.map V.int)) (n:¬ P a) (h:Q (.int ns.length) H):Bd K [V.ref a] H Q:=
  ⟨a,ns.map V.int,rfl,.inl (by
    rcases s with (s | ⟨o,s⟩) | s
    · exact .inl (.inl (L.fr _ _ s n))
    · exact .inl (.inr ⟨o,L.fr _ _ s n⟩)
    · exact .inr s),by rw [List.length_map];exact h⟩
theorem Led.seq {P:Addr→Prop} {H0:Hp} {l:List (Addr×Ob)} {fs:List Pr} {a:Addr} {xs:List V} (L:Led P H0 H l fs) (s:SqL K H0 a xs) (n:¬ P a):SqL K H a xs:=by
  rcases s with (s | ⟨o,s⟩) | s
  · exact .inl (.inl (L.fr _ _ s n))
  · exact .inl (.inr ⟨o,L.fr _ _ s n⟩)
  · exact .inr s
theorem tR {z:Str} {p:Addr} {ys:List Str} (s:SqL K H p (ys.map V.str)) (b:(ys.map (·.length)).sum+ys.length * z.length≤16777216) (h:Q (.str (Txt.join z ys)) H):rJoin K (.str z) [.ref p] H Q:=⟨z,p,ys,rfl,rfl,s,b,h⟩
theorem Hf {z:Str} {i:Int} {c:Nat} (hz:z.length≤sizeLine) (e:atI z.cps.toList i=some c) (h:Q (.str ⟨#[c]⟩) H):F7 (.str z) (.int i) H Q:=⟨z,i,c,rfl,rfl,hz,e,h⟩
end
end L4
namespace L4
open PySem PySem.Spec PyProof.Rows L2 L3
inductive Dt where
  | non | bl (b:Bool) | int (i:Int) | str (x:Str) | tup (ds:List Dt) | lst (ds:List Dt)
mutual
def eqD:Dt→Dt→Bool
  | .non,.non=>true
  | .bl a,.bl b=>a == b
  | .bl a,.int b=>(if a then 1 else 0) == b
  | .int a,.bl b=>a == (if b then 1 else 0)
  | .int a,.int b=>a == b
  | .str a,.str b=>a == b
  | .tup a,.tup b=>gu a b
  | .lst a,.lst b=>gu a b
  | _,_=>false
def gu:List Dt→List Dt→Bool
  | [],[]=>true
  | x::xs,y::ys=>eqD x y && gu xs ys
  | _,_=>false
end
mutual
def dep:Dt→Nat
  | .tup ds=>deps ds+1
  | .lst ds=>deps ds+1
  | _=>0
def deps:List Dt→Nat
  | []=>0
  | d::ds=>max (dep d) (deps ds)
end
theorem fL:∀ {ds:List Dt} {d:Dt},d∈ds→dep d≤deps ds
  | [],_,h=>by simp at h
  | x::ds,d,h=>by
    rw [deps]
    rcases List.mem_cons.mp h with rfl | h
    · exact Nat.le_max_left _ _
    · exact Nat.le_trans (fL h) (Nat.le_max_right _ _)
mutual
theorem gx:∀ d:Dt,eqD d d=true
  | .non=>by rw [eqD]
  | .bl b=>by rw [eqD];exact beq_self_eq_true b
  | .int i=>by rw [eqD];exact beq_self_eq_true i
  | .str x=>by rw [eqD];exact beq_self_eq_true x
  | .tup ds=>by rw [eqD];exact jQ ds
  | .lst ds=>by rw [eqD];exact jQ ds
theorem jQ:∀ ds:List Dt,gu ds ds=true
  | []=>by rw [gu]
  | d::ds=>by rw [gu,gx d,jQ ds];rfl
end
theorem dG:∀ (ds es:List Dt),((List.range (min ds.length es.length)).all (fun j=>eqD (ds.getD j .non) (es.getD j .non)) && ds.length == es.length)=gu ds es
  | [],[]=>by rw [gu];rfl
  | [],_::_=>by simp [gu]
  | _::_,[]=>by simp [gu]
  | d::ds,e::es=>by
    have ih:=dG ds es
    rw [gu,← ih]
    have h1:min (d::ds).length (e::es).length=min ds.length es.length+1:=by simp only [List.length_cons];omega
    rw [h1,List.range_succ_eq_map,List.all_cons,List.all_map]
    have h2:((d::ds).length == (e::es).length)=(ds.length == es.length):=by
      rw [Bool.eq_iff_iff];simp
    rw [h2,Bool.and_assoc]
    rfl
theorem jR:∀ {ds es:List Dt},ds.length≠es.length→gu ds es=false:=fun {ds es} h=>by
  rw [← dG,show (ds.length == es.length)=false from by simpa using h,Bool.and_false]

mutual
inductive At (K:PySem.W.Frag) (H:Hp):V→Dt→Prop
  | non:At K H .non .non
  | bl (b:Bool):At K H (.bl b) (.bl b)
  | int (i:Int):At K H (.int i) (.int i)
  | str (x:Str):At K H (.str x) (.str x)
  | tup {a:Addr} {xs:List V} {ds:List Dt} (h:SqT K H a xs) (r:Ats K H xs ds):At K H (.ref a) (.tup ds)
  | lst {a:Addr} {xs:List V} {ds:List Dt} (h:SqL K H a xs) (r:Ats K H xs ds):At K H (.ref a) (.lst ds)
inductive Ats (K:PySem.W.Frag) (H:Hp):List V→List Dt→Prop
  | nil:Ats K H [] []
  | cons {x:V} {d:Dt} {xs:List V} {ds:List Dt} (h:At K H x d) (r:Ats K H xs ds):Ats K H (x::xs) (d::ds)
end
theorem Ats.len {K:PySem.W.Frag} {H:Hp}:∀ {xs:List V} {ds:List Dt},Ats K H xs ds→xs.length=ds.length
  | _,_,.nil=>rfl
  | _,_,.cons _ r=>by rw [List.length_cons,List.length_cons,r.len]
theorem Ats.get {K:PySem.W.Frag} {H:Hp}:∀ {xs:List V} {ds:List Dt} {j:Nat} {x:V},Ats K H xs ds→xs[j]?=some x→∃ d,ds[j]?=some d∧At K H x d
  | _,_,_,_,.nil,e=>by simp at e
  | _,_,0,_,.cons h _,e=>by simp at e;subst e;exact ⟨_,rfl,h⟩
  | _,_,j+1,x,.cons _ r,e=>by
    obtain ⟨d,h1,h2⟩:=Ats.get (j:=j) (x:=x) r (by simpa using e)
    exact ⟨d,by simpa using h1,h2⟩
section
variable {X:Cx} {pins:List (Addr×Obj)} {σ : St} {H:Hp} {s:Shared}
mutual
theorem At.inj (I:Inv X pins σ H s) {x:V}:∀ {d e:Dt},At X.K H x d→At X.K H x e→d=e
  | _,_,.non,h=>by cases h;rfl
  | _,_,.bl _,h=>by cases h;rfl
  | _,_,.int _,h=>by cases h;rfl
  | _,_,.str _,h=>by cases h;rfl
  | _,_,.tup h r,g=>by
    cases g with
    | tup h' r'=>
      have e:=I.jx h h'
      subst e
      rw [Ats.inj I r r']
    | lst h' r'=>
      obtain ⟨_,_,⟨o,e,c,_⟩,_⟩:=I.tuple h
      obtain ⟨_,_,⟨o',n',e',c',_⟩,_⟩:=I.list h'
      rw [e] at e';cases e'
      rw [c] at c';injection c' with z;exact absurd z (by decide)
  | _,_,.lst h r,g=>by
    cases g with
    | lst h' r'=>
      have e:=I.lH h h'
      subst e
      rw [Ats.inj I r r']
    | tup h' r'=>
      obtain ⟨_,_,⟨o,e,c,_⟩,_⟩:=I.tuple h'
      obtain ⟨_,_,⟨o',n',e',c',_⟩,_⟩:=I.list h
      rw [e] at e';cases e'
      rw [c] at c';injection c' with z;exact absurd z (by decide)
theorem Ats.inj (I:Inv X pins σ H s) {xs:List V}:∀ {ds es:List Dt},Ats X.K H xs ds→Ats X.K H xs es→ds=es
  | _,_,.nil,h=>by cases h;rfl
  | _,_,.cons h r,g=>by
    cases g with
    | cons h' r'=>rw [At.inj I h h',Ats.inj I r r']
end
end
theorem HZ {A:Around} {s:Shared} {y x:V} {u v:Value} (ry:RelV y u) (rx:RelV x v) (fy:bX y=true) (fx:bX x=true):SeqAt.RcAt A s u v (eqV y x):=by
  cases y with
  | non=>
    cases ry
    cases x with
    | non=>cases rx;exact SeqAt.RcAt.none_none
    | bl b=>cases rx;exact SeqAt.RcAt.none_bool b
    | int b=>obtain ⟨t,rfl⟩:=rx;exact SeqAt.RcAt.none_int b t
    | str b=>obtain ⟨t,rfl⟩:=rx;exact SeqAt.RcAt.none_str b t
    | _=>exact absurd (show false=true from fx) Bool.false_ne_true
  | bl a=>
    cases ry
    cases x with
    | non=>cases rx;exact SeqAt.RcAt.bool_none a
    | bl b=>cases rx;exact SeqAt.RcAt.bool_bool a b
    | int b=>obtain ⟨t,rfl⟩:=rx;exact SeqAt.RcAt.bool_int a b t
    | str b=>obtain ⟨t,rfl⟩:=rx;exact SeqAt.RcAt.bool_str a b t
    | _=>exact absurd (show false=true from fx) Bool.false_ne_true
  | int a=>
    obtain ⟨t',rfl⟩:=ry
    cases x with
    | non=>cases rx;exact SeqAt.RcAt.int_none a t'
    | bl b=>cases rx;exact SeqAt.RcAt.int_bool a t' b
    | int b=>obtain ⟨t,rfl⟩:=rx;exact SeqAt.RcAt.int_int a t' b t
    | str b=>obtain ⟨t,rfl⟩:=rx;exact SeqAt.RcAt.int_str a t' b t
    | _=>exact absurd (show false=true from fx) Bool.false_ne_true
  | str a=>
    obtain ⟨t',rfl⟩:=ry
    cases x with
    | non=>cases rx;exact SeqAt.RcAt.str_none a t'
    | bl b=>cases rx;exact SeqAt.RcAt.str_bool a t' b
    | int b=>obtain ⟨t,rfl⟩:=rx;exact SeqAt.RcAt.str_int a t' b t
    | str b=>obtain ⟨t,rfl⟩:=rx;exact SeqAt.RcAt.str_str a t' b t
    | _=>exact absurd (show false=true from fx) Bool.false_ne_true
  | _=>exact absurd (show false=true from fy) Bool.false_ne_true
theorem DW {A:Around} {s:Shared} {y x:V} {u v:Value} (ry:RelV y u) (rx:RelV x v) (fy:bX y=true) (fx:bX x=true):SeqAt.RcNeAt A s u v (!eqV y x):=by
  cases y with
  | non=>
    cases ry
    cases x with
    | non=>cases rx;exact SeqAt.RcNeAt.none_none
    | bl b=>cases rx;exact SeqAt.RcNeAt.none_bool b
    | int b=>obtain ⟨t,rfl⟩:=rx;exact SeqAt.RcNeAt.none_int b t
    | str b=>obtain ⟨t,rfl⟩:=rx;exact SeqAt.RcNeAt.none_str b t
    | _=>exact absurd (show false=true from fx) Bool.false_ne_true
  | bl a=>
    cases ry
    cases x with
    | non=>cases rx;exact SeqAt.RcNeAt.bool_none a
    | bl b=>cases rx;exact SeqAt.RcNeAt.bool_bool a b
    | int b=>obtain ⟨t,rfl⟩:=rx;exact SeqAt.RcNeAt.bool_int a b t
    | str b=>obtain ⟨t,rfl⟩:=rx;exact SeqAt.RcNeAt.bool_str a b t
    | _=>exact absurd (show false=true from fx) Bool.false_ne_true
  | int a=>
    obtain ⟨t',rfl⟩:=ry
    cases x with
    | non=>cases rx;exact SeqAt.RcNeAt.int_none a t'
    | bl b=>cases rx;exact SeqAt.RcNeAt.int_bool a t' b
    | int b=>obtain ⟨t,rfl⟩:=rx;exact SeqAt.RcNeAt.int_int a t' b t
    | str b=>obtain ⟨t,rfl⟩:=rx;exact SeqAt.RcNeAt.int_str a t' b t
    | _=>exact absurd (show false=true from fx) Bool.false_ne_true
  | str a=>
    obtain ⟨t',rfl⟩:=ry
    cases x with
    | non=>cases rx;exact SeqAt.RcNeAt.str_none a t'
    | bl b=>cases rx;exact SeqAt.RcNeAt.str_bool a t' b
    | int b=>obtain ⟨t,rfl⟩:=rx;exact SeqAt.RcNeAt.str_int a t' b t
    | str b=>obtain ⟨t,rfl⟩:=rx;exact SeqAt.RcNeAt.str_str a t' b t
    | _=>exact absurd (show false=true from fx) Bool.false_ne_true
  | _=>exact absurd (show false=true from fy) Bool.false_ne_true
theorem iz {A:Around} {s:Shared} {x:V} {u:Value} {a:Addr} {its:Array Value} (rx:RelV x u) (fx:bX x=true) (h:s.heap.IsTuple a its) (hu:A.units < cLine):SeqAt.EqAt A s u (.ref a) false:=by
  cases x with
  | non=>cases rx;exact SeqAt.EqAt.none_tuple h hu
  | bl b=>cases rx;exact SeqAt.EqAt.bool_tuple b h hu
  | int b=>obtain ⟨t,rfl⟩:=rx;exact SeqAt.EqAt.int_tuple b t h hu
  | str b=>obtain ⟨t,rfl⟩:=rx;exact SeqAt.EqAt.str_tuple b t h hu
  | _=>exact absurd (show false=true from fx) Bool.false_ne_true
theorem mz {A:Around} {s:Shared} {x:V} {u:Value} {a:Addr} {its:Array Value} (rx:RelV x u) (fx:bX x=true) (h:s.heap.IsTuple a its) (hu:A.units < cLine):SeqAt.EqAt A s (.ref a) u false:=by
  cases x with
  | non=>cases rx;exact SeqAt.EqAt.tuple_none h hu
  | bl b=>cases rx;exact SeqAt.EqAt.tuple_bool b h hu
  | int b=>obtain ⟨t,rfl⟩:=rx;exact SeqAt.EqAt.tuple_int b t h hu
  | str b=>obtain ⟨t,rfl⟩:=rx;exact SeqAt.EqAt.tuple_str b t h hu
  | _=>exact absurd (show false=true from fx) Bool.false_ne_true
theorem jg {A:Around} {s:Shared} {x:V} {u:Value} {a:Addr} {its:Array Value} (rx:RelV x u) (fx:bX x=true) (h:s.heap.IsList a its) (hu:A.units < cLine):SeqAt.EqAt A s u (.ref a) false:=by
  cases x with
  | non=>cases rx;exact SeqAt.EqAt.none_list h hu
  | bl b=>cases rx;exact SeqAt.EqAt.bool_list b h hu
  | int b=>obtain ⟨t,rfl⟩:=rx;exact SeqAt.EqAt.int_list b t h hu
  | str b=>obtain ⟨t,rfl⟩:=rx;exact SeqAt.EqAt.str_list b t h hu
  | _=>exact absurd (show false=true from fx) Bool.false_ne_true
theorem pM {A:Around} {s:Shared} {x:V} {u:Value} {a:Addr} {its:Array Value} (rx:RelV x u) (fx:bX x=true) (h:s.heap.IsList a its) (hu:A.units < cLine):SeqAt.EqAt A s (.ref a) u false:=by
  cases x with
  | non=>cases rx;exact SeqAt.EqAt.list_none h hu
  | bl b=>cases rx;exact SeqAt.EqAt.list_bool b h hu
  | int b=>obtain ⟨t,rfl⟩:=rx;exact SeqAt.EqAt.list_int b t h hu
  | str b=>obtain ⟨t,rfl⟩:=rx;exact SeqAt.EqAt.list_str b t h hu
  | _=>exact absurd (show false=true from fx) Bool.false_ne_true
theorem mj {A:Around} {s:Shared} {x:V} {u:Value} {a:Addr} {its:Array Value} (rx:RelV x u) (fx:bX x=true) (h:s.heap.IsTuple a its) (hu:A.units < cLine):SeqAt.RcAt A s u (.ref a) false:=by
  cases x with
  | non=>cases rx;exact SeqAt.RcAt.none_tuple h hu
  | bl b=>cases rx;exact SeqAt.RcAt.bool_tuple b h hu
  | int b=>obtain ⟨t,rfl⟩:=rx;exact SeqAt.RcAt.int_tuple b t h hu
  | str b=>obtain ⟨t,rfl⟩:=rx;exact SeqAt.RcAt.str_tuple b t h hu
  | _=>exact absurd (show false=true from fx) Bool.false_ne_true
theorem mh {A:Around} {s:Shared} {x:V} {u:Value} {a:Addr} {its:Array Value} (rx:RelV x u) (fx:bX x=true) (h:s.heap.IsTuple a its) (hu:A.units < cLine):SeqAt.RcAt A s (.ref a) u false:=by
  cases x with
  | non=>cases rx;exact SeqAt.RcAt.tuple_none h hu
  | bl b=>cases rx;exact SeqAt.RcAt.tuple_bool b h hu
  | int b=>obtain ⟨t,rfl⟩:=rx;exact SeqAt.RcAt.tuple_int b t h hu
  | str b=>obtain ⟨t,rfl⟩:=rx;exact SeqAt.RcAt.tuple_str b t h hu
  | _=>exact absurd (show false=true from fx) Bool.false_ne_true
theorem oW {A:Around} {s:Shared} {x:V} {u:Value} {a:Addr} {its:Array Value} (rx:RelV x u) (fx:bX x=true) (h:s.heap.IsList a its) (hu:A.units < cLine):SeqAt.RcAt A s u (.ref a) false:=by
  cases x with
  | non=>cases rx;exact SeqAt.RcAt.none_list h hu
  | bl b=>cases rx;exact SeqAt.RcAt.bool_list b h hu
  | int b=>obtain ⟨t,rfl⟩:=rx;exact SeqAt.RcAt.int_list b t h hu
  | str b=>obtain ⟨t,rfl⟩:=rx;exact SeqAt.RcAt.str_list b t h hu
  | _=>exact absurd (show false=true from fx) Bool.false_ne_true
theorem oV {A:Around} {s:Shared} {x:V} {u:Value} {a:Addr} {its:Array Value} (rx:RelV x u) (fx:bX x=true) (h:s.heap.IsList a its) (hu:A.units < cLine):SeqAt.RcAt A s (.ref a) u false:=by
  cases x with
  | non=>cases rx;exact SeqAt.RcAt.list_none h hu
  | bl b=>cases rx;exact SeqAt.RcAt.list_bool b h hu
  | int b=>obtain ⟨t,rfl⟩:=rx;exact SeqAt.RcAt.list_int b t h hu
  | str b=>obtain ⟨t,rfl⟩:=rx;exact SeqAt.RcAt.list_str b t h hu
  | _=>exact absurd (show false=true from fx) Bool.false_ne_true
theorem l9 {A:Around} {s:Shared} {x:V} {u:Value} {a:Addr} {its:Array Value} (rx:RelV x u) (fx:bX x=true) (h:s.heap.IsTuple a its) (hu:A.units < cLine):SeqAt.RcNeAt A s u (.ref a) true:=by
  cases x with
  | non=>cases rx;exact SeqAt.RcNeAt.none_tuple h hu
  | bl b=>cases rx;exact SeqAt.RcNeAt.bool_tuple b h hu
  | int b=>obtain ⟨t,rfl⟩:=rx;exact SeqAt.RcNeAt.int_tuple b t h hu
  | str b=>obtain ⟨t,rfl⟩:=rx;exact SeqAt.RcNeAt.str_tuple b t h hu
  | _=>exact absurd (show false=true from fx) Bool.false_ne_true
theorem l8 {A:Around} {s:Shared} {x:V} {u:Value} {a:Addr} {its:Array Value} (rx:RelV x u) (fx:bX x=true) (h:s.heap.IsTuple a its) (hu:A.units < cLine):SeqAt.RcNeAt A s (.ref a) u true:=by
  cases x with
  | non=>cases rx;exact SeqAt.RcNeAt.tuple_none h hu
  | bl b=>cases rx;exact SeqAt.RcNeAt.tuple_bool b h hu
  | int b=>obtain ⟨t,rfl⟩:=rx;exact SeqAt.RcNeAt.tuple_int b t h hu
  | str b=>obtain ⟨t,rfl⟩:=rx;exact SeqAt.RcNeAt.tuple_str b t h hu
  | _=>exact absurd (show false=true from fx) Bool.false_ne_true
theorem oU {A:Around} {s:Shared} {x:V} {u:Value} {a:Addr} {its:Array Value} (rx:RelV x u) (fx:bX x=true) (h:s.heap.IsList a its) (hu:A.units < cLine):SeqAt.RcNeAt A s u (.ref a) true:=by
  cases x with
  | non=>cases rx;exact SeqAt.RcNeAt.none_list h hu
  | bl b=>cases rx;exact SeqAt.RcNeAt.bool_list b h hu
  | int b=>obtain ⟨t,rfl⟩:=rx;exact SeqAt.RcNeAt.int_list b t h hu
  | str b=>obtain ⟨t,rfl⟩:=rx;exact SeqAt.RcNeAt.str_list b t h hu
  | _=>exact absurd (show false=true from fx) Bool.false_ne_true
theorem oS {A:Around} {s:Shared} {x:V} {u:Value} {a:Addr} {its:Array Value} (rx:RelV x u) (fx:bX x=true) (h:s.heap.IsList a its) (hu:A.units < cLine):SeqAt.RcNeAt A s (.ref a) u true:=by
  cases x with
  | non=>cases rx;exact SeqAt.RcNeAt.list_none h hu
  | bl b=>cases rx;exact SeqAt.RcNeAt.list_bool b h hu
  | int b=>obtain ⟨t,rfl⟩:=rx;exact SeqAt.RcNeAt.list_int b t h hu
  | str b=>obtain ⟨t,rfl⟩:=rx;exact SeqAt.RcNeAt.list_str b t h hu
  | _=>exact absurd (show false=true from fx) Bool.false_ne_true
inductive Top (K:PySem.W.Frag) (H:Hp) (x:V) (d:Dt):Prop
  | flat (f:bX x=true) (h:∀ y e,At K H y e→bX y=true→eqV x y=eqD d e) (h1:∀ es,eqD d (.tup es)=false∧eqD (.tup es) d=false∧eqD d (.lst es)=false∧eqD (.lst es) d=false)
  | tup (a:Addr) (xs:List V) (ds:List Dt) (e1:x = .ref a) (e2:d = .tup ds) (h:SqT K H a xs) (r:Ats K H xs ds)
  | lst (a:Addr) (xs:List V) (ds:List Dt) (e1:x = .ref a) (e2:d = .lst ds) (h:SqL K H a xs) (r:Ats K H xs ds)
theorem At.top {K:PySem.W.Frag} {H:Hp} {x:V} {d:Dt} (h:At K H x d):Top K H x d:=by
  cases h with
  | tup h r=>exact .tup _ _ _ rfl rfl h r
  | lst h r=>exact .lst _ _ _ rfl rfl h r
  | _=>exact .flat rfl (fun y e g f=>by cases g <;> first | (exact absurd f Bool.false_ne_true) | (simp only [eqV,eqD])) (fun es=>by simp [eqD])
theorem fq {X:Cx} {H:Hp} {xs ys:List V} {ds es:List Dt} {us vs:List Value} {C:Value→Value→Bool→Prop} (h:∀ x y d e u v,d∈ds→At X.K H x d→At X.K H y e→RelV x u→RelV y v→C u v (eqD d e))
    (r:Ats X.K H xs ds) (r':Ats X.K H ys es) (rv:Vals xs us) (rv':Vals ys vs):∀ j (h1:j < us.toArray.size) (h2:j < vs.toArray.size),C us.toArray[j] vs.toArray[j] (eqD (ds.getD j .non) (es.getD j .non)):=fun j h1 h2=>by
  have l1:j < xs.length:=by rw [rv.length];simpa using h1
  have l2:j < ys.length:=by rw [rv'.length];simpa using h2
  obtain ⟨u,e1,q1⟩:=rv.get (List.getElem?_eq_getElem l1)
  obtain ⟨v,e2,q2⟩:=rv'.get (List.getElem?_eq_getElem l2)
  obtain ⟨d,e3,q3⟩:=r.get (List.getElem?_eq_getElem l1)
  obtain ⟨e,e4,q4⟩:=r'.get (List.getElem?_eq_getElem l2)
  have a1:us.toArray[j]=u:=by
    have:=List.getElem?_eq_some_iff.mp e1
    obtain ⟨_,z⟩:=this
    simpa using z
  have a2:vs.toArray[j]=v:=by
    obtain ⟨_,z⟩:=List.getElem?_eq_some_iff.mp e2
    simpa using z
  rw [a1,a2,List.getD_eq_getElem?_getD,List.getD_eq_getElem?_getD,e3,e4]
  exact h _ _ _ _ _ _ (List.mem_of_getElem? e3) q3 q4 q1 q2
theorem vt {X:Cx} {pins:List (Addr×Obj)} {σ : St} {H:Hp} {s:Shared} (I:Inv X pins σ H s):∀ (n:Nat) {x y:V} {d e:Dt} {u v:Value},dep d≤n→At X.K H x d→At X.K H y e→RelV x u→RelV y v→∀ A:Around,A.units+n < cLine→SeqAt.EqAt A s u v (eqD d e):=by
  intro n
  induction n with
  | zero=>
    intro x y d e u v hd hx hy rx ry A hA
    rcases hx.top with ⟨f,h,h1⟩ | ⟨a,xs,ds,rfl,rfl,h,r⟩ | ⟨a,xs,ds,rfl,rfl,h,r⟩
    · rcases hy.top with ⟨f',h',h1'⟩ | ⟨b,ys,es,rfl,rfl,h',r'⟩ | ⟨b,ys,es,rfl,rfl,h',r'⟩
      · rw [← h y e hy f'];exact tZ rx ry f f'
      · obtain ⟨its,rv,ht,_⟩:=I.tuple h'
        cases ry;rw [(h1 es).1];exact iz rx f ht (by omega)
      · obtain ⟨its,rv,ht,_⟩:=I.list h'
        cases ry;rw [(h1 es).2.2.1];exact jg rx f ht.isList (by omega)
    · simp [dep] at hd
    · simp [dep] at hd
  | succ n ih=>
    intro x y d e u v hd hx hy rx ry A hA
    have hu:A.units < cLine:=by omega
    rcases hx.top with ⟨f,h,h1⟩ | ⟨a,xs,ds,rfl,rfl,h,r⟩ | ⟨a,xs,ds,rfl,rfl,h,r⟩
    · rcases hy.top with ⟨f',h',h1'⟩ | ⟨b,ys,es,rfl,rfl,h',r'⟩ | ⟨b,ys,es,rfl,rfl,h',r'⟩
      · rw [← h y e hy f'];exact tZ rx ry f f'
      · obtain ⟨its,rv,ht,_⟩:=I.tuple h'
        cases ry;rw [(h1 es).1];exact iz rx f ht hu
      · obtain ⟨its,rv,ht,_⟩:=I.list h'
        cases ry;rw [(h1 es).2.2.1];exact jg rx f ht.isList hu
    · obtain ⟨its,rv,ht,_⟩:=I.tuple h
      cases rx
      rw [dep] at hd
      rcases hy.top with ⟨f',h',h1'⟩ | ⟨b,ys,es,rfl,rfl,h',r'⟩ | ⟨b,ys,es,rfl,rfl,h',r'⟩
      · rw [(h1' ds).2.1];exact mz ry f' ht hu
      · cases ry
        obtain ⟨its',rv',ht',_⟩:=I.tuple h'
        by_cases hab:a=b
        · subst hab
          have e:=I.jx h h'
          subst e
          rw [Ats.inj I r r',gx]
          exact SeqAt.EqAt.same _
        · have q:=SeqAt.RcAt.tuples (A:=A) (e:=fun j=>eqD (ds.getD j .non) (es.getD j .non)) ht ht' hu (fq (C:=fun u v k=>SeqAt.EqAt A.in1 s u v k) (fun x y d e u v hm hx hy rx ry=>ih (Nat.le_trans (fL hm) (by omega)) hx hy rx ry A.in1 (by show A.units+1+n < _;omega)) r r' rv rv')
          have l1:its.toArray.size=ds.length:=by rw [List.size_toArray,← rv.length,r.len]
          have l2:its'.toArray.size=es.length:=by rw [List.size_toArray,← rv'.length,r'.len]
          rw [l1,l2,dG] at q
          rw [eqD]
          exact SeqAt.EqAt.of_refs hab q
      · cases ry
        obtain ⟨its',rv',ht',_⟩:=I.list h'
        rw [show eqD (.tup ds) (.lst es)=false by simp [eqD]]
        exact SeqAt.EqAt.tuple_list ht ht'.isList hu
    · obtain ⟨its,rv,ht,_⟩:=I.list h
      cases rx
      rw [dep] at hd
      rcases hy.top with ⟨f',h',h1'⟩ | ⟨b,ys,es,rfl,rfl,h',r'⟩ | ⟨b,ys,es,rfl,rfl,h',r'⟩
      · rw [(h1' ds).2.2.2];exact pM ry f' ht.isList hu
      · cases ry
        obtain ⟨its',rv',ht',_⟩:=I.tuple h'
        rw [show eqD (.lst ds) (.tup es)=false by simp [eqD]]
        exact SeqAt.EqAt.list_tuple ht.isList ht' hu
      · cases ry
        obtain ⟨its',rv',ht',_⟩:=I.list h'
        by_cases hab:a=b
        · subst hab
          have e:=I.lH h h'
          subst e
          rw [Ats.inj I r r',gx]
          exact SeqAt.EqAt.same _
        · refine SeqAt.EqAt.of_refs hab ?_
          have l1:its.toArray.size=ds.length:=by rw [List.size_toArray,← rv.length,r.len]
          have l2:its'.toArray.size=es.length:=by rw [List.size_toArray,← rv'.length,r'.len]
          rw [eqD]
          by_cases hl:ds.length=es.length
          · have q:=SeqAt.RcAt.lists (A:=A) (e:=fun j=>eqD (ds.getD j .non) (es.getD j .non)) ht.isList ht'.isList (by rw [l1,l2,hl]) hu (fq (C:=fun u v k=>SeqAt.EqAt A.in1 s u v k) (fun x y d e u v hm hx hy rx ry=>ih (Nat.le_trans (fL hm) (by omega)) hx hy rx ry A.in1 (by show A.units+1+n < _;omega)) r r' rv rv')
            have z:=dG ds es
            rw [hl,Nat.min_self,beq_self_eq_true,Bool.and_true] at z
            rw [l1,hl,z] at q
            exact q
          · rw [jR hl]
            exact SeqAt.RcAt.lists_lengths ht.isList ht'.isList (by rw [l1,l2];simpa using hl) hu
theorem F4 {X:Cx} {pins:List (Addr×Obj)} {σ : St} {H:Hp} {s:Shared} (I:Inv X pins σ H s) {n:Nat} {x y:V} {d e:Dt} {u v:Value} (hd:dep d≤n) (hx:At X.K H x d) (hy:At X.K H y e) (rx:RelV x u) (ry:RelV y v) (A:Around) (hA:A.units+1+n < cLine):SeqAt.RcAt A s u v (eqD d e):=by
  have hu:A.units < cLine:=by omega
  rcases hx.top with ⟨f,h,h1⟩ | ⟨a,xs,ds,rfl,rfl,h,r⟩ | ⟨a,xs,ds,rfl,rfl,h,r⟩
  · rcases hy.top with ⟨f',h',h1'⟩ | ⟨b,ys,es,rfl,rfl,h',r'⟩ | ⟨b,ys,es,rfl,rfl,h',r'⟩
    · rw [← h y e hy f'];exact HZ rx ry f f'
    · obtain ⟨its,rv,ht,_⟩:=I.tuple h'
      cases ry;rw [(h1 es).1];exact mj rx f ht hu
    · obtain ⟨its,rv,ht,_⟩:=I.list h'
      cases ry;rw [(h1 es).2.2.1];exact oW rx f ht.isList hu
  · obtain ⟨its,rv,ht,_⟩:=I.tuple h
    cases rx
    rw [dep] at hd
    rcases hy.top with ⟨f',h',h1'⟩ | ⟨b,ys,es,rfl,rfl,h',r'⟩ | ⟨b,ys,es,rfl,rfl,h',r'⟩
    · rw [(h1' ds).2.1];exact mh ry f' ht hu
    · cases ry
      obtain ⟨its',rv',ht',_⟩:=I.tuple h'
      have q:=SeqAt.RcAt.tuples (A:=A) (e:=fun j=>eqD (ds.getD j .non) (es.getD j .non)) ht ht' hu (fq (C:=fun u v k=>SeqAt.EqAt A.in1 s u v k) (fun x y d e u v hm hx hy rx ry=>vt I n (Nat.le_trans (fL hm) (by omega)) hx hy rx ry A.in1 (by show A.units+1+n < _;omega)) r r' rv rv')
      have l1:its.toArray.size=ds.length:=by rw [List.size_toArray,← rv.length,r.len]
      have l2:its'.toArray.size=es.length:=by rw [List.size_toArray,← rv'.length,r'.len]
      rw [l1,l2,dG] at q
      rw [eqD]
      exact q
    · cases ry
      obtain ⟨its',rv',ht',_⟩:=I.list h'
      rw [show eqD (.tup ds) (.lst es)=false by simp [eqD]]
      exact SeqAt.RcAt.tuple_list ht ht'.isList hu
  · obtain ⟨its,rv,ht,_⟩:=I.list h
    cases rx
    rw [dep] at hd
    rcases hy.top with ⟨f',h',h1'⟩ | ⟨b,ys,es,rfl,rfl,h',r'⟩ | ⟨b,ys,es,rfl,rfl,h',r'⟩
    · rw [(h1' ds).2.2.2];exact oV ry f' ht.isList hu
    · cases ry
      obtain ⟨its',rv',ht',_⟩:=I.tuple h'
      rw [show eqD (.lst ds) (.tup es)=false by simp [eqD]]
      exact SeqAt.RcAt.list_tuple ht.isList ht' hu
    · cases ry
      obtain ⟨its',rv',ht',_⟩:=I.list h'
      have l1:its.toArray.size=ds.length:=by rw [List.size_toArray,← rv.length,r.len]
      have l2:its'.toArray.size=es.length:=by rw [List.size_toArray,← rv'.length,r'.len]
      rw [eqD]
      by_cases hl:ds.length=es.length
      · have q:=SeqAt.RcAt.lists (A:=A) (e:=fun j=>eqD (ds.getD j .non) (es.getD j .non)) ht.isList ht'.isList (by rw [l1,l2,hl]) hu (fq (C:=fun u v k=>SeqAt.EqAt A.in1 s u v k) (fun x y d e u v hm hx hy rx ry=>vt I n (Nat.le_trans (fL hm) (by omega)) hx hy rx ry A.in1 (by show A.units+1+n < _;omega)) r r' rv rv')
        have z:=dG ds es
        rw [hl,Nat.min_self,beq_self_eq_true,Bool.and_true] at z
        rw [l1,hl,z] at q
        exact q
      · rw [jR hl]
        exact SeqAt.RcAt.lists_lengths ht.isList ht'.isList (by rw [l1,l2];simpa using hl) hu
theorem Bc {X:Cx} {pins:List (Addr×Obj)} {σ : St} {H:Hp} {s:Shared} (I:Inv X pins σ H s) {n:Nat} {x y:V} {d e:Dt} {u v:Value} (hd:dep d≤n) (hx:At X.K H x d) (hy:At X.K H y e) (rx:RelV x u) (ry:RelV y v) (A:Around) (hA:A.units+1+n < cLine):SeqAt.RcNeAt A s u v (!eqD d e):=by
  have hu:A.units < cLine:=by omega
  rcases hx.top with ⟨f,h,h1⟩ | ⟨a,xs,ds,rfl,rfl,h,r⟩ | ⟨a,xs,ds,rfl,rfl,h,r⟩
  · rcases hy.top with ⟨f',h',h1'⟩ | ⟨b,ys,es,rfl,rfl,h',r'⟩ | ⟨b,ys,es,rfl,rfl,h',r'⟩
    · rw [← h y e hy f'];exact DW rx ry f f'
    · obtain ⟨its,rv,ht,_⟩:=I.tuple h'
      cases ry;rw [(h1 es).1];exact l9 rx f ht hu
    · obtain ⟨its,rv,ht,_⟩:=I.list h'
      cases ry;rw [(h1 es).2.2.1];exact oU rx f ht.isList hu
  · obtain ⟨its,rv,ht,_⟩:=I.tuple h
    cases rx
    rw [dep] at hd
    rcases hy.top with ⟨f',h',h1'⟩ | ⟨b,ys,es,rfl,rfl,h',r'⟩ | ⟨b,ys,es,rfl,rfl,h',r'⟩
    · rw [(h1' ds).2.1];exact l8 ry f' ht hu
    · cases ry
      obtain ⟨its',rv',ht',_⟩:=I.tuple h'
      have q:=SeqAt.RcNeAt.tuples (A:=A) (e:=fun j=>eqD (ds.getD j .non) (es.getD j .non)) ht ht' hu (fq (C:=fun u v k=>SeqAt.EqAt A.in1 s u v k) (fun x y d e u v hm hx hy rx ry=>vt I n (Nat.le_trans (fL hm) (by omega)) hx hy rx ry A.in1 (by show A.units+1+n < _;omega)) r r' rv rv')
      have l1:its.toArray.size=ds.length:=by rw [List.size_toArray,← rv.length,r.len]
      have l2:its'.toArray.size=es.length:=by rw [List.size_toArray,← rv'.length,r'.len]
      rw [l1,l2,dG] at q
      rw [eqD]
      exact q
    · cases ry
      obtain ⟨its',rv',ht',_⟩:=I.list h'
      rw [show eqD (.tup ds) (.lst es)=false by simp [eqD]]
      exact SeqAt.RcNeAt.tuple_list ht ht'.isList hu
  · obtain ⟨its,rv,ht,_⟩:=I.list h
    cases rx
    rw [dep] at hd
    rcases hy.top with ⟨f',h',h1'⟩ | ⟨b,ys,es,rfl,rfl,h',r'⟩ | ⟨b,ys,es,rfl,rfl,h',r'⟩
    · rw [(h1' ds).2.2.2];exact oS ry f' ht.isList hu
    · cases ry
      obtain ⟨its',rv',ht',_⟩:=I.tuple h'
      rw [show eqD (.lst ds) (.tup es)=false by simp [eqD]]
      exact SeqAt.RcNeAt.list_tuple ht.isList ht' hu
    · cases ry
      obtain ⟨its',rv',ht',_⟩:=I.list h'
      have l1:its.toArray.size=ds.length:=by rw [List.size_toArray,← rv.length,r.len]
      have l2:its'.toArray.size=es.length:=by rw [List.size_toArray,← rv'.length,r'.len]
      rw [eqD]
      by_cases hl:ds.length=es.length
      · have q:=SeqAt.RcNeAt.lists (A:=A) (e:=fun j=>eqD (ds.getD j .non) (es.getD j .non)) ht.isList ht'.isList (by rw [l1,l2,hl]) hu (fq (C:=fun u v k=>SeqAt.EqAt A.in1 s u v k) (fun x y d e u v hm hx hy rx ry=>vt I n (Nat.le_trans (fL hm) (by omega)) hx hy rx ry A.in1 (by show A.units+1+n < _;omega)) r r' rv rv')
        have z:=dG ds es
        rw [hl,Nat.min_self,beq_self_eq_true,Bool.and_true] at z
        rw [l1,hl,z] at q
        exact q
      · rw [jR hl]
        exact SeqAt.RcNeAt.lists_lengths ht.isList ht'.isList (by rw [l1,l2];simpa using hl) hu
def D4 (K:PySem.W.Frag):R2:=fun x y H Q=>∃ d e,At K H x d∧At K H y e∧dep d≤100∧Q (.bl (eqD d e)) H
def D0 (K:PySem.W.Frag):R2:=fun x y H Q=>∃ d e,At K H x d∧At K H y e∧dep d≤100∧Q (.bl (!eqD d e)) H
theorem zj {X:Cx} (hr:cy 0 X.A):OpR X (compareOp .Eq) (D4 X.K):=by
  intro pins s σ H x y v u Q I rx ry h
  obtain ⟨d,e,hx,hy,hd,q⟩:=h
  exact F4 I hd hx hy rx ry X.A (by have:=hr.un;omega) _ _ _ _ ⟨.bl _,H,I,rfl,q⟩
theorem jG {X:Cx} (hr:cy 0 X.A):OpR X (compareOp .NotEq) (D0 X.K):=by
  intro pins s σ H x y v u Q I rx ry h
  obtain ⟨d,e,hx,hy,hd,q⟩:=h
  exact Bc I hd hx hy rx ry X.A (by have:=hr.un;omega) _ _ _ _ ⟨.bl _,H,I,rfl,q⟩
theorem EY {K:PySem.W.Frag} {x y:V} {H:Hp} {Q:VK} {d:Dt} (hx:At K H x d) (hy:At K H y d) (hd:dep d≤100) (h:Q (.bl true) H):D4 K x y H Q:=⟨d,d,hx,hy,hd,by rw [gx];exact h⟩
theorem jP {K:PySem.W.Frag} {x y:V} {H:Hp} {Q:VK} {d:Dt} (hx:At K H x d) (hy:At K H y d) (hd:dep d≤100) (h:Q (.bl false) H):D0 K x y H Q:=⟨d,d,hx,hy,hd,by rw [gx];exact h⟩
theorem Hq {K:PySem.W.Frag} {x y:V} {H:Hp} {Q:VK} {d e:Dt} (hx:At K H x d) (hy:At K H y e) (hd:dep d≤100) (h:Q (.bl (eqD d e)) H):D4 K x y H Q:=⟨d,e,hx,hy,hd,h⟩
end L4
namespace L4
open PySem PySem.Spec PyProof.Rows L2 L3
theorem gG:∀ {ns:List Int} {us:List Value},IntsAre us ns→Vals (ns.map V.int) us
  | _,_,.nil=>.nil
  | _,_,.cons n t r=>.cons ⟨t,rfl⟩ (gG r)
theorem jv:∀ {ns:List Str} {us:List Value},StrsAre us ns→Vals (ns.map V.str) us
  | _,_,.nil=>.nil
  | _,_,.cons n t r=>.cons ⟨t,rfl⟩ (jv r)
section
variable {X:Cx}
end
end L4
namespace L4
open PySem PySem.Spec PyProof.Rows L2 L3
def ZIt (k:Bool) (h:Heap) (i a:Addr) (n:Nat):Prop:=match k with | true=>h.IsListIter i a n | false=>h.IsTupleIter i a n
def ZSr (k:Bool) (h:Heap) (a:Addr) (xs:Array Value):Prop:=match k with | true=>h.IsList a xs | false=>h.IsTuple a xs
section
variable {prog:Program} {w:World} {A:Around} {E:Value→Shared→Prop} {s:Shared}
structure ZAp (z T O i j:Addr):Prop where
  nd:[z,T,O,i,j].Nodup
structure ZAt (k1 k2:Bool) (h:Heap) (z T O i j a b:Addr) (f:Value) (n:Nat):Prop where
  z:IsZip h z T O f
  t:IsPair h T (.ref i) (.ref j)
  o:∃ x y,IsPair h O x y
  i:ZIt k1 h i a n
  j:ZIt k2 h j b n
end
section
variable {X:Cx} {pins:List (Addr×Obj)} {σ : St} {H:Hp} {s:Shared} {h':Heap} {ch:List Addr}
def SqK (k:Bool) (K:PySem.W.Frag) (H:Hp) (a:Addr) (xs:List V):Prop:=match k with | true=>SqL K H a xs | false=>SqT K H a xs
theorem SqK.get {k:Bool} {a:Addr} {xs:List V} (I:Inv X pins σ H s) (q:SqK k X.K H a xs):∃ its:List Value,Vals xs its∧ZSr k s.heap a its.toArray:=by
  cases k with
  | true=>obtain ⟨its,r,p,_⟩:=I.list q;exact ⟨its,r,p.isList⟩
  | false=>obtain ⟨its,r,p,_⟩:=I.tuple q;exact ⟨its,r,p⟩
end
end L4
namespace HT2
open PySem PyProof.Rows HT
section
open PySem.SeqAt
open PySem.AutoSeq1 (wpAny_loadPart')
open PySem.MeetsSeq PySem.MeetsSeq2 PySem.MeetsSeq3
end
section
variable {prog:Program} {w:World} {A:Around} {E:Value→Shared→Prop} {s:Shared}
end
end HT2
namespace L4
open PySem PySem.Spec PyProof.Rows L2 L3
section
variable {prog:Program} {w:World} {A:Around} {R:Result→Shared→Prop} {I S:Addr} {fp wr:List Addr} {n:Nat} {P:Nat→Value→Prop} {St:Nat→Heap→Prop} {bt:Nat→Nat→Bool} {h0:Heap} {kw:List (Str×Value)}
end
section
variable {prog:Program} {w:World} {A:Around} {E:Value→Shared→Prop} {s:Shared}
end
section
variable {prog:Program} {w:World} {A:Around} {R:Result→Shared→Prop} {I S:Addr} {fp wr:List Addr} {n:Nat} {P:Nat→Value→Prop} {St:Nat→Heap→Prop} {bt:Nat→Nat→Bool} {h0:Heap} {kw:List (Str×Value)}
end
section
variable {prog:Program} {w:World} {A:Around} {E:Value→Shared→Prop} {s:Shared}
end

section
variable {X:Cx}
end
section
variable {H:Hp} {Q:VK}
end
section
variable {K:PySem.W.Frag} {P:Addr→Prop} {H0 H H':Hp} {l l' l2:List (Addr×Ob)} {fs:List Pr} {p r:Addr} {Q:VK} {xs ys:List V} {lo hi:Option Int}
theorem GO (L:Led P H0 H l fs) (m:cz p xs∈fs) (hw:¬ (HT.sIx xs.length 0 lo=0∧HT.sIx xs.length xs.length hi=xs.length)) (h:∀ b H',H b=none→Led P H0 H' l (cz b (jh xs lo hi)::fs)→az H H'→Q (.ref b) H'):DX K (.ref p) lo hi H Q:=
  ⟨p,xs,rfl,SqT.of (L.tup m),hw,fun b nb=>h b _ nb (L.BK nb) (aQ nb)⟩
end
end L4
namespace L4
open PySem PySem.Spec PyProof.Rows
def ExcAt (h:Heap) (x:Addr) (C:Value) (dx T:Option Addr) (fl:Value):Prop:=
  ∃ oe vs,h.get? x=some oe∧oe.cls=C∧oe.dict=dx∧oe.data = .fields vs∧vs[1]?=some (T.elim .none .ref)∧∀ t,T=some t→t≠x∧∃ oT ts,h.get? t=some oT∧oT.data = .fields ts∧ts[3]?=some fl
def E9 (l:List Env):List Addr:=l.filterMap (·.frame)
structure But (x:Addr) (T:Option Addr) (fs:List Addr) (h h':Heap):Prop where
  keep:∀ b o,h.get? b=some o→b≠x→some b≠T→b∉fs→h'.get? b=some o
  slot:∀ b o,h.get? b=some o→b≠x→some b≠T→∃ sl,h'.get? b=some { o with slots:=sl }
  there:∀ b o,h.get? b=some o→∃ o',h'.get? b=some o'
theorem But.refl {x:Addr} {T:Option Addr} {fs:List Addr} {h:Heap}:But x T fs h h:=⟨fun _ _ e _ _ _=>e,fun _ o e _ _=>⟨o.slots,e⟩,fun _ o e=>⟨o,e⟩⟩
theorem ExcAt.there {h:Heap} {x:Addr} {C:Value} {dx T:Option Addr} {fl:Value} (e:ExcAt h x C dx T fl):∃ o,h.get? x=some o:=let ⟨o,_,q,_⟩:=e;⟨o,q⟩
section
variable {M:Model} {A:Around} {E:Value→Shared→Prop} {s:Shared} {base:Heap} {env:Env} {outer:List Env} {L x t:Addr} {C fl:Value} {dx T:Option Addr} {Q:Unit→Shared→Prop}
theorem dW {fr:Option Addr} (he:ExcAt s.heap x C dx (some t) fl) (h:∀ h',ExcAt h' x C dx (some t) (fr.elim .none fun f=>rawInt f)→But x (some t) [] s.heap h'→Q () { s with heap:=h' }):wpAny M A (setFlight (.ref x) fr) Q E s:=by
  obtain ⟨oe,vs,e1,e2,e3,e4,e5,e6⟩:=he
  obtain ⟨ne,oT,ts,f1,f2,f3⟩:=e6 t rfl
  have hz : 3 < ts.size:=(Array.getElem?_eq_some_iff.mp f3).1
  have oth:∀ b,b≠t→(s.heap.update t (Obj.mapFields (·.setIfInBounds 3 (fr.elim .none fun f=>rawInt f)))).get? b=s.heap.get? b:=fun b hb=>Heap.get?_update_other _ _ (Ne.symm hb)
  have d3:=Obj.data_mapFields f2 (·.setIfInBounds 3 (fr.elim .none fun f=>rawInt f))
  have self:=Heap.get?_update_self (Obj.mapFields (·.setIfInBounds 3 (fr.elim .none fun f=>rawInt f))) f1 (Obj.isFreed_of_fields d3)
  unfold setFlight
  refine wpAny_bind (wpAny_field e1 e4 e5 ?_)
  rw [if_pos (show (((some t).elim Value.none Value.ref) != Value.none)=true from by simp)]
  refine wpAny_setField f1 f2 hz (h _ ⟨oe,vs,(oth x (Ne.symm ne)).trans e1,e2,e3,e4,e5,fun t' ht=>?_⟩ ⟨fun b o q _ n _=>?_,fun b o q _ n=>?_,fun b o q=>?_⟩)
  · cases ht
    exact ⟨ne,_,_,self,d3,by simp [hz]⟩
  · exact (oth b fun z=>n (by rw [z])).trans q
  · exact ⟨o.slots,(oth b fun z=>n (by rw [z])).trans q⟩
  · by_cases z:b=t
    · exact ⟨_,by rw [z];exact self⟩
    · exact ⟨o,(oth b z).trans q⟩
theorem nj {head:Value} {hadNext:Bool} {oe:Obj} {vs:Array Value} (hfr:A.frames=some (env::outer)) (hl:s.heap.FunFrames base (env::outer)) (hf:env.frame=some L)
    (e1:s.heap.get? x=some oe) (e4:oe.data = .fields vs) (hz : 1 < vs.size)
    (h:∀ h' t',ExcAt h' x oe.cls oe.dict (some t') (rawInt L)→But x none (E9 (env::outer)) s.heap h'→s.heap.objs.size≤t'→Q () { s with heap:=h' }) :
    wpAny M A (do let a ← frameOf env;let pl ← entryPlaceOf L hadNext;let b ← EntryCells.newEntry head a .none (rawInt L) .none pl;setField (.ref x) 1 b) Q E s:=by
  have nfr:x∉(env::outer).filterMap (·.frame):=fun hm=>by
    obtain ⟨_,o,ho,hn⟩:=hl.mem hm
    rw [e1] at ho;cases ho;exact hn vs e4
  refine wpAny_bind (wpAny_frameOf_fun hfr hl hf fun h1 s1=>?_)
  refine wpAny_bind (wpAny_entryPlaceOf fun pl hpl=>?_)
  unfold EntryCells.newEntry newFields
  refine wpAny_bind (wpAny_newObj_type ?_ (hpl.sizeOk5 _ _ _ _ _))
  have x1:h1.get? x=some oe:=(s1.2.1 x nfr).trans e1
  generalize hnew:({ cls:=.type "traceback",dict:=none,data:=.fields ([head,.ref L,.none,rawInt L,.none]++(if pl.isEmpty then List.replicate 6 Value.none else pl)).toArray }:Obj)=new
  have x2:=Heap.get?_push_of_some (h:=h1) new x1
  have x3:h1.objs.size≠x:=Nat.ne_of_gt (Heap.lt_size x1)
  have d3:=Obj.data_mapFields e4 (·.setIfInBounds 1 (Value.ref h1.objs.size))
  have x4:=Heap.get?_update_self (Obj.mapFields (·.setIfInBounds 1 (Value.ref h1.objs.size))) x2 (Obj.isFreed_of_fields d3)
  have x5:=(Heap.get?_update_other (h1.push new) (Obj.mapFields (·.setIfInBounds 1 (Value.ref h1.objs.size))) (Ne.symm x3)).trans (Heap.get?_push_size h1 (by subst hnew;rfl))
  have up:∀ b o,b≠x→h1.get? b=some o→((h1.push new).update x (Obj.mapFields (·.setIfInBounds 1 (Value.ref h1.objs.size)))).get? b=some o:=fun b o n q=>by
    rw [Heap.get?_update_other _ _ (Ne.symm n)];exact Heap.get?_push_of_some _ q
  refine wpAny_setField x2 e4 hz (h _ h1.objs.size ⟨_,_,x4,Obj.cls_mapFields _ _,?_,d3,by simp [hz],fun t' ht=>?_⟩ ⟨fun b o q n _ nf=>?_,fun b o q n _=>?_,fun b o q=>?_⟩ ?_)
  · cases oe with | mk c d da sl=>cases da <;> rfl
  · cases ht
    refine ⟨x3,new,_,x5,by subst hnew;rfl,?_⟩
    first | (simp;done) | (rcases hpl with rfl | ⟨_,_,_,_,_,_,_,rfl⟩ <;> simp)
  · exact up b o n ((s1.2.1 b nf).trans q)
  · obtain ⟨sl,e⟩:=s1.2.2 b o q
    exact ⟨sl,up b _ n e⟩
  · by_cases z:b=x
    · exact ⟨_,by rw [z];exact x4⟩
    · obtain ⟨sl,e⟩:=s1.2.2 b o q
      exact ⟨_,up b _ z e⟩
  · exact s1.1▸Nat.le_refl _
theorem iI (hfr:A.frames=some (env::outer)) (hl:s.heap.FunFrames base (env::outer)) (hf:env.frame=some L) (he:ExcAt s.heap x C dx T fl) (hfl:fl = .none∨fl=rawInt L)
    (h:∀ h' t',ExcAt h' x C dx (some t') (rawInt L)→But x T (E9 (env::outer)) s.heap h'→(some t'=T∨s.heap.objs.size≤t')→Q () { s with heap:=h' }):wpAny M A (noteFrame (.ref x) env) Q E s:=by
  obtain ⟨oe,vs,e1,rfl,rfl,e4,e5,e6⟩:=he
  have hz : 1 < vs.size:=(Array.getElem?_eq_some_iff.mp e5).1
  unfold noteFrame
  simp only [hf]
  refine wpAny_bind (wpAny_field e1 e4 e5 ?_)
  cases T with
  | none=>
    rw [if_neg (by decide)]
    exact nj hfr hl hf e1 e4 hz fun h' t' a b c=>h h' t' a b (.inr c)
  | some t=>
    obtain ⟨ne,oT,ts,f1,f2,f3⟩:=e6 t rfl
    rw [if_pos (show (((some t).elim Value.none Value.ref) != Value.none)=true from by simp)]
    refine wpAny_bind (wpAny_field f1 f2 f3 ?_)
    by_cases z:fl=rawInt L
    · subst z
      rw [if_pos (by simp)]
      exact wpAny_pure (h _ t ⟨oe,vs,e1,rfl,rfl,e4,e5,fun t' ht=>by cases ht;exact ⟨ne,oT,ts,f1,f2,f3⟩⟩ But.refl (.inl rfl))
    · obtain rfl:fl = .none:=hfl.resolve_right z
      rw [if_neg (show ¬ ((Value.none == rawInt L)=true) from by simp [rawInt])]
      refine wpAny_bind (wpAny_setField f1 f2 (Array.getElem?_eq_some_iff.mp f3).1 ?_)
      have oth:∀ b,b≠t→(s.heap.update t (Obj.mapFields (·.setIfInBounds 3 Value.none))).get? b=s.heap.get? b:=fun b hb=>Heap.get?_update_other _ _ (Ne.symm hb)
      have self:=Heap.get?_update_self (Obj.mapFields (·.setIfInBounds 3 Value.none)) f1 (Obj.isFreed_of_fields (Obj.data_mapFields f2 _))
      refine nj (base:=base) (outer:=outer) hfr (hl.of_keeps fun b o q hn=>⟨o,(oth b fun z=>?_).trans q,rfl⟩) hf ((oth x (Ne.symm ne)).trans e1) e4 hz fun h' t' a b c=>h h' t' a ⟨fun b' o q n m nf=>?_,fun b' o q n m=>?_,fun b' o q=>?_⟩ (.inr ?_)
      · subst z;rw [f1] at q;cases q;exact hn ts f2
      · exact b.keep b' o ((oth b' fun z=>m (by rw [z])).trans q) n (by simp) nf
      · exact b.slot b' o ((oth b' fun z=>m (by rw [z])).trans q) n (by simp)
      · by_cases z:b'=t
        · exact b.there b' _ (by rw [z];exact self)
        · exact b.there b' o ((oth b' z).trans q)
      · simpa using c
theorem wI (hfr:A.frames=some (env::outer)) (hl:s.heap.FunFrames base (env::outer)) (hf:env.frame=some L) (he:ExcAt s.heap x C dx T fl) (hfl:fl = .none∨fl=rawInt L)
    (h:∀ h' t',ExcAt h' x C dx (some t') .none→But x T (E9 (env::outer)) s.heap h'→(some t'=T∨s.heap.objs.size≤t')→Q () { s with heap:=h' }):wpAny M A (leaving env (.ref x)) Q E s:=by
  unfold leaving
  refine wpAny_bind (iI hfr hl hf he hfl fun h1 t1 a b c=>?_)
  refine dW (fr:=none) a fun h2 a2 b2=>h h2 t1 a2 ⟨fun b' o q n m nf=>?_,fun b' o q n m=>?_,fun b' o q=>?_⟩ c
  · refine b2.keep b' o (b.keep b' o q n m nf) n (fun z=>?_) (by simp)
    rcases c with c | c
    · exact m (z.trans c)
    · have lt:=Heap.lt_size q;cases z;exact absurd lt (Nat.not_lt.mpr c)
  · obtain ⟨sl,e⟩:=b.slot b' o q n m
    refine ⟨sl,b2.keep b' _ e n (fun z=>?_) (by simp)⟩
    rcases c with c | c
    · exact m (z.trans c)
    · have lt:=Heap.lt_size q;cases z;exact absurd lt (Nat.not_lt.mpr c)
  · obtain ⟨o1,e⟩:=b.there b' o q
    exact b2.there b' o1 e
end
end L4
namespace L4
open PySem PySem.Spec PyProof.Rows L2 L3
structure eG (X:Cx) (pins:List (Addr×Obj)) (H:Hp) (b:Addr):Prop where
  no:H b=none
  ab:X.s₀.heap.objs.size≤b
  lo:b≠X.env.locals
  ce:∀ x c,X.env.cells.lookup x=some c→c≠b
  pi:∀ p∈X.pn++pins,p.1≠b
def CX1 (P:Program) (w:World):CXT:=fun outer H s E e s'=>∃ x C dx t H',e=Value.ref x∧s'.os=s.os∧AllBare s'.gens∧Un (frs outer) [] H H' s.heap s'.heap∧HOk P w H' s'.heap ∧
  ExcAt s'.heap x C dx (some t) .none∧s.heap.objs.size≤x∧s.heap.objs.size≤t∧H' x=none∧H' t=none∧E C dx H'
theorem tE {P:Program} {w:World}:bN (CX1 P w):=fun _ _ _ _ _ ⟨_,_,_,_,_,_,_,_,_,_,_,_,_,_,_,h⟩=>h
def XS (X:Cx) (Ex:St→XK) (e:Value) (s':Shared):Prop:=∃ pins σ H x C dx T fl,e=Value.ref x∧Inv X pins σ H s'∧ExcAt s'.heap x C dx T fl∧(fl = .none∨fl=rawInt X.env.locals)∧eG X pins H x∧(∀ t,T=some t→eG X pins H t)∧Ex σ C dx H
def PaX (X:Cx) (Ex:St→XK):Prop:=∀ e s',XS X Ex e s'→X.xe e s'
section
variable {X:Cx} {pins:List (Addr×Obj)} {σ : St} {H H':Hp} {s s':Shared} {Ex:St→XK} {e:Value}
theorem cP (I:Inv X pins σ H s) {b:Addr} (hb:s.heap.objs.size≤b) (n:H' b=none):eG X pins H' b:=
  ⟨n,Nat.le_trans I.sz hb,Nat.ne_of_gt (Nat.lt_of_lt_of_le I.lt hb),fun x c e z=>by
    obtain ⟨v,o,ho,_⟩:=I.cell x c e
    exact absurd (Heap.lt_size ho) (by rw [z];exact Nat.not_lt.mpr hb),fun p hp z=>by
    have:=(I.pin p hp).1
    exact absurd (Heap.lt_size this) (by rw [z];exact Nat.not_lt.mpr hb)⟩
theorem fK {x:Addr} {T:Option Addr} {h':Heap} (I:Inv X pins σ H s) (hx:eG X pins H x) (hT:∀ t,T=some t→eG X pins H t) (b:But x T (frs X.stack) s.heap h'):Inv X pins σ H { s with heap:=h' }:=by
  have nx:∀ c,c∉x::T.toList→c≠x∧some c≠T:=fun c hc=>⟨fun z=>hc (by rw [z];exact List.mem_cons_self),fun z=>hc (List.mem_cons_of_mem _ (by rw [← z];simp))⟩
  refine I.Au (s':={ s with heap:=h' }) (ch:=x::T.toList) rfl ⟨fun c o q _ nf nc=>b.keep c o q (nx c nc).1 (nx c nc).2 nf,fun c o q _ _ nc=>b.slot c o q (nx c nc).1 (nx c nc).2,fun _ _ _ n _=>n,fun c o q _=>b.there c o q,fun _ _ q=>q,fun _ _ _ q=>q,fun _ ps q=>⟨#[],by rw [q];simp⟩⟩ (fun a o q=>?_) I.bare (fun c hc=>?_)
  · refine (I.hok a o q).stay (fun c u hc r=>?_) (fun _ r=>r) fun _ _ r=>r
    obtain ⟨v,hv⟩:∃ v,H c=some v:=by
      rcases hc with rfl | hc
      · exact ⟨_,q⟩
      · exact ⟨_,hc⟩
    refine b.keep c u r (fun z=>?_) (fun z=>?_) (fun z=>?_)
    · rw [z,hx.no] at hv;cases hv
    · rw [(hT c z.symm).no] at hv;cases hv
    · rw [I.oB c z] at hv;cases hv
  · have w:eG X pins H c:=by
      rcases List.mem_cons.mp hc with rfl | hc
      · exact hx
      · exact hT c (by simpa using hc)
    exact ⟨.inr w.ab,w.lo,w.ce,w.pi⟩
theorem uC (I:Inv X pins σ H s) (h:CX1 X.prog X.w X.stack H s (Ex σ) e s'):XS X Ex e s':=by
  obtain ⟨x,C,dx,t,H',rfl,os,bare,un,hok,ex,x1,t1,nx,nt,q⟩:=h
  exact ⟨pins,σ,H',x,C,dx,some t,.none,rfl,I.Au (ch:=[]) os un hok bare (fun b z=>absurd z (by simp)),ex,.inl rfl,cP I x1 nx,fun t' z=>by cases z;exact cP I t1 nt,q⟩
theorem kQ {P:Program} {w:World} {K:PySem.W.Frag} {mg:Str→Option Value} {base:Heap} {N:List Str} {qual:Str} {scope:Scope} {f:Addr} {cd:Value} {A:Around} {outer:List Env} {s0:Shared} {H0:Hp} {E:XK} :
    PaX (bM (CX1 P w) P w K mg base N qual scope f cd A outer s0 H0 E) (fun _=>E):=fun e s' h=>by
  obtain ⟨pins,σ,H,x,C,dx,T,fl,rfl,I,ex,hfl,ox,oT,q⟩:=h
  refine wI (base:=base) (outer:=outer) I.ok.frames I.stack rfl ex hfl fun h' t' a b c=>?_
  have J:=fK I ox oT b
  have ot:s0.heap.objs.size≤t'∧H t'=none:=by
    rcases c with c | c
    · exact ⟨(oT t' c.symm).ab,(oT t' c.symm).no⟩
    · exact ⟨Nat.le_trans I.sz c,I.hok.fresh c⟩
  exact ⟨x,C,dx,t',H,rfl,J.os,J.bare,J.base,J.hok,a,ox.ab,ot.1,ox.no,ot.2,q⟩
end
def sD (sp:Sp) (Ex:St→XK) (t:TA):TE:=fun σ H Q=>t σ H fun vs H1=>sp vs H1 Q (Ex σ)
def xY (C:Addr) (sp:Sp) (Ex:St→XK) (t:TA):TE:=fun σ H Q=>t σ H fun vs H1=>Made C sp (Ex σ) vs H1 Q
section
variable {X:Cx} {k:Nat} {f C:Addr} {fd:FuncData} {ps:List Str} {sp:Sp} {Ex:St→XK} {x m:Str} {p pos apos:Pos} {e o:Expr} {es:List Expr} {ta:TE} {t:TA}
theorem Ba {pins:List (Addr×Obj)} {σ : St} {H:Hp} {s:Shared} {Q:VK} {us:List Value} {vs:List V} (F:fz X.prog X.w X.K X.mg X.base (CX1 X.prog X.w) k f fd ps sp) (hr:cy k X.A) (hb:Binds X.K fd ps []) (hx:PaX X Ex)
    (I:Inv X pins σ H s) (r:Vals vs us) (h:sp vs H Q (Ex σ)):wpAny (model X.prog X.w) X.A (call (.ref f) us) (EP X pins σ Q) X.xe s:=by
  have hl:us.length=ps.length:=by rw [← r.length];exact F.len _ _ _ _ h
  have hb':=hb s us I.kIn (by rw [List.append_nil];exact hl)
  rw [List.append_nil] at hb'
  refine wpAny_call (codeAny_mono (F.run X.A X.stack s H ⟨us,[]⟩ us vs Q (Ex σ) hr I.w6 hb' r h) fun r s' hq=>?_)
  cases r with
  | error e=>exact hx e s' (uC I hq)
  | ok fl=>
    cases fl with
    | ret u=>exact I.after hq
    | _=>exact False.elim hq
theorem bf (C:Cal X.prog X.w X.K X.mg X.base (CX1 X.prog X.w) x k ps sp) (hr:cy k X.A) (hx:PaX X Ex) (ha:PA X (e::es) t) (hg:Gl X x:=by rfl)
    (hdb:(x == ("__debug__" : Str))=false:=by decide) (he:starEach (e::es) X.env=(false,eval e X.env)::starEach es X.env:=by rfl) (hpl:(backTo pos (starEach es X.env)).any (·.1)=false:=by rfl) :
    PE X (.Call (.Name x p) (e::es) [] pos) (sD sp Ex t):=by
  obtain ⟨f,fd,F,b,kp,m⟩:=C.ex
  intro pins s σ H Q I h
  refine wpAny_Call_Name_kw (cQ I hg m ?_ hdb)
  refine PySem.W.callWith_K (h₀:=X.base) I.ok.mod.kin kp (thn (ha pos pins s σ H _ I h) fun us s1 ⟨vs,H1,I1,r,q⟩=>⟨I1.kIn,?_⟩) he hpl
  exact Ba F hr b hx I1 r q
theorem y9 (M:Mak X.prog X.w X.K X.mg X.base (CX1 X.prog X.w) x C k ps sp) (hr:cy (k+1) X.A) (hx:PaX X Ex) (ha:PA X (e::es) t) (hg:Gl X x:=by rfl)
    (hdb:(x == ("__debug__" : Str))=false:=by decide) (he:starEach (e::es) X.env=(false,eval e X.env)::starEach es X.env:=by rfl) (hpl:(backTo pos (starEach es X.env)).any (·.1)=false:=by rfl) :
    PE X (.Call (.Name x p) (e::es) [] pos) (xY C sp Ex t):=by
  obtain ⟨f,fd,mk,F,b,g⟩:=M.ex
  intro pins s σ H Q I h
  refine wpAny_Call_Name_kw (cQ I hg g ?_ hdb)
  refine PySem.W.callWith_K (h₀:=X.base) I.ok.mod.kin mk.kp (thn (ha pos pins s σ H _ I h) fun us s1 ⟨vs,H1,I1,r,q⟩=>⟨I1.kIn,?_⟩) he hpl
  have hq:=q (s1.heap.objs.size+1) s1.heap.objs.size (I1.hok.fresh (Nat.le_succ _)) (I1.hok.fresh (Nat.le_refl _)) (Nat.ne_of_lt (Nat.lt_succ_self _))
  have I2:=Inv.made (C:=C) I1
  have r2:Vals (V.ref (s1.heap.objs.size+1)::vs) (Value.ref (s1.heap.objs.size+1)::us):=.cons rfl r
  have hl:(Value.ref (s1.heap.objs.size+1)::us).length=ps.length:=by rw [← r2.length];exact F.len _ _ _ _ hq
  have hb':=b _ (Value.ref (s1.heap.objs.size+1)::us) I2.kIn (by rw [List.append_nil];exact hl)
  rw [List.append_nil] at hb'
  refine wpAny_call (qR (f:=f) I1.kIn mk.makes mk.init (beq_iff_eq.mp mk.fn) (codeAny_mono (F.run _ X.stack _ _ ⟨Value.ref (s1.heap.objs.size+1)::us,[]⟩ (Value.ref (s1.heap.objs.size+1)::us) _ _ (Ex σ) (hr.make C us [])
    (I2.w6.make C us []) hb' r2 hq) fun r s' hq'=>?_))
  cases r with
  | error e=>exact hx e s' (uC I2 hq')
  | ok fl=>
    cases fl with
    | ret u=>
      obtain ⟨v,H',I3,rv,ev,q3⟩:=I2.after hq'
      subst ev
      exact ⟨rv,⟨V.ref (s1.heap.objs.size+1),H',I3,rfl,q3⟩⟩
    | _=>exact False.elim hq'
end
end L4
namespace L4
open PySem PySem.Spec PyProof.Rows L2 L3 PySem.W
section
variable {prog:Program} {w:World} {A:Around} {E:Value→Shared→Prop} {h:Heap} {g:Array GenState} {d:Drawn} {t:Nat} {os:OsState}
variable {nm q:Str} {C N:Addr} {bs bm bmB:List Value} {hdct:Bool} {sn:List Str} {sub:List Value} {ab:Bool} {col:Option Bool} {dd:Option Addr} {k0 k1 k2 k3 k5:Option Value} {B newId initId:String}
abbrev tY (h:Heap) (C:Addr) (rest:List Value):Heap:=(h.push { cls:=.type "tuple",data:=.seq rest.toArray }).push { cls:=.ref C,data:=.fields #[.ref h.objs.size,.none,.none,.none,.bool false,.none] }
theorem cK {rest:List Value}:∀ b o,h.get? b=some o→(tY h C rest).get? b=some o:=fun _ _ e=>Heap.get?_push_of_some _ (Heap.get?_push_of_some _ e)
theorem gp {rest:List Value}:(tY h C rest).get? (h.objs.size+1)=some { cls:=.ref C,data:=.fields #[.ref h.objs.size,.none,.none,.none,.bool false,.none] }:=by heap_get
theorem mw (F:ExcBaseFacts B newId initId bmB) (T:OwnTail h bmB bm) {rest:List Value} {init:Value} {Q:Fin→Shared→Prop}
    (hC:h.get? C=some (excClassObj nm q C N bs bm hdct sn sub ab col dd k0 k1 k2 k3 k5 newId)) (hi:Looks (model prog w) h (typeLookup (.ref C) "__init__") (some init)) (hb:∀ self,Looks (model prog w) h (bindSpecial init self) (init,[self]))
    (hq:wpAny (model prog w) A (call init (.ref (h.objs.size+1)::rest)) (fun r s'=>r = .none∧Q (.done (.ret (.ref (h.objs.size+1)))) s') E ⟨tY h C rest,g,d,t,os⟩) (hrest:rest.length≤sizeLine) :
    wpAny (model prog w) A (Builtin.«type.__call__» ⟨.ref C::rest,[]⟩) Q E ⟨h,g,d,t,os⟩:=by
  repeat (first | with_reducible refine wpAny_loadPart_at hC ?_ | with_reducible refine wpAny_madeBy_exc hC ?_ | wp_step)
  refine codeAny_call_builtin_code (Code.quiet_builtin _ F.quiet) (wpAny_check_new_subT F T hC ?_)
  refine codeAny_exc_new_subT F T hC ?_ hrest
  show wpAny _ _ _ _ _ _
  have hC1:=cK (C:=C) (rest:=rest) _ _ hC
  have hg:=gp (h:=h) (C:=C) (rest:=rest)
  have hcC:(Value.ref C::bm).contains (.ref C)=true:=by simp
  unfold isInstance
  repeat (first | with_reducible refine wpAny_loadPart_at hg ?_ | (with_reducible refine wpAny_isSubtype_exc hC1 ?_;rw [hcC]) | wp_step)
  show wpAny _ _ (typeLookup (.ref C) _) _ _ _
  refine hi _ _ _ _ cK ?_
  refine wpAny_holding (wpAny_bind (hb _ _ _ _ _ cK ?_))
  refine wpAny_bind (wpAny_mono hq (fun r s' hr=>?_) fun _ _ x=>x)
  obtain ⟨rfl,hQ⟩:=hr
  wp_walk
  exact hQ
theorem rj (F:ExcBaseFacts B newId initId bmB) (T:OwnTail h bmB bm) {rest:List Value} {init:Value} {Q:Value→Shared→Prop}
    (hC:h.get? C=some (excClassObj nm q C N bs bm hdct sn sub ab col dd k0 k1 k2 k3 k5 newId)) (hi:Looks (model prog w) h (typeLookup (.ref C) "__init__") (some init)) (hb:∀ self,Looks (model prog w) h (bindSpecial init self) (init,[self]))
    (hq:wpAny (model prog w) (A.under (.builtin "type.__call__" ⟨.ref C::rest,[]⟩)) (call init (.ref (h.objs.size+1)::rest)) (fun r s'=>r = .none∧Q (.ref (h.objs.size+1)) s') E ⟨tY h C rest,g,d,t,os⟩) (hrest:rest.length≤sizeLine) :
    wpAny (model prog w) A (call (.ref C) rest) Q E ⟨h,g,d,t,os⟩:=by
  have f1:=tc_lookup
  have f2:=tc_bind (.ref C)
  have hT:(⟨h,g,d,t,os⟩:Shared).TypeIs (.ref C) "type" := ⟨_,hC,rfl⟩
  refine wpAny_call (codeAny_of_tree ?_)
  show wpAny _ _ (callAny (.ref C) _) _ _ _
  repeat (any_goals (first | assumption | with_reducible refine wpAny_loadPart_at hC ?_ | wp_step))
  refine ⟨rfl,?_⟩
  exact codeAny_call_builtin_at (Code.quiet_builtin _ (by decide +kernel)) entry_typeCall (wpAny_check_type_call_sub hC (mw F T hC hi hb hq hrest))
theorem rg (F:ExcBaseFacts B newId initId bmB) (T:OwnTail h bmB bm) {e a0:Addr} {oe:Obj} {vs:Array Value} {rest:List Value} {Q:Value→Shared→Prop}
    (hC:h.get? C=some (excClassObj nm q C N bs bm hdct sn sub ab col dd k0 k1 k2 k3 k5 newId)) (he:h.get? e=some oe) (hcls:oe.cls = .ref C) (hd:oe.data = .fields vs) (hz : 0 < vs.size) (h0:vs[0]?=some (.ref a0))
    (hq:∀ h',h'=(h.push { cls:=.type "tuple",data:=.seq rest.toArray }).update e (Obj.mapFields (·.setIfInBounds 0 (.ref h.objs.size)))→Q .none ⟨h',g,d,t,os⟩) (hrest:rest.length≤sizeLine) :
    wpAny (model prog w) A (call (.builtin initId) (.ref e::rest)) Q E ⟨h,g,d,t,os⟩:=by
  refine wpAny_call (codeAny_call_builtin F.init.plain F.initEntry (wpAny_check_init_subT F T hC he hcls ?_))
  obtain ⟨oc,od,da,sl⟩:=oe
  dsimp only at hcls hd
  subst hcls hd
  unfold Builtin.«BaseException.__init__»
  repeat (first | with_reducible refine wpAny_loadPart_at he ?_ | wp_step)
  rw [h0]
  refine wpAny_pure ?_
  refine wpAny_bind (wpAny_setField (Heap.get?_push_of_some _ he) rfl hz (wpAny_letGo ?_))
  exact wpAny_pure (hq _ rfl)
end
section
variable {M:Model} {A:Around} {E:Value→Shared→Prop} {env:Env}
variable {nm q:Str} {C N:Addr} {bs bm:List Value} {hdct:Bool} {sn:List Str} {sub:List Value} {ab:Bool} {col:Option Bool} {dd:Option Addr} {k0 k1 k2 k3 k5:Option Value} {newId:String}
theorem lz {s:Shared} {x:Sem Value} {Q:Flow→Shared→Prop} (hbase:bm.contains (.type "BaseException")=true) (hh:A.handled=none)
    (h:wpAny M A x (fun v s₁=>∃ e oe vs,v = .ref e∧s₁.heap.get? C=some (excClassObj nm q C N bs bm hdct sn sub ab col dd k0 k1 k2 k3 k5 newId) ∧
      s₁.heap.get? e=some oe∧oe.cls = .ref C∧oe.data = .fields vs∧vs[1]?=some .none∧E (.ref e) s₁) E s) :
    wpAny M A (raiseStmt env (some x) none) Q E s:=by
  have hcB:(Value.ref C::bm).contains (.type "BaseException")=true:=by rw [List.contains_cons,hbase,Bool.or_true]
  unfold raiseStmt
  refine wpAny_bind (wpAny_mono h (fun v s₁ h₁=>?_) fun _ _ x=>x)
  obtain ⟨e,oe,vs,rfl,hC,he,hcls,hd,h1,hE⟩:=h₁
  obtain ⟨hp,g,d,tk,os⟩:=s₁
  have hnd:∀ cd,oe.data≠.cls cd:=fun cd z=>by rw [hd] at z;cases z
  obtain ⟨oc,od,da,sl⟩:=oe
  dsimp only at hcls hd
  subst hcls hd
  repeat (first | with_reducible refine wpAny_loadPart_at he ?_ | with_reducible refine wpAny_loadPart_at hC ?_ | (with_reducible refine wpAny_isSubtype_exc hC ?_;rw [hcB]) | wp_step)
  rw [h1]
  refine wpAny_pure ?_
  rw [if_neg (by decide)]
  exact wpAny_pure (wpAny_raiseNew_none hh hE)
end
end L4
namespace L4
open PySem PySem.Spec PyProof.Rows L2 L3 PySem.W
abbrev xcx (X:Cx) (Ex:St→XK):Cx:=X.eZ (XS X Ex)
section
variable {X:Cx} {Ex:St→XK} {st:List Stmt} {t:TS}
theorem eG.ck {E:Value→Shared→Prop} {pins:List (Addr×Obj)} {H:Hp} {b:Addr} (o:eG (X.eZ E) pins H b):eG X pins H b:=⟨o.no,o.ab,o.lo,o.ce,o.pi⟩
theorem aA:PaX (xcx X Ex) Ex:=fun _ _ ⟨pins,σ,H,x,C,dx,T,fl,a,I,b,c,o,oT,q⟩=>
  ⟨pins,σ,H,x,C,dx,T,fl,a,I.ck,b,c,o.ck,fun t ht=>(oT t ht).ck,q⟩
theorem PSs.x (h:PSs (xcx X Ex) st t) (hx:PaX X Ex):PSs X st t:=fun pins s σ H D I hw=>wpAny_mono (h pins s σ H D (I.eZ _) hw) (fun _ _ q=>q.ck) hx
theorem But.mono {x:Addr} {T:Option Addr} {fs fs':List Addr} {h h':Heap} (b:But x T fs h h') (m:∀ a∈fs,a∈fs'):But x T fs' h h':=⟨fun c o q n k f=>b.keep c o q n k fun z=>f (m c z),b.slot,b.there⟩
end
section
variable {P:Program} {w:World} {K:Frag} {mg:Str→Option Value} {base:Heap} {x qual:Str} {st:Stmt} {N ps:List Str} {k:Nat} {sp:Sp} {C:Addr}
theorem _root_.L3.Dat.okR (D:Dat K mg x qual st ps) (S:aB N ps (aj st)) (len:∀ vs H Q E,sp vs H Q E→vs.length=ps.length)
    (hbody:∀ (f:Addr) (cdv:Value) (A:Around) (outer:List Env) (s:Shared) (H:Hp) (vs:List V) (Q:VK) (E:XK),cy k (A.deeper (envOfC qual (aj st) s.heap.objs.size f cdv))→sp vs H Q E →
      ∃ t,PSs (xcx (bM (CX1 P w) P w K mg base N qual (aj st) f cdv A outer s H E) (fun _=>E)) (aU st) t∧t { nx:=fun _ H'=>Q .non H',rt:=Q } (start N vs) H):Cal P w K mg base (CX1 P w) x (k+1) ps sp:=
  D.okX S len fun f cdv A outer s H vs Q E hr h=>by
    obtain ⟨t,ht,q⟩:=hbody f cdv A outer s H vs Q E hr h
    exact ⟨t,L4.PSs.x ht kQ,q⟩
theorem _root_.L3.uB.okR (D:uB K mg x qual C st ps) (S:aB N ps (aj st)) (len:∀ vs H Q E,sp vs H Q E→vs.length=ps.length)
    (hbody:∀ (f:Addr) (cdv:Value) (A:Around) (outer:List Env) (s:Shared) (H:Hp) (vs:List V) (Q:VK) (E:XK),cy k (A.deeper (envOfC qual (aj st) s.heap.objs.size f cdv))→sp vs H Q E →
      ∃ t,PSs (xcx (bM (CX1 P w) P w K mg base N qual (aj st) f cdv A outer s H E) (fun _=>E)) (aU st) t∧t { nx:=fun _ H'=>Q .non H',rt:=Q } (start N vs) H):Mak P w K mg base (CX1 P w) x C (k+1) ps sp:=by
  obtain ⟨f,fd,F,b,m,M,_⟩:=D.ex
  obtain ⟨oc,od,kV,doc,pm,an,cdv,ct,osl,rfl,lk,hcd⟩:=F.ex
  refine ⟨f,_,M,vp lk hcd S len fun A outer s H vs Q E hr hsp=>?_,b,m⟩
  obtain ⟨t,ht,q⟩:=hbody f cdv A outer s H vs Q E hr hsp
  exact ⟨t,L4.PSs.x ht kQ,q⟩
end
def eL:List Value:=[.type "ValueError",.type "Exception",.type "BaseException",.type "object"]
def dJ (K:Frag) (C:Addr) (bmB:List Value) (newId:String):Bool:=match K.lookup C with
  | some ⟨.type "type",_,.cls cd,sl⟩=>(match cd.mro,sl.toList with
    | .ref c::bm,[_,_,_,_,some (.builtin n),_]=>c == C && n == newId && !cd.hasDel && tailIn K bmB bm
    | _,_=>false)
  | _=>false
theorem pK {K:Frag} {h:Heap} {C:Addr} {bmB:List Value} {newId:String} (X:K.In h) (z:dJ K C bmB newId=true):∃ nm q N bs bm hdct sn sub ab col dd k0 k1 k2 k3 k5,
    h.get? C=some (excClassObj nm q C N bs bm hdct sn sub ab col dd k0 k1 k2 k3 k5 newId)∧OwnTail h bmB bm:=by
  unfold dJ at z
  split at z
  · rename_i dd cd sl ho
    split at z
    · rename_i c bm k0 k1 k2 k3 n k5 hm hs
      simp only [Bool.and_eq_true,beq_iff_eq,Bool.not_eq_true'] at z
      obtain ⟨⟨⟨rfl,rfl⟩,B0⟩,ht⟩:=z
      obtain ⟨nm,bs,mro,ns,qn,hd,sn,sub,ab,col,del⟩:=cd
      dsimp only at hm B0
      subst hm B0
      obtain ⟨l⟩:=sl
      simp only at hs
      subst hs
      exact ⟨nm,qn,ns,bs,bm,hd,sn,sub,ab,col,dd,k0,k1,k2,k3,k5,X _ _ ho,tail_of_in X ht⟩
    · cases z
  · cases z
structure ux (K:Frag) (mg:Str→Option Value) (x:Str) (C:Addr):Prop where
  ok:dJ K C eL "ValueError.__new__" = true
  init:findIn K (.ref C) "__init__" = some (some (.builtin "ValueError.__init__"))
  kp:keepIn K (.ref C)=true
  mg:mg x=some (.ref C)
def xW (C:Addr) (Ex:St→XK) (tl:TA):TS:=fun _ σ H=>tl σ H fun vs H1=>vs.length≤1000∧Ex σ (.ref C) none H1
theorem qJ {X:Cx} {Ex:St→XK} {x:Str} {C:Addr} {e:Expr} {es:List Expr} {t:TA} {np cpos pos:Pos} (O:ux X.K X.mg x C) (hc:X.calm=true) (hx:PaX X Ex) (ha:PA X (e::es) t) (hg:Gl X x:=by rfl)
    (hdb:(x == ("__debug__" : Str))=false:=by decide) (he:starEach (e::es) X.env=(false,eval e X.env)::starEach es X.env:=by rfl) (hpl:(backTo cpos (starEach es X.env)).any (·.1)=false:=by rfl) :
    PS X (.Raise (some (.Call (.Name x np) (e::es) [] cpos)) none pos) (xW C Ex t):=by
  intro pins s σ H D I h
  obtain ⟨nm,q,N,bs,bm,hdct,sn,sub,ab,col,dd,k0,k1,k2,k3,k5,hC,T⟩:=pK I.ok.mod.kin O.ok
  rw [arm_exec_Raise]
  refine wpAny_bind (wpAny_standAt (lz (C:=C) (nm:=nm) (q:=q) (N:=N) (bs:=bs) (bm:=bm) (hdct:=hdct) (sn:=sn) (sub:=sub) (ab:=ab) (col:=col) (dd:=dd) (k0:=k0) (k1:=k1) (k2:=k2) (k3:=k3) (k5:=k5) (newId:="ValueError.__new__") (T.hasType (by decide +kernel)) (I.ok.hd hc) (wpAny_bind ?_)))
  refine wpAny_Call_Name_kw (cQ I hg O.mg ?_ hdb)
  refine callWith_K (h₀:=X.base) I.ok.mod.kin O.kp (thn (ha cpos pins s σ H _ I h) fun us s1 ⟨vs,H1,I1,r,hz,qx⟩=>⟨I1.kIn,?_⟩) he hpl
  have hl:us.length≤sizeLine:=by rw [← r.length];exact Nat.le_of_lt (small1000 hz)
  have T1:=T.keeps I1.bk
  have hC1:=I1.bk _ _ hC
  obtain ⟨hp,g,d,tk,os⟩:=s1
  show wpAny (model X.prog X.w) X.A (call (.ref C) us) _ _ _
  refine rj PySem.F.excBase_ValueError T1 hC1 (looks_findIn I1.kIn O.init) (fun self=>Looks.of_pure (PySem.F.excBase_ValueError.init.bind self)) ?_ hl
  refine rg PySem.F.excBase_ValueError (T1.keeps cK) (cK _ _ hC1) gp rfl rfl (Nat.zero_lt_succ _) rfl (fun h3 e3=>⟨rfl,?_⟩) hl
  have kp:∀ b o,hp.get? b=some o→h3.get? b=some o:=fun b o z=>by
    rw [e3,Heap.get?_update_other _ _ (Nat.ne_of_gt (Nat.lt_succ_of_lt (Heap.lt_size z)))]
    exact Heap.get?_push_of_some _ (cK _ _ z)
  have hz3:(tY hp C us).objs.size=hp.objs.size+2:=by rw [Heap.size_push,Heap.size_push]
  have g3:=Heap.get?_update_self (Obj.mapFields (·.setIfInBounds 0 (.ref (tY hp C us).objs.size))) (Heap.get?_push_of_some { cls:=.type "tuple",data:=.seq us.toArray } (gp (h:=hp) (C:=C) (rest:=us))) rfl
  rw [← e3] at g3
  have I3:Inv X pins σ H1 ⟨h3,g,d,tk,os⟩:=I1.kept (t':=tk) kp
  refine wpAny_bind (wpAny_standAt (wpAny_pure ⟨_,_,_,rfl,kp _ _ hC1,g3,rfl,rfl,rfl,hx _ _ ⟨pins,σ,H1,hp.objs.size+1,.ref C,none,none,.none,rfl,I3,⟨_,_,g3,rfl,rfl,rfl,rfl,fun t ht=>by cases ht⟩,.inl rfl,cP I1 (Nat.le_succ _) (I1.hok.fresh (Nat.le_succ _)),(fun t ht=>by cases ht),qx⟩⟩))
end L4
namespace L4
open PySem PySem.Spec PyProof.Rows L2 L3 PySem.W
def xE (x:Addr) (C:Value) (dx:Option Addr):Heap→Prop:=fun h=>∃ oe vs,h.get? x=some oe∧oe.cls=C∧oe.dict=dx∧oe.data = .fields vs
abbrev jX (x:Addr) (C:Value) (dx:Option Addr):HO:=.ext (xE x C dx)
section
variable {X:Cx} {pins:List (Addr×Obj)} {σ : St} {H:Hp} {s:Shared}
theorem nG {x:Addr} {φ : Heap→Prop} (I:Inv X pins σ H s) (o:eG X pins H x) (p : φ s.heap) (th:∃ ob,s.heap.get? x=some ob) (st:∀ h1 h2:Heap,φ h1→(∀ ob,h1.get? x=some ob→h2.get? x=some ob)→φ h2):Inv X pins σ (upd H x (.ext φ)) s:=by
  have ne:∀ b u,H b=some u→b≠x:=fun b u e z=>by rw [z,o.no] at e;cases e
  refine ⟨I.ok,I.os,I.bare,⟨I.base.keep,I.base.slot,fun b ob e n hx=>?_,I.base.there,fun b xs e=>?_,fun b ob u e=>?_,fun b ps e=>?_⟩,I.loc,I.cell,?_,fun y c e=>?_,fun q hq=>?_,fun b u e=>?_,I.len⟩
  · rw [aD (Nat.ne_of_lt (Nat.lt_of_lt_of_le (Heap.lt_size e) o.ab))];exact I.base.free b ob e n hx
  · have:=I.base.tups b xs e;rw [aD (ne _ _ this)];exact this
  · have:=I.base.gn b ob u e;rw [aD (ne _ _ this)];exact this
  · obtain ⟨m,h⟩:=I.base.ia b ps e
    exact ⟨m,by rw [aD (ne _ _ h)];exact h⟩
  · rw [aD (Ne.symm o.lo)];exact I.free
  · rw [aD (o.ce y c e)];exact I.freeC y c e
  · obtain ⟨a,b,r⟩:=I.pin q hq
    exact ⟨a,by rw [aD (o.pi q hq)];exact b,r⟩
  · by_cases z:b=x
    · subst z;rw [ao] at e;cases e;exact ⟨p,th,st⟩
    · rw [aD z] at e
      exact (I.hok b u e).stay (fun _ _ _ q=>q) (fun c q=>by rw [aD (ne _ _ q)];exact q) fun c xs q=>by rw [aD (ne _ _ q)];exact q
theorem xE.stay {x:Addr} {C:Value} {dx:Option Addr}:∀ h1 h2:Heap,xE x C dx h1→(∀ ob,h1.get? x=some ob→h2.get? x=some ob)→xE x C dx h2:=fun _ _ ⟨oe,vs,a,b⟩ k=>⟨oe,vs,k _ a,b⟩
theorem ExcAt.p {h:Heap} {x:Addr} {C:Value} {dx T:Option Addr} {fl:Value} (e:ExcAt h x C dx T fl):xE x C dx h:=let ⟨oe,vs,a,b,c,d,_⟩:=e;⟨oe,vs,a,b,c,d⟩
theorem Cp {i:Nat} {n:Str} {m:Str→Option Value} {v:Option Value} {h':Heap} (I:Inv X pins σ H s) (hN:X.N.Nodup) (hi:X.N[i]?=some n)
    (hl:∀ (i:Nat) (x:Str) (v:V),X.N[i]?=some x→σ[i]?=some (some v)→Vis X.env.scope x→∃ u,RelV v u∧Look X.env s.heap m x u) (hs:s.heap.Ns X.env.locals m)
    (hn:h'.Ns X.env.locals (fun x=>if x=n then v else m x)) (sb:Heap.SameBut X.env.locals s.heap h') (t':Nat):Inv X pins (σ.set i none) H { s with heap:=h',toks:=t' }:=by
  have neL:∀ b o,X.s₀.heap.get? b=some o→b≠X.env.locals:=fun b o e=>Nat.ne_of_lt (Nat.lt_of_lt_of_le (Heap.lt_size e) I.ok.above)
  have iσ : i < σ.length:=by rw [I.len];exact (List.getElem?_eq_some_iff.mp hi).1
  refine ⟨I.ok,I.os,I.bare,⟨fun b o e q hb hx=>(sb.2 b (neL b o e)).trans (I.base.keep b o e q hb hx),fun b o e q hb hx=>?_,I.base.free,fun b o e hx=>?_,I.base.tups,I.base.gn,I.base.ia⟩,⟨_,hn,fun j y v' e1 e2 e3=>?_⟩,fun y c e=>?_,I.free,I.freeC,fun p hp=>?_,fun b u e=>?_,by rw [List.length_set];exact I.len⟩
  · obtain ⟨sl,z⟩:=I.base.slot b o e q hb hx
    exact ⟨sl,(sb.2 b (neL b o e)).trans z⟩
  · obtain ⟨o',z⟩:=I.base.there b o e hx
    exact ⟨o',(sb.2 b (neL b o e)).trans z⟩
  · by_cases hj:j=i
    · subst hj
      rw [List.getElem?_set_self iσ] at e2
      cases e2
    · rw [List.getElem?_set_ne (Ne.symm hj)] at e2
      have hy:y≠n:=fun z=>by
        subst z
        exact hj ((List.getElem?_inj (List.getElem?_eq_some_iff.mp e1).1 hN).mp (e1.trans hi.symm))
      obtain ⟨u,r,q⟩:=hl j y v' e1 e2 e3
      refine ⟨u,r,?_⟩
      rcases q with ⟨k,e⟩ | ⟨k,c,e,⟨oc,hc,hd⟩⟩
      · exact .inl ⟨k,by show (if y=n then v else m y)=some u;rw [if_neg hy];exact e⟩
      · exact .inr ⟨k,c,e,oc,(sb.2 c (I.cne y c e)).trans hc,hd⟩
  · obtain ⟨w,oc,hc,hd⟩:=I.cell y c e
    exact ⟨w,oc,(sb.2 c (I.cne y c e)).trans hc,hd⟩
  · obtain ⟨a,b,c,d⟩:=I.pin p hp
    exact ⟨(sb.2 _ c).trans a,b,c,d⟩
  · refine (I.hok b u e).stay (fun c w' hc q=>(sb.2 c fun z=>?_).trans q) (fun _ q=>q) fun _ _ q=>q
    subst z
    rcases hc with rfl | hc
    · rw [I.free] at e;cases e
    · rw [I.free] at hc;cases hc
theorem gH {M:Model} {A:Around} {E:Value→Shared→Prop} {i:Nat} {n:Str} {pos:Pos} {Q:Unit→Shared→Prop} (I:Inv X pins σ H s) (hN:X.N.Nodup) (hi:X.N[i]?=some n) (hl:X.env.scope.names.lookup n=some .local)
    (h:∀ s',Inv X pins (σ.set i none) H s'→Q () s'):wpAny M A (do bindName X.env n .none;unbindBehindTheSuite X.env n pos) Q E s:=by
  have hcls:(X.env.scope.kind == .class || (X.env.scope.kind == .module && X.env.locals != X.env.globals))=false:=by rw [I.ok.kind];rfl
  have hk:X.env.kindOf n=some .local:=hl
  refine wpAny_bind (wpAny_bindName (iR (v:=.non) I hN hi (.inl hl) rfl (fun s1 I1=>?_) (.inr hl)))
  obtain ⟨m,hm,hq⟩:=id I1.loc
  unfold unbindBehindTheSuite
  refine wpAny_onRaise ?_
  unfold unbindName
  refine wpAny_bind (wpAny_point (wpAny_bind ?_))
  unfold deleteName
  simp only [hk,hcls]
  rw [if_neg (by decide)]
  refine wpAny_bind (wpAny_nsDel_keeps hm fun h2 v hn2 sb2=>?_)
  have hsome:(m n).isSome=true:=by
    obtain ⟨u,r,q⟩:=hq i n .non hi (by rw [List.getElem?_set_self (by rw [I.len];exact (List.getElem?_eq_some_iff.mp hi).1)]) (.inl hl)
    rcases q with ⟨_,e⟩ | ⟨k,_⟩
    · rw [e];rfl
    · rw [hk] at k;rcases k with k | k <;> cases k
  rw [hsome]
  simp only [Bool.not_true,Bool.false_eq_true,if_false]
  have J:=Cp I1 hN hi hq hm hn2 sb2 s1.toks
  rw [List.set_set] at J
  exact wpAny_pure (wpAny_point (h _ J))
end
end L4
namespace L4
open PySem PySem.Spec PyProof.Rows L2 L3 PySem.W
abbrev Cx.pinned (X:Cx) (pins:List (Addr×Obj)):Cx:={ X with pn:=X.pn++pins }
abbrev Cx.hand (X:Cx) (x:Addr):Cx:={ X with A:=X.A.mark (some (.ref x)),calm:=false,xe:=fun _ _=>False }
def xR (i:Nat) (D:Ends):Ends:={ nx:=fun σ H=>D.nx (σ.set i none) H,rt:=D.rt,bk:=fun σ H=>D.bk (σ.set i none) H,ct:=fun σ H=>D.ct (σ.set i none) H }
section
variable {X:Cx} {pins lB:List (Addr×Obj)} {σ : St} {H:Hp} {s:Shared}
theorem Eg (ok:X.Ok):(Cx.pinned X pins).Ok:=⟨ok.mod,ok.kind,ok.glob,ok.blt,ok.above,ok.inj,ok.has,ok.cab,ok.hd,ok.frames,ok.stk,ok.exf,ok.bs,ok.bsz,ok.noex,ok.exfs,ok.iL,ok.frf⟩
theorem zl (ok:(Cx.pinned X pins).Ok):X.Ok:=⟨ok.mod,ok.kind,ok.glob,ok.blt,ok.above,ok.inj,ok.has,ok.cab,ok.hd,ok.frames,ok.stk,ok.exf,ok.bs,ok.bsz,ok.noex,ok.exfs,ok.iL,ok.frf⟩
theorem BX (I:Inv X pins σ H s):Inv (Cx.pinned X pins) [] σ H s:=⟨Eg I.ok,I.os,I.bare,I.base,I.loc,I.cell,I.free,I.freeC,fun p hp=>I.pin p (by simpa using hp),I.hok,I.len⟩
theorem fu (I:Inv (Cx.pinned X pins) lB σ H s):Inv X pins σ H s:=⟨zl I.ok,I.os,I.bare,I.base,I.loc,I.cell,I.free,I.freeC,fun p hp=>I.pin p (List.mem_append_left _ hp),I.hok,I.len⟩
theorem jF {b:Addr} (o:eG (Cx.pinned X pins) lB H b):eG X pins H b:=⟨o.no,o.ab,o.lo,o.ce,fun p hp=>o.pi p (List.mem_append_left _ hp)⟩
theorem qX {x:Addr} (I:Inv X pins σ H s):Inv (Cx.hand X x) pins σ H s:=
  ⟨⟨I.ok.mod,I.ok.kind,I.ok.glob,I.ok.blt,I.ok.above,I.ok.inj,I.ok.has,I.ok.cab,(fun z=>absurd z Bool.false_ne_true),I.ok.frames,I.ok.stk,I.ok.exf,I.ok.bs,I.ok.bsz,I.ok.noex,I.ok.exfs,I.ok.iL,I.ok.frf⟩,I.os,I.bare,I.base,I.loc,I.cell,I.free,I.freeC,I.pin,I.hok,I.len⟩
theorem fJ {x:Addr} (ok:X.Ok) (I:Inv (Cx.hand X x) pins σ H s):Inv X pins σ H s:=⟨ok,I.os,I.bare,I.base,I.loc,I.cell,I.free,I.freeC,I.pin,I.hok,I.len⟩
theorem yd {E:Value→Shared→Prop} {D:Ends} {f:Flow} {s':Shared} (h:SP ((Cx.pinned X pins).eZ E) lB D f s'):SP X pins D f s':=by
  have h:=h.ck
  cases f with
  | next=>obtain ⟨σ',H',I,q⟩:=h;exact ⟨σ',H',fu I,q⟩
  | brk=>obtain ⟨σ',H',I,q⟩:=h;exact ⟨σ',H',fu I,q⟩
  | cont=>obtain ⟨σ',H',I,q⟩:=h;exact ⟨σ',H',fu I,q⟩
  | ret u=>obtain ⟨v,σ',H',I,r,q⟩:=h;exact ⟨v,σ',H',fu I,r,q⟩
theorem uo {M:Model} {E:Value→Shared→Prop} {Q:Shared→Prop} {x:Addr} {C fl:Value} {dx T:Option Addr} (hs:X.stack=X.env::X.outer) (hf:X.env.frame=some X.env.locals) (I:Inv X pins σ H s) (ex:ExcAt s.heap x C dx T fl) (hfl:fl = .none∨fl=rawInt X.env.locals) (ox:eG X pins H x) (oT:∀ t,T=some t→eG X pins H t)
    (h:∀ s' t,Inv X pins σ H s'→ExcAt s'.heap x C dx (some t) .none→eG X pins H t→Q s') :
    wpAny M X.A (noteFrame (.ref x) X.env) (fun _ s2=>wpAny M X.A (setFlight (.ref x) none) (fun _ s3=>Q s3) E s2) E s:=by
  have hfr:=I.ok.frames
  have hst:=I.stack
  rw [hs] at hfr hst
  refine iI (base:=X.base) hfr hst hf ex hfl fun h1 t1 a b c=>?_
  have ot:eG X pins H t1:=by
    rcases c with c | c
    · exact oT t1 c.symm
    · exact cP I c (I.hok.fresh c)
  have J:=fK I ox oT (by rw [hs];exact b)
  exact dW (fr:=none) a fun h2 a2 b2=>h _ t1 (fK J ox (fun t ht=>by cases ht;exact ot) (b2.mono fun _ z=>absurd z (by simp))) a2 ot
end
def sC (K:Frag) (CH:Value) (i:Nat) (tb:(St→XK)→TS) (th:TS) (Ex:St→XK):TS:=fun D σ H=>
  tb (fun σ' C dx H'=>∃ b,exmOne K C CH=some b∧if b=true then ∀ x,H' x=none→th (xR i D) (σ'.set i (some (.ref x))) (upd H' x (jX x C dx)) else Ex σ' C dx H') D σ H
section
variable {X:Cx} {Ex:St→XK} {body suite:List Stmt} {b₀ : Stmt} {cx n:Str} {np hpos pos:Pos} {CH:Addr} {i:Nat} {tb:(St→XK)→TS} {th:TS}
theorem wD {M:Model} {h:Heap} {x:Addr} {C:Value} {dx T:Option Addr} {fl:Value} (ex:ExcAt h x C dx T fl):Looks M h (typeOf (.ref x)) C:=by
  obtain ⟨oe,vs,e1,e2,_⟩:=ex
  rw [← e2]
  exact (Looks.ld e1).andThen .now
theorem Bu {pins:List (Addr×Obj)} {σ : St} {H:Hp} {s:Shared} {x t:Addr} {C fl:Value} {dx:Option Addr} {Q:Flow→Shared→Prop} (hf:X.env.frame=some X.env.locals) (hx:PaX X Ex) (I:Inv X pins σ H s) (ex:ExcAt s.heap x C dx (some t) fl) (ox:eG X pins H x) (ot:eG X pins H t) (q:Ex σ C dx H) :
    wpAny (model X.prog X.w) X.A (handleBy (.ref x) X.env []) Q X.xe s:=by
  refine wpAny_handleBy_nil ?_
  unfold PySem.passOn
  obtain ⟨oe,vs,e1,e2,e3,e4,e5,e6⟩:=id ex
  refine wpAny_bind (wpAny_field e1 e4 e5 ?_)
  rw [if_neg (by simp)]
  refine wpAny_bind (dW (fr:=X.env.frame) ex fun h2 a2 b2=>wpAny_throw (hx _ _ ?_))
  exact ⟨pins,σ,H,x,C,dx,some t,_,rfl,fK I ox (fun t ht=>by cases ht;exact ot) (b2.mono fun _ z=>absurd z (by simp)),a2,.inr (by rw [hf];rfl),ox,fun t ht=>by cases ht;exact ot,q⟩
theorem yV (hs:X.stack=X.env::X.outer) (hf:X.env.frame=some X.env.locals) (hm:X.mg cx=some (.ref CH)) (hN:X.N.Nodup) (hi:X.N[i]?=some n) (hl:X.env.scope.names.lookup n=some .local) (hx:PaX X Ex)
    (hb:∀ pins Exb,PSs (xcx (Cx.pinned X pins) Exb) body (tb Exb)) (hh:∀ x,PSs (Cx.hand X x) (b₀ :: suite) th) (hg:Gl X cx:=by rfl) (hdb:(cx == ("__debug__" : Str))=false:=by decide) :
    PS X (.Try body [.ExceptHandler (some (.Name cx np)) (some n) (b₀ :: suite) hpos] [] [] pos) (sC X.K (.ref CH) i tb th Ex):=by
  intro pins s σ H D I h
  refine wpAny_Try_except (wpAny_mono (hb pins _ [] s σ H D ((BX I).eZ _) h) (fun f s1 q=>?_) (fun e s1 q=>?_))
  · have q:=yd q
    cases f with
    | next=>obtain ⟨σ',H',I',q⟩:=q;exact aF pins s1 σ' H' D I' q
    | _=>exact q
  · obtain ⟨lB,σ',H',x,C,dx,T,fl,rfl,I',ex,hfl,ox,oT,b,hm2,q⟩:=q
    refine uo hs hf (fu I') ex hfl (jF ox) (fun t ht=>jF (oT t ht)) fun s2 t I2 ex2 ot=>?_
    have ox:=jF ox
    refine wpAny_handleBy_cons (codeAny_handlers_test ?_) (by intro z;cases z)
    refine cQ (X:=Cx.hand X x) (qX I2) hg hm ?_ hdb
    refine (exm_one I2.kIn (wD ex2) hm2).here ?_
    cases b with
    | false=>exact Bu hf hx I2 ex2 ox ot q
    | true=>
      refine codeAny_handlers_suite_as ?_
      refine dW (fr:=none) ex2 fun h3 a3 b3=>?_
      have I3:=fK I2 ox (fun t ht=>by cases ht;exact ot) (b3.mono fun _ z=>absurd z (by simp))
      have I4:=nG I3 ox a3.p a3.there xE.stay
      refine iR (X:=X) (v:=.ref x) I4 hN hi (.inl hl) rfl (fun s5 I5=>?_) (.inr hl)
      refine wpAny_mono (hh x pins s5 _ _ (xR i D) (qX I5) (q x ox.no)) (fun f s6 r=>?_) fun _ _ z=>False.elim z
      cases f with
      | next=>
        obtain ⟨σ6,H6,I6,q6⟩:=r
        exact gH (fJ I.ok I6) hN hi hl fun s7 I7=>⟨_,H6,I7,q6⟩
      | brk=>
        obtain ⟨σ6,H6,I6,q6⟩:=r
        exact gH (fJ I.ok I6) hN hi hl fun s7 I7=>⟨_,H6,I7,q6⟩
      | cont=>
        obtain ⟨σ6,H6,I6,q6⟩:=r
        exact gH (fJ I.ok I6) hN hi hl fun s7 I7=>⟨_,H6,I7,q6⟩
      | ret u=>
        obtain ⟨v,σ6,H6,I6,r6,q6⟩:=r
        exact gH (fJ I.ok I6) hN hi hl fun s7 I7=>⟨v,_,H6,I7,r6,q6⟩
end
end L4
namespace L4
open PySem PySem.Spec PyProof.Rows L2 L3 PySem.W
structure jY (K:Frag) (C:Addr):Prop where
  ga:findIn K (.ref C) "__getattribute__" = some (some (.builtin "BaseException.__getattribute__"))
  gh:findIn K (.ref C) "__getattr__" = some none
  bs:mroIn K C (.type "BaseException")=some true
  ob:mroIn K C (.type "object")=some true
  ca:findIn K (.ref C) "__class__" = some (some (.builtin "object.__class__"))
  cg:specialIn K (.builtin "object.__class__") "__get__" = some (some (.builtin "getset_descriptor.__get__"))
  ct:takesIn K (.builtin "object.__class__")=some true
  cd:(clsIn K C).isSome=true
section
variable {prog:Program} {w:World} {A:Around} {E:Value→Shared→Prop} {s:Shared} {K:Frag} {x C:Addr} {ox:Obj} {od:Option Obj} {name:Str}
theorem tW {R:Result→Shared→Prop} {tk:Tok} {v:Value} (X:K.In s.heap) (I:InstAt s.heap x ox C od) (G:jY K C) (hf:findObj K C od name=some (.value v)) (hq:R (.ok (.ret v)) s) :
    codeAny (model prog w) A (.call (.builtin "BaseException.__getattribute__") ⟨[.ref x,.str name tk],[]⟩) R s:=by
  have hk:builtinKind "BaseException.__getattribute__" = some .slot:=by decide +kernel
  have hsplit:splitId "BaseException.__getattribute__" = some ("BaseException", "__getattribute__"):=by decide +kernel
  obtain ⟨h0,g,d,tt,os⟩:=s
  have LT:=I.type (M:=model prog w)
  have typ:Looks (model prog w) h0 (isInstance (.ref x) (.type "BaseException")) true:=LT.andThen (looks_mroIn X G.bs)
  have LF:=looks_find (M:=model prog w) X I hf
  refine codeAny_call_builtin PySem.F.attrBase_ValueError.ga.plain PySem.F.entry_bexc_ga ?_
  have ha:=PySem.F.args_bexc_ga (.ref x) (.str name tk)
  simp only [checkBuiltinCall,hk,hsplit]
  refine wpAny_bind (typ.here ?_)
  simp only [Bool.not_true,Bool.false_eq_true,if_false]
  unfold argsOk at ha
  refine wpAny_of_eq ha ?_
  unfold Builtin.«object.__getattribute__»
  repeat (any_goals (first | assumption | lk | wp_step))
theorem tX {R:Result→Shared→Prop} {tk:Tok} (X:K.In s.heap) (I:InstAt s.heap x ox C od) (G:jY K C) (hq:R (.ok (.ret (.ref C))) s) :
    codeAny (model prog w) A (.call (.builtin "BaseException.__getattribute__") ⟨[.ref x,.str "__class__" tk],[]⟩) R s:=by
  have hk:builtinKind "BaseException.__getattribute__" = some .slot:=by decide +kernel
  have hsplit:splitId "BaseException.__getattribute__" = some ("BaseException", "__getattribute__"):=by decide +kernel
  have hf:findObj K C od "__class__" = some (.bind (.builtin "getset_descriptor.__get__") (.builtin "object.__class__")):=by
    obtain ⟨cd,hcd⟩:=Option.isSome_iff_exists.mp G.cd
    unfold findObj
    rw [hcd,Option.bind_some,G.ca,Option.bind_some]
    dsimp only
    rw [G.cg,Option.bind_some]
    dsimp only
    rw [G.ct,Option.bind_some]
  have cls:=fun (A:Around) (R:Result→Shared→Prop) (h:R (.ok (.ret (.ref C))) s)=>class_get (prog:=prog) (w:=w) (A:=A) (R:=R) (tp:=.ref C) X I G.ob h
  obtain ⟨h0,g,d,tt,os⟩:=s
  have LT:=I.type (M:=model prog w)
  have typ:Looks (model prog w) h0 (isInstance (.ref x) (.type "BaseException")) true:=LT.andThen (looks_mroIn X G.bs)
  have LF:=looks_find (M:=model prog w) X I hf
  refine codeAny_call_builtin PySem.F.attrBase_ValueError.ga.plain PySem.F.entry_bexc_ga ?_
  have ha:=PySem.F.args_bexc_ga (.ref x) (.str "__class__" tk)
  simp only [checkBuiltinCall,hk,hsplit]
  refine wpAny_bind (typ.here ?_)
  simp only [Bool.not_true,Bool.false_eq_true,if_false]
  unfold argsOk at ha
  refine wpAny_of_eq ha ?_
  unfold Builtin.«object.__getattribute__»
  repeat (any_goals (first | assumption | with_reducible refine wpAny_call ?_ | lk | wp_step))
  refine cls _ _ ?_
  exact wpAny_pure hq
theorem Ah {tk:Tok} {fill expr:Bool} {v:Value} {Q:Value→Shared→Prop} (X:K.In s.heap) (I:InstAt s.heap x ox C od) (G:jY K C) (hv:handedIn v=true)
    (hc:∀ (A:Around) (R:Result→Shared→Prop),R (.ok (.ret v)) s→codeAny (model prog w) A (.call (.builtin "BaseException.__getattribute__") ⟨[.ref x,.str name tk],[]⟩) R s) (hq:Q v s) :
    wpAny (model prog w) A (getAttrBy (.ref x) (.str name tk) fill expr) Q E s:=by
  obtain ⟨h0,g,d,tt,os⟩:=s
  have LT:=I.type (M:=model prog w)
  have L1:=looks_findIn (M:=model prog w) X G.ga
  have L2:=looks_findIn (M:=model prog w) X G.gh
  have f3:=PySem.F.attrBase_ValueError.ga.bind (.ref x)
  have hx0:(expr && onTheHeap (Value.builtin "BaseException.__getattribute__"))=false:=by cases expr <;> rfl
  have hx2:(Value.builtin "BaseException.__getattribute__" == Value.builtin "object.__getattribute__")=false:=by decide +kernel
  have hx1:(onTheHeap (Value.ref C) && Value.builtin "BaseException.__getattribute__" == Value.builtin "object.__getattribute__")=false:=by rw [hx2];rfl
  unfold getAttrBy
  repeat (any_goals (first | assumption | with_reducible refine wpAny_call ?_ | with_reducible refine wpAny_attempt ?_ | lk | wp_step))
  exact hc _ _ (handed_on hv hq)
theorem Ck {expr:Bool} {v:Value} {Q:Value→Shared→Prop} (X:K.In s.heap) (I:InstAt s.heap x ox C od) (G:jY K C) (hv:handedIn v=true) (hf:findObj K C od name=some (.value v)) (hq:∀ tk,Q v { s with toks:=tk }) :
    wpAny (model prog w) A (getAttr (.ref x) name expr) Q E s:=by
  unfold getAttr
  have go:∀ (tk:Tok) (t':Nat),wpAny (model prog w) A (getAttrBy (.ref x) (.str name tk) true expr) Q E { s with toks:=t' }:=fun tk t'=>Ah (s:={ s with toks:=t' }) X I G hv (fun A R h=>tW (s:={ s with toks:=t' }) X I G hf h) (hq t')
  obtain ⟨h0,g,d,tt,os⟩:=s
  repeat (any_goals (first | assumption | exact go _ _ | lk | wp_step))
theorem Cm {Q:Option Value→Shared→Prop} (X:K.In s.heap) (I:InstAt s.heap x ox C od) (G:jY K C) (hq:Q (some (.ref C)) { s with toks:=s.toks+1 }) :
    wpAny (model prog w) A (getAttr? (.ref x) "__class__") Q E s:=by
  unfold getAttr? getAttrBy?
  have go:∀ (tk:Tok) (Q:Value→Shared→Prop) (E:Value→Shared→Prop) (t':Nat),Q (.ref C) { s with toks:=t' }→wpAny (model prog w) A (getAttrBy (.ref x) (.str "__class__" tk) false) Q E { s with toks:=t' }:=fun tk Q E t' h=>Ah (s:={ s with toks:=t' }) X I G rfl (fun A R h=>tX (s:={ s with toks:=t' }) X I G h) h
  obtain ⟨h0,g,d,tt,os⟩:=s
  repeat (any_goals (first | assumption | with_reducible refine wpAny_attempt ?_ | (refine go _ _ _ _ ?_) | lk | wp_step))
theorem qU (G:jY K C):KitX K (.ref x) (.ref C) (fun h=>∃ ox od,InstAt h x ox C od) where
  ty:=fun _ _ _ ⟨_,_,I⟩=>I.type
  it:=fun _ _ X _=>by
    obtain ⟨cd,hc⟩:=Option.isSome_iff_exists.mp G.cd
    unfold clsIn at hc
    split at hc
    · rename_i ho
      intro A' Q' E' s' k q
      unfold isType loadHead
      exact wpAny_bind (wpAny_loadPart (k _ _ (X _ _ ho)) (wpAny_pure q))
    · cases hc
  ne:=fun h tp dd its n sl X htp=>by
    obtain ⟨cd,hc⟩:=Option.isSome_iff_exists.mp G.cd
    refine Bool.eq_false_iff.mpr fun q=>?_
    have e:C=tp:=Value.ref.inj (beq_iff_eq.mp q)
    subst e
    unfold clsIn at hc
    split at hc
    · rename_i ho
      have z:=(X _ _ ho).symm.trans htp
      cases z
    · cases hc
  ca:=fun X ⟨_,_,I⟩ k=>Cm X I G k
end
end L4
namespace L4
open PySem PySem.Spec PyProof.Rows L2 L3 PySem.W
def ExD (H:Hp):Option Addr→Prop
  | none=>True
  | some d=>∃ fs,H d=some (.xd fs)
structure ExA (K:Frag) (H:Hp) (x C:Addr) (dx:Option Addr):Prop where
  at_:H x=some (jX x (.ref C) dx)
  g:jY K C
  d:ExD H dx
section
variable {X:Cx} {pins:List (Addr×Obj)} {σ : St} {H:Hp} {s:Shared} {x C:Addr} {dx:Option Addr}
theorem ve (I:Inv X pins σ H s) (e:ExA X.K H x C dx):∃ ox od,InstAt s.heap x ox C od∧∀ d,dx=some d→∃ o,od=some o∧s.heap.get? d=some o:=by
  obtain ⟨⟨oe,vs,e1,e2,e3,e4⟩,_⟩:=(show bH X.prog X.w H s.heap x (jX x (.ref C) dx) from I.hok x _ e.at_)
  have nc:notCls oe=true:=by unfold notCls;rw [e4]
  cases dx with
  | none=>exact ⟨oe,none,⟨e1,e2,nc,by rw [e3];trivial⟩,fun d z=>by cases z⟩
  | some d=>
    obtain ⟨fs,hd⟩:=e.d
    obtain ⟨mA,⟨od,es,ep,h1,h2⟩,_⟩:=(show bH X.prog X.w H s.heap d (.xd fs) from I.hok d _ hd)
    exact ⟨oe,some od,⟨e1,e2,nc,by rw [e3];exact h1⟩,fun d' z=>by cases z;exact ⟨od,rfl,h1⟩⟩
end
def yS (K:Frag):RL:=fun xs H Q=>∃ x C dx c b,xs=[.ref x,c]∧ExA K H x C dx∧((∃ T,c = .ty T∧kitOne K (.ref C) (.type T)=some b)∨∃ D,c = .ref D∧kitOne K (.ref C) (.ref D)=some b)∧Q (.bl b) H
def HR (K:Frag) (f:Str) (x:V) (H:Hp) (Q:VK):Prop:=∃ a C d fs v,x = .ref a∧ExA K H a C (some d)∧H d=some (.xd fs)∧hasDictIn K C=true∧findIn K (.ref C) f=some none∧fs.lookup f=some v∧Q v H
def x6 (K:Frag) (ta:TE) (f:Str):TE:=fun σ H Q=>ta σ H fun x H1=>HR K f x H1 Q
section
variable {X:Cx}
theorem xo:cV X (.builtin "isinstance") (yS X.K):=by
  intro pins s σ H xs us Q I r h
  obtain ⟨x,C,dx,c,b,rfl,e,hc,q⟩:=h
  obtain ⟨u,w',rfl,rx,rc⟩:=vals2 r
  cases (show u=Value.ref x from rx)
  obtain ⟨ox,od,J,_⟩:=ve I e
  rcases hc with ⟨T,rfl,k⟩ | ⟨D,rfl,k⟩
  · cases (show w'=Value.type T from rc)
    exact kia_one (qU e.g) I.kIn ⟨ox,od,J⟩ k (fun z=>nomatch z) fun tk=>⟨.bl b,H,I.tok _,rfl,q⟩
  · cases (show w'=Value.ref D from rc)
    exact kia_one (qU e.g) I.kIn ⟨ox,od,J⟩ k (fun z=>nomatch z) fun tk=>⟨.bl b,H,I.tok _,rfl,q⟩
theorem Gb {c:Str} {C:Addr} {p:Pos} (hm:X.mg c=some (.ref C)) (hg:Gl X c:=by rfl) (hdb:(c == ("__debug__" : Str))=false:=by decide):PE X (.Name c p) (tC (.ref C)):=fun pins s σ H Q I h=>cQ I hg hm ⟨.ref C,H,I,rfl,h⟩ hdb
theorem Br {e:Expr} {f:Str} {pos:Pos} {ta:TE} (he:PE X e ta) (hb:attributeBase e f X.env (eval e X.env)=eval e X.env):PE X (.Attribute e f pos) (x6 X.K ta f):=by
  intro pins s σ H Q I h
  refine vE hb (thn (he pins s σ H _ I h) fun u s1 ⟨x,H1,I1,rx,a,C,d,fs,v,ex,ea,hd,hh,hn,l,q⟩=>?_)
  subst ex
  obtain rfl:u=Value.ref a:=rx
  obtain ⟨ox,od,J,hod⟩:=ve I1 ea
  obtain ⟨o,rfl,ho⟩:=hod d rfl
  obtain ⟨mA,N,rel⟩:=(show bH X.prog X.w H1 s1.heap d (.xd fs) from I1.hok d _ hd)
  obtain ⟨od2,ho2,hl⟩:=nB N
  rw [ho] at ho2
  cases ho2
  have rv:=rel f
  rw [l] at rv
  cases hm:mA f with
  | none=>rw [hm] at rv;exact False.elim rv
  | some v'=>
    rw [hm] at rv
    exact Ck I1.kIn J ea.g (nK rv) (findObj_own hh hn rfl (by rw [hl,hm])) fun tk=>⟨v,H1,I1.tok _,rv,q⟩
end
end L4
namespace L4
open PySem PySem.Spec PyProof.Rows L2 L3 PySem.W
theorem zg {X:Cx}:PaX X.nox (fun _ _ _ _=>False):=fun _ _ ⟨_,_,_,_,_,_,_,_,_,_,_,_,_,_,q⟩=>q
section
variable {X:Cx} {K:Frag} {e:Expr} {te:TE} {c:Str} {T:String} {D:Addr} {p p' pos:Pos}
theorem cE (hK:X.K=K) (hm:X.mg "isinstance" = none) (hc:X.mg c=some (.ref D)) (he:PE X e te) (hg:Gl X "isinstance" := by rfl) (hg':Gl X c:=by rfl) (hd:(c == ("__debug__" : Str))=false:=by decide)
    (hs:starEach [e,.Name c p'] X.env=(false,eval e X.env)::starEach [.Name c p'] X.env:=by rfl) (hs2:starEach [.Name c p'] X.env=(false,eval (.Name c p') X.env)::starEach [] X.env:=by rfl) (hpl:(backTo pos (starEach [.Name c p'] X.env)).any (·.1)=false:=by rfl) :
    PE X (.Call (.Name "isinstance" p) [e,.Name c p'] [] pos) (tCB (yS K) (j4 te (j4 (tC (.ref D)) xX))):=by
  subst hK
  exact aW xo hg hm eX (aa he (aa (Gb hc hg' hd) af hs2) hs) (by decide) (by decide) hs hpl
theorem qK {f:Str} {ta:TE} (hK:X.K=K) (he:PE X e ta) (hb:attributeBase e f X.env (eval e X.env)=eval e X.env):PE X (.Attribute e f pos) (x6 K ta f):=by
  subst hK
  exact Br he hb
end
section
variable {X:Cx} {K:Frag} {Ex:St→XK} {body suite:List Stmt} {b₀ : Stmt} {cx n:Str} {np hpos pos:Pos} {CH:Addr} {i:Nat} {tb:(St→XK)→TS} {th:TS}
theorem m9 (hK:X.K=K) (hs:X.stack=X.env::X.outer) (hf:X.env.frame=some X.env.locals) (hm:X.mg cx=some (.ref CH)) (hN:X.N.Nodup) (hi:X.N[i]?=some n) (hl:X.env.scope.names.lookup n=some .local) (hx:PaX X Ex)
    (hb:∀ pins Exb,PSs (xcx (Cx.pinned X pins) Exb) body (tb Exb)) (hh:∀ x,PSs (Cx.hand X x) (b₀ :: suite) th) (hg:Gl X cx:=by rfl) (hdb:(cx == ("__debug__" : Str))=false:=by decide) :
    PS X (.Try body [.ExceptHandler (some (.Name cx np)) (some n) (b₀ :: suite) hpos] [] [] pos) (sC K (.ref CH) i tb th Ex):=by
  subst hK
  exact yV hs hf hm hN hi hl hx hb hh hg hdb
end
section
variable {K:Frag} {σ : St} {H:Hp} {Q:VK} {D:Ends} {tl:TA} {ta:TE} {sp:Sp} {Ex:St→XK} {C:Addr}
theorem Cg (h:tl σ H fun vs H1=>sp vs H1 Q (Ex σ)):sD sp Ex tl σ H Q:=h
theorem Ca (h:tl σ H fun vs H1=>Made C sp (Ex σ) vs H1 Q):xY C sp Ex tl σ H Q:=h
def Raises (C:Addr) (Ex:XK) (vs:List V) (H:Hp):Prop:=vs.length≤1000∧Ex (.ref C) none H
theorem B8 (h:tl σ H fun vs H1=>Raises C (Ex σ) vs H1):xW C Ex tl D σ H:=h
theorem zW {E:XK} {v:V} (h:E (.ref C) none H):Raises C E [v] H:=⟨(by show 1≤1000;decide),h⟩
theorem EX {f:Str} (h:ta σ H fun x H1=>HR K f x H1 Q):x6 K ta f σ H Q:=h
def uH (K:Frag) (CH:Value) (i:Nat) (th:TS) (Ex:St→XK) (D:Ends):St→XK:=fun σ' C dx H'=>∃ b,exmOne K C CH=some b∧if b=true then ∀ x,H' x=none→th (xR i D) (σ'.set i (some (.ref x))) (upd H' x (jX x C dx)) else Ex σ' C dx H'
theorem B4 {CH:Value} {i:Nat} {tb:(St→XK)→TS} {th:TS} (h:tb (uH K CH i th Ex D) D σ H):sC K CH i tb th Ex D σ H:=h
theorem je {CH C:Value} {i:Nat} {th:TS} {dx:Option Addr} (e:exmOne K C CH=some true) (h:∀ x,H x=none→th (xR i D) (σ.set i (some (.ref x))) (upd H x (jX x C dx))):uH K CH i th Ex D σ C dx H:=⟨true,e,by rw [if_pos rfl];exact h⟩
theorem bJ {x C D:Addr} {dx:Option Addr} {b:Bool} (e:ExA K H x C dx) (k:kitOne K (.ref C) (.ref D)=some b) (h:Q (.bl b) H):yS K [.ref x,.ref D] H Q:=⟨x,C,dx,_,b,rfl,e,.inr ⟨D,rfl,k⟩,h⟩
theorem B3 {i:Nat} {v:V} (h:D.rt v H):(xR i D).rt v H:=h
end
end L4
namespace L4
open PySem PySem.Spec PyProof.Rows L2 L3 PySem.W
open Builtin Builtin.ObjectAttr
inductive cG:List Value→Prop
  | base:cG eL
  | own {c:Addr} {r:List Value}:cG r→cG (.ref c::r)
theorem qH (self:Value) {l:List Value} (h:cG l):refuseLoop self "__setattr__" l=pure ():=by
  induction h with
  | base=>exact PySem.F.store_ValueError.passes self
  | own _ ih=>rw [refuseLoop_ref];exact ih
section
variable {prog:Program} {w:World} {A:Around} {E:Value→Shared→Prop} {s:Shared} {K:Frag} {x C:Addr} {ox:Obj} {od:Option Obj} {name:Str} {v:Value} {cd:ClassData}
theorem jf {R:Result→Shared→Prop} {tk:Tok} {r:Option Value} (X:K.In s.heap) (I:InstAt s.heap x ox C od) (G:jY K C) (hc:clsIn K C=some cd) (ho:cG cd.mro) (ht:takerIn K C name=some r)
    (h:∀ b,wpAny (model prog w) A.in1 (match r with | some a=>setByDescriptor a (.ref x) v | none=>storeInOwnDict (.ref x) (.ref C) (.str name tk) name v b)
      (fun fin s'=>match fin with | .done f=>R (.ok f) s' | .again c'=>c'.quiet=true∧codeAny (model prog w) A c' R s') (fun e s'=>R (.error e) s') s) :
    codeAny (model prog w) A (.call (.builtin "object.__setattr__") ⟨[.ref x,.str name tk,v],[]⟩) R s:=by
  have SF:=PySem.F.store_object
  have sub:Looks (model prog w) s.heap (isInstance (.ref x) (.type "object")) true:=I.type.andThen (looks_mroIn X G.ob)
  refine codeAny_call_builtin SF.slot.plain SF.entry (@check_slot (model prog w) _ _ s "object.__setattr__" "object" "__setattr__" (.ref x) [.str name tk,v] [] _ SF.kind SF.split sub (SF.args (.ref x) (.str name tk) v) ?_)
  obtain ⟨attr,ha,hr⟩:=Option.bind_eq_some_iff.mp ht
  have hm:Looks (model prog w) s.heap (mroOf (.ref C)) cd.mro:=(looks_clsIn X hc).andThen .now
  have L3:Looks (model prog w) s.heap (storeTaker? attr) r:=by
    cases attr with
    | none=>cases hr;exact .now
    | some a=>
      obtain ⟨b,hb,rfl⟩:=Option.map_eq_some_iff.mp hr
      refine (looks_takesIn X hb).andThen ?_
      cases b <;> exact .now
  rw [osa_eq,refuse_eq]
  refine wpAny_bind (wpAny_bind (I.type.here (wpAny_bind (hm.here ?_))))
  rw [qH _ ho]
  refine wpAny_pure (wpAny_bind (I.type.here (wpAny_bind ((looks_findIn X ha).here (wpAny_bind (L3.here ?_))))))
  exact h _
theorem Ag {Q:Unit→Shared→Prop} {vs:Array Value} (X:K.In s.heap) (I:InstAt s.heap x ox C none) (G:jY K C) (hs:findIn K (.ref C) "__setattr__" = some (some (.builtin "object.__setattr__")))
    (hc:clsIn K C=some cd) (ho:cG cd.mro) (hh:cd.hasDict=true) (ht:takerIn K C name=some none) (hdn:ox.dict=none) (hda:ox.data = .fields vs)
    (h:∀ h' t,h'.get? x=some { ox with dict:=some s.heap.objs.size }→h'.Ns1 s.heap.objs.size (fun y=>if y=name then some v else none)→(∀ b o,b≠x→s.heap.get? b=some o→h'.get? b=some o)→Q () { s with heap:=h',toks:=t }) :
    wpAny (model prog w) A (setAttr (.ref x) name v) Q E s:=by
  refine set_plain X I hs (jf (s:={ s with toks:=s.toks+1 }) (r:=none) X I G hc ho ht fun b=>?_)
  have hx:=I.at_
  have hcl:=I.cls
  obtain ⟨oc,odi,oda,osl⟩:=ox
  dsimp only at hcl hdn hda hx
  subst hcl hdn hda
  refine wpAny_bind (wpAny_pure (wpAny_bind (wpAny_bind (wpAny_loadPart hx (wpAny_bind (PySem.W.Looks.here (s:={ s with toks:=s.toks+1 }) (PySem.W.looks_clsIn X hc) ?_))))))
  rw [hh,if_neg (by decide)]
  have hxs:x≠s.heap.objs.size:=Nat.ne_of_lt (Heap.lt_size hx)
  have hx1:(s.heap.push { cls:=.type "dict",data:=.dict #[] }).get? x=some ⟨.ref C,none,.fields vs,osl⟩:=Heap.get?_push_of_some _ hx
  show wpAny (model prog w) A.in1 (alloc { cls:=Value.type "dict",data:=Data.dict #[] } >>= fun d=>update x (fun o=>{ cls:=o.cls,dict:=some d,data:=o.data,slots:=o.slots }) >>= fun _=>dictMade (.ref C) x d) _ _ _
  refine wpAny_bind (wpAny_alloc' ?_)
  refine wpAny_bind (wpAny_update' hx1 ?_)
  refine wpAny_pure ?_
  have hgd:((s.heap.push { cls:=.type "dict",data:=.dict #[] }).update x fun o=>{ cls:=o.cls,dict:=some s.heap.objs.size,data:=o.data,slots:=o.slots }).get? s.heap.objs.size
      = some { cls:=.type "dict",data:=.dict #[] }:=(Heap.get?_update_ne _ _ _ _ hxs.symm).trans (Heap.get?_push_at rfl rfl)
  have hnd:((s.heap.push { cls:=.type "dict",data:=.dict #[] }).update x fun o=>{ cls:=o.cls,dict:=some s.heap.objs.size,data:=o.data,slots:=o.slots }).Ns s.heap.objs.size (fun _=>none):=
    ⟨_,#[],_,hgd,rfl,fun e he=>absurd he (by simp),fun _=>rfl⟩
  show wpAny _ _ (storeInDict s.heap.objs.size (.str name _) name v) _ _ _
  unfold storeInDict newKeyGuard
  refine wpAny_bind (wpAny_pure (wpAny_bind (wpAny_nsSet1 (Heap.Ns1.of_empty hnd) fun h' hn' sb=>?_)))
  obtain ⟨oD,esD,epD,hoD,hdD,hcD⟩:=hn'.count (PySem.Within.cons name v PySem.Within.nil)
  refine wpAny_bind (wpAny_lookBehind hoD (by rw [hdD];exact pastItsLine_dict (Nat.le_trans hcD (by rw [List.length_cons,List.length_nil,sizeLine_eq];omega))) ?_)
  refine wpAny_pure (h h' _ ?_ hn' fun b o nb hb=>?_)
  · exact (sb.2 x hxs).trans (Heap.get?_update_self _ hx1 rfl)
  · exact (sb.2 b (Nat.ne_of_lt (Heap.lt_size hb))).trans ((Heap.get?_update_ne _ _ _ _ nb).trans (Heap.get?_push_of_some _ hb))
theorem Af {Q:Unit→Shared→Prop} {dx:Addr} {mA:Str→Option Value} {ns:List Str} {oD:Obj} (X:K.In s.heap) (I:InstAt s.heap x ox C (some oD)) (G:jY K C) (hs:findIn K (.ref C) "__setattr__" = some (some (.builtin "object.__setattr__")))
    (hc:clsIn K C=some cd) (ho:cG cd.mro) (hh:cd.hasDict=true) (ht:takerIn K C name=some none) (hdn:ox.dict=some dx) (hN:s.heap.Ns1 dx mA) (hw:PySem.Within mA ns) (hsz:ns.length≤sizeLine)
    (h:∀ h' t,h'.Ns1 dx (fun y=>if y=name then some v else mA y)→Heap.SameBut dx s.heap h'→Q () { s with heap:=h',toks:=t }) :
    wpAny (model prog w) A (setAttr (.ref x) name v) Q E s:=by
  refine set_plain X I hs (jf (s:={ s with toks:=s.toks+1 }) (r:=none) X I G hc ho ht fun b=>?_)
  have hx:=I.at_
  have hcl:=I.cls
  obtain ⟨oc,odi,oda,osl⟩:=ox
  dsimp only at hcl hdn hx
  subst hcl hdn
  refine wpAny_bind (wpAny_pure (wpAny_bind (wpAny_bind (wpAny_loadPart hx (wpAny_bind (PySem.W.Looks.here (s:={ s with toks:=s.toks+1 }) (PySem.W.looks_clsIn X hc) ?_))))))
  rw [hh]
  refine wpAny_pure (a:=some dx) (wpAny_bind (wpAny_pure (wpAny_bind ?_)))
  refine wpAny_nsSet1 (s:={ s with toks:=s.toks+1 }) hN fun h' hn2 hs2=>?_
  obtain ⟨oD,esD,epD,hoD,hdD,hcD⟩:=hn2.count (PySem.Within.cons name v hw)
  refine wpAny_bind (wpAny_lookBehind hoD (by rw [hdD];exact pastItsLine_dict (Nat.le_trans hcD (by rw [List.length_cons];omega))) ?_)
  exact wpAny_pure (h _ _ hn2 hs2)
end
def ExN (x:Addr) (C:Value) (dx:Option Addr):Heap→Prop:=fun h=>∃ oe a0,h.get? x=some oe∧oe.cls=C∧oe.dict=dx∧oe.data = .fields #[.ref a0,.none,.none,.none,.bool false,.none]
abbrev fU (x:Addr) (C:Value) (dx:Option Addr):HO:=.ext (ExN x C dx)
def XdP (d:Addr) (fs:List (Str×V)):Heap→Prop:=fun h=>∃ mA,h.Ns1 d mA∧(∀ f,jq (fs.lookup f) (mA f))∧PySem.Within mA (fs.map (·.1))
abbrev XdO (d:Addr) (fs:List (Str×V)):HO:=.ext (XdP d fs)
def ers (H:Hp) (x:Addr):Hp:=fun b=>if b=x then none else H b
theorem lS {H:Hp} {x:Addr}:ers H x x=none:=if_pos rfl
theorem gq {H:Hp} {x b:Addr} (h:b≠x):ers H x b=H b:=if_neg h
theorem ExN.stay {x:Addr} {C:Value} {dx:Option Addr}:∀ h1 h2:Heap,ExN x C dx h1→(∀ ob,h1.get? x=some ob→h2.get? x=some ob)→ExN x C dx h2:=fun _ _ ⟨oe,a,e,b⟩ k=>⟨oe,a,k _ e,b⟩
theorem XdP.stay {d:Addr} {fs:List (Str×V)}:∀ h1 h2:Heap,XdP d fs h1→(∀ ob,h1.get? d=some ob→h2.get? d=some ob)→XdP d fs h2:=fun _ _ ⟨mA,N,r⟩ k=>⟨mA,N.at k,r⟩
section
variable {X:Cx} {pins:List (Addr×Obj)} {σ : St} {H:Hp} {s:Shared} {x C:Addr} {dx:Option Addr}
theorem wN {φ : Heap→Prop} (I:Inv X pins σ H s) (e:H x=some (.ext φ)):Inv X pins σ (ers H x) s:=by
  have nn:∀ b,H b=none→ers H x b=none:=fun b n=>by unfold ers;split <;> first | rfl | exact n
  have ne:∀ b u,H b=some u→(∀ ψ,u≠.ext ψ)→b≠x:=fun b u q n z=>by rw [z,e] at q;cases q;exact n _ rfl
  refine ⟨I.ok,I.os,I.bare,⟨I.base.keep,I.base.slot,fun b ob q n hx=>nn _ (I.base.free b ob q n hx),I.base.there,fun b xs q=>?_,fun b ob u q=>?_,fun b ps q=>?_⟩,I.loc,I.cell,nn _ I.free,fun y c q=>nn _ (I.freeC y c q),fun q hq=>?_,fun b u q=>?_,I.len⟩
  · have:=I.base.tups b xs q;rw [gq (ne _ _ this fun _ z=>by cases z)];exact this
  · have:=I.base.gn b ob u q;rw [gq (ne _ _ this fun _ z=>by cases z)];exact this
  · obtain ⟨m,h⟩:=I.base.ia b ps q
    exact ⟨m,by rw [gq (ne _ _ h fun _ z=>by cases z)];exact h⟩
  · obtain ⟨a,b,r⟩:=I.pin q hq
    exact ⟨a,nn _ b,r⟩
  · by_cases z:b=x
    · rw [z,lS] at q;cases q
    · rw [gq z] at q
      exact (I.hok b u q).stay (fun _ _ _ r=>r) (fun c r=>by rw [gq (ne _ _ r fun _ z=>by cases z)];exact r) fun c xs r=>by rw [gq (ne _ _ r fun _ z=>by cases z)];exact r
end
structure vG (K:Frag) (mg:Str→Option Value) (R:Str) (CR:Addr):Prop where
  gm:mg R=some (.ref CR)
  sg:specialIn K (.ref CR) "__getattribute__" = some (some (.builtin "type.__getattribute__"))
  rd:readsIn K CR (.type "type")=true
  fc:findCls K (.ref CR) (.type "type") "__init__" = some (.val (.builtin "ValueError.__init__"))
def sU (K:Frag):RL:=fun vs H Q=>∃ (x C:Addr) (dx:Option Addr) (rest:List V),vs = .ref x::rest∧H x=some (fU x (.ref C) dx)∧dJ K C eL "ValueError.__new__" = true∧rest.length≤1000∧Q .non H
def yc (K:Frag) (t:TA):TE:=fun σ H Q=>t σ H fun vs H1=>sU K vs H1 Q
theorem AR {H:Hp} {x:Addr} {o:HO} (h:H x=some o):upd H x o=H:=by
  funext b
  by_cases z:b=x
  · subst z;rw [ao,h]
  · rw [aD z]
section
variable {X:Cx}
theorem zc {R:Str} {CR:Addr} {np apos pos:Pos} {e:Expr} {es:List Expr} {t:TA} {pl:Sem Bool} (B:vG X.K X.mg R CR) (ha:PA X (e::es) t) (hg:Gl X R:=by rfl) (hdb:(R == ("__debug__" : Str))=false:=by decide)
    (hst:starEach (e::es) X.env=(false,eval e X.env)::starEach es X.env:=by rfl) (hpl:(backTo pos (starEach es X.env)).any (·.1)=false:=by rfl)
    (ht:eval (.Call (.Attribute (.Name R np) "__init__" apos) (e::es) [] pos) X.env=(do
      let ov ← eval (.Name R np) X.env
      standAt apos.atName
      let (f,first) ← holding [ov] (getMethod ov "__init__" pl)
      callWith pos f first (backTo pos (starEach (e::es) X.env)) (backToKw pos (keywordEach [] X.env))):=by rfl) :
    PE X (.Call (.Attribute (.Name R np) "__init__" apos) (e::es) [] pos) (yc X.K t):=by
  intro pins s σ H Q I h
  refine PySem.W.methodCall_KW (pl:=pl) (cQ I hg B.gm ?_ hdb) ht
  refine method_cls I.kIn B.sg (cls_value I.kIn B.rd B.fc rfl ?_)
  have I0:=I.tok (s.toks+1)
  refine PyProof.Rows.callWith_method1 (first:=[]) (thn (ha pos pins _ σ H _ I0 h) fun us s1 ⟨vs,H1,I1,r,x,C,dx,rest,ev,hx,hC,hz,q⟩=>?_) hst hpl
  subst ev
  cases r with
  | @cons _ u _ us' r0 r1=>
    obtain rfl:u=Value.ref x:=r0
    obtain ⟨⟨oe,a0,e1,e2,e3,e4⟩,_⟩:=(show bH X.prog X.w H1 s1.heap x (fU x (.ref C) dx) from I1.hok x _ hx)
    obtain ⟨nm,q',N,bs,bm,hdct,sn,sub,ab,col,dd,k0,k1,k2,k3,k5,hCC,T⟩:=pK I1.kIn hC
    have hl:us'.length≤sizeLine:=by rw [← r1.length];exact Nat.le_of_lt (small1000 hz)
    obtain ⟨hp,g,d,tk,os⟩:=s1
    show wpAny (model X.prog X.w) X.A (call (.builtin "ValueError.__init__") (.ref x::us')) _ _ _
    refine rg PySem.F.excBase_ValueError T hCC e1 e2 e4 (Nat.zero_lt_succ _) rfl (fun h3 eh=>?_) hl
    obtain ⟨oc,odd,da,sl⟩:=oe
    dsimp only at e2 e3 e4
    subst e2 e3 e4
    have g3:=Heap.get?_update_self (Obj.mapFields (·.setIfInBounds 0 (.ref hp.objs.size))) (Heap.get?_push_of_some { cls:=.type "tuple",data:=.seq us'.toArray } e1) rfl
    rw [← eh] at g3
    have J:=I1.write (x:=x) (e:=x) (o:=fU x (.ref C) odd) (h':=h3) (t':=tk) (by rw [hx];exact True.intro) (.inl rfl) (fun b u nb hb=>by rw [eh,Heap.get?_update_other _ _ (Ne.symm nb)];exact Heap.get?_push_of_some _ hb) ⟨_,g3⟩ ⟨⟨_,_,g3,rfl,rfl,rfl⟩,⟨_,g3⟩,ExN.stay⟩
    rw [AR hx] at J
    exact ⟨.non,H1,J,rfl,q⟩
end
structure xG (K:Frag) (C:Addr) (f:Str):Prop where
  g:jY K C
  sa:findIn K (.ref C) "__setattr__" = some (some (.builtin "object.__setattr__"))
  cd:∃ cd,clsIn K C=some cd∧cG cd.mro∧cd.hasDict=true
  tk:takerIn K C f=some none
def CT (K:Frag) (f:Str) (x y:V) (H:Hp) (R:Hp→Prop):Prop:=∃ a C dx,x = .ref a∧H a=some (fU a (.ref C) dx)∧xG K C f ∧
  (dx=none→∀ d,H d=none→R (upd (upd H a (fU a (.ref C) (some d))) d (XdO d [(f,y)])))∧∀ d,dx=some d→∃ fs,H d=some (XdO d fs)∧fs.length < 1000∧R (upd H d (XdO d (bY f y fs)))
def Dc (K:Frag) (ta tv:TE) (f:Str):TS:=fun D σ H=>tv σ H fun y H1=>ta σ H1 fun x H2=>CT K f x y H2 fun H3=>D.nx σ H3
section
variable {X:Cx} {pins:List (Addr×Obj)} {σ : St} {H:Hp} {s:Shared}
theorem AX {A:Around} {E:Value→Shared→Prop} {f:Str} {a:Addr} {x y:V} {u:Value} {R:Hp→Prop} {Q:Unit→Shared→Prop} (I:Inv X pins σ H s) (ex:x = .ref a) (ry:RelV y u) (h:CT X.K f x y H R)
    (hq:∀ H' s',Inv X pins σ H' s'→R H'→Q () s'):wpAny (model X.prog X.w) A (setAttr (.ref a) f u) Q E s:=by
  obtain ⟨a',C,dx,ex',ha,P,h0,h1⟩:=h
  rw [ex] at ex'
  cases ex'
  obtain ⟨⟨oe,a0,e1,e2,e3,e4⟩,_⟩:=(show bH X.prog X.w H s.heap a (fU a (.ref C) dx) from I.hok a _ ha)
  obtain ⟨cd,c1,c2,c3⟩:=P.cd
  have nc:notCls oe=true:=by unfold notCls;rw [e4]
  cases dx with
  | none=>
    have J:InstAt s.heap a oe C none:=⟨e1,e2,nc,by rw [e3];trivial⟩
    refine Ag I.kIn J P.g P.sa c1 c2 c3 P.tk e3 e4 fun h' t b1 b2 b3=>?_
    have hd:=I.hok.fresh (Nat.le_refl s.heap.objs.size)
    have na:a≠s.heap.objs.size:=Nat.ne_of_lt (Heap.lt_size e1)
    have I1:=I.write (x:=a) (e:=a) (o:=fU a (.ref C) (some s.heap.objs.size)) (h':=h') (t':=t) (by rw [ha];exact True.intro) (.inl rfl) (fun b u nb hb=>b3 b u nb hb) ⟨_,b1⟩ ⟨⟨_,a0,b1,e2,rfl,e4⟩,⟨_,b1⟩,ExN.stay⟩
    have o1:eG X pins (upd H a (fU a (.ref C) (some s.heap.objs.size))) s.heap.objs.size:=cP I (Nat.le_refl _) (by rw [aD na.symm];exact hd)
    have pd:XdP s.heap.objs.size [(f,y)] h':=⟨_,b2,fun g=>by
      show jq (List.lookup g [(f,y)]) (if g=f then some u else none)
      by_cases z:g=f
      · subst z;rw [if_pos rfl,lk_hit];exact ry
      · rw [if_neg z,lk_miss (beq_eq_false_iff_ne.mpr z)];trivial,fun g hg=>by
      by_cases z:g=f
      · rw [z];exact List.mem_cons_self
      · exact absurd (show (if g=f then some u else none)=none by rw [if_neg z]) hg⟩
    have I2:=nG I1 o1 pd (let ⟨o,_,_,e,_⟩:=b2;⟨o,e⟩) XdP.stay
    exact hq _ _ I2 (h0 rfl _ hd)
  | some d=>
    obtain ⟨fs,hd,hz,r⟩:=h1 d rfl
    obtain ⟨⟨mA,N,rel,wi⟩,_⟩:=(show bH X.prog X.w H s.heap d (XdO d fs) from I.hok d _ hd)
    obtain ⟨oD,hoD⟩:∃ o,s.heap.get? d=some o:=let ⟨o,_,_,e,_⟩:=N;⟨o,e⟩
    have J:InstAt s.heap a oe C (some oD):=⟨e1,e2,nc,by rw [e3];exact hoD⟩
    have hz':(fs.map (·.1)).length≤sizeLine:=by rw [List.length_map,sizeLine_eq];omega
    refine Af I.kIn J P.g P.sa c1 c2 c3 P.tk e3 N wi hz' fun h' t b2 sb=>?_
    refine hq _ _ (I.write (x:=d) (e:=d) (o:=XdO d (bY f y fs)) (h':=h') (t':=t) (by rw [hd];exact True.intro) (.inl rfl) (fun b u nb hb=>(sb.2 b nb).trans hb) (let ⟨o,_,_,e,_⟩:=b2;⟨o,e⟩) ⟨⟨_,b2,fun g=>?_,fun g hg=>?_⟩,(let ⟨o,_,_,e,_⟩:=b2;⟨o,e⟩),XdP.stay⟩) r
    · show jq ((bY f y fs).lookup g) (if g=f then some u else mA g)
      rw [gi]
      by_cases z:g=f
      · rw [if_pos z,if_pos z];exact ry
      · rw [if_neg z,if_neg z];exact rel g
    · by_cases z:g=f
      · rw [z];exact (fm f y fs).1
      · refine (fm f y fs).2 g (wi g fun n=>hg ?_)
        show (if g=f then some u else mA g)=none
        rw [if_neg z];exact n
theorem Bh {o value:Expr} {f:Str} {pos pos':Pos} {ta tv:TE} (ha:PE X o ta) (hv:PE X value tv) (hs:swapsWith value (some (.Attribute o f pos')) pos.line X.env=pure false):PS X (.Assign [.Attribute o f pos'] value pos) (Dc X.K ta tv f):=by
  intro pins s σ H D I h
  refine plainObj_wpAny_Assign_Attribute (thn (hv pins s σ H _ I h) fun u s1 ⟨y,H1,I1,ry,q⟩=>thn (ha pins s1 σ H1 _ I1 q) fun ov s2 ⟨x,H2,I2,rx,q2⟩=>?_) hs
  obtain ⟨a,C,dx,ex,r⟩:=id q2
  subst ex
  obtain rfl:ov=Value.ref a:=rx
  exact AX I2 rfl ry q2 fun H3 s3 I3 q3=>⟨σ,H3,I3,q3⟩
end
structure CY (P:Program) (w:World) (K:Frag) (mg:Str→Option Value) (base:Heap) (x:Str) (C:Addr) (k:Nat) (ps:List Str) (sp:Sp):Prop where
  ok:dJ K C eL "ValueError.__new__" = true
  kp:keepIn K (.ref C)=true
  gm:mg x=some (.ref C)
  fn:∃ f fd,findIn K (.ref C) "__init__" = some (some (.ref f))∧typeIn K (.ref f)=some (.type "function")∧fz P w K mg base (CX1 P w) k f fd ps sp∧Binds K fd ps []
def Rz (C x:Addr) (Ex:XK) (r:V) (H:Hp):Prop:=r = .non∧∃ dx,H x=some (fU x (.ref C) dx)∧(dx=none→Ex (.ref C) none (ers H x))∧∀ d,dx=some d→∃ fs,H d=some (XdO d fs)∧d≠x∧Ex (.ref C) (some d) (upd (ers H x) d (.xd fs))
def uF (C:Addr) (sp:Sp) (Ex:St→XK) (tl:TA):TS:=fun _ σ H=>tl σ H fun vs H1=>vs.length≤1000∧∀ x,H1 x=none→sp (.ref x::vs) (upd H1 x (fU x (.ref C) none)) (Rz C x (Ex σ)) fun _ _ _=>False
theorem gP {X:Cx} {Ex:St→XK} {x:Str} {C:Addr} {k:Nat} {ps:List Str} {sp:Sp} {e:Expr} {es:List Expr} {t:TA} {np cpos pos:Pos} (O:CY X.prog X.w X.K X.mg X.base x C k ps sp) (hr:cy (k+1) X.A) (hc:X.calm=true) (hx:PaX X Ex) (ha:PA X (e::es) t) (hg:Gl X x:=by rfl)
    (hdb:(x == ("__debug__" : Str))=false:=by decide) (he:starEach (e::es) X.env=(false,eval e X.env)::starEach es X.env:=by rfl) (hpl:(backTo cpos (starEach es X.env)).any (·.1)=false:=by rfl) :
    PS X (.Raise (some (.Call (.Name x np) (e::es) [] cpos)) none pos) (uF C sp Ex t):=by
  intro pins s σ H D I h
  obtain ⟨f,fd,fi,ft,F,fb⟩:=O.fn
  obtain ⟨nm,q,N,bs,bm,hdct,sn,sub,ab,col,dd,k0,k1,k2,k3,k5,hC,T⟩:=pK I.ok.mod.kin O.ok
  rw [arm_exec_Raise]
  refine wpAny_bind (wpAny_standAt (lz (C:=C) (nm:=nm) (q:=q) (N:=N) (bs:=bs) (bm:=bm) (hdct:=hdct) (sn:=sn) (sub:=sub) (ab:=ab) (col:=col) (dd:=dd) (k0:=k0) (k1:=k1) (k2:=k2) (k3:=k3) (k5:=k5) (newId:="ValueError.__new__") (T.hasType (by decide +kernel)) (I.ok.hd hc) (wpAny_bind ?_)))
  refine wpAny_Call_Name_kw (cQ I hg O.gm ?_ hdb)
  refine callWith_K (h₀:=X.base) I.ok.mod.kin O.kp (thn (ha cpos pins s σ H _ I h) fun us s1 ⟨vs,H1,I1,r,hz,qx⟩=>⟨I1.kIn,?_⟩) he hpl
  have hl:us.length≤sizeLine:=by rw [← r.length];exact Nat.le_of_lt (small1000 hz)
  have T1:=T.keeps I1.bk
  have hC1:=I1.bk _ _ hC
  have nx:=I1.hok.fresh (Nat.le_succ s1.heap.objs.size)
  have hq:=qx _ nx
  have I2:=I1.laid (a:=s1.heap.objs.size+1) (o:=fU (s1.heap.objs.size+1) (.ref C) none) (h':=tY s1.heap C us) (t':=s1.toks) cK (Nat.le_succ _) ⟨⟨_,_,gp,rfl,rfl,rfl⟩,⟨_,gp⟩,ExN.stay⟩
  have r2:Vals (V.ref (s1.heap.objs.size+1)::vs) (Value.ref (s1.heap.objs.size+1)::us):=.cons rfl r
  have hl2:(Value.ref (s1.heap.objs.size+1)::us).length=ps.length:=by rw [← r2.length];exact F.len _ _ _ _ hq
  have hb':=fb _ (Value.ref (s1.heap.objs.size+1)::us) I2.kIn (by rw [List.append_nil];exact hl2)
  rw [List.append_nil] at hb'
  obtain ⟨hp,g,d,tk,os⟩:=s1
  show wpAny (model X.prog X.w) X.A (call (.ref C) us) _ _ _
  refine rj PySem.F.excBase_ValueError T1 hC1 (looks_findIn I1.kIn fi) (fun self=>bind_fn I1.kIn self ft) ?_ hl
  refine wpAny_call (codeAny_mono (F.run _ X.stack _ _ ⟨Value.ref (hp.objs.size+1)::us,[]⟩ (Value.ref (hp.objs.size+1)::us) _ _ (fun _ _ _=>False) (hr.make C us []) (I2.w6.make C us []) hb' r2 hq) fun r s' hq'=>?_)
  cases r with
  | error e=>exact (tE _ _ _ _ _ hq').elim
  | ok fl=>
    cases fl with
    | ret u=>
      obtain ⟨v,H3,I3,rv,ev,dx,hx3,q0,q1⟩:=I2.after hq'
      subst ev
      refine ⟨rv,?_⟩
      obtain ⟨⟨oe,a0,e1,e2,e3,e4⟩,_⟩:=(show bH X.prog X.w H3 s'.heap (hp.objs.size+1) (fU (hp.objs.size+1) (.ref C) dx) from I3.hok _ _ hx3)
      have ea:ExcAt s'.heap (hp.objs.size+1) (.ref C) dx none .none:=⟨oe,_,e1,e2,e3,e4,rfl,fun t ht=>by cases ht⟩
      have I4:=wN I3 hx3
      have hCs:=I3.bk _ _ hC
      refine wpAny_bind (wpAny_standAt (wpAny_pure ⟨_,oe,_,rfl,hCs,e1,e2,e4,rfl,hx _ _ ?_⟩))
      cases dx with
      | none=>exact ⟨pins,σ,_,hp.objs.size+1,.ref C,none,none,.none,rfl,I4,ea,.inl rfl,cP I1 (Nat.le_succ _) lS,(fun t ht=>by cases ht),q0 rfl⟩
      | some d=>
        obtain ⟨fs,hd,nd,qd⟩:=q1 d rfl
        obtain ⟨⟨mA,N',rel,_⟩,od,_⟩:=(show bH X.prog X.w H3 s'.heap d (XdO d fs) from I3.hok _ _ hd)
        have hd4:ers H3 (hp.objs.size+1) d=some (XdO d fs):=by rw [gq nd];exact hd
        have I5:=I4.write (x:=d) (e:=d) (o:=.xd fs) (h':=s'.heap) (t':=s'.toks) (by rw [hd4];exact True.intro) (.inl rfl) (fun b u _ hb=>hb) od ⟨mA,N',rel⟩
        exact ⟨pins,σ,_,hp.objs.size+1,.ref C,some d,none,.none,rfl,I5,ea,.inl rfl,cP I1 (Nat.le_succ _) (by rw [aD (Ne.symm nd)];exact lS),(fun t ht=>by cases ht),qd⟩
    | _=>exact False.elim hq'
end L4
namespace L4
open PySem PySem.Spec PyProof.Rows L2 L3 PySem.W
structure HK (k:Nat) (A:Around):Prop where
  dp:A.depth+3 * k+5 < recursionLimit
  un:A.units+16 * k+200 < cLine
structure HQ (P:Program) (w:World) (K:Frag) (mg:Str→Option Value) (base:Heap) (CX:CXT) (k:Nat) (f:Addr) (fd:FuncData) (ps:List Str) (sp:Sp):Prop where
  len:∀ vs H Q E,sp vs H Q E→vs.length=ps.length
  run:∀ (A:Around) (outer:List Env) (s:Shared) (H:Hp) (args:Args) (us:List Value) (vs:List V) (Q:VK) (E:XK),HK k A→rR P w K mg base A outer s H→BindsTo s fd args (ps.zip us)→Vals vs us→sp vs H Q E →
    codeAny (model P w) A (.call (.ref f) args) (CR CX outer P w H s Q E) s
section
variable {CX:CXT} {P:Program} {w:World} {K:Frag} {mg:Str→Option Value} {base:Heap} {k:Nat} {f:Addr} {N ps:List Str} {sp:Sp}
end
structure IX (P:Program) (w:World) (K:Frag) (mg:Str→Option Value) (base:Heap) (CX:CXT) (x:Str) (k:Nat) (ps:List Str) (sp:Sp):Prop where
  ex:∃ f fd,HQ P w K mg base CX k f fd ps sp∧Binds K fd ps []∧PySem.W.keepIn K (.ref f)=true∧mg x=some (.ref f)
section
variable {P:Program} {w:World} {K:Frag} {mg:Str→Option Value} {base:Heap} {CX:CXT} {x qual:Str} {st:Stmt} {N ps:List Str} {k:Nat} {sp:Sp}
end
section
variable {X:Cx} {CX:CXT} {k:Nat} {ps:List Str} {sp:Sp} {E:XK} {x:Str} {p pos:Pos} {e:Expr} {es:List Expr} {t:TA}
end
end L4
namespace L4
open PySem PySem.Spec PyProof.Rows L2 L3 PySem.W
theorem oN {α : Type} {o:Option α} {x : α} (e:o=some x):o.isSome=true:=by rw [e];rfl
theorem nP {K:Frag} {C:Addr} {bmB:List Value} {newId:String} (q:excIn K C bmB newId=true):dJ K C bmB newId=true:=by
  unfold excIn at q
  unfold dJ
  split at q
  · rename_i dd cd sl ho
    split at q
    · rename_i C' bm k0 k1 k2 k3 n k5 hm hs
      simp only [Bool.and_eq_true] at q
      simp only [ho,hm,hs,Bool.and_eq_true]
      exact q.1.1
    · cases q
  · cases q
theorem Ai {K:Frag} {C CR:Addr} {newId:String} {dd:Option Addr} {cd:ClassData} {k0 k1 k2 k3 k5:Option Value} (l:K.lookup C=some ⟨.type "type",dd,.cls cd,#[k0,k1,k2,k3,some (.builtin newId),k5]⟩) (hm:cd.mro = .ref C::.ref CR::eL) (B0:cd.hasDel=false) (q:excIn K CR eL newId=true):dJ K C eL newId=true:=by
  have hv:tailIn K eL eL=true:=by
    show tailIn K eL (.type "ValueError" :: [.type "Exception",.type "BaseException",.type "object"])=true
    unfold tailIn
    rw [show ((Value.type "ValueError" :: [Value.type "Exception",.type "BaseException",.type "object"]) == eL)=true from beq_self_eq_true eL,Bool.true_or]
  have ht:tailIn K eL (.ref CR::eL)=true:=by
    unfold excIn at q
    unfold tailIn
    refine Bool.or_eq_true_iff.mpr (.inr ?_)
    split at q
    · rename_i ho
      split at q
      · simp only [Bool.and_eq_true] at q
        simp only [ho,Bool.and_eq_true]
        exact ⟨⟨q.1.2,q.2⟩,hv⟩
      · cases q
    · cases q
  unfold dJ
  simp only [l,hm]
  simp [B0,ht]
theorem cG.two {C CR:Addr}:cG (.ref C::.ref CR::eL):=.own (.own .base)
structure uw (K:Frag) (mg:Str→Option Value) (x qual:Str) (C:Addr) (st:Stmt) (ps:List Str):Prop where
  ok:dJ K C eL "ValueError.__new__" = true
  kp:keepIn K (.ref C)=true
  gm:mg x=some (.ref C)
  ex:∃ f fd,Fun K "__init__" qual st f fd∧Binds K fd ps []∧findIn K (.ref C) "__init__" = some (some (.ref f))∧typeIn K (.ref f)=some (.type "function")
section
variable {P:Program} {w:World} {K:Frag} {mg:Str→Option Value} {base:Heap} {x qual:Str} {C:Addr} {st:Stmt} {N ps:List Str} {k:Nat} {sp:Sp}
theorem Co {h:Heap} (X:K.In h) (G:h.Ns mainGlobals mg) {f:Addr} {oc:Value} {od an:Option Addr} {osl:Array (Option Value)} {kV doc pm cdv ct:Value} (aC:nsIn K mainGlobals x=some (some (.ref C))) (o:dJ K C eL "ValueError.__new__" = true)
    (a:findIn K (.ref C) "__init__" = some (some (.ref f))) (i:typeIn K (.ref f)=some (.type "function"))
    (l:K.lookup f=some ⟨oc,od,.func (fnOf "__init__" qual (bD st) (aU st) (aj st) .none kV doc pm an cdv ct),osl⟩) (c:codeIn K cdv qual=true) (kp:keepIn K (.ref f)=true) (kc:keepIn K (.ref C)=true)
    (b:∀ (kV doc pm:Value) (an:Option Addr) (cdv ct:Value) (us:List Value),us.length=ps.length→bindArgs (fnOf "__init__" qual (bD st) (aU st) (aj st) .none kV doc pm an cdv ct) ⟨us,[]⟩=pure (ps.zip us)):uw K mg x qual C st ps:=by
  have F:=tU (st:=st) l c kp
  exact ⟨o,kc,mg_of X G aC,f,_,F,F.binds b,a,i⟩
theorem uw.ok' (D:uw K mg x qual C st ps) (S:aB N ps (aj st)) (len:∀ vs H Q E,sp vs H Q E→vs.length=ps.length)
    (hbody:∀ (f:Addr) (cdv:Value) (A:Around) (outer:List Env) (s:Shared) (H:Hp) (vs:List V) (Q:VK) (E:XK),cy k (A.deeper (envOfC qual (aj st) s.heap.objs.size f cdv))→sp vs H Q E →
      ∃ t,PSs (bM (CX1 P w) P w K mg base N qual (aj st) f cdv A outer s H E).nox (aU st) t∧t { nx:=fun _ H'=>Q .non H',rt:=Q } (start N vs) H):CY P w K mg base x C (k+1) ps sp:=by
  obtain ⟨f,fd,F,b,a,i⟩:=D.ex
  exact ⟨D.ok,D.kp,D.gm,f,fd,a,i,tT F S len hbody,b⟩
end
section
variable {K:Frag} {σ : St} {H:Hp} {Q:VK} {D:Ends} {tl:TA} {ta tv:TE} {sp:Sp} {Ex:St→XK} {C:Addr}
theorem Ci (h:tl σ H fun vs H1=>sU K vs H1 Q):yc K tl σ H Q:=h
theorem Aa {x:Addr} {dx:Option Addr} {v:V} (e:H x=some (fU x (.ref C) dx)) (k:dJ K C eL "ValueError.__new__" = true) (h:Q .non H):sU K [.ref x,v] H Q:=⟨x,C,dx,[v],rfl,e,k,(by show 1≤1000;decide),h⟩
theorem B6 {f:Str} (h:tv σ H fun y H1=>ta σ H1 fun x H2=>CT K f x y H2 fun H3=>D.nx σ H3):Dc K ta tv f D σ H:=h
theorem EF {f:Str} {a:Addr} {y:V} {R:Hp→Prop} (e:H a=some (fU a (.ref C) none)) (P:xG K C f) (h:∀ d,H d=none→R (upd (upd H a (fU a (.ref C) (some d))) d (XdO d [(f,y)]))):CT K f (.ref a) y H R:=⟨a,C,none,rfl,e,P,fun _=>h,fun d z=>by cases z⟩
def vF (C:Addr) (sp:Sp) (Ex:XK) (vs:List V) (H:Hp):Prop:=vs.length≤1000∧∀ x,H x=none→sp (.ref x::vs) (upd H x (fU x (.ref C) none)) (Rz C x Ex) fun _ _ _=>False
theorem zV (h:tl σ H fun vs H1=>vF C sp (Ex σ) vs H1):uF C sp Ex tl D σ H:=h
def oH (C:Addr) (f:Str):Sp:=fun vs H Q _=>∃ x v,vs=[.ref x,v]∧H x=some (fU x (.ref C) none)∧∀ d,H d=none→Q .non (upd (upd H x (fU x (.ref C) (some d))) d (XdO d [(f,v)]))
theorem gX {E:XK} {v:V} {f:Str} (h:∀ d H',az H H'→H' d=some (.xd [(f,v)])→E (.ref C) (some d) H'):vF C (oH C f) E [v] H:=by
  refine ⟨(by show 1≤1000;decide),fun x nx=>⟨x,v,rfl,ao,fun d nd=>⟨rfl,some d,?_,(fun z=>by cases z),fun d' z=>?_⟩⟩⟩
  · have ne:x≠d:=fun z=>by rw [z,ao] at nd;cases nd
    rw [aD ne,ao]
  · cases z
    have ne:d≠x:=fun z=>by rw [z,ao] at nd;cases nd
    have nd':H d=none:=by rw [aD ne] at nd;exact nd
    refine ⟨_,ao,ne,h d _ (fun b o e=>?_) ao⟩
    rw [aD (ay e nd'),gq (ay e nx),aD (ay e nd'),aD (ay e nx),aD (ay e nx)]
    exact e
end
section
theorem xN {l:PySem.W.OpenLaw} {n k:Nat} {q:Program} {loose:List Str} {XP:(Str→Option Value)→Heap→Prop} {YP:World→Heap→Prop} {d:DefRec} {K:Params→PySem.W.Frag} {CX:Program→World→CXT} {sp:PySem.W.Frag→Sp} {x:Str}
    (hn:l.most=some n) (hn2:n≤sizeLine) (hdf:d.params.defaults=[]) (hr:cy k callerA)
    (hY:∀ (w:World) (h:Heap),YP w h→(K w.params).In h)
    (F:∀ (w:World) (mg:Str→Option Value) (fa:Addr) (h:Heap),(K w.params).In h→h.Ns mainGlobals mg→mg d.name=some (.ref fa) →
      ∃ fd:FuncData,(∀ (s:Shared) (u:Value),BindsTo s fd ⟨[u],[]⟩ [(x,u)]) ∧
        ∀ base:Heap,(K w.params).In base→base.Ns mainGlobals mg→fz l.prog w (K w.params) mg base (CX l.prog w) k fa fd [x] (sp (K w.params)))
    (hsp:∀ (K:PySem.W.Frag) (H:Hp) (a:Addr) (ns:List Int),ns.length≤n→CV H→SqL K H a (ns.map V.int)→sp K [.ref a] H (fun v _=>v = .bl true) fun _ _ _=>False)
    (hCX:∀ (P:Program) (w:World) (H:Hp) (s:Shared) (e:Value) (s':Shared),CX P w [] H s (fun _ _ _=>False) e s'→False) :
    PySem.W.WalkO q loose XP YP l.row.toRowW d [] (fun f vs=>PySem.call f vs):=
  AN (K:=K) (CX:=fun w=>CX l.prog w) (sp:=fun w=>sp (K w.params)) hn hn2 hdf hr hY F (fun w H a ns h1 h2 h3=>hsp (K w.params) H a ns h1 h2 h3) fun w H s e s'=>hCX l.prog w H s e s'
end
end L4
namespace HT3
open PySem PyProof.Rows HT
section
open PySem.SeqAt
open PySem.AutoSeq1 (wpAny_loadPart')
open PySem.MeetsSeq PySem.MeetsSeq2 PySem.MeetsSeq3
end
section
variable {prog:Program} {w:World} {A:Around} {E:Value→Shared→Prop} {s:Shared}
end
section
open PySem.SeqAt
open PySem.AutoSeq1 (wpAny_loadPart')
open PySem.MeetsSeq PySem.MeetsSeq2 PySem.MeetsSeq3
end
section
variable {prog:Program} {w:World} {A:Around} {E:Value→Shared→Prop} {s:Shared}
end
end HT3
namespace L4
open PySem PySem.Spec PyProof.Rows L2 L3
section
variable {X:Cx}
end
section
variable {K:PySem.W.Frag} {H:Hp} {Q:VK} {a b:Addr} {m k m' k':Int}
end
end L4
namespace L4
open PySem PySem.Spec PyProof.Rows L2 L3
end L4
namespace L4
open PySem PySem.Spec PyProof.Rows L2 L3
theorem HF {bs:List Bool} {us:List Value} (rv:Vals (bs.map V.bl) us) {i:Nat} {v:Value} (e:us[i]?=some v):∃ b,bs[i]?=some b∧v = .bool b:=by
  have hi:i < bs.length:=by
    have h1:=(List.getElem?_eq_some_iff.mp e).1
    have h2:=rv.length
    rw [List.length_map] at h2
    omega
  obtain ⟨u,hu,ru⟩:=rv.get (i:=i) (x:=V.bl bs[i]) (by rw [List.getElem?_map,List.getElem?_eq_getElem hi];rfl)
  rw [e] at hu
  cases hu
  cases ru
  exact ⟨_,List.getElem?_eq_getElem hi,rfl⟩
theorem sS (bs:List Bool):((List.range bs.length).all fun i=>(bs[i]?).getD true)=bs.all id:=by
  rw [Bool.eq_iff_iff,List.all_eq_true,List.all_eq_true]
  constructor
  · intro h b hb
    obtain ⟨i,hi,e⟩:=List.getElem_of_mem hb
    have:=h i (List.mem_range.mpr hi)
    rw [List.getElem?_eq_getElem hi,Option.getD_some,e] at this
    exact this
  · intro h i hi
    have hi':=List.mem_range.mp hi
    rw [List.getElem?_eq_getElem hi',Option.getD_some]
    exact h _ (List.getElem_mem hi')
theorem BV {s:Shared} {h':Heap} {o:Obj} (hk:∀ b x,b∉[s.heap.objs.size]→(s.heap.push o).get? b=some x→h'.get? b=some x):∀ b x,s.heap.get? b=some x→h'.get? b=some x:=
  fun b x e=>hk b x (fun hm=>by rw [List.mem_singleton.mp hm] at e;exact Nat.lt_irrefl _ (Heap.lt_size e)) (Heap.get?_push_of_some _ e)
def F8 (K:PySem.W.Frag):RL:=fun xs H Q=>∃ (p:Addr) (bs:List Bool),xs=[.ref p]∧SqL K H p (bs.map V.bl)∧Q (.bl (bs.all id)) H
def Dg (K:PySem.W.Frag):R2:=fun x y H Q=>∃ a b xs ys,x = .ref a∧y = .ref b∧SqT K H a xs∧SqT K H b ys∧xs.length+ys.length≤sizeLine ∧
  (xs=[]→Q (.ref b) H)∧(xs≠[]→ys=[]→Q (.ref a) H)∧(xs≠[]→ys≠[]→∀ p,H p=none→Q (.ref p) (upd H p (.tup (xs++ys))))
section
variable {X:Cx}
theorem lW (hc:X.calm=true):cV X (.builtin "all") (F8 X.K):=by
  intro pins s σ H xs us Q I r h
  obtain ⟨p,bs,rfl,hq,q⟩:=h
  obtain ⟨u,rfl,rx⟩:=vals1 r
  cases rx
  obtain ⟨its,rv,pl,hz⟩:=I.list hq
  have hl:=pl.isList
  have hlt:p < s.heap.objs.size:=by obtain ⟨_,e,_⟩:=hl;exact Heap.lt_size e
  have hlen:its.length=bs.length:=by rw [← rv.length,List.length_map]
  refine call_all_walk (wpAny_pyIter_list hl ?_)
  refine ⟨s.heap.objs.size,[s.heap.objs.size,p],[s.heap.objs.size],its.toArray.size,_,_,fun i=>(bs[i]?).getD true,rfl,Walks.list (A:=X.A.in1) (I.ok.hd hc) _ p (Nat.ne_of_lt hlt) its.toArray,
    ⟨⟨_,Heap.get?_push_size _ rfl,rfl,rfl⟩,hl.push _⟩,fun i v s' Q' E' hP hQ=>?_,fun h' tk hk=>?_⟩
  · obtain ⟨b,e,rfl⟩:=HF rv (i:=i) (v:=v) (by simpa using hP)
    simp only [e,Option.getD_some] at hQ
    exact wpAny_truthy_bool hQ
  · have e:((List.range its.toArray.size).all fun i=>(bs[i]?).getD true)=bs.all id:=by
      rw [List.size_toArray,hlen];exact sS bs
    rw [e]
    exact ⟨.bl _,H,I.kept (BV hk),rfl,q⟩
theorem pA:OpR X (binaryOp .Add) (Dg X.K):=by
  intro pins s σ H x y v u Q I rx ry h
  obtain ⟨a,b,xs,ys,rfl,rfl,ha,hb,hz,q0,q1,q2⟩:=h
  cases rx
  cases ry
  obtain ⟨its,r1,p1,_⟩:=I.tuple ha
  obtain ⟨its2,r2,p2,_⟩:=I.tuple hb
  obtain ⟨⟨cls,dd,data,sl⟩,ho,hc,n,hd⟩:=id p1
  obtain ⟨⟨cls2,dd2,data2,sl2⟩,ho2,hc2,n2,hd2⟩:=id p2
  simp only at hc hd hc2 hd2
  subst hc hd hc2 hd2
  have e:its.toArray++its2.toArray=(its++its2).toArray:=by simp
  have hsz:its.length+its2.length≤sizeLine:=by rw [← r1.length,← r2.length];exact hz
  by_cases hv:its=[]
  · exact concat_meets ⟨_,ho,rfl⟩ ⟨_,ho2,rfl⟩ noFill_tuple_add seq_tuple_add PySem.F.slot_tuple_add PySem.F.entry_tuple_add (PySem.F.args_tuple_add_2 _ _)
      (tuple_addW0 a b its.toArray its2.toArray n n2 dd dd2 sl sl2 (by simp [hv])) ⟨ho,ho2,⟨.ref b,H,I,rfl,q0 (r1.kK.mp hv)⟩⟩
  · have hx:xs≠[]:=fun z=>hv (r1.kK.mpr z)
    by_cases hw:its2=[]
    · exact concat_meets ⟨_,ho,rfl⟩ ⟨_,ho2,rfl⟩ noFill_tuple_add seq_tuple_add PySem.F.slot_tuple_add PySem.F.entry_tuple_add (PySem.F.args_tuple_add_2 _ _)
        (tuple_addW1 a b its.toArray its2.toArray n n2 dd dd2 sl sl2 (by simpa using hv) (by simp [hw])) ⟨ho,ho2,⟨.ref a,H,I,rfl,q1 hx (r2.kK.mp hw)⟩⟩
    · have hy:ys≠[]:=fun z=>hw (r2.kK.mpr z)
      refine concat_meets ⟨_,ho,rfl⟩ ⟨_,ho2,rfl⟩ noFill_tuple_add seq_tuple_add PySem.F.slot_tuple_add PySem.F.entry_tuple_add (PySem.F.args_tuple_add_2 _ _)
        (tuple_addW2 a b its.toArray its2.toArray n n2 dd dd2 sl sl2 (by simpa using hv) (by simpa using hw) (by rw [List.size_toArray,List.size_toArray];exact hsz)) ⟨ho,ho2,?_⟩
      rw [e]
      refine ⟨.ref s.heap.objs.size,_,I.laid (t':=s.toks) (o:=.tup (xs++ys)) (fun b ob q=>Heap.get?_push_of_some _ q) (Nat.le_refl _) ?_,rfl,q2 hx hy _ (I.hok.fresh (Nat.le_refl _))⟩
      exact ⟨by rw [List.length_append];exact hz,_,r1.append r2,IsTup.new _ _⟩
end
section
variable {K:PySem.W.Frag} {H:Hp} {Q:VK} {p:Addr} {P:Addr→Prop} {H0:Hp} {l:List (Addr×Ob)} {fs:List Pr} {a b:Addr} {xs ys:List V}
theorem pI {bs:List Bool} (s:SqL K H p (bs.map V.bl)) (h:Q (.bl (bs.all id)) H):F8 K [.ref p] H Q:=⟨p,bs,rfl,s,h⟩
theorem tS (L:Led P H0 H l fs) (m1:cz a xs∈fs) (m2:cz b ys∈fs) (hz:xs.length+ys.length≤sizeLine) (h:∀ t H',Led P H0 H' l (cz t (xs++ys)::fs)→az H H'→Q (.ref t) H'):Dg K (.ref a) (.ref b) H Q:=by
  refine ⟨a,b,xs,ys,rfl,rfl,SqT.of (L.tup m1),SqT.of (L.tup m2),hz,fun z=>?_,fun _ z=>?_,fun _ _ t nt=>?_⟩
  · subst z
    exact h b H (L.more (cz b ([]++ys)) (L.tup m2)) (az.refl _)
  · subst z
    exact h a H (L.more (cz a (xs++[])) (by rw [List.append_nil];exact L.tup m1)) (az.refl _)
  · exact h t _ (L.BK nt) (aQ nt)
end
end L4
namespace L4
open PySem PySem.Spec PyProof.Rows L2 L3 PySem.W
structure IW (P:Program) (w:World) (K:Frag) (mg:Str→Option Value) (base:Heap) (CX:CXT) (C:Addr) (m:Str) (k:Nat) (ps:List Str) (sp:Sp):Prop where
  cl:Cls K C
  ex:∃ f fd,Meth K C m f∧fz P w K mg base CX k f fd ps sp∧Binds K fd ps []
section
variable {P:Program} {w:World} {K:Frag} {mg:Str→Option Value} {base:Heap} {CX:CXT} {x qual:Str} {C:Addr} {st:Stmt} {N ps:List Str} {k j:Nat} {sp sp':Sp}
end
section
variable {X:Cx} {CX:CXT} {k:Nat} {C:Addr} {ps:List Str} {sp:Sp} {E:XK} {Ex:St→XK} {m:Str} {pos apos:Pos} {e o:Expr} {es:List Expr} {ta:TE} {t:TA}
end
end L4
namespace L4
open PySem PySem.Spec PyProof.Rows L2 L3
section
variable {X:Cx} {e st:Expr} {te:TE} {ts:TO} {pos p2:Pos}
end
section
variable {K:PySem.W.Frag} {P:Addr→Prop} {H0 H:Hp} {l l':List (Addr×Ob)} {fs:List Pr} {Q:VK} {σ : St} {r r':R2} {ta tb tc te:TE} {ts:TO} {tl:TA}
theorem Cf (h:ta σ H fun x H1=>tb σ H1 fun y H2=>r x y H2 fun z H3=>IsB z H3 fun k H3=>if k=true then tc σ H3 fun w' H4=>r' y w' H4 Q else Q (.bl false) H3):ya r r' ta tb tc σ H Q:=h
end
end L4
namespace L4
open PySem PySem.Spec PyProof.Rows L2 L3
section
variable {X:Cx}
end
section
variable {K:PySem.W.Frag} {H:Hp} {Q:VK} {p:Addr} {ns:List Int} {P:Addr→Prop} {H0:Hp} {l:List (Addr×Ob)} {fs:List Pr}
end
theorem lg:∀ {xs ys:List Int},xs.Perm ys→xs.Pairwise (·≤·)→ys.Pairwise (·≤·)→xs=ys
  | [],ys,p,_,_=>(List.nil_perm.mp p).symm▸rfl
  | x::xs,[],p,_,_=>by cases List.perm_nil.mp p
  | x::xs,y::ys,p,hx,hy=>by
    rw [List.pairwise_cons] at hx hy
    have e:x=y:=by
      have h1:x∈y::ys:=p.subset List.mem_cons_self
      have h2:y∈x::xs:=p.symm.subset List.mem_cons_self
      rcases List.mem_cons.mp h1 with e | h1
      · exact e
      · rcases List.mem_cons.mp h2 with e | h2
        · exact e.symm
        · exact Int.le_antisymm (hx.1 y h2) (hy.1 x h1)
    subst e
    rw [lg (List.perm_cons x |>.mp p) hx.2 hy.2]
end L4
namespace L4
open PySem PySem.Spec PyProof.Rows L2 L3
section
variable {prog:Program} {w:World} {A:Around} {E:Value→Shared→Prop} {s:Shared} {R:Result→Shared→Prop} {I S:Addr} {fp wr:List Addr} {n:Nat} {P:Nat→Value→Prop} {St:Nat→Heap→Prop}
end
section
variable {X:Cx} {p pos kp:Pos} {e d:Expr} {te td:TE}
end
section
variable {K:PySem.W.Frag} {H:Hp} {Q:VK} {p:Addr} {ns:List Int} {d:Int} {te td:TE} {σ : St}
theorem cJ {xs:List V} {i:Int} {v:V} (hs:SqT K H p xs) (e:atI xs i=some v) (h:Q v H):D3 K (.ref p) (.int i) H Q:=⟨p,xs,i,v,rfl,rfl,hs,e,h⟩
end
section
variable {X:Cx} {pins:List (Addr×Obj)} {σ : St} {H:Hp} {s:Shared} {A:Around} {E:Value→Shared→Prop} {Q:Value→Shared→Prop} {c:Value} {b:Bool}
end
section
variable {X:Cx}
end
end L4
namespace L4
open PySem PySem.Spec PyProof.Rows L2 L3
def aE:List Str→List Str→List Str
  | acc,[]=>acc
  | acc,x::xs=>aE (if x∈acc then acc else acc++[x]) xs
theorem lZ:∀ (xs ys acc:List Str),aE acc (xs++ys)=aE (aE acc xs) ys
  | [],_,_=>rfl
  | x::xs,ys,acc=>lZ xs ys _
theorem eW {xs:List Str} {i:Nat} {x:Str} (h:xs[i]?=some x):aE [] (xs.take (i+1))=if x∈aE [] (xs.take i) then aE [] (xs.take i) else aE [] (xs.take i)++[x]:=by
  rw [List.take_add_one,h,lZ];rfl
theorem eu:∀ (xs acc:List Str),(aE acc xs).length≤acc.length+xs.length
  | [],_=>Nat.le_refl _
  | x::xs,acc=>by
    have:=eu xs (if x∈acc then acc else acc++[x])
    show (aE (if x∈acc then acc else acc++[x]) xs).length≤_
    rw [List.length_cons]
    by_cases c:x∈acc
    · rw [if_pos c] at this ⊢;omega
    · rw [if_neg c] at this ⊢;rw [List.length_append,List.length_singleton] at this;omega
theorem iN:∀ (xs acc:List Str),xs.Nodup→(∀ x∈xs,¬ x∈acc)→(aE acc xs).length=acc.length+xs.length
  | [],_,_,_=>rfl
  | x::xs,acc,h,hn=>by
    rw [List.nodup_cons] at h
    show (aE (if x∈acc then acc else acc++[x]) xs).length=_
    rw [if_neg (hn x List.mem_cons_self),iN xs (acc++[x]) h.2 fun y hy z=>?_]
    · rw [List.length_append,List.length_singleton,List.length_cons];omega
    · rcases List.mem_append.mp z with z | z
      · exact hn y (List.mem_cons_of_mem _ hy) z
      · rw [List.mem_singleton.mp z] at hy;exact h.1 hy
section
variable {prog:Program} {w:World} {A:Around} {E:Value→Shared→Prop} {s:Shared} {R:Result→Shared→Prop} {I S:Addr} {fp wr:List Addr} {G:Array GenState→Array GenState→Prop} {P:Nat→Value→Prop} {St:Nat→Shared→Prop} {xs:List Str}
theorem gM {h h':Heap} {f:Str→Bool} {c:Nat} (hS:h.SetOf (strKind prog w) S f c) (k:∀ o,h.get? S=some o→h'.get? S=some o):h'.SetOf (strKind prog w) S f c:=by
  obtain ⟨o,es,ep,t,ho,rest⟩:=hS
  exact ⟨o,es,ep,t,k o ho,rest⟩
theorem uT (W:WalksS prog w A.in1 I fp wr G xs.length P St) (hSf:S∉fp) (hval:∀ i v,P i v→∃ x t,xs[i]?=some x∧v = .str x t) (hb:xs.length+1 < scanBound) :
    ∀ (r i:Nat) (s:Shared),xs.length - i=r→i≤xs.length→St i s→s.heap.SetOf (strKind prog w) S (fun k=>decide (k∈aE [] (xs.take i))) (aE [] (xs.take i)).length →
      (∀ s',Moved (S::wr) G s s'→s'.heap.SetOf (strKind prog w) S (fun k=>decide (k∈aE [] xs)) (aE [] xs).length→R (.ok (.ret .none)) s') →
      codeAny (model prog w) A (.builtin "set.update.loop" ⟨[.ref S,.ref I],[]⟩) R s:=by
  have hSw:S∉wr:=fun h=>hSf (W.sub _ h)
  have up:∀ b∈wr,b∈S::wr:=fun b hb=>List.mem_cons_of_mem _ hb
  intro r
  induction r with
  | zero=>
    intro i s hr hi st hS k
    obtain rfl:i=xs.length:=by omega
    rw [List.take_length] at hS
    refine codeAny_builtin F.entry_set_update_loop ?_
    rw [Around.under_plainId F.plain_set_update_loop _]
    show wpAny _ A.in1 (pyNext (.ref I) >>= _) _ _ s
    refine wpAny_bind (W.done s _ _ st fun s' hm=>?_)
    exact wpAny_pure (k s' (hm.mono up) (gM hS fun o e=>hm.heap S o hSw e))
  | succ r ih=>
    intro i s hr hi st hS k
    have hlt:i < xs.length:=by omega
    refine codeAny_builtin F.entry_set_update_loop ?_
    rw [Around.under_plainId F.plain_set_update_loop _]
    show wpAny _ A.in1 (pyNext (.ref I) >>= _) _ _ s
    refine wpAny_bind (W.item i s _ _ hlt st fun v s1 hP st1 hm=>?_)
    obtain ⟨x,t,hx,rfl⟩:=hval i v hP
    have hS1:=gM hS fun o e=>hm.heap S o hSw e
    have hl:=eu (xs.take i) []
    rw [List.length_take] at hl
    show wpAny _ A.in1 (holding [Value.str x t] (setAdd S (.str x t)) >>= _) _ _ s1
    refine wpAny_bind (wpAny_holding ?_)
    unfold setAdd
    refine wpAny_holding (wpAny_bind ((strKind prog w).pyHash (k:=x) (strKind_is _ _ _ _) ?_))
    refine wpAny_setAddHashed_of (knd:=strKind prog w) (s:={ s1 with toks:=s1.toks+1 }) (strKind_is _ _ _ _) rfl hS1 (by simp at hl;omega) fun h2 same hS2=>?_
    have hS3:h2.SetOf (strKind prog w) S (fun k=>decide (k∈aE [] (xs.take (i+1)))) (aE [] (xs.take (i+1))).length:=by
      refine SetOf_congr hS2 (fun k'=>?_) ?_
      · rw [eW hx]
        by_cases c:x∈aE [] (xs.take i)
        · rw [if_pos c]
          by_cases e:k'=x
          · subst e;simp [c]
          · simp [e]
        · rw [if_neg c];simp [List.mem_append]
      · rw [eW hx]
        by_cases c:x∈aE [] (xs.take i)
        · rw [if_pos c,if_pos (decide_eq_true c)]
        · rw [if_neg c,if_neg (by rw [decide_eq_false c];exact Bool.false_ne_true),List.length_append,List.length_singleton]
    refine wpAny_pure ⟨plainId_quiet F.plain_set_update_loop _,ih (i+1) _ (by omega) hlt (W.frame _ s1 _ _ st1 (Nat.le_succ _) fun b hb o e=>?_) hS3 fun s' hm' hS'=>?_⟩
    · rw [same.2 b (fun h:b=S=>hSf (by rw [← h];exact hb))];exact e
    · refine k s' (Moved.trans W.gtrans ((hm.mono up).then_heap (Nat.le_succ _) fun b o hb e=>?_) hm') hS'
      rw [same.2 b (fun h:b=S=>hb (by rw [h];exact List.mem_cons_self))];exact e
set_option maxRecDepth 100000 in
set_option maxHeartbeats 3200000 in
theorem vL {l:Addr} {items:Array Value} {Q:Value→Shared→Prop} (hh:A.handled=none) (hl:s.heap.IsList l items) (hn:items.size=xs.length) (hi:∀ (i:Nat) (v:Value),items[i]?=some v→∃ x t,xs[i]?=some x∧v=Value.str x t) (hb:xs.length+1 < scanBound)
    (h:∀ (h':Heap) (tk:Nat),h'.SetOf (strKind prog w) s.heap.objs.size (fun k=>decide (k∈aE [] xs)) (aE [] xs).length→(∀ b o,s.heap.get? b=some o→h'.get? b=some o)→Q (.ref s.heap.objs.size) { s with heap:=h',toks:=tk }) :
    wpAny (model prog w) A (call (.type "set") [.ref l]) Q E s:=by
  obtain ⟨c,tl,hmro⟩:=F.called_set.mro
  have hmade:=F.called_set.made
  have hsub:=F.called_set.sub
  have h1:=F.called_set.notType
  have h2:=F.called_set.canCreate
  have hct:=F.typeCall_set_1 (.ref l)
  refine wpAny_call (codeAny_of_tree ?_)
  show wpAny _ _ (callAny (.type "set") _) _ _ _
  refine wpAny_pure ⟨Code.quiet_builtin _ (by decide +kernel),codeAny_builtin F.entry_type_call ?_⟩
  rw [Around.under_plain (weight_type_call_type "set" [.ref l] []) rfl]
  repeat (any_goals (first | assumption | wp_step))
  refine codeAny_mono (code_set_new_1 (.ref l) (E:=E) (Q₁:=fun obj s₁=>∃ led:Bool,obj = .ref s.heap.objs.size∧s₁={ s with heap:=s.heap.push { cls:=.type "set",dict:=none,data:=.set #[] 0 (.fresh 0 0 led) } }) fun led=>⟨led,rfl,rfl⟩) fun r s₁ hr=>?_
  rcases r with e | fl
  · exact hr
  cases fl with
  | ret obj=>
    obtain ⟨led,rfl,rfl⟩:=hr
    generalize ho:({ cls:=.type "set",dict:=none,data:=.set #[] 0 (.fresh 0 0 led) }:Obj)=so at *
    have hS:(s.heap.push so).get? s.heap.objs.size=some so:=Heap.get?_push_size _ (by rw [← ho];rfl)
    have hT:Shared.TypeIs { s with heap:=s.heap.push so } (.ref s.heap.objs.size) "set" := ⟨_,hS,by rw [← ho]⟩
    have hli:=F.called_set.init.lookup
    have hbi:=F.called_set.init.bind (.ref s.heap.objs.size)
    repeat (any_goals (first | assumption | wp_step))
    refine codeAny_mono (codeAny_call_builtin (R:=wants (fun r s₂=>r = .none∧∃ h' tk,s₂={ s with heap:=h',toks:=tk }∧h'.SetOf (strKind prog w) s.heap.objs.size (fun k=>decide (k∈aE [] xs)) (aE [] xs).length∧∀ b o,s.heap.get? b=some o→h'.get? b=some o) E) F.called_set.init.plain F.entry_set_init (check_set_init_1 hT ?_)) fun r₂ s₂ hr₂=>?_
    · have hlS:l < s.heap.objs.size:=by obtain ⟨_,e,_⟩:=hl;exact Heap.lt_size e
      subst ho
      have hl1:=hl.push { cls:=.type "set",dict:=none,data:=.set #[] 0 (.fresh 0 0 led) }
      obtain ⟨⟨lc,ld,ldat,lsl⟩,e1,e2,nl,e3⟩:=id hl1
      simp only at e2 e3
      subst e2 e3
      have Gp:=F.sub_list_set
      have Gq:=F.sub_list_frozenset
      have hne:(Value.type "list" == Value.type "dict")=false:=by decide
      unfold Builtin.«set.__init__» noKeywords Builtin.Frozenset.updateFrom
      generalize hPI:pyIter=PI
      wp_walk
      subst hPI
      refine wpAny_pyIter_list hl1 ?_
      refine wpAny_bind (wpAny_runValue ?_)
      have hsz:(s.heap.push { cls:=.type "set",dict:=none,data:=.set #[] 0 (.fresh 0 0 led) }).objs.size=s.heap.objs.size+1:=Heap.size_push ..
      have W:=(Walks.list (prog:=prog) (w:=w) (A:=A.in1.in1.in1) (by simp [hh]) (s.heap.push { cls:=.type "set",dict:=none,data:=.set #[] 0 (.fresh 0 0 led) }).objs.size l (by rw [hsz];exact Nat.ne_of_lt (Nat.lt_succ_of_lt hlS)) items).toS
      rw [hn] at W
      refine uT (xs:=xs) W (by rw [hsz];simp only [List.mem_cons,List.not_mem_nil,or_false,not_or];exact ⟨Nat.ne_of_lt (Nat.lt_succ_self _),Nat.ne_of_gt hlS⟩) (fun i v hv=>hi i v hv) hb _ 0 _ rfl (Nat.zero_le _) ⟨⟨_,Heap.get?_push_size _ rfl,rfl,rfl⟩,hl1.push _⟩ ?_ fun s' hm hS'=>?_
      · exact SetOf_congr ((setObjOf_fresh (knd:=strKind prog w) led).setOf (Heap.get?_push_of_some _ hS) (by unfold scanBound;decide)) (fun _=>rfl) rfl
      · obtain ⟨h',g',d',tk',os'⟩:=s'
        obtain rfl:g'=s.gens:=hm.gens
        obtain rfl:d'=s.drawn:=hm.drawn
        obtain rfl:os'=s.os:=hm.os
        refine wpAny_pure (wpAny_pure ⟨rfl,h',tk',rfl,hS',fun b o e=>?_⟩)
        have hb1:=Heap.lt_size e
        exact hm.heap b o (by rw [hsz];simp only [List.mem_cons,List.not_mem_nil,or_false,not_or];exact ⟨Nat.ne_of_lt hb1,Nat.ne_of_lt (Nat.lt_succ_of_lt hb1)⟩) (Heap.get?_push_of_some _ (Heap.get?_push_of_some _ e))
    · rcases r₂ with e | fl₂
      · exact hr₂
      cases fl₂ with
      | ret r=>
        obtain ⟨rfl,h',tk,rfl,hS',hk'⟩:=hr₂
        repeat (any_goals (first | assumption | wp_step))
        exact h _ _ hS' hk'
      | _=>exact hr₂.elim
  | _=>exact hr.elim
end
end L4
namespace L4
open PySem PySem.Spec PyProof.Rows L2 L3
section
variable {X:Cx} {e:Expr} {te:TE} {p p2 pos pos2:Pos}
end
structure IQ (K:PySem.W.Frag) (mg:Str→Option Value) (x qual:Str) (C:Addr) (st:Stmt) (ps:List Str):Prop where
  ex:∃ (f:Addr) (oc dV kV doc pm cdv ct:Value) (od an:Option Addr) (osl:Array (Option Value)),K.lookup f=some ⟨oc,od,.func (PySem.W.fnOf "__init__" qual (bD st) (aU st) (aj st) dV kV doc pm an cdv ct),osl⟩∧PySem.W.codeIn K cdv qual=true ∧
    Binds K (PySem.W.fnOf "__init__" qual (bD st) (aU st) (aj st) dV kV doc pm an cdv ct) ps []∧mg x=some (.ref C)∧Mk K C f
  cl:Cls K C
section
variable {P:Program} {w:World} {K:PySem.W.Frag} {mg:Str→Option Value} {base:Heap} {CX:CXT} {x qual:Str} {C:Addr} {st:Stmt} {N ps:List Str} {k:Nat} {sp:Sp}
end
end L4
namespace L4
open PySem PySem.Spec PyProof.Rows L2 L3
def uV (K:PySem.W.Frag):RL:=fun vs H Q=>∃ (x:V) (t:Value) (tp:Addr) (Ts:List String) (b:Bool),vs=[x,.ref tp]∧ie K H x t∧H tp=some (.tup (Ts.map V.ty))∧PySem.W.kitAny K t (Ts.map Value.type)=some b∧Q (.bl b) H
theorem qf:∀ {Ts:List String} {us:List Value},Vals (Ts.map V.ty) us→us=Ts.map Value.type
  | [],_,.nil=>rfl
  | T::Ts,_,.cons r t=>by rw [List.map_cons,qf t];cases (show _=Value.type T from r);rfl
section
variable {X:Cx}
theorem xq:cV X (.builtin "isinstance") (uV X.K):=by
  intro pins s σ H xs us Q I r h
  obtain ⟨x,t,tp,Ts,b,rfl,ty,ht,e,q⟩:=h
  obtain ⟨u,w',rfl,rx,rc⟩:=vals2 r
  cases (show w'=Value.ref tp from rc)
  obtain ⟨_,its,rv,⟨⟨oc,od',da,sl⟩,h1,h2,n,h3⟩⟩:=(show bH X.prog X.w H s.heap tp (.tup (Ts.map V.ty)) from I.hok tp _ ht)
  have ei:=qf rv
  subst ei
  dsimp only at h2 h3
  subst h2 h3
  have fin:∀ tk,EP X pins σ Q (.bool b) { s with toks:=tk }:=fun tk=>⟨.bl b,H,I.tok _,rfl,q⟩
  cases ty with
  | non=>cases (show u=Value.none from rx);exact PySem.W.kia_tup PySem.W.kitx_none I.kIn True.intro h1 e (fun z=>nomatch z) fin
  | bl y=>cases (show u=Value.bool y from rx);exact PySem.W.kia_tup PySem.W.kitx_bool I.kIn True.intro h1 e (fun z=>nomatch z) fin
  | int i=>obtain ⟨t,q⟩:=(show ∃ t,u=Value.int i t from rx);cases q;exact PySem.W.kia_tup PySem.W.kitx_int I.kIn True.intro h1 e (fun z=>nomatch z) fin
  | str y=>obtain ⟨t,q⟩:=(show ∃ t,u=Value.str y t from rx);cases q;exact PySem.W.kia_tup PySem.W.kitx_str I.kIn True.intro h1 e (fun z=>nomatch z) fin
  | flt y=>obtain ⟨t,q⟩:=(show ∃ t,u=Value.float y t from rx);cases q;exact PySem.W.kia_tup PySem.W.kitx_float I.kIn True.intro h1 e (fun z=>nomatch z) fin
  | @lst a xs ea=>
    cases (show u=Value.ref a from rx)
    obtain ⟨_,_,n,_,h4⟩:=(show bH X.prog X.w H s.heap a (.lst xs) from I.hok a _ ea)
    exact PySem.W.kia_tup PySem.W.kitx_list I.kIn ⟨_,h4,rfl⟩ h1 e (fun z=>nomatch z) fin
  | @frz a ob xs ea=>
    cases (show u=Value.ref a from rx)
    obtain ⟨_,_,_,n,_,h4⟩:=(show bH X.prog X.w H s.heap a (.frz ob (.lst xs)) from I.hok a _ ea)
    exact PySem.W.kia_tup PySem.W.kitx_list I.kIn ⟨_,h4,rfl⟩ h1 e (fun z=>nomatch z) fin
  | @tup a xs ea=>
    cases (show u=Value.ref a from rx)
    obtain ⟨_,_,_,p⟩:=(show bH X.prog X.w H s.heap a (.tup xs) from I.hok a _ ea)
    obtain ⟨o,h4,h5,_⟩:=p
    exact PySem.W.kia_tup PySem.W.kitx_tuple I.kIn ⟨o,h4,h5⟩ h1 e (fun z=>nomatch z) fin
  | @dK a kvs ea=>
    cases (show u=Value.ref a from rx)
    obtain ⟨_,_,vs,_,p⟩:=(show bH X.prog X.w H s.heap a (.dK kvs) from I.hok a _ ea)
    obtain ⟨o,es,ep,h4,h5,_⟩:=p
    exact PySem.W.kia_tup PySem.W.kitx_dict I.kIn ⟨o,h4,h5.1⟩ h1 e (fun z=>nomatch z) fin
  | @dT a kvs ea=>
    cases (show u=Value.ref a from rx)
    obtain ⟨_,_,xs,_,o,es,ep,h4,h5,_⟩:=(show bH X.prog X.w H s.heap a (.dT kvs) from I.hok a _ ea)
    exact PySem.W.kia_tup PySem.W.kitx_dict I.kIn ⟨o,h4,h5.1⟩ h1 e (fun z=>nomatch z) fin
  | @ins a C dx fs ea cl ha hn htk hm=>
    cases (show u=Value.ref a from rx)
    obtain ⟨mA,O,_⟩:=kM I.hok ea
    obtain ⟨od,J,_⟩:=O.look
    exact PySem.W.kia_tup (PySem.W.kitx_own (cl.get _) cl.hd ha hn htk hm) I.kIn J h1 e (fun z=>nomatch z) fin
theorem Bp {e:Expr} {te:TE} {p pos:Pos} {es:List Expr} {ec:Nat} {tpos:Pos} {tl:TA} (hm:X.mg "isinstance" = none) (he:PE X e te) (ht:PE X (.Tuple es ec tpos) (AS tl)) (hg:Gl X "isinstance" := by rfl)
    (hs:starEach [e,.Tuple es ec tpos] X.env=(false,eval e X.env)::starEach [.Tuple es ec tpos] X.env:=by rfl) (hs2:starEach [.Tuple es ec tpos] X.env=(false,eval (.Tuple es ec tpos) X.env)::starEach [] X.env:=by rfl) (hpl:(backTo pos (starEach [.Tuple es ec tpos] X.env)).any (·.1)=false:=by rfl) :
    PE X (.Call (.Name "isinstance" p) [e,.Tuple es ec tpos] [] pos) (tCB (uV X.K) (j4 te (j4 (AS tl) xX))):=
  aW xq hg hm eX (aa he (aa ht af hs2) hs) (by decide) (by decide) hs hpl
end
theorem vf (z:Str) (ws:List Str):inV (.str z) (ws.map V.str)=decide (z∈ws):=by
  unfold inV
  rw [List.any_map,Bool.eq_iff_iff,List.any_eq_true,decide_eq_true_iff]
  constructor
  · rintro ⟨x,hx,e⟩
    have e:(x == z)=true:=e
    exact (eq_of_beq e)▸hx
  · intro h
    exact ⟨z,h,by show (z == z)=true;exact beq_self_eq_true z⟩
theorem rf (ws:List Str):(ws.map V.str).all bX=true:=by
  rw [List.all_map,List.all_eq_true]
  intro _ _;rfl
section
variable {K:PySem.W.Frag} {H:Hp} {Q:VK} {p a:Addr} {z:Str} {ws:List Str} {P:Addr→Prop} {H0:Hp} {l:List (Addr×Ob)} {fs:List Pr}
theorem lN {x:V} {t:Value} {tp:Addr} {b:Bool} (Ts:List String) (ty:ie K H x t) (ht:H tp=some (.tup (Ts.map V.ty))) (e:PySem.W.kitAny K t (Ts.map Value.type)=some b) (h:Q (.bl b) H):uV K [x,.ref tp] H Q:=⟨x,t,tp,Ts,b,rfl,ty,ht,e,h⟩
theorem q9 (s:SqT K H p (ws.map V.str)) (h:Q (.bl (decide (z∈ws))) H):rIn K false (.str z) (.ref p) H Q:=
  ⟨p,_,rfl,.inr s,rfl,rf ws,by rw [if_neg Bool.false_ne_true,vf];exact h⟩
theorem zU {ys:List V} (L:Led P H0 H l fs) (s:SqL K H p ys) (h:∀ (t:Addr) (H':Hp),H t=none→Led P H0 H' l (cz t ys::fs)→az H H'→Q (.ref t) H'):yN K [.ref p] H Q:=
  ⟨p,ys,rfl,.inl ⟨s,fun t nt=>h t _ nt (L.BK nt) (aQ nt)⟩⟩
end
end L4
namespace LS
open PySem PySem.W PyProof.Rows
structure Pm (n:Nat) (p:Array Nat):Prop where
  size:p.size=n
  perm:p.toList.Perm (List.range n)
section
variable {n:Nat} {f:Nat→Int} {cmp:Nat→Nat→(Bool→Shared→Prop)→Shared→Prop} {s:Shared}
end
end LS
namespace LS
open PySem PySem.W PyProof.Rows
section
variable {prog:Program} {w:World} {A:Around} {E:Value→Shared→Prop} {s:Shared}
section
variable {α : Type}
end
end
end LS
namespace L4
open PySem PySem.Spec PyProof.Rows L2 L3
section
variable {X:Cx}
end
section
variable {K:PySem.W.Frag} {H:Hp} {Q:VK} {p:Addr} {P:Addr→Prop} {H0:Hp} {l:List (Addr×Ob)} {fs:List Pr} {α : Type} {ps:List α} {ad : α→Addr}
end
end L4
set_option hygiene false
local macro_rules | `(tactic| walk_at "put")=>`(tactic| first | exact L4.Put.head | (apply L4.Put.tail;walk_at "put"))
local macro_rules | `(tactic| walk_at "mem")=>`(tactic| first | exact List.mem_cons_self | (refine List.mem_cons_of_mem _ ?_;walk_at "mem"))
local macro_rules | `(tactic| walk_at "lk")=>`(tactic| first | exact L4.lk_hit | (refine (L4.lk_miss (by decide +kernel)).trans ?_;walk_at "lk"))
local macro_rules | `(tactic| walk_at "sz")=>`(tactic| first | (show (_:Nat)≤sizeLine;exact Nat.le_of_lt (L2.small1000 (by first | decide | omega | (simp only [List.length_cons,List.length_nil,List.length_append,List.length_map];omega)))) | exact L2.small1000 (by first | decide | omega | (simp only [List.length_cons,List.length_nil,List.length_append,List.length_map];omega)))
local macro_rules | `(tactic| walk_at "side")=>`(tactic| first
  | omega
  | (show (0:Int) < _;first | omega | decide)
  | (refine ⟨⟨?_,?_⟩,?_,?_⟩ <;> first | omega | decide)
  | (refine ⟨?_,?_⟩ <;> first | omega | decide)
  | (refine ⟨?_,?_,?_⟩ <;> first | omega | decide))
local macro_rules | `(tactic| walk_at "g0")=>`(tactic| first
  | (with_reducible refine L4.Hr ?_)
  | (with_reducible refine L4.GJ (by with_unfolding_all exact rfl) ?_)
  | (with_reducible refine L4.g_c ?_)
  | (with_reducible refine L4.E1 ?_)
  | (with_reducible refine L4.GV ?_)
  | (with_reducible refine L4.IB ?_)
  | (with_reducible refine L4.GR ?_)
  | (with_reducible refine L4.IC ?_)
  | (with_reducible refine L4.EC ?_)
  | (with_reducible refine L4.iw ?_)
  | (with_reducible refine L4.Ho ?_)
  | (with_reducible refine L4.Hl ?_)
  | (with_reducible refine L4.g_eqB ?_)
  | (with_reducible refine L4.GX ?_)
  | (with_reducible refine L4.GW ?_)
  | (with_reducible refine L4.E4 ?_)
  | (with_reducible refine L4.ID ?_)
  | (with_reducible refine L4.GQ ?_)
  | (with_reducible refine L4.EJ ?_)
  | (with_reducible refine L4.EZ ?_)
  | (with_reducible refine L4.g_b ?_)
  | (with_reducible refine L4.Hs ?_)
  | (with_reducible refine L4.IA ?_)
  | (with_reducible refine L4.GU ?_)
  | (with_reducible refine L4.E5 ?_)
  | (with_reducible refine L4.GS ?_)
  | (with_reducible refine L4.EI ?_)
  | (with_reducible refine L4.Hg ?_)
  | (with_reducible refine L4.g_notN ?_)
  | (with_reducible refine L4.Iu ?_)
  | (with_reducible refine L4.Iw ?_)
  | (with_reducible refine L4.GN ?_)
  | (with_reducible refine L4.G0 ?_)
  | (with_reducible refine L4.Hj ?_)
  | (with_reducible refine L4.EN ?_)
  | (with_reducible refine L4.EE ?_)
  | (with_reducible refine L4.Hh ?_)
  | (with_reducible refine L4.Iv ?_)
  | (with_reducible refine L4.zY ?_)
  | (with_reducible refine L4.EH ?_)
  | (with_reducible refine L4.B9 ?_)
  | (with_reducible refine L4.gZ ?_)
  | (with_reducible refine L4.g_gNil ?_)
  | (with_reducible refine L4.EW ?_)
  | (with_reducible refine L4.g_retN ?_)
  | (with_reducible refine L4.g_break ?_)
  | (with_reducible refine L4.g_cont ?_)
  | (with_reducible refine L4.z6 ?_)
  | (with_reducible refine L4.iy ?_)
  | (with_reducible refine L4.Cb ?_)
  | (with_reducible refine L4.Cc ?_)
  | (with_reducible refine L4.IE ?_)
  | (with_reducible refine L4.g_bm0 ?_)
  | (with_reducible refine L4.Hi ?_)
  | (with_reducible refine L4.EG ?_)
  | (with_reducible refine L4.g_rng2 ?_)
  | (with_reducible refine L4.GH ?_)
  | (with_reducible refine L4.GF ?_)
  | (with_reducible refine L4.g_zip ?_)
  | (with_reducible refine L4.g_enum ?_)
  | (with_reducible refine L4.g_meth ?_)
  | (with_reducible refine L4.g_methX ?_)
  | (with_reducible refine L4.E2 ?_)
  | (with_reducible refine L4.Ce ?_)
  | (with_reducible refine L4.ED ?_)
  | (with_reducible refine L4.g_rev ?_)
  | (with_reducible refine L4.g_maxd ?_)
  | (with_reducible refine L4.g_lenSet ?_)
  | (with_reducible refine L4.Cf ?_)
  | (with_reducible refine L4.g_revSq (by assumption) (L2.SqL.of (L4.Led.eo (by assumption) (by walk_at "put"))) fun l' H' n' L' _=>?_)
  | (with_reducible refine L4.g_divm (by assumption) (by constructor <;> omega) fun t' H' n' L' _=>?_)
  | (with_reducible refine L4.g_tTru ?_)
  | (with_reducible refine L4.g_addS (by walk_at "sz") ?_)
  | (with_reducible refine L4.z5 (by first | assumption | walk_at "sz") ?_)
  | (with_reducible refine L4.g_mulS (by refine ⟨?_,?_,?_⟩ <;> first | omega | decide) ?_)
  | (with_reducible refine L4.g_cat (by assumption) (by walk_at "put") (by walk_at "put") (by first | assumption | walk_at "sz") fun l' H' n' L' _=>?_)
  | (with_reducible refine L4.g_slI (by assumption) (by assumption) (by first | exact not_false | assumption) fun l' H' n' L' _=>?_)
  | (with_reducible refine L4.Cg ?_)
  | (with_reducible refine L4.Ca ?_)
  | (with_reducible refine L4.B8 ?_)
  | (with_reducible refine L4.zW ?_)
  | (with_reducible refine L4.Ci ?_)
  | (with_reducible refine L4.B6 ?_)
  | (with_reducible refine L4.zV ?_)
  | (with_reducible refine L4.g_undo ?_)
  | (with_reducible refine L4.B3 ?_)
  | (with_reducible refine L4.B4 ?_)
  | (with_reducible refine L4.g_try ?_)
  | (with_reducible refine L4.EX ?_)
  | (with_reducible refine L4.GZ ?_)
  | (with_reducible refine L4.g_max3 ?_)
  | (with_reducible refine L4.g_isBlB ?_)
  | (with_reducible refine L4.g_isNotBlB ?_)
  | (with_reducible refine L4.g_intB ?_)
  | (with_reducible refine L4.g_neB ?_)
  | (with_reducible refine L4.GY ?_)
  | ((with_reducible refine L4.B7 ?_ ?_);(focus (walk_at "side";done)))
  | ((with_reducible refine L4.g_rng2v ?_ ?_);(focus (walk_at "side";done)))
  | (with_reducible refine L4.GL (L2.SqL.of (L4.Led.eo (by assumption) (by walk_at "put"))) ?_)
  | (with_reducible refine L4.GK ?_)
  | (with_reducible refine L4.jM (L2.SqL.of (L4.Led.eo (by assumption) (by walk_at "put"))) ?_)
  | (with_reducible refine L4.pH (L2.SqT.of (L4.Led.tup (by assumption) (by walk_at "mem"))) ?_)
  | (with_reducible refine L4.EO (by assumption) (by assumption) (by first | exact not_false | assumption) ?_)
  | (with_reducible refine L4.jd (L2.SqL.of (L4.Led.eo (by assumption) (by walk_at "put"))) ?_)
  | (with_reducible refine L4.kN (L2.SqT.of (L4.Led.tup (by assumption) (by walk_at "mem"))) ?_)
  | (with_reducible refine L4.g_append (by assumption) (by walk_at "put") (by walk_at "sz") fun H' L' _=>?_)
  | (with_reducible refine L4.EK (by assumption) (by walk_at "sz") fun t' H' n' L' _=>?_)
  | (with_reducible refine L4.EL (by assumption) (by walk_at "sz") fun l' H' n' L' _=>?_)
  | ((with_reducible refine L4.Iz ?_ ?_);(focus (walk_at "side";done)))
  | (with_reducible refine L4.g_gTup (by assumption) (by walk_at "mem") (by with_unfolding_all exact rfl) ?_)
  | (with_reducible refine L4.g_geT2 (L4.Led.tup (by assumption) (by walk_at "mem")) (L4.Led.tup (by assumption) (by walk_at "mem")) ?_)
  | (with_reducible refine L4.g_leT2 (L4.Led.tup (by assumption) (by walk_at "mem")) (L4.Led.tup (by assumption) (by walk_at "mem")) ?_)
  | (with_reducible refine L4.qZ (by assumption) (by walk_at "put") (by with_unfolding_all exact rfl) ?_)
  | (with_reducible refine L4.G5 (by assumption) (by walk_at "mem") (by with_unfolding_all exact rfl) ?_)
  | (with_reducible refine L4.cJ (by assumption) (by with_unfolding_all exact rfl) ?_)
  | (with_reducible refine L4.g_fldL (by assumption) (by walk_at "put") (by assumption) (by assumption) (by walk_at "lk") ?_)
  | (with_reducible refine L4.EU (by first | omega | assumption | exact rfl | (simp only [List.length_cons,List.length_nil,List.length_append,List.length_map];omega)) ?_)
  | (with_reducible refine L4.EV (by first | omega | assumption | exact rfl | (simp only [List.length_cons,List.length_nil,List.length_append,List.length_map];omega)) ?_)
  | (with_reducible refine L4.g_ifNT (by first | omega | assumption | exact rfl | (simp only [List.length_cons,List.length_nil,List.length_append,List.length_map];omega)) ?_)
  | (with_reducible refine L4.ET (by first | omega | assumption | exact rfl | (simp only [List.length_cons,List.length_nil,List.length_append,List.length_map];omega)) ?_))
local macro_rules | `(tactic| walk_at "g1")=>`(tactic| first | (with_reducible refine L4.g_seq ?_) | walk_at "g0")
local macro_rules | `(tactic| walk_at "one")=>`(tactic| repeat walk_at "g0")
local macro_rules | `(tactic| walk_at "go")=>`(tactic| repeat walk_at "g1")
local macro_rules | `(tactic| walk_at "s")=>`(tactic| exact ⟨rfl,rfl,rfl,by decide +kernel,rfl,by decide +kernel,by decide +kernel⟩)
local macro_rules | `(tactic| walk_at "d")=>`(tactic| refine D.ok S (fun vs H Q E h=>?_) (fun f cdv A outer s H vs Q E hr h=>?_))
namespace Law
open PySem PySem.Spec PyProof.Rows L2 L3 L4
abbrev St:=L2.St
def top (i:Nat):Stmt:=PySem.Challenge.pw_risemarks_k93_settings_and_lines_written.main.body.getD i (.Pass ⟨0,0,0,0⟩)
theorem gO {t u:TS} {D:Ends} {σ : St} {H:Hp} (P:St→Hp→Prop) (h1:∀ nx:St→Hp→Prop,(∀ σ H,P σ H→nx σ H)→t { D with nx:=nx } σ H) (h2:∀ σ H,P σ H→u D σ H):DI t u D σ H:=h1 (u D) h2
def Oth (p:Addr) (H H':Hp):Prop:=∀ q o,H q=some o→q≠p→H' q=some o
theorem Oth.refl (p:Addr) (H:Hp):Oth p H H:=fun _ _ h _=>h
theorem Oth.trans {p:Addr} {H H1 H2:Hp} (a:Oth p H H1) (b:Oth p H1 H2):Oth p H H2:=fun q o h n=>b q o (a q o h n) n
theorem Oth.upd {p:Addr} {H H1:Hp} (a:Oth p H H1) (o:HO):Oth p H (upd H1 p o):=fun q u h n=>by rw [aD n];exact a q u h n
theorem Oth.same {p:Addr} {H0 H H':Hp} (a:Oth p H H') (s:az H0 H) (n:H0 p=none):az H0 H':=fun q o h=>a q o (s q o h) (ay h n)
theorem bG {H:Hp} {p:Addr} (h:H p=none) (o:HO):az H (upd H p o):=fun b u q=>by rw [aD (ay q h)];exact q
def bw (H:Hp) (p:Addr) (n:Int):Prop:=∃ a b c:Int,H p=some (.lst [.int a,.int b,.int c])∧0≤a∧a < 10 ^ 121∧0≤b∧b≤n
theorem bw.mono {H:Hp} {p:Addr} {n m:Int} (h:bw H p n) (l:n≤m):bw H p m:=by
 obtain ⟨a,b,c,e,h1,h2,h3,h4⟩:=h
 exact ⟨a,b,c,e,h1,h2,h3,Int.le_trans h4 l⟩
theorem bw.same {H H':Hp} {p:Addr} {n:Int} (h:bw H p n) (o:az H H'):bw H' p n:=by
 obtain ⟨a,b,c,e,r⟩:=h
 exact ⟨a,b,c,o _ _ e,r⟩
section
variable {P:Program} {w:World} {K:PySem.W.Frag} {mg:Str→Option Value} {base:Heap} {CX:CXT}
theorem Dat.none {x qual:Str} {st:Stmt} {ps:List Str} {sp:Sp} (D:Dat K mg x qual st ps) (no:∀ vs H Q E,¬ sp vs H Q E):Cal P w K mg base CX x 0 ps sp:=by
 obtain ⟨f,fd,F,b,m⟩:=D.ex
 exact ⟨f,fd,⟨fun vs H Q E h=>absurd h (no vs H Q E),fun A outer s H args us vs Q E _ _ _ _ h=>absurd h (no vs H Q E)⟩,b,F.kp,m⟩
end
end Law

namespace L4
open PySem PySem.Spec PyProof.Rows L2 L3
structure HP (P:Program) (w:World) (K:PySem.W.Frag) (mg:Str→Option Value) (base:Heap) (CX:CXT) (x:Str) (C:Addr) (k:Nat) (ps:List Str) (sp:Sp):Prop where
 ex:∃ f fd,Mk K C f∧fz P w K mg base CX k f fd ps sp∧Binds K fd ps [.none]∧mg x=some (.ref C)
structure sf (K:PySem.W.Frag) (mg:Str→Option Value) (x qual:Str) (C:Addr) (st:Stmt) (ps:List Str):Prop where
 ex:∃ (f:Addr) (oc dV kV doc pm cdv ct:Value) (od an:Option Addr) (osl:Array (Option Value)),K.lookup f=some ⟨oc,od,.func (PySem.W.fnOf "__init__" qual (bD st) (aU st) (aj st) dV kV doc pm an cdv ct),osl⟩∧PySem.W.codeIn K cdv qual=true ∧
  Binds K (PySem.W.fnOf "__init__" qual (bD st) (aU st) (aj st) dV kV doc pm an cdv ct) ps []∧Binds K (PySem.W.fnOf "__init__" qual (bD st) (aU st) (aj st) dV kV doc pm an cdv ct) ps [.none]∧mg x=some (.ref C)∧Mk K C f
 cl:Cls K C
section
variable {P:Program} {w:World} {K:PySem.W.Frag} {mg:Str→Option Value} {base:Heap} {CX:CXT} {x qual:Str} {C:Addr} {st:Stmt} {N ps:List Str} {k:Nat} {sp:Sp}
theorem Ar {h:Heap} (X:K.In h) (G:h.Ns mainGlobals mg) {f T:Addr} {oc tc:Value} {od td an:Option Addr} {osl tsl:Array (Option Value)} {its:Array Value} {tn:Nat} {kV doc pm cdv ct:Value} (aC:PySem.W.nsIn K mainGlobals x=some (some (.ref C)))
  (a:PySem.W.findIn K (.ref C) "__init__" = some (some (.ref f))) (i:PySem.W.isFn K (.ref f)=true)
  (l:K.lookup f=some ⟨oc,od,.func (PySem.W.fnOf "__init__" qual (bD st) (aU st) (aj st) (.ref T) kV doc pm an cdv ct),osl⟩) (tl:K.lookup T=some ⟨tc,td,.seq its tn,tsl⟩) (c:PySem.W.codeIn K cdv qual=true)
  (pg:PySem.W.plainGet K C Str.empty=true) (hd:PySem.W.hasDictIn K C=true) (po:PySem.W.plainOver K C=true) (sa:PySem.W.findIn K (.ref C) "__setattr__" = some (some (.builtin "object.__setattr__"))) (mk:PySem.W.makesIn K C=true) (kc:PySem.W.keepIn K (.ref C)=true)
  (b:∀ (T:Addr) (kV doc pm:Value) (an:Option Addr) (cdv ct:Value) (us:List Value),us.length=ps.length→∃ k:Option (Array Value)→Sem (List (Str×Value)),bindArgs (PySem.W.fnOf "__init__" qual (bD st) (aU st) (aj st) (.ref T) kV doc pm an cdv ct) ⟨us,[]⟩=(seqItems? (.ref T) >>= k)∧k (some its)=pure (ps.zip us))
  (b1:∀ (T:Addr) (kV doc pm:Value) (an:Option Addr) (cdv ct:Value) (us:List Value),us.length+1=ps.length→∃ k:Option (Array Value)→Sem (List (Str×Value)),bindArgs (PySem.W.fnOf "__init__" qual (bD st) (aU st) (aj st) (.ref T) kV doc pm an cdv ct) ⟨us,[]⟩=(seqItems? (.ref T) >>= k)∧k (some its)=pure (ps.zip (us++[.none]))):sf K mg x qual C st ps:=
 ⟨⟨f,oc,.ref T,kV,doc,pm,cdv,ct,od,an,osl,l,c,(fun s us hK hl=>by
  rw [List.append_nil] at hl ⊢
  obtain ⟨k,h1,h2⟩:=b T kV doc pm an cdv ct us hl
  exact BindsTo.of_defaults (T:=T) rfl (hK _ _ tl) rfl h1 h2),(fun s us hK hl=>by
  rw [List.length_append,List.length_singleton] at hl
  obtain ⟨k,h1,h2⟩:=b1 T kV doc pm an cdv ct us hl
  exact BindsTo.of_defaults (T:=T) rfl (hK _ _ tl) rfl h1 h2),PySem.W.mg_of X G aC,⟨mk,a,i,kc⟩⟩,⟨pg,hd,po,sa⟩⟩
end
section
variable {X:Cx} {CX:CXT} {k:Nat} {ps:List Str} {sp:Sp} {E:XK} {x:Str} {C:Addr} {p pos:Pos} {e:Expr} {es:List Expr} {t:TA}
end
end L4

namespace L4
open PySem PySem.Spec PyProof.Rows L2 L3
def WkE (K:PySem.W.Frag) (x:V) (H:Hp) (R:It→Hp→Prop):Prop:=WkL K x H R∨WkT K x H R
def Dn (K:PySem.W.Frag) (tl:TE):TI:=fun σ H R=>tl σ H fun x H1=>WkE K x H1 R
section
variable {X:Cx} {tg:Expr}
theorem Bk {l:Expr} {tl:TE} (hl:PE X l tl):PI X tg l (Dn X.K tl):=by
 intro pins s σ H R I h
 refine thn (hl pins s σ H _ I h) fun v s1 ⟨x,H1,I1,r1,q1⟩=>?_
 rcases q1 with ⟨a,e,⟨xs,hq⟩,q⟩ | ⟨a,e,⟨xs,hq⟩,q⟩
 ·subst e
  cases r1
  obtain ⟨its,rv,p,hz⟩:=I1.list hq
  refine wpAny_pyIter_list p.isList ?_
  refine ⟨s1.heap.objs.size,[s1.heap.objs.size],_,_,H1,rfl,I1.kept (t':=s1.toks) fun b o e=>Heap.get?_push_of_some _ e,mS a _,⟨_,Heap.get?_push_size _ rfl,rfl,rfl⟩,fun b hb=>?_,q⟩
  have e:b=s1.heap.objs.size:=by simpa using hb
  subst e
  exact I1.wW (Nat.le_refl _) (I1.hok.fresh (Nat.le_refl _))
 ·subst e
  cases r1
  obtain ⟨its,rv,p,hz⟩:=I1.tuple hq
  refine wpAny_pyIter_tuple (show s1.heap.IsTuple a its.toArray from p) ?_
  refine ⟨s1.heap.objs.size,[s1.heap.objs.size],_,_,H1,rfl,I1.kept (t':=s1.toks) fun b o e=>Heap.get?_push_of_some _ e,kX a _,⟨_,Heap.get?_push_size _ rfl,rfl,rfl⟩,fun b hb=>?_,q⟩
  have e:b=s1.heap.objs.size:=by simpa using hb
  subst e
  exact I1.wW (Nat.le_refl _) (I1.hok.fresh (Nat.le_refl _))
end
section
variable {prog:Program} {w:World} {A:Around} {E:Value→Shared→Prop} {s:Shared} {xs:List Str}
open PyProof.Rows in
theorem mD {l:Addr} {vs:List Value} {Q:List Value→Shared→Prop} (hl:s.heap.IsTuple l vs.toArray)
  (h:Q vs { s with heap:=(s.heap.push (seqObj "list" #[] 0)).update s.heap.objs.size (Obj.mapSeq (· ++ vs.toArray)) }) (hsz:vs.length≤sizeLine) :
  wpAny (model prog w) A (collect (.ref l)) Q E s:=by
 obtain ⟨o,ho,hc,n,hd⟩:=id hl
 unfold collect
 refine wpAny_bind (wpAny_runValue (codeAny_builtin entry_proto_collect' ?_))
 show wpAny _ _ (do again (.builtin "list.__iadd__" ⟨[← newList [],.ref l],[]⟩)) _ _ s
 refine wpAny_bind (wpAny_newList (wpAny_pure ⟨Code.quiet_builtin _ (by decide +kernel),codeAny_builtin entry_list_iadd' ?_⟩))
 show wpAny _ _ (Builtin.List.listExtendWith (.ref s.heap.objs.size) (.ref l) (.ref s.heap.objs.size)) _ _ { s with heap:=s.heap.push (seqObj "list" #[] 0) }
 unfold Builtin.List.listExtendWith
 have ho':(s.heap.push (seqObj "list" #[] 0)).get? l=some o:=Heap.get?_push_of_some _ ho
 refine wpAny_bind (wpAny_typeOf (T:="tuple") ⟨o,ho',hc⟩ ?_)
 have ht:(Value.type "tuple" == Value.type "tuple")=true:=by rfl
 rw [if_pos (by rw [ht];simp)]
 refine wpAny_bind (listItems_at ho' hd ?_)
 refine wpAny_bind (listItems_at (xs:=#[]) (n:=0) (Heap.get?_push_size _ rfl) rfl ?_)
 rw [if_neg (by simp)]
 refine wpAny_bind (listUpdate_at (xs:=#[]) (n:=0) (Heap.get?_push_size _ rfl) rfl ?_ (Nat.zero_le _) (by show (#[]++vs.toArray).size≤sizeLine+1;simp only [Array.size_append,List.size_toArray,List.length_nil];omega))
 refine wpAny_pure ?_
 show wpAny (model prog w) A (do
   let o ← load s.heap.objs.size
   match o.data with
   | .seq xs _=>pure xs.toList
   | _=>unsupported "internal:collect") Q E { s with heap:=(s.heap.push (seqObj "list" #[] 0)).update s.heap.objs.size (Obj.mapSeq (· ++ vs.toArray)) }
 refine wpAny_bind (wpAny_load (get?_update_seq (Heap.get?_push_size _ rfl) _) ?_)
 show wpAny _ _ (pure ((#[]:Array Value)++vs.toArray).toList) Q E _
 rw [show ((#[]:Array Value)++vs.toArray).toList=vs by simp]
 exact wpAny_pure h
theorem yi {κ : KeyKind} (hO : κ.OneLt) {l:Addr} {vs:List Value} {Q:Value→Shared→Prop} (hl:s.heap.IsTuple l vs.toArray) (h0:KeysOf κ (pairsOf vs)) (hkk:∀ v₁ v₂ rest,vs=v₁ :: v₂ :: rest→keyKind' (v₁ :: v₂ :: rest).toArray=pure oneType') (h64:vs.length < 64)
  (h:∀ st':SortSt,(arrOf st').Perm (pairsOf vs)→SortedToK κ (arrOf st') (pairsOf vs).size→Q (.ref (s.heap.objs.size+1)) { s with heap:=sortedAll s.heap vs ((arrOf st').map (·.2)) }) :
  wpAny (model prog w) A (call (.builtin "sorted") [.ref l]) Q E s:=by
 refine Calls.call_function_entry kind_sorted plain_sorted entry_sorted (args_sorted1 _) ?_
 unfold Builtin.«sorted»
 refine wpAny_bind (m:=checkCount "sorted" 1 1 _) (wpAny_pure ?_)
 refine wpAny_bind (mD hl ?_ (Nat.le_of_lt (small1000 (by omega))))
 refine wpAny_bind (wpAny_newList ?_)
 have hsz:((s.heap.push (seqObj "list" #[] 0)).update s.heap.objs.size (Obj.mapSeq (· ++ vs.toArray))).objs.size=s.heap.objs.size+1:=by
  rw [Heap.size_update,size_push']
 have hoL:(((s.heap.push (seqObj "list" #[] 0)).update s.heap.objs.size (Obj.mapSeq (· ++ vs.toArray))).push (seqObj "list" vs.toArray 0)).get? (s.heap.objs.size+1)=some (seqObj "list" vs.toArray 0):=by
  rw [← hsz];exact Heap.get?_push_size _ rfl
 show wpAny _ _ _ _ _ { s with heap:=((s.heap.push (seqObj "list" #[] 0)).update s.heap.objs.size (Obj.mapSeq (· ++ vs.toArray))).push (seqObj "list" vs.toArray 0) }
 rw [hsz]
 refine wpAny_bind (wpAny_holding (wpAny_call_entry slot_list_sort ⟨_,hoL,rfl⟩ entry_list_sort (list_sort_treeK hO hoL h0 hkk h64 fun st' a1 a2=>⟨_,rfl,?_⟩) (args_list_sort _)))
 exact wpAny_pure ⟨_,rfl,h st' a1 a2⟩
theorem oM {l:Addr} {vs:List Value} {ss:List Str} {Q:Value→Shared→Prop} (hl:s.heap.IsTuple l vs.toArray) (hS:StrsAre vs ss) (h64:vs.length < 64)
  (h:∀ (out:Array Value) (ss':List Str),StrsAre out.toList ss'→ss'.Perm ss→sortedS ss'=true→Q (.ref (s.heap.objs.size+1)) { s with heap:=sortedAll s.heap vs out }) :
  wpAny (model prog w) A (call (.builtin "sorted") [.ref l]) Q E s:=by
 refine yi strKind_oneLt hl hS.keysOf (fun v₁ v₂ rest e=>keyKind_strs (by rw [← e];exact hS)) h64 fun st' hp hs=>?_
 obtain ⟨ss',h1,h2,h3⟩:=sorted_out_str hS hp hs
 exact h _ ss' h1 h2 h3
end
def yP (K:PySem.W.Frag):RL:=fun xs H Q=>∃ (p:Addr) (ns:List Str),xs=[.ref p]∧(SqL K H p (ns.map V.str)∨SqT K H p (ns.map V.str))∧ns.length < 64∧∀ (l:Addr) (ms:List Str),H l=none→ms.Perm ns→sortedS ms=true→Q (.ref l) (upd H l (.lst (ms.map V.str)))
theorem Cv {X:Cx}:cV X (.builtin "sorted") (yP X.K):=by
 intro pins s σ H xs us Q I r h
 obtain ⟨p,ns,rfl,hq,h64,q⟩:=h
 obtain ⟨u,rfl,rx⟩:=vals1 r
 cases rx
 have fin:∀ (its:List Value) (out:Array Value) (ms:List Str),StrsAre out.toList ms→ms.Perm ns→sortedS ms=true→EP X pins σ Q (.ref (s.heap.objs.size+1)) { s with heap:=sortedAll s.heap its out }:=fun its out ms a1 a2 a3=>by
  obtain ⟨e,he⟩:=sortedAll_at s.heap its out
  have ro:=jv a1
  have hz2:(ms.map V.str).length≤sizeLine:=by rw [List.length_map,a2.length_eq];exact Nat.le_of_lt (small1000 (by omega))
  refine ⟨.ref (s.heap.objs.size+1),_,I.laid (a:=s.heap.objs.size+1) (o:=.lst (ms.map V.str)) (t':=s.toks) (fun b o hb=>sortedAll_old hb) (Nat.le_succ _) ⟨hz2,out.toList,e,ro,?_⟩,rfl,q _ ms (I.hok.fresh (Nat.le_succ _)) a2 a3⟩
  rw [he]
 rcases hq with hq | hq
 ·obtain ⟨its,rv,pl,hz⟩:=I.list hq
  have hl:its.length=ns.length:=by rw [← rv.length,List.length_map]
  exact sorted_strs pl.isList (iQ rv) (by omega) fun out ms a1 a2 a3=>fin its out ms a1 a2 a3
 ·obtain ⟨its,rv,pl,hz⟩:=I.tuple hq
  have hl:its.length=ns.length:=by rw [← rv.length,List.length_map]
  exact oM (show s.heap.IsTuple p its.toArray from pl) (iQ rv) (by omega) fun out ms a1 a2 a3=>fin its out ms a1 a2 a3
section
variable {K:PySem.W.Frag} {σ : St} {H:Hp} {Q:VK} {ta:TE} {R:It→Hp→Prop}
theorem GI (h:ta σ H fun x H1=>WkE K x H1 R):Dn K ta σ H R:=h
end
theorem sf.okR {P:Program} {w:World} {K:PySem.W.Frag} {mg:Str→Option Value} {base:Heap} {x qual:Str} {C:Addr} {st:Stmt} {N ps:List Str} {k:Nat} {sp:Sp} (D:sf K mg x qual C st ps) (S:aB N ps (aj st)) (len:∀ vs H Q E,sp vs H Q E→vs.length=ps.length)
  (hbody:∀ (f:Addr) (cdv:Value) (A:Around) (outer:List Env) (s:Shared) (H:Hp) (vs:List V) (Q:VK) (E:XK),cy k (A.deeper (envOfC qual (aj st) s.heap.objs.size f cdv))→sp vs H Q E →
   ∃ t,PSs (xcx (bM (CX1 P w) P w K mg base N qual (aj st) f cdv A outer s H E) (fun _=>E)) (aU st) t∧t { nx:=fun _ H'=>Q .non H',rt:=Q } (start N vs) H):Mak P w K mg base (CX1 P w) x C (k+1) ps sp∧HP P w K mg base (CX1 P w) x C (k+1) ps sp:=by
 obtain ⟨f,oc,dV,kV,doc,pm,cdv,ct,od,an,osl,lk,hcd,b,b1,m,mk⟩:=D.ex
 have F:fz P w K mg base (CX1 P w) (k+1) f _ ps sp:=vp lk hcd S len fun A outer s H vs Q E hr hsp=>by
  obtain ⟨t,ht,q⟩:=hbody f cdv A outer s H vs Q E hr hsp
  exact ⟨t,L4.PSs.x ht kQ,q⟩
 exact ⟨⟨f,_,mk,F,b,m⟩,⟨f,_,mk,F,b1,m⟩⟩
end L4

namespace L4
open PySem PySem.Spec PyProof.Rows L2 L3
section
variable {prog:Program} {w:World} {A:Around} {E:Value→Shared→Prop} {s:Shared} {R:Result→Shared→Prop} {I S:Addr} {fp wr:List Addr} {G:Array GenState→Array GenState→Prop} {P:Nat→Value→Prop} {St:Nat→Shared→Prop} {xs:List Str}
set_option maxRecDepth 100000 in
set_option maxHeartbeats 3200000 in
theorem sO {l:Addr} {items:Array Value} {Q:Value→Shared→Prop} (hh:A.handled=none) (hl:s.heap.IsTuple l items) (hn:items.size=xs.length) (hi:∀ (i:Nat) (v:Value),items[i]?=some v→∃ x t,xs[i]?=some x∧v=Value.str x t) (hb:xs.length+1 < scanBound)
  (h:∀ (h':Heap) (tk:Nat),h'.SetOf (strKind prog w) s.heap.objs.size (fun k=>decide (k∈aE [] xs)) (aE [] xs).length→(∀ b o,s.heap.get? b=some o→h'.get? b=some o)→Q (.ref s.heap.objs.size) { s with heap:=h',toks:=tk }) :
  wpAny (model prog w) A (call (.type "set") [.ref l]) Q E s:=by
 obtain ⟨c,tl,hmro⟩:=F.called_set.mro
 have hmade:=F.called_set.made
 have hsub:=F.called_set.sub
 have h1:=F.called_set.notType
 have h2:=F.called_set.canCreate
 have hct:=F.typeCall_set_1 (.ref l)
 refine wpAny_call (codeAny_of_tree ?_)
 show wpAny _ _ (callAny (.type "set") _) _ _ _
 refine wpAny_pure ⟨Code.quiet_builtin _ (by decide +kernel),codeAny_builtin F.entry_type_call ?_⟩
 rw [Around.under_plain (weight_type_call_type "set" [.ref l] []) rfl]
 repeat (any_goals (first | assumption | wp_step))
 refine codeAny_mono (code_set_new_1 (.ref l) (E:=E) (Q₁:=fun obj s₁=>∃ led:Bool,obj = .ref s.heap.objs.size∧s₁={ s with heap:=s.heap.push { cls:=.type "set",dict:=none,data:=.set #[] 0 (.fresh 0 0 led) } }) fun led=>⟨led,rfl,rfl⟩) fun r s₁ hr=>?_
 rcases r with e | fl
 ·exact hr
 cases fl with
 | ret obj=>
  obtain ⟨led,rfl,rfl⟩:=hr
  generalize ho:({ cls:=.type "set",dict:=none,data:=.set #[] 0 (.fresh 0 0 led) }:Obj)=so at *
  have hS:(s.heap.push so).get? s.heap.objs.size=some so:=Heap.get?_push_size _ (by rw [← ho];rfl)
  have hT:Shared.TypeIs { s with heap:=s.heap.push so } (.ref s.heap.objs.size) "set" := ⟨_,hS,by rw [← ho]⟩
  have hli:=F.called_set.init.lookup
  have hbi:=F.called_set.init.bind (.ref s.heap.objs.size)
  repeat (any_goals (first | assumption | wp_step))
  refine codeAny_mono (codeAny_call_builtin (R:=wants (fun r s₂=>r = .none∧∃ h' tk,s₂={ s with heap:=h',toks:=tk }∧h'.SetOf (strKind prog w) s.heap.objs.size (fun k=>decide (k∈aE [] xs)) (aE [] xs).length∧∀ b o,s.heap.get? b=some o→h'.get? b=some o) E) F.called_set.init.plain F.entry_set_init (check_set_init_1 hT ?_)) fun r₂ s₂ hr₂=>?_
  ·have hlS:l < s.heap.objs.size:=by obtain ⟨_,e,_⟩:=hl;exact Heap.lt_size e
   subst ho
   have hl1:=hl.push { cls:=.type "set",dict:=none,data:=.set #[] 0 (.fresh 0 0 led) }
   obtain ⟨⟨lc,ld,ldat,lsl⟩,e1,e2,nl,e3⟩:=id hl1
   simp only at e2 e3
   subst e2 e3
   have Gp:=F.sub_tuple_set
   have Gq:=F.sub_tuple_frozenset
   have hne:(Value.type "tuple" == Value.type "dict")=false:=by decide
   unfold Builtin.«set.__init__» noKeywords Builtin.Frozenset.updateFrom
   generalize hPI:pyIter=PI
   wp_walk
   subst hPI
   refine wpAny_pyIter_tuple hl1 ?_
   refine wpAny_bind (wpAny_runValue ?_)
   have hsz:(s.heap.push { cls:=.type "set",dict:=none,data:=.set #[] 0 (.fresh 0 0 led) }).objs.size=s.heap.objs.size+1:=Heap.size_push ..
   have W:=(Walks.tuple (prog:=prog) (w:=w) (A:=A.in1.in1.in1) (by simp [hh]) (s.heap.push { cls:=.type "set",dict:=none,data:=.set #[] 0 (.fresh 0 0 led) }).objs.size l (by rw [hsz];exact Nat.ne_of_lt (Nat.lt_succ_of_lt hlS)) items).toS
   rw [hn] at W
   refine uT (xs:=xs) W (by rw [hsz];simp only [List.mem_cons,List.not_mem_nil,or_false,not_or];exact ⟨Nat.ne_of_lt (Nat.lt_succ_self _),Nat.ne_of_gt hlS⟩) (fun i v hv=>hi i v hv) hb _ 0 _ rfl (Nat.zero_le _) ⟨⟨_,Heap.get?_push_size _ rfl,rfl,rfl⟩,hl1.push _⟩ ?_ fun s' hm hS'=>?_
   ·exact SetOf_congr ((setObjOf_fresh (knd:=strKind prog w) led).setOf (Heap.get?_push_of_some _ hS) (by unfold scanBound;decide)) (fun _=>rfl) rfl
   ·obtain ⟨h',g',d',tk',os'⟩:=s'
    obtain rfl:g'=s.gens:=hm.gens
    obtain rfl:d'=s.drawn:=hm.drawn
    obtain rfl:os'=s.os:=hm.os
    refine wpAny_pure (wpAny_pure ⟨rfl,h',tk',rfl,hS',fun b o e=>?_⟩)
    have hb1:=Heap.lt_size e
    exact hm.heap b o (by rw [hsz];simp only [List.mem_cons,List.not_mem_nil,or_false,not_or];exact ⟨Nat.ne_of_lt hb1,Nat.ne_of_lt (Nat.lt_succ_of_lt hb1)⟩) (Heap.get?_push_of_some _ (Heap.get?_push_of_some _ e))
  ·rcases r₂ with e | fl₂
   ·exact hr₂
   cases fl₂ with
   | ret r=>
    obtain ⟨rfl,h',tk,rfl,hS',hk'⟩:=hr₂
    repeat (any_goals (first | assumption | wp_step))
    exact h _ _ hS' hk'
   | _=>exact hr₂.elim
 | _=>exact hr.elim
end
def qI (K:PySem.W.Frag) (x:V) (H:Hp) (Q:VK):Prop:=∃ (a:Addr) (xs:List Str),x = .ref a∧(SqL K H a (xs.map V.str)∨SqT K H a (xs.map V.str))∧xs.length≤1000∧Q (.int (((aE [] xs).length:Nat):Int)) H
def qk (K:PySem.W.Frag) (te:TE):TE:=fun σ H Q=>te σ H fun x H1=>qI K x H1 Q
section
variable {X:Cx} {e:Expr} {te:TE} {p p2 pos pos2:Pos}
theorem sZ (hc:X.calm=true) (hg:Gl X "len") (hg2:Gl X "set") (hm:X.mg "len" = none) (hm2:X.mg "set" = none) (he:PE X e te) (hs1:starEach [.Call (.Name "set" p2) [e] [] pos2] X.env=[(false,eval (.Call (.Name "set" p2) [e] [] pos2) X.env)]:=by rfl) (hs2:starEach [e] X.env=[(false,eval e X.env)]:=by rfl) :
  PE X (.Call (.Name "len" p) [.Call (.Name "set" p2) [e] [] pos2] [] pos) (qk X.K te):=by
 intro pins s σ H Q I h
 refine wpAny_Call_Name_kw (gj I hg hm L3.cT ?_)
 refine PyProof.Rows.callWith_builtin1 ?_ (by rw [hs1];rfl) (by rfl)
 rw [hs1]
 show wpAny (model X.prog X.w) X.A (spliced ((false,eval (.Call (.Name "set" p2) [e] [] pos2) X.env)::[])) _ X.xe s
 refine Calls.spliced_cons (wpAny_Call_Name_kw (gj I hg2 hm2 L3.AA ?_))
 refine PyProof.Rows.callWith_type1 ?_ (by rw [hs2];rfl) (by rfl)
 rw [hs2]
 show wpAny (model X.prog X.w) X.A (spliced ((false,eval e X.env)::[])) _ X.xe s
 refine Calls.spliced_cons (thn (he pins s σ H _ I h) fun u s1 ⟨x,H1,I1,r1,q1⟩=>Calls.spliced_nil ?_)
 obtain ⟨a,xs,rfl,hq,h1000,q⟩:=q1
 cases r1
 have hsb:xs.length+1 < scanBound:=by unfold scanBound;omega
 have got:∀ its:List Value,Vals (xs.map V.str) its→∀ (i:Nat) (v:Value),its.toArray[i]?=some v→∃ x t,xs[i]?=some x∧v=Value.str x t:=fun its rv i v hv=>by
  have hlen:its.length=xs.length:=by rw [← rv.length,List.length_map]
  have hv':its[i]?=some v:=by simpa using hv
  have hi:i < xs.length:=by
   have:=(List.getElem?_eq_some_iff.mp hv').1
   omega
  obtain ⟨u,hu,ru⟩:=rv.get (i:=i) (x:=V.str xs[i]) (by rw [List.getElem?_map,List.getElem?_eq_getElem hi];rfl)
  rw [hv'] at hu
  cases hu
  obtain ⟨t,rfl⟩:=ru
  exact ⟨_,t,List.getElem?_eq_getElem hi,rfl⟩
 have fin:∀ (h':Heap) (tk:Nat),h'.SetOf (strKind X.prog X.w) s1.heap.objs.size (fun k=>decide (k∈aE [] xs)) (aE [] xs).length→(∀ b o,s1.heap.get? b=some o→h'.get? b=some o)→wpAny (model X.prog X.w) X.A (spliced []) (fun vs s2=>wpAny (model X.prog X.w) X.A (call (.builtin "len") (Value.ref s1.heap.objs.size::vs)) (EP X pins σ Q) X.xe s2) X.xe { s1 with heap:=h',toks:=tk }:=fun h' tk hS hk=>by
  have I2:=I1.kept (t':=tk) hk
  refine Calls.spliced_nil ?_
  obtain ⟨o,es,ep,t,ho,hex,hd,_,_,hb,hf,hn⟩:=hS
  have h63:(es.size:Int) < 2 ^ 63:=by unfold scanBound at hb;omega
  exact call_len_set ho hex hd hf h63 ⟨.int es.size,H1,I2.tok _,⟨_,rfl⟩,by rw [hn];exact q⟩
 rcases hq with hq | hq
 ·obtain ⟨its,rv,pl,hz⟩:=I1.list hq
  exact vL (I.ok.hd hc) pl.isList (by rw [List.size_toArray,← rv.length,List.length_map]) (got its rv) hsb fun h' tk hS hk=>fin h' tk hS hk
 ·obtain ⟨its,rv,pl,hz⟩:=I1.tuple hq
  exact sO (I.ok.hd hc) (show s1.heap.IsTuple a its.toArray from pl) (by rw [List.size_toArray,← rv.length,List.length_map]) (got its rv) hsb fun h' tk hS hk=>fin h' tk hS hk
end
theorem nN {K:PySem.W.Frag} {te:TE} {σ : St} {H:Hp} {Q:VK} (h:te σ H fun x H1=>qI K x H1 Q):qk K te σ H Q:=h
end L4


namespace Law
open PySem PySem.Spec PyProof.Rows L2 L3 L4
section
variable {P:Program} {w:World} {K:PySem.W.Frag} {mg:Str→Option Value} {base:Heap} {CX:CXT}
theorem A8:aB ["_law_script", "_law_k", "_law_hand_here"] ["_law_script", "_law_k"] (aj (top 43)):=by walk_at "s"
def sI (K:PySem.W.Frag):Sp:=fun vs H Q _=>∃ (a:Addr) (ns:List Int) (k:Int),vs=[.ref a,.int k]∧SqL K H a (ns.map V.int)∧ns.length≤63∧0≤k ∧
 ∀ (p:Addr) (H':Hp),H p=none→bw H' p 0→az H H'→Q (.ref p) H'
theorem rM {ns:List Int} {k:Int} (h0 : 0≤k) (h:k < (ns.length:Int)):∃ v:Int,atI (ns.map V.int) k=some (.int v):=by
 have hk:k.toNat < ns.length:=by omega
 have ek:k=((k.toNat:Nat):Int):=by omega
 have q:atI (ns.map V.int) ((k.toNat:Nat):Int)=some (.int ns[k.toNat]):=fN (by rw [List.getElem?_map,List.getElem?_eq_getElem hk] <;> rfl)
 rw [← ek] at q
 exact ⟨_,q⟩
theorem BE (D:Dat K mg "_law_hand" "_law_hand" (top 43) ["_law_script", "_law_k"]) (BT:Bt mg):Cal P w K mg base CX "_law_hand" 1 ["_law_script", "_law_k"] (sI K):=by
 have S:=A8
 walk_at "d"
 ·obtain ⟨a,ns,k,rfl,_⟩:=h
  rfl
 obtain ⟨a,ns,k,rfl,hS,h63,h0,q⟩:=h
 refine ⟨_,(@ai _ _ _ _ _ (@aM _ _ 2 _ _ _ _ S.nd rfl (by first | exact Or.inl rfl | exact Or.inr rfl) (@bC _ _ _ _ (@aa _ _ _ _ _ (@ah _ _ _ _) (@aa _ _ _ _ _ (@ah _ _ _ _) (@aa _ _ _ _ _ (@ah _ _ _ _) (@af _) (by rfl)) (by rfl)) (by rfl))) (by rfl) (by first | exact .inl rfl | exact .inr rfl | assumption)) (@ai _ _ _ _ _ (@br _ _ _ _ _ _ _ _ (@aJ _ _ _ _ _ _ _ _ (@Gd _) (@pv _ 1 _ _ (by rfl) (by first | exact Or.inl rfl | exact Or.inr (Or.inl rfl) | exact Or.inr (Or.inr rfl)) (by decide) (by decide)) (@aW _ _ _ _ _ _ _ _ _ (@iA _) rfl BT.len L3.cT (@aa _ _ _ _ _ (@pv _ 0 _ _ (by rfl) (by first | exact Or.inl rfl | exact Or.inr (Or.inl rfl) | exact Or.inr (Or.inr rfl)) (by decide) (by decide)) (@af _) (by rfl)) (by decide) (by decide) (by rfl) (by rfl)) (@aH _ _ (by decide) (by decide))) (@ak _ _ _ (@iF _ _ _ _ _ _ (@aG _ _ _ _ _ _ _ _ (@fF _) (@aL _ _ _ _ _ _ _ (@aK _) (@pv _ 0 _ _ (by rfl) (by first | exact Or.inl rfl | exact Or.inr (Or.inl rfl) | exact Or.inr (Or.inr rfl)) (by decide) (by decide)) (@pv _ 1 _ _ (by rfl) (by first | exact Or.inl rfl | exact Or.inr (Or.inl rfl) | exact Or.inr (Or.inr rfl)) (by decide) (by decide)) (fun _ _=>rfl)) (@aG _ _ _ _ _ _ _ _ (@eT _) (@aG _ _ _ _ _ _ _ _ (@dc _) (@ah _ _ _ _) (@ah _ _ _ _)) (@aG _ _ _ _ _ _ _ _ (@dc _) (@ah _ _ _ _) (@ah _ _ _ _)))) (@jE _ _ _ _ _ _ _ (@pv _ 2 _ _ (by rfl) (by first | exact Or.inl rfl | exact Or.inr (Or.inl rfl) | exact Or.inr (Or.inr rfl)) (by decide) (by decide)) (@ah _ _ _ _) (@set_list _) (by intro _;rfl)) (by rfl) (by rfl) (by rfl))) (@aF _)) (@ai _ _ _ _ _ (@br _ _ _ _ _ _ _ _ (@PW.pt _ _ _ (@sV _ _ _ _ _ _ _ (@aJ _ _ _ _ _ _ _ _ (@Dj _) (@aL _ _ _ _ _ _ _ (@aK _) (@pv _ 2 _ _ (by rfl) (by first | exact Or.inl rfl | exact Or.inr (Or.inl rfl) | exact Or.inr (Or.inr rfl)) (by decide) (by decide)) (@ah _ _ _ _) (fun _ _=>rfl)) (@aG _ _ _ _ _ _ _ _ (@dc _) (@ah _ _ _ _) (@ah _ _ _ _)) (@aH _ _ (by decide) (by decide))) (@oX _ _ _ _ (@aJ _ _ _ _ _ _ _ _ (@cM _) (@aG _ _ _ _ _ _ _ _ (@fF _) (@aL _ _ _ _ _ _ _ (@aK _) (@pv _ 0 _ _ (by rfl) (by first | exact Or.inl rfl | exact Or.inr (Or.inl rfl) | exact Or.inr (Or.inr rfl)) (by decide) (by decide)) (@ah _ _ _ _) (fun _ _=>rfl)) (@ah _ _ _ _)) (@ah _ _ _ _) (@aH _ _ (by decide) (by decide)))))) (@ak _ _ _ (@iF _ _ _ _ _ _ (@ah _ _ _ _) (@jE _ _ _ _ _ _ _ (@pv _ 2 _ _ (by rfl) (by first | exact Or.inl rfl | exact Or.inr (Or.inl rfl) | exact Or.inr (Or.inr rfl)) (by decide) (by decide)) (@ah _ _ _ _) (@set_list _) (by intro _;rfl)) (by rfl) (by rfl) (by rfl))) (@aF _)) (@ai _ _ _ _ _ (@br _ _ _ _ _ _ _ _ (@aJ _ _ _ _ _ _ _ _ (@cM _) (@pv _ 1 _ _ (by rfl) (by first | exact Or.inl rfl | exact Or.inr (Or.inl rfl) | exact Or.inr (Or.inr rfl)) (by decide) (by decide)) (@ah _ _ _ _) (@aH _ _ (by decide) (by decide))) (@ak _ _ _ (@iF _ _ _ _ _ _ (@aG _ _ _ _ _ _ _ _ (@i7 _) (@aL _ _ _ _ _ _ _ (@aK _) (@pv _ 2 _ _ (by rfl) (by first | exact Or.inl rfl | exact Or.inr (Or.inl rfl) | exact Or.inr (Or.inr rfl)) (by decide) (by decide)) (@ah _ _ _ _) (fun _ _=>rfl)) (@ah _ _ _ _)) (@jE _ _ _ _ _ _ _ (@pv _ 2 _ _ (by rfl) (by first | exact Or.inl rfl | exact Or.inr (Or.inl rfl) | exact Or.inr (Or.inr rfl)) (by decide) (by decide)) (@ah _ _ _ _) (@set_list _) (by intro _;rfl)) (by rfl) (by rfl) (by rfl))) (@aF _)) (@ak _ _ _ (@av _ _ _ _ (@pv _ 2 _ _ (by rfl) (by first | exact Or.inl rfl | exact Or.inr (Or.inl rfl) | exact Or.inr (Or.inr rfl)) (by decide) (by decide)))))))),?_⟩
 have hl:(ns.map V.int).length=ns.length:=List.length_map _
 refine ⟨(by show 3≤sizeLine;decide),fun p hp=>?_⟩
 have sq:∀ o,SqL K (upd H p o) a (ns.map V.int):=fun o=>(bG hp o).seq hS
 -- the number
 dsimp only [aS]
 refine gO (fun σ H'=>∃ x:Int,σ=[some (.ref a),some (.int k),some (.ref p)]∧H'=upd H p (.lst [.int x,.int 0,.int 1])∧0≤x∧x < 10 ^ 121∧(x=0∨k < (ns.length:Int))) (fun nx kk=>?_) ?_
 ·refine ⟨_,rfl,_,rfl,a,_,rfl,.inl (sq _),_,_,rfl,rfl,_,rfl,?_⟩
  refine wJ (fun c=>?_) (fun c=>?_)
  ·have c':k < ((ns.map V.int).length:Int):=of_decide_eq_true c
   rw [hl] at c'
   obtain ⟨v,hv⟩:=rM h0 c'
   refine ⟨_,rfl,_,rfl,a,_,_,_,rfl,rfl,sq _,hv,_,_,rfl,rfl,⟨by decide,by decide,by decide⟩,_,_,rfl,rfl,⟨by decide,by decide,by decide⟩,_,_,rfl,rfl,⟨⟨by decide,by decide⟩,by decide,by decide⟩,_,_,rfl,rfl,(by show (0:Int) < _;decide),?_⟩
   refine ⟨_,rfl,p,_,_,0,rfl,rfl,ao,rfl,?_⟩
   refine kk _ _ ⟨_,rfl,fB,?_,?_,.inr c'⟩
   ·exact Int.emod_nonneg _ (by decide)
   ·exact Int.lt_trans (Int.emod_lt_of_pos _ (by decide)) (by decide)
  ·exact kk _ _ ⟨0,rfl,rfl,by decide,by decide,.inl rfl⟩
 rintro σ H' ⟨x,rfl,rfl,x0,x1,xk⟩
 -- the way
 refine gO (fun σ H'=>∃ m:Int,σ=[some (.ref a),some (.int k),some (.ref p)]∧H'=upd H p (.lst [.int x,.int 0,.int m])) (fun nx kk=>?_) ?_
 ·refine ⟨_,rfl,p,_,_,_,rfl,rfl,SqL.of ao,rfl,_,_,rfl,rfl,⟨by decide,by decide,by decide⟩,_,_,rfl,rfl,_,rfl,?_⟩
  refine wJ (fun c=>?_) (fun c=>?_)
  ·have c':(10:Int) ^ 18≤x:=of_decide_eq_true c
   have hk:k < (ns.length:Int):=by
    rcases xk with z | z
    ·rw [z] at c';exact absurd c' (by decide)
    ·exact z
   obtain ⟨v,hv⟩:=rM (k:=0) (ns:=ns) (Int.le_refl 0) (by omega)
   refine ⟨_,rfl,a,_,_,_,rfl,rfl,sq _,hv,_,_,rfl,rfl,(by show (0:Int) < _;decide),rfl,_,rfl,?_⟩
   refine wJ (fun c=>?_) (fun c=>?_)
   ·refine ⟨_,rfl,p,_,_,2,rfl,rfl,ao,rfl,?_⟩
    exact kk _ _ ⟨0,rfl,fB⟩
   ·exact kk _ _ ⟨1,rfl,rfl⟩
  ·refine Io ?_
   exact kk _ _ ⟨1,rfl,rfl⟩
 rintro σ H' ⟨m,rfl,rfl⟩
 refine gO (fun σ H'=>∃ y:Int,σ=[some (.ref a),some (.int k),some (.ref p)]∧H'=upd H p (.lst [.int y,.int 0,.int m])∧0≤y∧y < 10 ^ 121) (fun nx kk=>?_) ?_
 ·refine ⟨_,rfl,rfl,_,rfl,?_⟩
  refine wJ (fun c=>?_) (fun c=>?_)
  ·refine ⟨_,rfl,p,_,_,_,rfl,rfl,SqL.of ao,rfl,_,_,rfl,rfl,⟨by decide,by decide⟩,_,rfl,p,_,_,0,rfl,rfl,ao,rfl,?_⟩
   exact kk _ _ ⟨x / 2,rfl,fB,by omega,by omega⟩
  ·exact kk _ _ ⟨x,rfl,rfl,x0,x1⟩
 rintro σ H' ⟨y,rfl,rfl,y0,y1⟩
 refine ⟨_,rfl,?_⟩
 exact q p _ hp ⟨y,0,m,ao,y0,y1,Int.le_refl _,Int.le_refl _⟩ (bG hp _)

theorem A5:aB ["_law_hand_here", "_law_many", "_law_found", "_law_low", "_law_by", "_law_one", "_law_two"] ["_law_hand_here", "_law_many"] (aj (top 44)):=by walk_at "s"
def lim (n:Nat):Int:=10 ^ (6+5 * n)
def AV:Nat→Sp
 | 0=>fun _ _ _ _=>False
 | n+1=>fun vs H Q _=>∃ (p:Addr) (many b:Int),vs=[.ref p,.int many]∧0 < many∧many≤lim n∧bw H p b∧b+2 ^ n≤2 ^ 60∧n≤12 ∧
  ∀ (r:Int) (H':Hp),0≤r→r < many→bw H' p (b+2 ^ n)→Oth p H H'→Q (.int r) H'
theorem zL {n:Nat} {m:Int} (h0 : 0 < m) (h:m≤lim (n+1)):m / 1000000+1≤lim n:=by
 have e:lim (n+1)=100000 * lim n:=by
  unfold lim
  rw [show 6+5 * (n+1)=(6+5 * n)+5 from by omega,Int.pow_add]
  rw [show (10:Int) ^ 5=100000 from by decide,Int.mul_comm]
 have e1:(1000000:Int)≤lim n:=by
  unfold lim
  rw [Int.pow_add]
  have:(0:Int) < 10 ^ (5 * n):=Int.pow_pos (by decide)
  rw [show (10:Int) ^ 6=1000000 from by decide]
  have h1:(1:Int)≤10 ^ (5 * n):=this
  have:=Int.mul_le_mul_of_nonneg_left h1 (show (0:Int)≤1000000 by decide)
  rw [Int.mul_one] at this
  exact this
 omega
theorem BP {n:Nat}:(1000000:Int)≤lim n:=by
 unfold lim
 rw [Int.pow_add]
 have:(0:Int) < 10 ^ (5 * n):=Int.pow_pos (by decide)
 rw [show (10:Int) ^ 6=1000000 from by decide]
 have h1:(1:Int)≤10 ^ (5 * n):=this
 have:=Int.mul_le_mul_of_nonneg_left h1 (show (0:Int)≤1000000 by decide)
 rw [Int.mul_one] at this
 exact this
theorem zM {n:Nat} (h:n≤12):lim n < 2 ^ 250:=by
 unfold lim
 refine Int.lt_of_le_of_lt (b:=10 ^ 66) ?_ (by decide)
 have:(10:Nat) ^ (6+5 * n)≤10 ^ 66:=Nat.pow_le_pow_right (by decide) (by omega)
 exact_mod_cast this
theorem Em {u v A B:Int} (h1 : 0≤u) (h2:u≤A) (h3 : 0≤v) (h4:v≤B) : 0≤u * v∧u * v≤A * B:=
 ⟨Int.mul_nonneg h1 h3,Int.le_trans (Int.mul_le_mul_of_nonneg_right h2 h3) (Int.mul_le_mul_of_nonneg_left h4 (Int.le_trans h1 h2))⟩
theorem Dh {n:Nat} (h:n≤12):(1:Int)≤2 ^ n∧(2:Int) ^ n≤1048576:=by
 have h1 : 1≤2 ^ n:=Nat.one_le_two_pow
 have h2 : 2 ^ n≤2 ^ 20:=Nat.pow_le_pow_right (by decide) (by omega)
 have e:((2:Int) ^ n)=((2 ^ n:Nat):Int):=by norm_cast
 rw [e]
 omega
theorem qN (D:Dat K mg "_law_pick" "_law_pick" (top 44) ["_law_hand_here", "_law_many"]) (NE:bN CX):∀ n:Nat,Cal P w K mg base CX "_law_pick" n ["_law_hand_here", "_law_many"] (AV n)
 | 0=>Dat.none D fun _ _ _ _ h=>h
 | n+1=>by
  have au:=qN D NE n
  have S:=A5
  walk_at "d"
  ·obtain ⟨p,many,b,rfl,_⟩:=h
   rfl
  obtain ⟨p,many,b,rfl,hm,hlm,hh,hb,hn,q⟩:=h
  have hm6:=Int.lt_of_le_of_lt hlm (zM hn)
  refine ⟨_,(@ai _ _ _ _ _ (@br _ _ _ _ _ _ _ _ (@aJ _ _ _ _ _ _ _ _ (@cM _) (@aL _ _ _ _ _ _ _ (@aK _) (@pv _ 0 _ _ (by rfl) (by first | exact Or.inl rfl | exact Or.inr (Or.inl rfl) | exact Or.inr (Or.inr rfl)) (by decide) (by decide)) (@ah _ _ _ _) (fun _ _=>rfl)) (@ah _ _ _ _) (@aH _ _ (by decide) (by decide))) (@ai _ _ _ _ _ (@aM _ _ 2 _ _ _ _ S.nd rfl (by first | exact Or.inl rfl | exact Or.inr rfl) (@aG _ _ _ _ _ _ _ _ (@fF _) (@aL _ _ _ _ _ _ _ (@aK _) (@pv _ 0 _ _ (by rfl) (by first | exact Or.inl rfl | exact Or.inr (Or.inl rfl) | exact Or.inr (Or.inr rfl)) (by decide) (by decide)) (@ah _ _ _ _) (fun _ _=>rfl)) (@pv _ 1 _ _ (by rfl) (by first | exact Or.inl rfl | exact Or.inr (Or.inl rfl) | exact Or.inr (Or.inr rfl)) (by decide) (by decide))) (by rfl) (by first | exact .inl rfl | exact .inr rfl | assumption)) (@ai _ _ _ _ _ (@iF _ _ _ _ _ _ (@aG _ _ _ _ _ _ _ _ (@i7 _) (@aL _ _ _ _ _ _ _ (@aK _) (@pv _ 0 _ _ (by rfl) (by first | exact Or.inl rfl | exact Or.inr (Or.inl rfl) | exact Or.inr (Or.inr rfl)) (by decide) (by decide)) (@ah _ _ _ _) (fun _ _=>rfl)) (@pv _ 1 _ _ (by rfl) (by first | exact Or.inl rfl | exact Or.inr (Or.inl rfl) | exact Or.inr (Or.inr rfl)) (by decide) (by decide))) (@jE _ _ _ _ _ _ _ (@pv _ 0 _ _ (by rfl) (by first | exact Or.inl rfl | exact Or.inr (Or.inl rfl) | exact Or.inr (Or.inr rfl)) (by decide) (by decide)) (@ah _ _ _ _) (@set_list _) (by intro _;rfl)) (by rfl) (by rfl) (by rfl)) (@ak _ _ _ (@av _ _ _ _ (@pv _ 2 _ _ (by rfl) (by first | exact Or.inl rfl | exact Or.inr (Or.inl rfl) | exact Or.inr (Or.inr rfl)) (by decide) (by decide)))))) (@aF _)) (@ai _ _ _ _ _ (@br _ _ _ _ _ _ _ _ (@aJ _ _ _ _ _ _ _ _ (@uY _) (@pv _ 1 _ _ (by rfl) (by first | exact Or.inl rfl | exact Or.inr (Or.inl rfl) | exact Or.inr (Or.inr rfl)) (by decide) (by decide)) (@ah _ _ _ _) (@aH _ _ (by decide) (by decide))) (@ai _ _ _ _ _ (@aM _ _ 3 _ _ _ _ S.nd rfl (by first | exact Or.inl rfl | exact Or.inr rfl) (@aI _ _ _ _ _ _ _ _ _ _ _ _ au (hr.mono (by first | decide | omega)) NE.pass (@aa _ _ _ _ _ (@pv _ 0 _ _ (by rfl) (by first | exact Or.inl rfl | exact Or.inr (Or.inl rfl) | exact Or.inr (Or.inr rfl)) (by decide) (by decide)) (@aa _ _ _ _ _ (@ah _ _ _ _) (@af _) (by rfl)) (by rfl)) (by rfl) (by decide) (by rfl) (by rfl)) (by rfl) (by first | exact .inl rfl | exact .inr rfl | assumption)) (@ak _ _ _ (@av _ _ _ _ (@aG _ _ _ _ _ _ _ _ (@fF _) (@aG _ _ _ _ _ _ _ _ (@cu _) (@pv _ 3 _ _ (by rfl) (by first | exact Or.inl rfl | exact Or.inr (Or.inl rfl) | exact Or.inr (Or.inr rfl)) (by decide) (by decide)) (@aG _ _ _ _ _ _ _ _ (@eT _) (@ah _ _ _ _) (@aI _ _ _ _ _ _ _ _ _ _ _ _ au (hr.mono (by first | decide | omega)) NE.pass (@aa _ _ _ _ _ (@pv _ 0 _ _ (by rfl) (by first | exact Or.inl rfl | exact Or.inr (Or.inl rfl) | exact Or.inr (Or.inr rfl)) (by decide) (by decide)) (@aa _ _ _ _ _ (@aG _ _ _ _ _ _ _ _ (@cu _) (@aG _ _ _ _ _ _ _ _ (@i7 _) (@pv _ 1 _ _ (by rfl) (by first | exact Or.inl rfl | exact Or.inr (Or.inl rfl) | exact Or.inr (Or.inr rfl)) (by decide) (by decide)) (@ah _ _ _ _)) (@ah _ _ _ _)) (@af _) (by rfl)) (by rfl)) (by rfl) (by decide) (by rfl) (by rfl)))) (@pv _ 1 _ _ (by rfl) (by first | exact Or.inl rfl | exact Or.inr (Or.inl rfl) | exact Or.inr (Or.inr rfl)) (by decide) (by decide)))))) (@aF _)) (@ai _ _ _ _ _ (@iF _ _ _ _ _ _ (@aG _ _ _ _ _ _ _ _ (@cu _) (@aL _ _ _ _ _ _ _ (@aK _) (@pv _ 0 _ _ (by rfl) (by first | exact Or.inl rfl | exact Or.inr (Or.inl rfl) | exact Or.inr (Or.inr rfl)) (by decide) (by decide)) (@ah _ _ _ _) (fun _ _=>rfl)) (@ah _ _ _ _)) (@jE _ _ _ _ _ _ _ (@pv _ 0 _ _ (by rfl) (by first | exact Or.inl rfl | exact Or.inr (Or.inl rfl) | exact Or.inr (Or.inr rfl)) (by decide) (by decide)) (@ah _ _ _ _) (@set_list _) (by intro _;rfl)) (by rfl) (by rfl) (by rfl)) (@ai _ _ _ _ _ (@aM _ _ 4 _ _ _ _ S.nd rfl (by first | exact Or.inl rfl | exact Or.inr rfl) (@aG _ _ _ _ _ _ _ _ (@cu _) (@ah _ _ _ _) (@aG _ _ _ _ _ _ _ _ (@eT _) (@aG _ _ _ _ _ _ _ _ (@eT _) (@ah _ _ _ _) (@aL _ _ _ _ _ _ _ (@aK _) (@pv _ 0 _ _ (by rfl) (by first | exact Or.inl rfl | exact Or.inr (Or.inl rfl) | exact Or.inr (Or.inr rfl)) (by decide) (by decide)) (@ah _ _ _ _) (fun _ _=>rfl))) (@aL _ _ _ _ _ _ _ (@aK _) (@pv _ 0 _ _ (by rfl) (by first | exact Or.inl rfl | exact Or.inr (Or.inl rfl) | exact Or.inr (Or.inr rfl)) (by decide) (by decide)) (@ah _ _ _ _) (fun _ _=>rfl)))) (by rfl) (by first | exact .inl rfl | exact .inr rfl | assumption)) (@ai _ _ _ _ _ (@aM _ _ 5 _ _ _ _ S.nd rfl (by first | exact Or.inl rfl | exact Or.inr rfl) (@aG _ _ _ _ _ _ _ _ (@fF _) (@aG _ _ _ _ _ _ _ _ (@eT _) (@aG _ _ _ _ _ _ _ _ (@cu _) (@aG _ _ _ _ _ _ _ _ (@fF _) (@aL _ _ _ _ _ _ _ (@aK _) (@pv _ 0 _ _ (by rfl) (by first | exact Or.inl rfl | exact Or.inr (Or.inl rfl) | exact Or.inr (Or.inr rfl)) (by decide) (by decide)) (@ah _ _ _ _) (fun _ _=>rfl)) (@ah _ _ _ _)) (@ah _ _ _ _)) (@pv _ 4 _ _ (by rfl) (by first | exact Or.inl rfl | exact Or.inr (Or.inl rfl) | exact Or.inr (Or.inr rfl)) (by decide) (by decide))) (@ah _ _ _ _)) (by rfl) (by first | exact .inl rfl | exact .inr rfl | assumption)) (@ai _ _ _ _ _ (@aM _ _ 6 _ _ _ _ S.nd rfl (by first | exact Or.inl rfl | exact Or.inr rfl) (@aG _ _ _ _ _ _ _ _ (@fF _) (@aG _ _ _ _ _ _ _ _ (@cu _) (@aG _ _ _ _ _ _ _ _ (@eT _) (@pv _ 5 _ _ (by rfl) (by first | exact Or.inl rfl | exact Or.inr (Or.inl rfl) | exact Or.inr (Or.inr rfl)) (by decide) (by decide)) (@pv _ 5 _ _ (by rfl) (by first | exact Or.inl rfl | exact Or.inr (Or.inl rfl) | exact Or.inr (Or.inr rfl)) (by decide) (by decide))) (@aG _ _ _ _ _ _ _ _ (@eT _) (@ah _ _ _ _) (@pv _ 5 _ _ (by rfl) (by first | exact Or.inl rfl | exact Or.inr (Or.inl rfl) | exact Or.inr (Or.inr rfl)) (by decide) (by decide)))) (@ah _ _ _ _)) (by rfl) (by first | exact .inl rfl | exact .inr rfl | assumption)) (@ak _ _ _ (@av _ _ _ _ (@aG _ _ _ _ _ _ _ _ (@fF _) (@aG _ _ _ _ _ _ _ _ (@i7 _) (@aG _ _ _ _ _ _ _ _ (@fF _) (@aG _ _ _ _ _ _ _ _ (@eT _) (@pv _ 6 _ _ (by rfl) (by first | exact Or.inl rfl | exact Or.inr (Or.inl rfl) | exact Or.inr (Or.inr rfl)) (by decide) (by decide)) (@ah _ _ _ _)) (@ah _ _ _ _)) (@ah _ _ _ _)) (@pv _ 1 _ _ (by rfl) (by first | exact Or.inl rfl | exact Or.inr (Or.inl rfl) | exact Or.inr (Or.inr rfl)) (by decide) (by decide))))))))))),?_⟩
  obtain ⟨a,d,c,hp,a0,a1,d0,d1⟩:=id hh
  have p20:=Dh hn
  refine ⟨_,rfl,p,_,_,_,rfl,rfl,SqL.of hp,rfl,rfl,_,rfl,?_⟩
  refine wJ (fun cc=>?_) (fun cc=>?_)
  ·refine ⟨_,rfl,p,_,_,_,rfl,rfl,SqL.of hp,rfl,_,rfl,_,_,rfl,rfl,hm,?_⟩
   refine ⟨_,rfl,p,_,_,_,rfl,rfl,SqL.of hp,rfl,_,rfl,_,_,rfl,rfl,⟨hm,hm6⟩,_,rfl,p,_,_,0,rfl,rfl,hp,rfl,_,rfl,?_⟩
   refine q _ _ (Int.emod_nonneg _ (by omega)) (Int.emod_lt_of_pos _ hm) ⟨a / many,d,c,ao,Int.ediv_nonneg a0 (by omega),Int.lt_of_le_of_lt (Int.ediv_le_self _ a0) a1,d0,by omega⟩ ((Oth.refl p H).upd _)
  refine ⟨_,rfl,_,_,rfl,rfl,_,rfl,?_⟩
  refine wJ (fun cg=>?_) (fun cg=>?_)
  ·have cg':(1000000:Int) < many:=of_decide_eq_true cg
   -- two smaller ones
   cases n with
   | zero=>
    have:many≤1000000:=hlm
    omega
   | succ n=>
    have p21:=Dh (n:=n) (by omega)
    have e2:(2:Int) ^ (n+1)=2 * 2 ^ n:=by rw [Int.pow_succ,Int.mul_comm]
    have hm2:=zL hm hlm
    have hm3:=zM (n:=n) (by omega)
    have hm4:=Int.ediv_nonneg (Int.le_of_lt hm) (show (0:Int)≤1000000 by decide)
    rw [e2] at hb
    refine ⟨_,rfl,p,1000000,b,rfl,by decide,BP,hh,by omega,by omega,fun r1 H1 r10 r11 hh1 o1=>?_⟩
    refine ⟨_,rfl,_,rfl,_,rfl,_,_,rfl,rfl,⟨by decide,by decide⟩,_,_,rfl,rfl,p,_,_,rfl,by omega,hm2,hh1,by omega,by omega,fun r2 H2 r20 r21 hh2 o2=>?_⟩
    ·refine ⟨_,_,rfl,rfl,⟨⟨by decide,by decide⟩,by omega,by omega⟩,_,_,rfl,rfl,_,rfl,_,_,rfl,rfl,hm,?_⟩
     refine q _ _ (Int.emod_nonneg _ (by omega)) (Int.emod_lt_of_pos _ hm) (hh2.mono ?_) (o1.trans o2)
     show b+2 ^ n+2 ^ n≤b+2 ^ (n+1)
     omega
  ·have IU:b≤1152921504606846976:=by omega
   refine ⟨_,rfl,p,_,_,_,rfl,rfl,SqL.of hp,rfl,_,_,rfl,rfl,_,rfl,p,_,_,1,rfl,rfl,hp,rfl,?_⟩
   have hp1:(upd H p (HO.lst [.int a,.int (d+1),.int c])) p=some (.lst [.int a,.int (d+1),.int c]):=ao
   have m1:=Em (u:=39916801 * (d+1)) (v:=d+1) (A:=2 ^ 90) (B:=2 ^ 62) (by omega) (by omega) (by omega) (by omega)
   have m0:=Int.emod_nonneg a (show (2147483629:Int)≠0 by decide)
   have m0':=Int.emod_lt_of_pos a (show (0:Int) < 2147483629 by decide)
   refine ⟨_,rfl,p,_,_,_,rfl,rfl,SqL.of hp1,rfl,_,_,rfl,rfl,⟨⟨by decide,by decide⟩,by omega,by omega⟩,_,rfl,p,_,_,_,rfl,rfl,SqL.of hp1,rfl,_,_,rfl,rfl,⟨⟨by omega,by omega⟩,by omega,by omega⟩,_,_,rfl,rfl,?_⟩
   refine ⟨_,rfl,p,_,_,_,rfl,rfl,SqL.of hp1,rfl,_,_,rfl,rfl,(by show (0:Int) < _;decide),_,_,rfl,rfl,_,rfl,_,_,rfl,rfl,⟨⟨by omega,by omega⟩,by omega,by omega⟩,_,_,rfl,rfl,(by show (0:Int) < _;decide),?_⟩
   generalize hx:(a % 2147483629+11) * (716151937+39916801 * (d+1) * (d+1)) % 998244353=x
   have x0 : 0≤x:=hx▸Int.emod_nonneg _ (by decide)
   have x1:x < 998244353:=hx▸Int.emod_lt_of_pos _ (by decide)
   refine ⟨_,rfl,_,rfl,_,_,rfl,rfl,⟨⟨by omega,by omega⟩,by omega,by omega⟩,_,rfl,_,_,rfl,rfl,⟨⟨by decide,by decide⟩,by omega,by omega⟩,_,_,rfl,rfl,_,_,rfl,rfl,(by show (0:Int) < _;decide),?_⟩
   generalize hy:(x * x+48271 * x) % 1000000007=y
   have y0 : 0≤y:=hy▸Int.emod_nonneg _ (by decide)
   have y1:y < 1000000007:=hy▸Int.emod_lt_of_pos _ (by decide)
   refine ⟨_,rfl,_,_,rfl,rfl,⟨⟨by omega,by omega⟩,by decide,by decide⟩,_,_,rfl,rfl,(by show (0:Int) < _;decide),_,_,rfl,rfl,⟨by decide,by decide⟩,_,rfl,_,_,rfl,rfl,hm,?_⟩
   exact q _ _ (Int.emod_nonneg _ (by omega)) (Int.emod_lt_of_pos _ hm) ⟨a,d+1,c,hp1,a0,a1,by omega,by omega⟩ ((Oth.refl p H).upd _)
def iC:Sp:=fun vs H Q _=>∃ (p:Addr) (many b:Int),vs=[.ref p,.int many]∧0 < many∧many≤10 ^ 50∧bw H p b∧b≤1000000000 ∧
  ∀ (r:Int) (H':Hp),0≤r→r < many→bw H' p (b+1024)→Oth p H H'→Q (.int r) H'
theorem BB (D:Dat K mg "_law_pick" "_law_pick" (top 44) ["_law_hand_here", "_law_many"]) (NE:bN CX):Cal P w K mg base CX "_law_pick" 11 ["_law_hand_here", "_law_many"] iC:=
 (qN D NE 11).imp fun vs H Q E ⟨p,many,b,e,h1,h2,hh,hb,q⟩=>⟨p,many,b,e,h1,Int.le_trans h2 (by decide),hh,(by show b+1024≤1152921504606846976;omega),by decide,q⟩

end
end Law

namespace Law
open PySem PySem.Spec PyProof.Rows L2 L3 L4
def aO (n:Int):Ob:=⟨fun _ o=>∃ a b c:Int,o = .lst [.int a,.int b,.int c]∧0≤a∧a < 10 ^ 121∧0≤b∧b≤n,fun _ h=>h⟩
theorem aO.at {n:Int} {H:Hp} {p:Addr} (h:∃ o,H p=some o∧(aO n).p H o):bw H p n:=by
 obtain ⟨o,e,a,b,c,rfl,r⟩:=h
 exact ⟨a,b,c,e,r⟩
theorem bw.ob {n:Int} {H:Hp} {p:Addr} (h:bw H p n):∃ o,H p=some o∧(aO n).p H o:=by
 obtain ⟨a,b,c,e,r⟩:=h
 exact ⟨_,e,a,b,c,rfl,r⟩
theorem bw.ts {n:Int} {H H':Hp} {p:Addr} (h:bw H p n) (o:Oth p H H'):Chg p H H':=by
 obtain ⟨a,b,c,e,_⟩:=h
 exact ⟨o,fun q xs hq=>o q _ hq fun z=>by rw [z,e] at hq;cases hq⟩
section
variable {K:PySem.W.Frag} {P:Addr→Prop} {H0 H:Hp} {l l':List (Addr×Ob)} {fs:List Pr} {p:Addr} {Q:VK} {E:XK}
theorem xQ {a:Addr} {ns:List Int} {k:Int} (L:Led P H0 H l fs) (hS:SqL K H a (ns.map V.int)) (h63:ns.length≤63) (h0 : 0≤k)
  (q:∀ p H',H p=none→Led P H0 H' ((p,aO 0)::l) fs→az H H'→Q (.ref p) H'):sI K [.ref a,.int k] H Q E:=
 ⟨a,ns,k,rfl,hS,h63,h0,fun p H' np hh s=>q p H' np ⟨fun x hx=>by
   rcases List.mem_cons.mp hx with rfl | hx
   ·exact hh.ob
   ·exact (L.keep s).at_ x hx,
  by
   rw [List.map_cons,List.nodup_cons]
   refine ⟨fun z=>?_,L.nd⟩
   obtain ⟨x,hx,e⟩:=List.mem_map.mp z
   exact (L.fresh np).1 x hx e,
  fun x hx=>by
   rcases List.mem_cons.mp hx with rfl | hx
   ·exact (L.fresh np).2
   ·exact L.own x hx,(L.keep s).fr,(L.keep s).st⟩ s⟩
theorem aT {many b:Int} (L:Led P H0 H l fs) (m:Put p (aO b) (aO (b+1024)) l l') (h0 : 0 < many) (h1:many≤10 ^ 50) (hb:b≤1000000000)
  (q:∀ r H',0≤r→r < many→Led P H0 H' l' fs→Chg p H H'→Q (.int r) H'):iC [.ref p,.int many] H Q E:=
 have hh:=aO.at (L.at_ _ m.mem)
 ⟨p,many,b,rfl,h0,h1,hh,hb,fun r H' r0 r1 hh' o=>q r H' r0 r1 (L.set m (hh.ts o) hh'.ob) (hh.ts o)⟩
theorem bB {b:Int} (h:bw H p b):Led (·=p) H H [(p,aO b)] []:=
 ⟨fun x hx=>by rw [List.mem_singleton.mp hx];exact h.ob,by simp,fun x hx=>.inl (by rw [List.mem_singleton.mp hx]),fun _ _ h _=>h,fun _ h=>by simp at h⟩
end
end Law

namespace Law
open PySem PySem.Spec PyProof.Rows L2 L3 L4
structure ShN (c s:Int):Prop where
 c1 : 1≤c
 c2:c≤1000
 s1 : 1≤s
 s2:s≤1000
theorem Hw:¬ (("counts" : Str) = "slots"):=by decide +kernel
def shF (c s:Int):List (Str×V):=[("counts",.int c),("slots",.int s)]
theorem AW (c s:Int):bY "slots" (.int s) (bY "counts" (.int c) [])=shF c s:=by
 show (if ("counts" : Str) = "slots" then _ else (("counts" : Str),V.int c)::[(("slots" : Str),V.int s)])=_
 rw [if_neg Hw]
 rfl
theorem uS (c s:Int):(shF c s).lookup ("counts" : Str)=some (.int c):=by unfold shF;walk_at "lk"
theorem uR (c s:Int):(shF c s).lookup ("slots" : Str)=some (.int s):=by unfold shF;walk_at "lk"
def AH (C:Addr) (c s:Int):Ob:=⟨fun _ o=>∃ dx,o = .ins C dx (shF c s),fun _ h=>h⟩
structure ShC (K:PySem.W.Frag) (C:Addr):Prop where
 cl:Cls K C
 nc:bz K C "counts"
 ns:bz K C "slots"
inductive Knd (H:Hp):V→Prop
 | int (i:Int):Knd H (.int i)
 | bl (b:Bool):Knd H (.bl b)
 | str (x:Str):Knd H (.str x)
 | non:Knd H .non
 | lst {a:Addr} {xs:List V} (e:H a=some (.lst xs)):Knd H (.ref a)
 | tup {a:Addr} {xs:List V} (e:H a=some (.tup xs)):Knd H (.ref a)
 | dK {a:Addr} {kvs:List (Key×V)} (e:H a=some (.dK kvs)):Knd H (.ref a)
theorem Knd.same {H H':Hp} {v:V} (k:Knd H v) (s:az H H'):Knd H' v:=by
 cases k with
 | int i=>exact .int i
 | bl b=>exact .bl b
 | str x=>exact .str x
 | non=>exact .non
 | lst e=>exact .lst (s _ _ e)
 | tup e=>exact .tup (s _ _ e)
 | dK e=>exact .dK (s _ _ e)
def Dw:V→Bool
 | .int _=>true
 | _=>false
def iX:V→Bool
 | .int i=>decide (1≤i) && decide (i≤1000)
 | _=>false
def Ab (n:Int):V→Bool
 | .int i=>decide (n≤i)
 | _=>false
theorem b7 {K:PySem.W.Frag} {H:Hp} {Q:VK} {x:V} {t:Value} {T:String} {b:Bool} (ty:ie K H x t) (e:PySem.W.kitOne K t (.type T)=some b) (h:Q (.bl b) H):Be K [x,.ty T] H Q:=⟨x,_,t,b,rfl,ty,.inl ⟨T,rfl,e⟩,h⟩
section
variable {P:Program} {w:World} {K:PySem.W.Frag} {mg:Str→Option Value} {base:Heap} {CX:CXT} {C CB:Addr}
theorem yr:aB ["thing"] ["thing"] (aj (top 8)):=by walk_at "s"
def qq:Sp:=fun vs H Q _=>∃ v,vs=[v]∧Knd H v∧Q (.bl (Dw v)) H
theorem zk (D:Dat K mg "is_whole" "is_whole" (top 8) ["thing"]) (BT:Bt mg):Cal P w K mg base CX "is_whole" 1 ["thing"] qq:=by
 have S:=yr
 walk_at "d"
 ·obtain ⟨v,rfl,_⟩:=h
  rfl
 obtain ⟨v,rfl,k,q⟩:=h
 refine ⟨_,(@ak _ _ _ (@av _ _ _ _ (@iH _ _ _ _ _ _ _ (@iG _ _ _ _ _ _ _ _ BT.isinstance BT.int_ L3.AB (@pv _ 0 _ _ (by rfl) (by first | exact Or.inl rfl | exact Or.inr (Or.inl rfl) | exact Or.inr (Or.inr rfl)) (by decide) (by decide)) (by rfl) (by rfl) (by decide) (by decide) (by rfl) (by rfl) (by rfl)) (@f7 _ _ _ _ _ (@D8 _ _ _ _ (@iG _ _ _ _ _ _ _ _ BT.isinstance BT.bool_ L3.CK (@pv _ 0 _ _ (by rfl) (by first | exact Or.inl rfl | exact Or.inr (Or.inl rfl) | exact Or.inr (Or.inr rfl)) (by decide) (by decide)) (by rfl) (by rfl) (by decide) (by decide) (by rfl) (by rfl) (by rfl))))))),?_⟩
 try dsimp only [bM]
 walk_at "go"
 cases k with
 | int i=>
  refine b7 (.int i) rfl ?_
  walk_at "go"
  refine b7 (.int i) rfl ?_
  walk_at "go"
  exact q
 | bl b=>
  refine b7 (b:=true) (T:="int") (.bl b) rfl ?_
  walk_at "go"
  refine b7 (b:=true) (T:="bool") (.bl b) rfl ?_
  walk_at "go"
  exact q
 | str x=>exact b7 (.str x) rfl (iw (iy q))
 | non=>exact b7 .non rfl (iw (iy q))
 | lst e=>exact b7 (.lst e) rfl (iw (iy q))
 | tup e=>exact b7 (.tup e) rfl (iw (iy q))
 | dK e=>exact b7 (.dK e) rfl (iw (iy q))
theorem A9:aB ["thing", "least"] ["thing", "least"] (aj (top 9)):=by walk_at "s"
def oK:Sp:=fun vs H Q _=>∃ (v:V) (n:Int),vs=[v,.int n]∧Knd H v∧Q (.bl (Ab n v)) H
theorem BF (D:Dat K mg "is_whole_from" "is_whole_from" (top 9) ["thing", "least"]) (NE:bN CX) (ue:Cal P w K mg base CX "is_whole" 1 ["thing"] qq):Cal P w K mg base CX "is_whole_from" 2 ["thing", "least"] oK:=by
 have S:=A9
 walk_at "d"
 ·obtain ⟨v,n,rfl,_⟩:=h
  rfl
 obtain ⟨v,n,rfl,k,q⟩:=h
 refine ⟨_,(@ak _ _ _ (@av _ _ _ _ (@iH _ _ _ _ _ _ _ (@aI _ _ _ _ _ _ _ _ _ _ _ _ ue (hr.mono (by first | decide | omega)) NE.pass (@aa _ _ _ _ _ (@pv _ 0 _ _ (by rfl) (by first | exact Or.inl rfl | exact Or.inr (Or.inl rfl) | exact Or.inr (Or.inr rfl)) (by decide) (by decide)) (@af _) (by rfl)) (by rfl) (by decide) (by rfl) (by rfl)) (@f7 _ _ _ _ _ (@bA _ _ _ _ _ _ _ _ (@eU _) (@pv _ 1 _ _ (by rfl) (by first | exact Or.inl rfl | exact Or.inr (Or.inl rfl) | exact Or.inr (Or.inr rfl)) (by decide) (by decide)) (@pv _ 0 _ _ (by rfl) (by first | exact Or.inl rfl | exact Or.inr (Or.inl rfl) | exact Or.inr (Or.inr rfl)) (by decide) (by decide)) (@aH _ _ (by decide) (by decide))))))),?_⟩
 walk_at "go"
 refine ⟨v,rfl,k,?_⟩
 cases k with
 | int i=>
  refine iw (z6 ?_)
  walk_at "go"
  exact q
 | _=>exact iw (iy q)
theorem A2:aB ["thing"] ["thing"] (aj (top 10)):=by walk_at "s"
def uJ:Sp:=fun vs H Q _=>∃ v,vs=[v]∧Knd H v∧Q (.bl (iX v)) H
theorem Bx (D:Dat K mg "is_side" "is_side" (top 10) ["thing"]) (NE:bN CX) (ku:GlV mg "GREATEST_SIDE" (.int 1000)) (dM:Cal P w K mg base CX "is_whole_from" 2 ["thing", "least"] oK):Cal P w K mg base CX "is_side" 3 ["thing"] uJ:=by
 have S:=A2
 walk_at "d"
 ·obtain ⟨v,rfl,_⟩:=h
  rfl
 obtain ⟨v,rfl,k,q⟩:=h
 refine ⟨_,(@ak _ _ _ (@av _ _ _ _ (@iH _ _ _ _ _ _ _ (@aI _ _ _ _ _ _ _ _ _ _ _ _ dM (hr.mono (by first | decide | omega)) NE.pass (@aa _ _ _ _ _ (@pv _ 0 _ _ (by rfl) (by first | exact Or.inl rfl | exact Or.inr (Or.inl rfl) | exact Or.inr (Or.inr rfl)) (by decide) (by decide)) (@aa _ _ _ _ _ (@ah _ _ _ _) (@af _) (by rfl)) (by rfl)) (by rfl) (by decide) (by rfl) (by rfl)) (@f7 _ _ _ _ _ (@bA _ _ _ _ _ _ _ _ (@eU _) (@pv _ 0 _ _ (by rfl) (by first | exact Or.inl rfl | exact Or.inr (Or.inl rfl) | exact Or.inr (Or.inr rfl)) (by decide) (by decide)) (@oZ _ _ _ _ ku (by rfl) (by decide)) (@aH _ _ (by decide) (by decide))))))),?_⟩
 walk_at "go"
 refine ⟨v,1,rfl,k,?_⟩
 cases k with
 | int i=>
  have q:Q (.bl (decide (1≤i) && decide (i≤1000))) H:=q
  rw [show Ab 1 (.int i)=decide (1≤i) from rfl]
  walk_at "go"
  refine bW (fun c1=>?_) (fun c1=>?_)
  ·rw [decide_eq_true c1] at q
   walk_at "go"
   exact q
  ·rw [decide_eq_false c1] at q
   exact q
 | _=>exact iw (iy q)
theorem yv:aB ["self", "counts", "slots"] ["self", "counts", "slots"] (aj (inClass (top 11) 0)):=by walk_at "s"
def iU (C CB:Addr):Sp:=fun vs H Q E=>∃ (p dx:Addr) (a b:V),vs=[.ref p,a,b]∧Knd H a∧Knd H b∧H p=some (.ins C dx []) ∧
 ((∃ c s,a = .int c∧b = .int s∧ShN c s∧∀ H',H' p=some (.ins C dx (shF c s))→(∀ q o,H q=some o→q≠p→H' q=some o)→Q .non H')∨((iX a && iX b)=false∧E (.ref CB) none H))
theorem zq (D:uB K mg "Shape" "Shape.__init__" C (inClass (top 11) 0) ["self", "counts", "slots"]) (SC:ShC K C) (NE:bN (CX1 P w)) (uv:ux K mg "BadShape" CB) (nU:Cal P w K mg base (CX1 P w) "is_side" 3 ["thing"] uJ):Mak P w K mg base (CX1 P w) "Shape" C 4 ["self", "counts", "slots"] (iU C CB):=by
 have S:=yv
 refine D.okR S (fun vs H Q E h=>?_) (fun f cdv A outer s H vs Q E hr h=>?_)
 ·obtain ⟨p,dx,a,b,rfl,_⟩:=h
  rfl
 obtain ⟨p,dx,a,b,rfl,ka,kb,hp,q⟩:=h
 refine ⟨_,(@ai _ _ _ _ _ (@br _ _ _ _ _ _ _ _ (@PW.pt _ _ _ (@j6 _ _ _ _ _ _ _ (@cB _ _ _ _ (@cH _ _ _ (@aI _ _ _ _ _ _ _ _ _ _ _ _ nU (hr.mono (by first | decide | omega)) NE.pass (@aa _ _ _ _ _ (@pv _ 1 _ _ (by rfl) (by first | exact Or.inl rfl | exact Or.inr (Or.inl rfl) | exact Or.inr (Or.inr rfl)) (by decide) (by decide)) (@af _) (by rfl)) (by rfl) (by decide) (by rfl) (by rfl)) (by intro _;rfl))) (@iD _ _ _ _ (@cB _ _ _ _ (@cH _ _ _ (@aI _ _ _ _ _ _ _ _ _ _ _ _ nU (hr.mono (by first | decide | omega)) NE.pass (@aa _ _ _ _ _ (@pv _ 2 _ _ (by rfl) (by first | exact Or.inl rfl | exact Or.inr (Or.inl rfl) | exact Or.inr (Or.inr rfl)) (by decide) (by decide)) (@af _) (by rfl)) (by rfl) (by decide) (by rfl) (by rfl)) (by intro _;rfl)))))) (@ak _ _ _ (@qJ _ _ _ _ _ _ _ _ _ _ uv rfl (@aA _ _) (@aa _ _ _ _ _ (@aq _ _ _ _) (@af _) (by rfl)) (by rfl) (by decide) (by rfl) (by rfl))) (@aF _)) (@ai _ _ _ _ _ (@iE _ _ _ _ _ _ _ _ (@pv _ 0 _ _ (by rfl) (by first | exact Or.inl rfl | exact Or.inr (Or.inl rfl) | exact Or.inr (Or.inr rfl)) (by decide) (by decide)) (@pv _ 1 _ _ (by rfl) (by first | exact Or.inl rfl | exact Or.inr (Or.inl rfl) | exact Or.inr (Or.inr rfl)) (by decide) (by decide)) rfl) (@ak _ _ _ (@iE _ _ _ _ _ _ _ _ (@pv _ 0 _ _ (by rfl) (by first | exact Or.inl rfl | exact Or.inr (Or.inl rfl) | exact Or.inr (Or.inr rfl)) (by decide) (by decide)) (@pv _ 2 _ _ (by rfl) (by first | exact Or.inl rfl | exact Or.inr (Or.inl rfl) | exact Or.inr (Or.inr rfl)) (by decide) (by decide)) rfl)))),?_⟩
 try dsimp only [bM]
 walk_at "go"
 refine ⟨a,rfl,ka,?_⟩
 rcases q with ⟨c,s',rfl,rfl,n,q⟩ | ⟨hb,q⟩
 ·have e1:iX (.int c)=true:=by
   show (decide (1≤c) && decide (c≤1000))=true
   rw [decide_eq_true n.c1,decide_eq_true n.c2];rfl
  have e2:iX (.int s')=true:=by
   show (decide (1≤s') && decide (s'≤1000))=true
   rw [decide_eq_true n.s1,decide_eq_true n.s2];rfl
  rw [e1]
  walk_at "go"
  refine ⟨_,rfl,kb,?_⟩
  rw [e2]
  walk_at "go"
  refine ⟨p,C,dx,[],rfl,hp,SC.cl,SC.nc,by decide,?_⟩
  walk_at "go"
  refine ⟨p,C,dx,_,rfl,ao,SC.cl,SC.ns,(by show 1 < 1000;decide),?_⟩
  rw [fB,AW]
  exact q _ ao fun x o h z=>by rw [aD z];exact h
 ·cases h1:iX a with
  | false=>
   walk_at "go"
   exact q
  | true=>
   walk_at "go"
   refine ⟨b,rfl,kb,?_⟩
   rw [h1,Bool.true_and] at hb
   rw [hb]
   walk_at "go"
   exact q
theorem mR {PP:Addr→Prop} {H0 H:Hp} {l:List (Addr×Ob)} {fs:List Pr} {Q:VK} {E:XK} {c s:Int} (L:Led PP H0 H l fs) (n:ShN c s) (q:∀ x H',H x=none→Led PP H0 H' ((x,AH C c s)::l) fs→az H H'→Q (.ref x) H'):Made C (iU C CB) E [.int c,.int s] H Q:=by
 intro x dx nx nd ne
 refine ⟨x,dx,_,_,rfl,.int c,.int s,ao,.inl ⟨c,s,rfl,rfl,n,fun H' h1 h2=>⟨rfl,?_⟩⟩⟩
 have sm:az H H':=fun b o e=>h2 b o (by rw [aD (ay e nx),aD (ay e nd)];exact e) (ay e nx)
 exact q x H' nx (L.add sm nx ⟨_,h1,dx,rfl⟩) sm
theorem oz {H:Hp} {Q:VK} {E:XK} {a b:V} (ka:Knd H a) (kb:Knd H b) (bad:(iX a && iX b)=false) (q:∀ H',az H H'→E (.ref CB) none H'):Made C (iU C CB) E [a,b] H Q:=by
 intro x dx nx nd ne
 have sm:az H (upd (upd H dx (.own x)) x (.ins C dx [])):=fun b o e=>by rw [aD (ay e nx),aD (ay e nd)];exact e
 exact ⟨x,dx,a,b,rfl,ka.same sm,kb.same sm,ao,.inr ⟨bad,q _ sm⟩⟩
end
end Law

namespace Law
open PySem PySem.Spec PyProof.Rows L2 L3 L4
def bq:List Str:=["ahead", "apart", "ends", "once", "spoken"]
structure RuN (ws:List Str):Prop where
 sub:∀ x∈ws,x∈bq
 nd:ws.Nodup
def stF (sh:V) (far room term:Int) (tr:Addr):List (Str×V):=[("shape",sh),("far",.int far),("room",.int room),("term",.int term),("rules",.ref tr)]
structure StC (K:PySem.W.Frag) (C:Addr):Prop where
 cl:Cls K C
 n1:bz K C "shape"
 n2:bz K C "far"
 n3:bz K C "room"
 n4:bz K C "term"
 n5:bz K C "rules"
structure StN (far room term:Int):Prop where
 f0 : 0≤far
 f1:far≤1000000000000
 r0 : 1≤room
 r1:room≤1000000000000
 t0 : 1≤term
 t1:term≤1000000000000
theorem AU (sh:V) (far room term:Int) (tr:Addr):bY "rules" (.ref tr) (bY "term" (.int term) (bY "room" (.int room) (bY "far" (.int far) (bY "shape" sh []))))=stF sh far room term tr:=by
 have a1:¬ (("shape" : Str) = "far"):=by decide +kernel
 have a2:¬ (("shape" : Str) = "room"):=by decide +kernel
 have a3:¬ (("shape" : Str) = "term"):=by decide +kernel
 have a4:¬ (("shape" : Str) = "rules"):=by decide +kernel
 have b2:¬ (("far" : Str) = "room"):=by decide +kernel
 have b3:¬ (("far" : Str) = "term"):=by decide +kernel
 have b4:¬ (("far" : Str) = "rules"):=by decide +kernel
 have c3:¬ (("room" : Str) = "term"):=by decide +kernel
 have c4:¬ (("room" : Str) = "rules"):=by decide +kernel
 have d4:¬ (("term" : Str) = "rules"):=by decide +kernel
 simp only [bY,if_neg a1,if_neg a2,if_neg a3,if_neg a4,if_neg b2,if_neg b3,if_neg b4,if_neg c3,if_neg c4,if_neg d4]
 rfl
theorem fZ (f:Str) (v:V):∀ fs:List (Str×V),(bY f v fs).length≤fs.length+1
 | []=>Nat.le_refl 1
 | (g,x)::r=>by
  show (if g=f then (g,v)::r else (g,x)::bY f v r).length≤_
  have:=fZ f v r
  by_cases c:g=f
  ·rw [if_pos c,List.length_cons,List.length_cons];omega
  ·rw [if_neg c,List.length_cons,List.length_cons];omega
theorem gJ (sh:V) (far room term:Int) (tr:Addr):(stF sh far room term tr).lookup ("rules" : Str)=some (.ref tr):=by unfold stF;walk_at "lk"
theorem cW (sh:V) (far room term:Int) (tr:Addr):(stF sh far room term tr).lookup ("shape" : Str)=some sh:=by unfold stF;walk_at "lk"
theorem kI (sh:V) (far room term:Int) (tr:Addr):(stF sh far room term tr).lookup ("far" : Str)=some (.int far):=by unfold stF;walk_at "lk"
theorem iT (sh:V) (far room term:Int) (tr:Addr):(stF sh far room term tr).lookup ("room" : Str)=some (.int room):=by unfold stF;walk_at "lk"
theorem iS (sh:V) (far room term:Int) (tr:Addr):(stF sh far room term tr).lookup ("term" : Str)=some (.int term):=by unfold stF;walk_at "lk"
inductive El where
 | s (z:Str) | n | l
def xF (H:Hp) (x:V):El→Prop
 | .s z=>x = .str z
 | .n=>x = .non
 | .l=>∃ b zs,x = .ref b∧H b=some (.lst (.str "once" :: zs))
inductive Els (H:Hp):List V→List El→Prop
 | nil:Els H [] []
 | cons {x:V} {e:El} {xs:List V} {es:List El} (h:xF H x e) (r:Els H xs es):Els H (x::xs) (e::es)
theorem xF.same {H H':Hp} {x:V} {e:El} (h:xF H x e) (sm:az H H'):xF H' x e:=by
 cases e with
 | s z=>exact h
 | n=>exact h
 | l=>obtain ⟨b,zs,e,h⟩:=h;exact ⟨b,zs,e,sm _ _ h⟩
theorem Els.same {H H':Hp} {xs:List V} {es:List El} (h:Els H xs es) (sm:az H H'):Els H' xs es:=by
 induction h with
 | nil=>exact .nil
 | cons h _ ih=>exact .cons (h.same sm) ih
theorem Els.len {H:Hp} {xs:List V} {es:List El} (h:Els H xs es):xs.length=es.length:=by
 induction h with
 | nil=>rfl
 | cons _ _ ih=>rw [List.length_cons,List.length_cons,ih]
theorem Els.get {H:Hp} {xs:List V} {es:List El} (h:Els H xs es):∀ {i:Nat} {x:V},xs[i]?=some x→∃ e,es[i]?=some e∧xF H x e:=by
 induction h with
 | nil=>intro i x hx;simp at hx
 | cons h _ ih=>
  intro i x hx
  cases i with
  | zero=>cases hx;exact ⟨_,rfl,h⟩
  | succ i=>exact ih hx
def elB:El→Bool
 | .s z=>decide (z∈bq)
 | _=>false
def elS (es:List El):List Str:=es.filterMap fun | .s z=>some z | _=>none
theorem kP {H:Hp} {xs:List V} {es:List El} (h:Els H xs es):es.all elB=true→xs=(elS es).map V.str∧(elS es).length=es.length∧∀ z∈elS es,z∈bq:=by
 induction h with
 | nil=>intro _;exact ⟨rfl,rfl,fun z hz=>by simp [elS] at hz⟩
 | @cons x e xs es h r ih=>
  intro ha
  rw [List.all_cons,Bool.and_eq_true] at ha
  obtain ⟨i1,i2,i3⟩:=ih ha.2
  cases e with
  | s z=>
   have hz:x = .str z:=h
   subst hz
   refine ⟨by rw [i1];rfl,by show (elS es).length+1=_;rw [i2];rfl,fun y hy=>?_⟩
   rcases List.mem_cons.mp (show y∈z::elS es from hy) with rfl | hy
   ·exact of_decide_eq_true ha.1
   ·exact i3 y hy
  | n=>cases ha.1
  | l=>cases ha.1
def GD (es:List El):Bool:=es.all elB && decide ((elS es).Nodup)
inductive Rd where
 | non | sq (b:Bool) (es:List El) | oth
def xC (H:Hp) (v:V):Rd→Prop
 | .non=>v = .non
 | .sq true es=>∃ a xs,v = .ref a∧H a=some (.lst xs)∧Els H xs es∧es.length≤20
 | .sq false es=>∃ a xs,v = .ref a∧H a=some (.tup xs)∧Els H xs es∧es.length≤20
 | .oth=>(∃ z,v = .str z)∨(∃ i,v = .int i)∨∃ a kvs,v = .ref a∧H a=some (.dK kvs)
theorem xC.same {H H':Hp} {v:V} {d:Rd} (h:xC H v d) (sm:az H H'):xC H' v d:=by
 cases d with
 | non=>exact h
 | oth=>
  rcases h with h | h | ⟨a,kvs,e,h⟩
  ·exact .inl h
  ·exact .inr (.inl h)
  ·exact .inr (.inr ⟨a,kvs,e,sm _ _ h⟩)
 | sq b es=>
  cases b with
  | true=>obtain ⟨a,xs,e,h,r,l⟩:=h;exact ⟨a,xs,e,sm _ _ h,r.same sm,l⟩
  | false=>obtain ⟨a,xs,e,h,r,l⟩:=h;exact ⟨a,xs,e,sm _ _ h,r.same sm,l⟩
def nM:Rd→Bool
 | .non=>true
 | .sq _ es=>GD es
 | .oth=>false
def wsD:Rd→List Str
 | .non=>bq
 | .sq _ es=>elS es
 | .oth=>[]
def e8 (n:Int):V→Bool
 | .int i=>decide (n≤i) && decide (i≤1000000000000)
 | _=>false
def eE (f r t:V) (d:Rd):Option Str:=if e8 0 f=false then some "far" else if e8 1 r=false then some "room" else if e8 1 t=false then some "term" else if nM d=false then some "rules" else none
theorem oi:∀ (xs acc:List Str),(aE acc xs).length=acc.length+xs.length→xs.Nodup∧∀ x∈xs,¬ x∈acc
 | [],_,_=>⟨List.nodup_nil,fun _ h=>by simp at h⟩
 | x::xs,acc,h=>by
  have h:(aE (if x∈acc then acc else acc++[x]) xs).length=acc.length+(xs.length+1):=h
  by_cases c:x∈acc
  ·rw [if_pos c] at h
   have:=eu xs acc
   omega
  ·rw [if_neg c] at h
   obtain ⟨h1,h2⟩:=oi xs (acc++[x]) (by rw [h,List.length_append,List.length_singleton];omega)
   refine ⟨List.nodup_cons.mpr ⟨fun m=>h2 x m (List.mem_append_right _ (List.mem_singleton.mpr rfl)),h1⟩,fun y hy m=>?_⟩
   rcases List.mem_cons.mp hy with rfl | hy
   ·exact c m
   ·exact h2 y hy (List.mem_append_left _ m)
theorem oh (ws:List Str):decide ((((aE [] ws).length:Nat):Int)=((ws.length:Nat):Int))=decide (ws.Nodup):=by
 by_cases h:ws.Nodup
 ·rw [decide_eq_true h,decide_eq_true (by rw [iN ws [] h (fun _ _ h=>by simp at h),List.length_nil,Nat.zero_add])]
 ·rw [decide_eq_false h,decide_eq_false fun e=>h (oi ws [] (by rw [List.length_nil,Nat.zero_add];exact_mod_cast e)).1]
theorem dS {K:PySem.W.Frag} {H H':Hp} {a:Addr} {xs:List V} (e:az H H') (h:SqT K H a xs):SqT K H' a xs:=by
 rcases h with (h | ⟨o,h⟩) | h
 ·exact .inl (.inl (e _ _ h))
 ·exact .inl (.inr ⟨o,e _ _ h⟩)
 ·exact .inr h
def StB (K:PySem.W.Frag) (C:Addr) (H:Hp) (p:Addr) (sh:V) (far room term:Int) (ws:List Str):Prop:=∃ (dx tr:Addr) (ms:List Str),H p=some (.ins C dx (stF sh far room term tr))∧SqT K H tr (ms.map V.str)∧ms.Perm ws∧sortedS ms=true
section
variable {P:Program} {w:World} {K:PySem.W.Frag} {mg:Str→Option Value} {base:Heap} {CX:CXT} {C aR CB CR:Addr}
theorem StB.same {H H':Hp} {p:Addr} {sh:V} {far room term:Int} {ws:List Str} (h:StB K C H p sh far room term ws) (s:az H H'):StB K C H' p sh far room term ws:=by
 obtain ⟨dx,tr,ms,h1,h2,h3⟩:=h
 exact ⟨dx,tr,ms,s _ _ h1,dS s h2,h3⟩
theorem vX:aB ["self", "word"] ["self", "word"] (aj (inClass (top 5) 0)):=by walk_at "s"
theorem wz (D:uw K mg "BadSettings" "BadSettings.__init__" CB (inClass (top 5) 0) ["self", "word"]) (sj:vG K mg "RiseError" CR) (EP:xG K CB "word"):CY P w K mg base "BadSettings" CB 1 ["self", "word"] (oH CB "word"):=by
 have S:=vX
 refine D.ok' S (fun vs H Q E h=>?_) (fun f cdv A outer s H vs Q E hr h=>?_)
 ·obtain ⟨x,v,rfl,_⟩:=h
  rfl
 obtain ⟨x,v,rfl,hx,q⟩:=h
 refine ⟨_,(@ai _ _ _ _ _ (@bR _ _ _ _ (@zc _ _ _ _ _ _ _ _ _ _ sj (@aa _ _ _ _ _ (@pv _ 0 _ _ (by rfl) (by first | exact Or.inl rfl | exact Or.inr (Or.inl rfl) | exact Or.inr (Or.inr rfl)) (by decide) (by decide)) (@aa _ _ _ _ _ (@aq _ _ _ _) (@af _) (by rfl)) (by rfl)) (by rfl) (by decide) (by rfl) (by rfl) (by rfl)) (by rfl)) (@ak _ _ _ (@Bh _ _ _ _ _ _ _ _ (@pv _ 0 _ _ (by rfl) (by first | exact Or.inl rfl | exact Or.inr (Or.inl rfl) | exact Or.inr (Or.inr rfl)) (by decide) (by decide)) (@pv _ 1 _ _ (by rfl) (by first | exact Or.inl rfl | exact Or.inr (Or.inl rfl) | exact Or.inr (Or.inr rfl)) (by decide) (by decide)) rfl))),?_⟩
 try dsimp only [bM]
 walk_at "go"
 refine Aa hx D.ok ?_
 walk_at "go"
 exact EF hx EP fun d nd=>q d nd
theorem A1:aB ["thing", "least"] ["thing", "least"] (aj (top 19)):=by walk_at "s"
def uI:Sp:=fun vs H Q _=>∃ (v:V) (n:Int),vs=[v,.int n]∧Knd H v∧Q (.bl (e8 n v)) H
theorem Bw (D:Dat K mg "is_span" "is_span" (top 19) ["thing", "least"]) (NE:bN CX) (kq:GlV mg "GREATEST_SPAN" (.int 1000000000000)) (dM:Cal P w K mg base CX "is_whole_from" 2 ["thing", "least"] oK):Cal P w K mg base CX "is_span" 3 ["thing", "least"] uI:=by
 have S:=A1
 walk_at "d"
 ·obtain ⟨v,n,rfl,_⟩:=h
  rfl
 obtain ⟨v,n,rfl,k,q⟩:=h
 refine ⟨_,(@ak _ _ _ (@av _ _ _ _ (@iH _ _ _ _ _ _ _ (@aI _ _ _ _ _ _ _ _ _ _ _ _ dM (hr.mono (by first | decide | omega)) NE.pass (@aa _ _ _ _ _ (@pv _ 0 _ _ (by rfl) (by first | exact Or.inl rfl | exact Or.inr (Or.inl rfl) | exact Or.inr (Or.inr rfl)) (by decide) (by decide)) (@aa _ _ _ _ _ (@pv _ 1 _ _ (by rfl) (by first | exact Or.inl rfl | exact Or.inr (Or.inl rfl) | exact Or.inr (Or.inr rfl)) (by decide) (by decide)) (@af _) (by rfl)) (by rfl)) (by rfl) (by decide) (by rfl) (by rfl)) (@f7 _ _ _ _ _ (@bA _ _ _ _ _ _ _ _ (@eU _) (@pv _ 0 _ _ (by rfl) (by first | exact Or.inl rfl | exact Or.inr (Or.inl rfl) | exact Or.inr (Or.inr rfl)) (by decide) (by decide)) (@oZ _ _ _ _ kq (by rfl) (by decide)) (@aH _ _ (by decide) (by decide))))))),?_⟩
 try dsimp only [bM]
 walk_at "go"
 refine ⟨v,n,rfl,k,?_⟩
 cases k with
 | int i=>
  have q:Q (.bl (decide (n≤i) && decide (i≤1000000000000))) H:=q
  rw [show Ab n (.int i)=decide (n≤i) from rfl]
  walk_at "go"
  refine bW (fun c1=>?_) (fun c1=>?_)
  ·rw [decide_eq_true c1] at q
   walk_at "go"
   exact q
  ·rw [decide_eq_false c1] at q
   exact q
 | _=>exact iw (iy q)
theorem A3:aB ["thing"] ["thing"] (aj (top 20)):=by walk_at "s"
def uM:Sp:=fun vs H Q _=>∃ (x:V) (e:El),vs=[x]∧xF H x e∧Q (.bl (elB e)) H
theorem By (D:Dat K mg "is_rule" "is_rule" (top 20) ["thing"]) (BT:Bt mg) (dO:GlV mg "RULES" (.ref aR)) (hR:∀ H,SqT K H aR (bq.map V.str)):Cal P w K mg base CX "is_rule" 1 ["thing"] uM:=by
 have S:=A3
 walk_at "d"
 ·obtain ⟨z,e,rfl,_⟩:=h
  rfl
 obtain ⟨x,e,rfl,hx,q⟩:=h
 refine ⟨_,(@ak _ _ _ (@av _ _ _ _ (@iH _ _ _ _ _ _ _ (@iG _ _ _ _ _ _ _ _ BT.isinstance BT.str_ L3.ee (@pv _ 0 _ _ (by rfl) (by first | exact Or.inl rfl | exact Or.inr (Or.inl rfl) | exact Or.inr (Or.inr rfl)) (by decide) (by decide)) (by rfl) (by rfl) (by decide) (by decide) (by rfl) (by rfl) (by rfl)) (@f7 _ _ _ _ _ (@bA _ _ _ _ _ _ _ _ (@fh _) (@pv _ 0 _ _ (by rfl) (by first | exact Or.inl rfl | exact Or.inr (Or.inl rfl) | exact Or.inr (Or.inr rfl)) (by decide) (by decide)) (@oZ _ _ _ _ dO (by rfl) (by decide)) (by with_unfolding_all rfl)))))),?_⟩
 try dsimp only [bM]
 walk_at "go"
 cases e with
 | s z=>
  have hx:x = .str z:=hx
  subst hx
  refine b7 (.str z) rfl ?_
  walk_at "go"
  refine q9 (hR _) ?_
  exact q
 | n=>
  have hx:x = .non:=hx
  subst hx
  refine b7 (b:=false) (T:="str") .non rfl ?_
  walk_at "go"
  exact q
 | l=>
  obtain ⟨b,zs,rfl,hb⟩:=hx
  refine b7 (b:=false) (T:="str") (.lst hb) rfl ?_
  walk_at "go"
  exact q
theorem yx:aB ["thing"] ["thing"] (aj (top 21)):=by walk_at "s"
def k9:Sp:=fun vs H Q _=>∃ (v:V) (d:Rd),vs=[v]∧xC H v d∧∀ H',az H H'→Q (.bl (nM d)) H'
theorem zv (D:Dat K mg "are_rules" "are_rules" (top 21) ["thing"]) (BT:Bt mg) (NE:bN CX) (xw:Cal P w K mg base CX "is_rule" 1 ["thing"] uM):Cal P w K mg base CX "are_rules" 3 ["thing"] k9:=by
 have S:=yx
 walk_at "d"
 ·obtain ⟨v,d,rfl,_⟩:=h
  rfl
 obtain ⟨v,d,rfl,hv,q⟩:=h
 refine ⟨_,(@ai _ _ _ _ _ (@br _ _ _ _ _ _ _ _ (@yU _ _ _ _ _ _ (@zd _ _ _ _ _ (@pv _ 0 _ _ (by rfl) (by first | exact Or.inl rfl | exact Or.inr (Or.inl rfl) | exact Or.inr (Or.inr rfl)) (by decide) (by decide))) (by first | exact lF _ (by decide) (by decide) | rfl)) (@ak _ _ _ (@av _ _ _ _ (@cO _ _ _ _))) (@aF _)) (@ai _ _ _ _ _ (@br _ _ _ _ _ _ _ _ (@cB _ _ _ _ (@cH _ _ _ (@Bp _ _ _ _ _ _ _ _ _ BT.isinstance (@pv _ 0 _ _ (by rfl) (by first | exact Or.inl rfl | exact Or.inr (Or.inl rfl) | exact Or.inr (Or.inr rfl)) (by decide) (by decide)) (@aP _ _ _ _ _ (@aa _ _ _ _ _ (@o9 _ _ (V.ty "list") _ _ rfl BT.list_ L3.CJ rfl (by decide) (by decide)) (@aa _ _ _ _ _ (@o9 _ _ (V.ty "tuple") _ _ rfl BT.tuple_ L3.jl rfl (by decide) (by decide)) (@af _) (by rfl)) (by rfl))) (by rfl) (by rfl) (by rfl) (by rfl)) (by intro _;rfl))) (@ak _ _ _ (@av _ _ _ _ (@cO _ _ _ _))) (@aF _)) (@ai _ _ _ _ _ (@br _ _ _ _ _ _ _ _ (@cB _ _ _ _ (@cH _ _ _ (@aW _ _ _ _ _ _ _ _ _ (@lW _ rfl) rfl BT.all L3.ug (@aa _ _ _ _ _ (@eS _ _ _ _ _ _ _ _ _ _ (aS 0) _ _ rfl (Bk (@pv _ 0 _ _ (by rfl) (by first | exact Or.inl rfl | exact Or.inr (Or.inl rfl) | exact Or.inr (Or.inr rfl)) (by decide) (by decide))) (@eY _ _ ["word"] [] (aj (top 21)).names ["thing"] rfl rfl rfl (by decide +kernel)) (fun _ _ _ _=>(@bL _ _ 0 _ (show (jW ["thing"] ["word"] []).Nodup by decide +kernel) rfl (by first | exact Or.inl rfl | exact Or.inr rfl) (by first | exact .inl rfl | exact .inr rfl | assumption))) (fun _ _ _ _=>(@cN _)) (fun _ _ _ _=>(@aI _ _ _ _ _ _ _ _ _ _ _ _ xw (hr.mono (by first | decide | omega)) NE.pass (@aa _ _ _ _ _ (@pv _ 0 _ _ (by rfl) (by first | exact Or.inl rfl | exact Or.inr (Or.inl rfl) | exact Or.inr (Or.inr rfl)) (by decide) (by decide)) (@af _) (by rfl)) (by rfl) (by decide) (by rfl) (by rfl))) (by intro _;rfl)) (@af _) (by rfl)) (by decide) (by decide) (by rfl) (by rfl)) (by intro _;rfl))) (@ak _ _ _ (@av _ _ _ _ (@cO _ _ _ _))) (@aF _)) (@ak _ _ _ (@av _ _ _ _ (@bA _ _ _ _ _ _ _ _ (@cM _) (sZ rfl rfl rfl BT.len BT.set_ (@pv _ 0 _ _ (by rfl) (by first | exact Or.inl rfl | exact Or.inr (Or.inl rfl) | exact Or.inr (Or.inr rfl)) (by decide) (by decide))) (@aW _ _ _ _ _ _ _ _ _ (@iA _) rfl BT.len L3.cT (@aa _ _ _ _ _ (@pv _ 0 _ _ (by rfl) (by first | exact Or.inl rfl | exact Or.inr (Or.inl rfl) | exact Or.inr (Or.inr rfl)) (by decide) (by decide)) (@af _) (by rfl)) (by decide) (by decide) (by rfl) (by rfl)) (@aH _ _ (by decide) (by decide)))))))),?_⟩
 try dsimp only [bM]
 have L:=Led.start H (fun _=>False)
 cases d with
 | non=>
  have hv:v = .non:=hv
  subst hv
  walk_at "go"
  exact q _ (az.refl _)
 | oth=>
  rcases hv with ⟨z,rfl⟩ | ⟨i,rfl⟩ | ⟨a,kvs,rfl,ha⟩
  ·walk_at "go"
   refine bW (fun z=>nomatch z) fun _=>?_
   walk_at "go"
   refine lN (b:=false) ["list", "tuple"] (.str z) (L'.tup (by walk_at "mem")) rfl ?_
   walk_at "go"
   exact q _ L'.same
  ·walk_at "go"
   refine bW (fun z=>nomatch z) fun _=>?_
   walk_at "go"
   refine lN (b:=false) ["list", "tuple"] (.int i) (L'.tup (by walk_at "mem")) rfl ?_
   walk_at "go"
   exact q _ L'.same
  ·walk_at "go"
   refine bW (fun z=>nomatch z) fun _=>?_
   walk_at "go"
   refine lN (b:=false) ["list", "tuple"] (.dK (L'.same _ _ ha)) (L'.tup (by walk_at "mem")) rfl ?_
   walk_at "go"
   exact q _ L'.same
 | sq bb es=>
  obtain ⟨a,xs,rfl,hS,ht,hE,h20⟩:∃ a xs,v = .ref a∧(∀ H',az H H'→(SqL K H' a xs∨SqT K H' a xs))∧(∀ (tp:Addr) (H':Hp) (Q:VK),az H H'→H' tp=some (.tup (["list", "tuple"].map V.ty))→Q (.bl true) H'→uV K [.ref a,.ref tp] H' Q)∧Els H xs es∧es.length≤20:=by
   cases bb with
   | true=>
    obtain ⟨a,xs,e,h,r,l⟩:=hv
    exact ⟨a,xs,e,fun H' sm=>.inl (SqL.of (sm _ _ h)),fun tp H' Q sm ht q=>lN ["list", "tuple"] (.lst (sm _ _ h)) ht rfl q,r,l⟩
   | false=>
    obtain ⟨a,xs,e,h,r,l⟩:=hv
    exact ⟨a,xs,e,fun H' sm=>.inr (SqT.of (sm _ _ h)),fun tp H' Q sm ht q=>lN ["list", "tuple"] (.tup (sm _ _ h)) ht rfl q,r,l⟩
  walk_at "go"
  refine bW (fun z=>nomatch z) fun _=>?_
  walk_at "go"
  have s1:=L'.same
  refine ht _ _ _ s1 (L'.tup (by walk_at "mem")) ?_
  clear L L'
  rename Hp=>H1
  have hE1:=hE.same s1
  have hlx:=hE.len
  walk_at "go"
  refine GI ?_
  walk_at "go"
  rcases hS H1 s1 with hq | hq
  ·refine .inl ⟨a,rfl,⟨xs,hq⟩,?_⟩
   refine g9 xs (fun i ys Hx=>ys=((es.take i).map elB).map V.bl∧Hx=H1) ⟨rfl,rfl⟩ (fun i ys Hx hi ⟨e,e2⟩=>⟨e2▸hq,by
    rw [e,List.length_map,List.length_map,List.length_take]
    exact Nat.le_of_lt (small1000 (by omega))⟩) ?_ ?_
   ·rintro i x ys H2 hx ⟨rfl,rfl⟩
    obtain ⟨e,he,hxe⟩:=hE1.get hx
    try dsimp only [aS]
    walk_at "go"
    refine ⟨x,e,rfl,hxe,?_⟩
    exact ⟨by rw [List.take_add_one,he,Option.toList,List.map_append,List.map_append];rfl,rfl⟩
   ·rintro ys H2 ⟨rfl,rfl⟩ lc nlc
    rw [hlx,List.take_length]
    have s2:az H2 (upd H2 lc (.lst ((es.map elB).map V.bl))):=bG nlc _
    have hS2:=hS _ (s1.trans s2)
    walk_at "go"
    refine pI (SqL.of ao) ?_
    rw [List.all_map,show (id ∘ elB)=elB from rfl]
    generalize upd H2 lc (.lst ((es.map elB).map V.bl))=H3 at *
    have q:Q (.bl (es.all elB && decide ((elS es).Nodup))) H3:=q _ (s1.trans s2)
    walk_at "go"
    cases hall:es.all elB with
    | false=>
     rw [hall] at q
     walk_at "go"
     exact q
    | true=>
     rw [hall] at q
     obtain ⟨e1,e2,e3⟩:=kP hE hall
     walk_at "go"
     refine nN ?_
     walk_at "go"
     refine ⟨a,elS es,rfl,by rw [← e1];exact hS2,by omega,?_⟩
     walk_at "go"
     refine ⟨a,xs,rfl,hS2,?_⟩
     walk_at "go"
     rw [show ((xs.length:Nat):Int)=(((elS es).length:Nat):Int) by rw [hlx,e2],oh]
     exact q
  ·refine .inr ⟨a,rfl,⟨xs,hq⟩,?_⟩
   refine kO xs (fun i ys Hx=>ys=((es.take i).map elB).map V.bl∧Hx=H1) ⟨rfl,rfl⟩ (fun i ys Hx hi ⟨e,e2⟩=>⟨e2▸hq,by
    rw [e,List.length_map,List.length_map,List.length_take]
    exact Nat.le_of_lt (small1000 (by omega))⟩) ?_ ?_
   ·rintro i x ys H2 hx ⟨rfl,rfl⟩
    obtain ⟨e,he,hxe⟩:=hE1.get hx
    try dsimp only [aS]
    walk_at "go"
    refine ⟨x,e,rfl,hxe,?_⟩
    exact ⟨by rw [List.take_add_one,he,Option.toList,List.map_append,List.map_append];rfl,rfl⟩
   ·rintro ys H2 ⟨rfl,rfl⟩ lc nlc
    rw [hlx,List.take_length]
    have s2:az H2 (upd H2 lc (.lst ((es.map elB).map V.bl))):=bG nlc _
    have hS2:=hS _ (s1.trans s2)
    walk_at "go"
    refine pI (SqL.of ao) ?_
    rw [List.all_map,show (id ∘ elB)=elB from rfl]
    generalize upd H2 lc (.lst ((es.map elB).map V.bl))=H3 at *
    have q:Q (.bl (es.all elB && decide ((elS es).Nodup))) H3:=q _ (s1.trans s2)
    walk_at "go"
    cases hall:es.all elB with
    | false=>
     rw [hall] at q
     walk_at "go"
     exact q
    | true=>
     rw [hall] at q
     obtain ⟨e1,e2,e3⟩:=kP hE hall
     walk_at "go"
     refine nN ?_
     walk_at "go"
     refine ⟨a,elS es,rfl,by rw [← e1];exact hS2,by omega,?_⟩
     walk_at "go"
     refine ⟨a,xs,rfl,hS2,?_⟩
     walk_at "go"
     rw [show ((xs.length:Nat):Int)=(((elS es).length:Nat):Int) by rw [hlx,e2],oh]
     exact q
end
end Law

namespace Law
open PySem PySem.Spec PyProof.Rows L2 L3 L4
theorem k8 {n:Int} {v:V} (h:e8 n v=true):∃ i,v = .int i:=by
 cases v with
 | int i=>exact ⟨i,rfl⟩
 | _=>cases h
theorem B5 {K:PySem.W.Frag} {P:Addr→Prop} {H0 H:Hp} {l:List (Addr×Ob)} {fs:List Pr} {p:Addr} {ws:List Str} {Q:VK} (L:Led P H0 H l fs) (s:SqL K H p (ws.map V.str)∨SqT K H p (ws.map V.str)) (hl:ws.length < 64)
  (h:∀ (b:Addr) (ms:List Str) (H':Hp),H b=none→ms.Perm ws→sortedS ms=true→Led P H0 H' ((b,Eo (.lst (ms.map V.str)))::l) fs→az H H'→Q (.ref b) H'):yP K [.ref p] H Q:=
 ⟨p,ws,rfl,s,hl,fun b ms nb pm pw=>h b ms _ nb pm pw (L.BL nb rfl) (aQ nb)⟩
section
variable {P:Program} {w:World} {K:PySem.W.Frag} {mg:Str→Option Value} {base:Heap} {CX:CXT} {C aR CB CR:Addr}
theorem qC:aB ["self", "shape", "far", "room", "term", "rules"] ["self", "shape", "far", "room", "term", "rules"] (aj (inClass (top 22) 0)):=by walk_at "s"
def dz (K:PySem.W.Frag) (C CB:Addr):Sp:=fun vs H Q E=>∃ (p dx:Addr) (v sh fv rv tv:V) (d:Rd),vs=[.ref p,sh,fv,rv,tv,v]∧Knd H fv∧Knd H rv∧Knd H tv∧xC H v d∧H p=some (.ins C dx []) ∧
 (eE fv rv tv d=none→∀ far room term,fv = .int far→rv = .int room→tv = .int term→∀ (tr:Addr) (ms:List Str) (H':Hp),ms.Perm (wsD d)→sortedS ms=true→H' p=some (.ins C dx (stF sh far room term tr))→SqT K H' tr (ms.map V.str)→(∀ q o,H q=some o→q≠p→H' q=some o)→Q .non H') ∧
 (∀ wd,eE fv rv tv d=some wd→∀ d' H',az H H'→H' d'=some (.xd [("word",.str wd)])→E (.ref CB) (some d') H')
theorem zT {d:Rd} {es:List El} {b:Bool} (e:d = .sq b es) (h:nM d=true):es.all elB=true∧(elS es).Nodup:=by
 subst e
 have h:(es.all elB && decide ((elS es).Nodup))=true:=h
 rw [Bool.and_eq_true] at h
 exact ⟨h.1,of_decide_eq_true h.2⟩
theorem oR:sortedS bq=true:=by decide +kernel
theorem qM (D:sf K mg "Settings" "Settings.__init__" C (inClass (top 22) 0) ["self", "shape", "far", "room", "term", "rules"]) (SC:StC K C) (BT:Bt mg) (NE:bN (CX1 P w)) (dO:GlV mg "RULES" (.ref aR)) (hR:∀ H,SqT K H aR (bq.map V.str)) (dw:CY P w K mg base "BadSettings" CB 1 ["self", "word"] (oH CB "word"))
  (jU:Cal P w K mg base (CX1 P w) "is_span" 3 ["thing", "least"] uI) (rD:Cal P w K mg base (CX1 P w) "are_rules" 3 ["thing"] k9):Mak P w K mg base (CX1 P w) "Settings" C 4 ["self", "shape", "far", "room", "term", "rules"] (dz K C CB)∧HP P w K mg base (CX1 P w) "Settings" C 4 ["self", "shape", "far", "room", "term", "rules"] (dz K C CB):=by
 have S:=qC
 refine D.okR S (fun vs H Q E h=>?_) (fun f cdv A outer s H vs Q E hr h=>?_)
 ·obtain ⟨p,dx,v,sh,fv,rv,tv,d,rfl,_⟩:=h
  rfl
 obtain ⟨p,dx,v,sh,fv,rv,tv,d,rfl,kf,kr,kt,hv,hp,qG,qB⟩:=h
 refine ⟨_,(@ai _ _ _ _ _ (@br _ _ _ _ _ _ _ _ (@cB _ _ _ _ (@cH _ _ _ (@aI _ _ _ _ _ _ _ _ _ _ _ _ jU (hr.mono (by first | decide | omega)) NE.pass (@aa _ _ _ _ _ (@pv _ 2 _ _ (by rfl) (by first | exact Or.inl rfl | exact Or.inr (Or.inl rfl) | exact Or.inr (Or.inr rfl)) (by decide) (by decide)) (@aa _ _ _ _ _ (@ah _ _ _ _) (@af _) (by rfl)) (by rfl)) (by rfl) (by decide) (by rfl) (by rfl)) (by intro _;rfl))) (@ak _ _ _ (@gP _ _ _ _ _ _ _ _ _ _ _ _ _ dw (hr.mono (by first | decide | omega)) rfl (@aA _ _) (@aa _ _ _ _ _ (@aq _ _ _ _) (@af _) (by rfl)) (by rfl) (by decide) (by rfl) (by rfl))) (@aF _)) (@ai _ _ _ _ _ (@br _ _ _ _ _ _ _ _ (@cB _ _ _ _ (@cH _ _ _ (@aI _ _ _ _ _ _ _ _ _ _ _ _ jU (hr.mono (by first | decide | omega)) NE.pass (@aa _ _ _ _ _ (@pv _ 3 _ _ (by rfl) (by first | exact Or.inl rfl | exact Or.inr (Or.inl rfl) | exact Or.inr (Or.inr rfl)) (by decide) (by decide)) (@aa _ _ _ _ _ (@ah _ _ _ _) (@af _) (by rfl)) (by rfl)) (by rfl) (by decide) (by rfl) (by rfl)) (by intro _;rfl))) (@ak _ _ _ (@gP _ _ _ _ _ _ _ _ _ _ _ _ _ dw (hr.mono (by first | decide | omega)) rfl (@aA _ _) (@aa _ _ _ _ _ (@aq _ _ _ _) (@af _) (by rfl)) (by rfl) (by decide) (by rfl) (by rfl))) (@aF _)) (@ai _ _ _ _ _ (@br _ _ _ _ _ _ _ _ (@cB _ _ _ _ (@cH _ _ _ (@aI _ _ _ _ _ _ _ _ _ _ _ _ jU (hr.mono (by first | decide | omega)) NE.pass (@aa _ _ _ _ _ (@pv _ 4 _ _ (by rfl) (by first | exact Or.inl rfl | exact Or.inr (Or.inl rfl) | exact Or.inr (Or.inr rfl)) (by decide) (by decide)) (@aa _ _ _ _ _ (@ah _ _ _ _) (@af _) (by rfl)) (by rfl)) (by rfl) (by decide) (by rfl) (by rfl)) (by intro _;rfl))) (@ak _ _ _ (@gP _ _ _ _ _ _ _ _ _ _ _ _ _ dw (hr.mono (by first | decide | omega)) rfl (@aA _ _) (@aa _ _ _ _ _ (@aq _ _ _ _) (@af _) (by rfl)) (by rfl) (by decide) (by rfl) (by rfl))) (@aF _)) (@ai _ _ _ _ _ (@br _ _ _ _ _ _ _ _ (@cB _ _ _ _ (@cH _ _ _ (@aI _ _ _ _ _ _ _ _ _ _ _ _ rD (hr.mono (by first | decide | omega)) NE.pass (@aa _ _ _ _ _ (@pv _ 5 _ _ (by rfl) (by first | exact Or.inl rfl | exact Or.inr (Or.inl rfl) | exact Or.inr (Or.inr rfl)) (by decide) (by decide)) (@af _) (by rfl)) (by rfl) (by decide) (by rfl) (by rfl)) (by intro _;rfl))) (@ak _ _ _ (@gP _ _ _ _ _ _ _ _ _ _ _ _ _ dw (hr.mono (by first | decide | omega)) rfl (@aA _ _) (@aa _ _ _ _ _ (@aq _ _ _ _) (@af _) (by rfl)) (by rfl) (by decide) (by rfl) (by rfl))) (@aF _)) (@ai _ _ _ _ _ (@iE _ _ _ _ _ _ _ _ (@pv _ 0 _ _ (by rfl) (by first | exact Or.inl rfl | exact Or.inr (Or.inl rfl) | exact Or.inr (Or.inr rfl)) (by decide) (by decide)) (@pv _ 1 _ _ (by rfl) (by first | exact Or.inl rfl | exact Or.inr (Or.inl rfl) | exact Or.inr (Or.inr rfl)) (by decide) (by decide)) rfl) (@ai _ _ _ _ _ (@iE _ _ _ _ _ _ _ _ (@pv _ 0 _ _ (by rfl) (by first | exact Or.inl rfl | exact Or.inr (Or.inl rfl) | exact Or.inr (Or.inr rfl)) (by decide) (by decide)) (@pv _ 2 _ _ (by rfl) (by first | exact Or.inl rfl | exact Or.inr (Or.inl rfl) | exact Or.inr (Or.inr rfl)) (by decide) (by decide)) rfl) (@ai _ _ _ _ _ (@iE _ _ _ _ _ _ _ _ (@pv _ 0 _ _ (by rfl) (by first | exact Or.inl rfl | exact Or.inr (Or.inl rfl) | exact Or.inr (Or.inr rfl)) (by decide) (by decide)) (@pv _ 3 _ _ (by rfl) (by first | exact Or.inl rfl | exact Or.inr (Or.inl rfl) | exact Or.inr (Or.inr rfl)) (by decide) (by decide)) rfl) (@ai _ _ _ _ _ (@iE _ _ _ _ _ _ _ _ (@pv _ 0 _ _ (by rfl) (by first | exact Or.inl rfl | exact Or.inr (Or.inl rfl) | exact Or.inr (Or.inr rfl)) (by decide) (by decide)) (@pv _ 4 _ _ (by rfl) (by first | exact Or.inl rfl | exact Or.inr (Or.inl rfl) | exact Or.inr (Or.inr rfl)) (by decide) (by decide)) rfl) (@ak _ _ _ (@iE _ _ _ _ _ _ _ _ (@pv _ 0 _ _ (by rfl) (by first | exact Or.inl rfl | exact Or.inr (Or.inl rfl) | exact Or.inr (Or.inr rfl)) (by decide) (by decide)) (@lC _ _ _ _ _ _ _ _ (@yU _ _ _ _ _ _ (@zd _ _ _ _ _ (@pv _ 5 _ _ (by rfl) (by first | exact Or.inl rfl | exact Or.inr (Or.inl rfl) | exact Or.inr (Or.inr rfl)) (by decide) (by decide))) (by first | exact lF _ (by decide) (by decide) | rfl)) (@oZ _ _ _ _ dO (by rfl) (by decide)) (@b9 _ _ _ _ _ _ _ _ _ (@pS _) rfl BT.tuple_ L3.jl (@aa _ _ _ _ _ (@aW _ _ _ _ _ _ _ _ _ Cv rfl BT.sorted L3.nW (@aa _ _ _ _ _ (@pv _ 5 _ _ (by rfl) (by first | exact Or.inl rfl | exact Or.inr (Or.inl rfl) | exact Or.inr (Or.inr rfl)) (by decide) (by decide)) (@af _) (by rfl)) (by decide) (by decide) (by rfl) (by rfl)) (@af _) (by rfl)) (by decide) (by decide) (by rfl) (by rfl))) rfl)))))))))),?_⟩
 try dsimp only [xcx,bM]
 walk_at "go"
 refine ⟨fv,0,rfl,kf,?_⟩
 cases hf:e8 0 fv with
 | false=>
  walk_at "go"
  exact gX fun d' H' sm hd=>qB "far" (by unfold eE;rw [if_pos hf]) d' H' sm hd
 | true=>
 walk_at "go"
 refine ⟨rv,1,rfl,kr,?_⟩
 cases hro:e8 1 rv with
 | false=>
  walk_at "go"
  exact gX fun d' H' sm hd=>qB "room" (by unfold eE;rw [hf,hro];rfl) d' H' sm hd
 | true=>
 walk_at "go"
 refine ⟨tv,1,rfl,kt,?_⟩
 cases hte:e8 1 tv with
 | false=>
  walk_at "go"
  exact gX fun d' H' sm hd=>qB "term" (by unfold eE;rw [hf,hro,hte];rfl) d' H' sm hd
 | true=>
 walk_at "go"
 refine ⟨v,d,rfl,hv,fun H1 s1=>?_⟩
 cases hg:nM d with
 | false=>
  walk_at "go"
  exact gX fun d' H' sm hd=>qB "rules" (by unfold eE;rw [hf,hro,hte,hg];rfl) d' H' (s1.trans sm) hd
 | true=>
 have hno:eE fv rv tv d=none:=by unfold eE;rw [hf,hro,hte,hg];rfl
 obtain ⟨far,rfl⟩:=k8 hf
 obtain ⟨room,rfl⟩:=k8 hro
 obtain ⟨term,rfl⟩:=k8 hte
 have q:=qG hno far room term rfl rfl rfl
 have hp1:=s1 _ _ hp
 have k1:=fZ ("shape" : Str) sh []
 have k2:=fZ ("far" : Str) (.int far) (bY "shape" sh [])
 have k3:=fZ ("room" : Str) (.int room) (bY "far" (.int far) (bY "shape" sh []))
 have k4:=fZ ("term" : Str) (.int term) (bY "room" (.int room) (bY "far" (.int far) (bY "shape" sh [])))
 rw [List.length_nil] at k1
 walk_at "go"
 refine ⟨p,C,dx,[],rfl,hp1,SC.cl,SC.n1,by decide,?_⟩
 walk_at "go"
 refine ⟨p,C,dx,_,rfl,ao,SC.cl,SC.n2,by omega,?_⟩
 rw [fB]
 walk_at "go"
 refine ⟨p,C,dx,_,rfl,ao,SC.cl,SC.n3,by omega,?_⟩
 rw [fB]
 walk_at "go"
 refine ⟨p,C,dx,_,rfl,ao,SC.cl,SC.n4,by omega,?_⟩
 rw [fB]
 have key:=fun tr=>AU sh far room term tr
 generalize bY ("term" : Str) (.int term) (bY "room" (.int room) (bY "far" (.int far) (bY "shape" sh [])))=fs at *
 have hpc:(upd H1 p (.ins C dx fs)) p=some (.ins C dx fs):=ao
 have oc:∀ q o,H q=some o→q≠p→(upd H1 p (.ins C dx fs)) q=some o:=fun q o e z=>by rw [aD z];exact s1 _ _ e
 cases d with
 | oth=>cases hg
 | non=>
  have hv:v = .non:=hv
  subst hv
  generalize upd H1 p (.ins C dx fs)=Hc at *
  walk_at "go"
  refine ⟨p,C,dx,fs,rfl,hpc,SC.cl,SC.n5,by omega,?_⟩
  exact q aR bq _ (List.Perm.refl _) oR (by rw [ao,key]) (hR _) fun x o e z=>by rw [aD z];exact oc x o e z
 | sq bb es=>
  obtain ⟨hall,hnd⟩:=zT rfl hg
  obtain ⟨a,rfl,hS,h20⟩:∃ a,v = .ref a∧(SqL K (upd H1 p (.ins C dx fs)) a ((elS es).map V.str)∨SqT K (upd H1 p (.ins C dx fs)) a ((elS es).map V.str))∧es.length≤20:=by
   cases bb with
   | true=>
    obtain ⟨a,xs,e,h,r,l⟩:=hv
    obtain ⟨e1,_,_⟩:=kP r hall
    exact ⟨a,e,.inl (SqL.of (oc _ _ (e1▸h) fun z=>by rw [z,hp] at h;cases h)),l⟩
   | false=>
    obtain ⟨a,xs,e,h,r,l⟩:=hv
    obtain ⟨e1,_,_⟩:=kP r hall
    exact ⟨a,e,.inr (SqT.of (oc _ _ (e1▸h) fun z=>by rw [z,hp] at h;cases h)),l⟩
  have hle:(elS es).length≤20:=Nat.le_trans (List.length_filterMap_le _ _) h20
  generalize upd H1 p (.ins C dx fs)=Hc at *
  have L:=Led.start Hc (fun _=>False)
  walk_at "go"
  refine bW (fun z=>nomatch z) fun _=>?_
  walk_at "go"
  refine B5 L hS (by omega) fun lb ms H2 nb pm so L s2=>?_
  walk_at "go"
  refine zU L (SqL.of (L.eo (p:=lb) .head)) fun tr H3 nt L s3=>?_
  walk_at "go"
  have hp3:=s3 _ _ (s2 _ _ hpc)
  have htr:=L.tup (r:=tr) (xs:=ms.map V.str) (by walk_at "mem")
  have Ii:tr≠p:=fun z=>by rw [z,hp3] at htr;cases htr
  refine ⟨p,C,dx,fs,rfl,hp3,SC.cl,SC.n5,by omega,?_⟩
  exact q tr ms _ pm so (by rw [ao,key]) (SqT.of (by rw [aD Ii];exact htr)) fun x o e z=>by rw [aD z];exact s3 _ _ (s2 _ _ (oc x o e z))
theorem ig {H:Hp} {Q:VK} {E:XK} {v sh fv rv tv:V} {d:Rd} (kf:Knd H fv) (kr:Knd H rv) (kt:Knd H tv) (hv:xC H v d) (qG:eE fv rv tv d=none→∀ far room term,fv = .int far→rv = .int room→tv = .int term→∀ x H',H x=none→StB K C H' x sh far room term (wsD d)→az H H'→Q (.ref x) H')
  (qB:∀ wd,eE fv rv tv d=some wd→∀ d' H',az H H'→H' d'=some (.xd [("word",.str wd)])→E (.ref CB) (some d') H'):Made C (dz K C CB) E [sh,fv,rv,tv,v] H Q:=by
 intro x dx nx nd ne
 have sm0:az H (upd (upd H dx (.own x)) x (.ins C dx [])):=fun b o e=>by rw [aD (ay e nx),aD (ay e nd)];exact e
 refine ⟨x,dx,v,sh,fv,rv,tv,d,rfl,kf.same sm0,kr.same sm0,kt.same sm0,hv.same sm0,ao,fun hn far room term e1 e2 e3 tr ms H' pm so h1 h2 h3=>⟨rfl,?_⟩,fun wd hw d' H' sm hd=>qB wd hw d' H' (sm0.trans sm) hd⟩
 exact qG hn far room term e1 e2 e3 x H' nx ⟨dx,tr,ms,h1,h2,pm,so⟩ fun b o e=>h3 b o (sm0 _ _ e) (ay e nx)
end
end Law

namespace Law
open PySem PySem.Spec PyProof.Rows L2 L3 L4
def sgs:Str:="0123456789abcdefghjkmnpqrstvwxyz"
def cd (n:Nat):Nat:=sgs.cps.toList.getD n 0
def Tf:Nat→Nat→List Nat
 | 0,_=>[]
 | f+1,n=>if n=0 then [] else Tf f (n / 32)++[cd (n % 32)]
def T (n:Nat):List Nat:=Tf 40 n
def sH (l:List Nat):Str:=⟨l.toArray⟩
end Law

namespace Law
open PySem PySem.Spec PyProof.Rows L2 L3 L4
def ir (c:Nat):List (List Nat)→List Nat
 | []=>[]
 | [p]=>p
 | p::q::r=>p++c::ir c (q::r)
def bF (c:Nat):List Nat→List (List Nat)
 | []=>[[]]
 | x::r=>if x=c then []::bF c r else match bF c r with
  | []=>[[x]]
  | p::ps=>(x::p)::ps
theorem mW (c:Nat):∀ l,bF c l≠[]
 | []=>by simp [bF]
 | x::r=>by
  unfold bF
  by_cases h:x=c
  ·rw [if_pos h];simp
  ·rw [if_neg h]
   split <;> simp
theorem eO {c x:Nat} {r:List Nat} (h:x≠c):∃ p ps,bF c r=p::ps∧bF c (x::r)=(x::p)::ps:=by
 cases e:bF c r with
 | nil=>exact absurd e (mW c r)
 | cons p ps=>
  refine ⟨p,ps,rfl,?_⟩
  show (if x=c then []::bF c r else match bF c r with | []=>[[x]] | p::ps=>(x::p)::ps)=_
  rw [if_neg h,e]
theorem iB {c:Nat} {r:List Nat}:bF c (c::r)=[]::bF c r:=by
 show (if c=c then _ else _)=_
 rw [if_pos rfl]
theorem k6 {c:Nat}:∀ {p:List Nat},¬ c∈p→bF c p=[p]
 | [],_=>rfl
 | x::p,h=>by
  obtain ⟨q,qs,e1,e2⟩:=eO (c:=c) (x:=x) (r:=p) fun z=>h (by rw [z];exact List.mem_cons_self)
  rw [k6 fun z=>h (List.mem_cons_of_mem _ z)] at e1
  cases e1
  exact e2
theorem k7 {c:Nat} {l:List Nat}:∀ {p:List Nat},¬ c∈p→bF c (p++c::l)=p::bF c l
 | [],_=>iB
 | x::p,h=>by
  obtain ⟨a,as,e1,e2⟩:=eO (c:=c) (x:=x) (r:=p++c::l) fun z=>h (by rw [z];exact List.mem_cons_self)
  rw [k7 fun z=>h (List.mem_cons_of_mem _ z)] at e1
  cases e1
  exact e2
theorem fY (c:Nat):∀ (ps:List (List Nat)),ps≠[]→(∀ p∈ps,¬ c∈p)→bF c (ir c ps)=ps
 | [],h,_=>absurd rfl h
 | [p],_,h=>k6 (h p List.mem_cons_self)
 | p::q::r,_,h=>by
  show bF c (p++c::ir c (q::r))=_
  rw [k7 (h p List.mem_cons_self),fY c (q::r) (by simp) fun x hx=>h x (List.mem_cons_of_mem _ hx)]
theorem dF (c:Nat):∀ ps:List Str,(Str.join ⟨#[c]⟩ ps).cps.toList=ir c (ps.map fun z=>z.cps.toList)
 | []=>rfl
 | [p]=>rfl
 | p::q::r=>by
  show (p++(⟨#[c]⟩:Str)++Str.join ⟨#[c]⟩ (q::r)).cps.toList=_
  have ih:=dF c (q::r)
  show ((p.cps ++ #[c])++(Str.join ⟨#[c]⟩ (q::r)).cps).toList=p.cps.toList++c::ir c ((q::r).map fun z=>z.cps.toList)
  rw [← ih]
  simp
theorem lU (c:Nat):∀ ps:List (List Nat),ps≠[]→(ir c ps).count c+1=ps.length+(ps.map (List.count c)).sum
 | [],h=>absurd rfl h
 | [p],_=>by simp [ir];omega
 | p::q::r,_=>by
  have ih:=lU c (q::r) (by simp)
  show (p++c::ir c (q::r)).count c+1=_
  rw [List.count_append,List.count_cons_self,List.map_cons,List.sum_cons,List.length_cons]
  omega
open Builtin Builtin.Str in
theorem fG (z:Str) (c limit:Nat):∀ (n i:Nat) (st:Array Nat×Nat),st.2≤i→st.1.size+n≤limit →
  (forIn (List.range' i n) st (StrLaws.occBody z ⟨#[c]⟩ z.length limit)).run.fst.size=st.1.size+((z.cps.toList.drop i).take n).count c
 | 0,i,st,_,_=>by
  show st.1.size=_
  simp
 | n+1,i,st,h1,h2=>by
  rw [List.range'_succ,List.forIn_cons]
  have tk:(z.cps.toList.drop i).take (n+1)=(z.cps.toList[i]?).toList++(z.cps.toList.drop (i+1)).take n:=by
   cases e:z.cps.toList[i]? with
   | none=>
    have hl:=List.getElem?_eq_none_iff.mp e
    rw [List.drop_eq_nil_of_le hl,List.drop_eq_nil_of_le (by omega)]
    simp
   | some x=>
    obtain ⟨hl,ex⟩:=List.getElem?_eq_some_iff.mp e
    rw [List.drop_eq_getElem_cons hl,List.take_succ_cons,ex]
    rfl
  rw [tk,List.count_append]
  unfold StrLaws.occBody
  by_cases hc:z.cps.toList[i]?=some c
  ·have hs:=(StrLaws.subAt_one z c i).mpr hc
   rw [if_pos ⟨⟨⟨by omega,h1⟩,hs.1⟩,hs.2⟩]
   have ih:=fG z c limit n (i+1) (st.1.push i,i+(⟨#[c]⟩:Str).length) (by show i+1≤i+1;omega) (by rw [Array.size_push];omega)
   show (forIn (List.range' (i+1) n) (st.1.push i,i+(⟨#[c]⟩:Str).length) (StrLaws.occBody z ⟨#[c]⟩ z.length limit)).run.fst.size=_
   rw [ih,Array.size_push,hc]
   simp
   omega
  ·have ns:¬ (((st.1.size < limit∧st.2≤i)∧i+(⟨#[c]⟩:Str).length≤z.length)∧subAt z ⟨#[c]⟩ i=true):=fun h=>hc ((StrLaws.subAt_one z c i).mp ⟨h.1.2,h.2⟩)
   rw [if_neg ns]
   have ih:=fG z c limit n (i+1) st (by omega) (by omega)
   show (forIn (List.range' (i+1) n) (st.1,st.2) (StrLaws.occBody z ⟨#[c]⟩ z.length limit)).run.fst.size=_
   have e0:(z.cps.toList[i]?).toList.count c=0:=by
    cases e:z.cps.toList[i]? with
    | none=>rfl
    | some x=>
     have:x≠c:=fun q=>hc (by rw [e,q])
     simp [this]
   rw [e0,Nat.zero_add]
   exact ih
open Builtin Builtin.Str in
theorem ni (z:Str) (c:Nat):(occurrences z ⟨#[c]⟩ 0 z.length (z.length+1)).length=z.cps.toList.count c:=by
 rw [StrLaws.occ_eq,Array.length_toList,Nat.sub_zero,fG z c (z.length+1) (z.length+1) 0 (#[],0) (Nat.le_refl _) (by simp)]
 rw [List.drop_zero,List.take_of_length_le (by rw [Array.length_toList];show z.cps.size≤z.cps.size+1;omega)]
 simp
open Builtin Builtin.Str in
theorem gK (z:Str) {c:Nat} (hc:c < 256):Txt.split z ⟨#[c]⟩=(bF c z.cps.toList).map sH:=by
 have key:∀ ps:List Str,ps≠[]→Str.join ⟨#[c]⟩ ps=z→ps.length=z.cps.toList.count c+1→ps=(bF c z.cps.toList).map sH:=fun ps hn hj hl=>by
  have e1:=dF c ps
  rw [hj] at e1
  have hn':ps.map (fun z=>z.cps.toList)≠[]:=fun z=>hn (List.map_eq_nil_iff.mp z)
  have e2:=lU c (ps.map fun z=>z.cps.toList) hn'
  rw [← e1,List.length_map,hl] at e2
  have e3:((ps.map fun z=>z.cps.toList).map (List.count c)).sum=0:=by omega
  have fr:∀ p∈ps.map (fun z=>z.cps.toList),¬ c∈p:=fun p hp=>by
   have:p.count c=0:=by
    have z0:=List.sum_eq_zero_iff_forall_eq_nat.mp e3 (p.count c) (List.mem_map.mpr ⟨p,hp,rfl⟩)
    exact z0
   exact List.count_eq_zero.mp this
  have e4:=fY c _ hn' fr
  rw [← e1] at e4
  rw [e4,List.map_map]
  conv=>lhs;rw [← List.map_id ps]
  exact List.map_congr_left fun p _=>rfl
 have k1:Builtin.Str.strKind ⟨#[c]⟩=1:=by unfold Builtin.Str.strKind;simp [hc]
 have kz:¬ Builtin.Str.strKind z < Builtin.Str.strKind ⟨#[c]⟩:=by
  rw [k1]
  unfold Builtin.Str.strKind
  split
  ·decide
  ·split <;> decide
 have one:(∀ x∈z.cps.toList,x≠c)→[z]=(bF c z.cps.toList).map sH:=fun h=>key [z] (by simp) rfl (by rw [List.count_eq_zero.mpr fun q=>h c q rfl];rfl)
 unfold Txt.split
 by_cases h1:(decide (z.length < (⟨#[c]⟩:Str).length) || decide (Builtin.Str.strKind z < Builtin.Str.strKind ⟨#[c]⟩))=true
 ·rw [if_pos h1]
  rw [decide_eq_false kz,Bool.or_false,decide_eq_true_iff] at h1
  have hz:z.cps.toList=[]:=List.length_eq_zero_iff.mp (by rw [Array.length_toList];have:z.cps.size < 1:=h1;omega)
  exact one (by rw [hz];simp)
 ·rw [if_neg h1]
  by_cases h2:(occurrences z ⟨#[c]⟩ 0 z.length (z.length+1)).isEmpty=true
  ·rw [if_pos h2]
   have:=ni z c
   rw [List.isEmpty_iff.mp h2] at this
   exact one fun x hx e=>List.count_eq_zero.mp this.symm (e▸hx)
  ·rw [if_neg h2]
   refine key _ ?_ ?_ ?_
   ·intro e
    have:=length_partsBetween z (occurrences z ⟨#[c]⟩ 0 z.length (z.length+1)) (⟨#[c]⟩:Str).length
    rw [e] at this
    simp at this
   ·rw [← StrLaws.glued_eq_join]
    exact StrLaws.glued_between_self z ⟨#[c]⟩ (z.length+1)
   ·rw [length_partsBetween,ni]
end Law
namespace L4
open PySem PySem.Spec PyProof.Rows L2 L3
def yT:RL:=fun xs H Q=>∃ z n,xs=[.str z]∧PySem.intText? z=some n∧z.length≤640∧Q (.int n) H
def yO:V→List V→Hp→VK→Prop:=fun x xs H Q=>∃ z y,x = .str z∧xs=[.str y]∧(y.length == 0)=false∧z.length≤1000∧∀ l,H l=none→Q (.ref l) (upd H l (.lst ((Txt.split z y).map V.str)))
theorem kR:∀ (tk:Nat) (ps:List Str),Vals (ps.map V.str) (strsFrom tk ps)
 | _,[]=>.nil
 | tk,_::r=>.cons ⟨_,rfl⟩ (kR (tk+1) r)
section
variable {X:Cx}
theorem Fp:cV X (.type "int") yT:=by
 intro pins s σ H xs us Q I r h
 obtain ⟨z,n,rfl,hn,hl,q⟩:=h
 obtain ⟨u,rfl,rx⟩:=vals1 r
 obtain ⟨t,rfl⟩:=rx
 exact PySem.W.KIN.call_text hn hl ⟨.int n,H,I.tok _,⟨_,rfl⟩,q⟩
open Builtin Builtin.Str in
theorem m_split:MtR X "str.split" yO:=by
 intro pins s σ H x xs v us Q I rx rs h
 obtain ⟨z,y,rfl,rfl,hy,hz,q⟩:=h
 obtain ⟨t,rfl⟩:=rx
 obtain ⟨u,rfl,ru⟩:=vals1 rs
 obtain ⟨t',rfl⟩:=ru
 have hsz:z.length≤sizeLine:=Nat.le_of_lt (small1000 (by omega))
 have hpl:(partsBetween z (occurrences z y 0 z.length (z.length+1)) y.length).length≤sizeLine:=by
  have:=StrLaws.occ_length_le z y 0 z.length (z.length+1)
  rw [length_partsBetween,sizeLine_eq]
  omega
 have fin:∀ (us:List Value) (tk:Nat) (e:(Txt.split z y).length≤sizeLine),Vals ((Txt.split z y).map V.str) us→EP X pins σ Q (.ref s.heap.objs.size) { s with toks:=tk,heap:=s.heap.push { cls:=.type "list",data:=.seq us.toArray } }:=fun us tk e hv=>
  ⟨.ref s.heap.objs.size,_,I.laid (t':=tk) (fun b o e=>Heap.get?_push_of_some _ e) (Nat.le_refl _) (show bH X.prog X.w _ _ _ (.lst ((Txt.split z y).map V.str)) from ⟨by rw [List.length_map];exact e,us,_,hv,Heap.get?_push_size _ rfl⟩),rfl,q _ (I.hok.fresh (Nat.le_refl _))⟩
 cases h1:(decide (z.length < y.length) || decide (Builtin.Str.strKind z < Builtin.Str.strKind y))
 ·cases hf:(occurrences z y 0 z.length (z.length+1)).isEmpty
  ·have es:Txt.split z y=partsBetween z (occurrences z y 0 z.length (z.length+1)) y.length:=(if_neg (ne_true_of_eq_false h1)).trans (if_neg (ne_true_of_eq_false hf))
   refine call_meets F.slot_str_split (typeIs_str _ _ _) F.entry_str_split (F.args_str_split_2 _ _) (meets_str_split_sep z y t t' h1 hy hf hsz hpl) ?_
   exact fin _ _ (by rw [es];exact hpl) (by rw [es];exact kR _ _)
  ·have es:Txt.split z y=[z]:=(if_neg (ne_true_of_eq_false h1)).trans (if_pos hf)
   exact call_meets F.slot_str_split (typeIs_str _ _ _) F.entry_str_split (F.args_str_split_2 _ _) (meets_str_split_not_found z y t t' h1 hy hf) (fin [.str z t] s.toks (by rw [es];exact Nat.le_of_lt (small1000 (by simp))) (by rw [es];exact .cons ⟨_,rfl⟩ .nil))
 ·have es:Txt.split z y=[z]:=if_pos h1
  exact call_meets F.slot_str_split (typeIs_str _ _ _) F.entry_str_split (F.args_str_split_2 _ _) (meets_str_split_cannot_occur z y t t' h1) (fin [.str z t] s.toks (by rw [es];exact Nat.le_of_lt (small1000 (by simp))) (by rw [es];exact .cons ⟨_,rfl⟩ .nil))
end
section
variable {K:PySem.W.Frag} {H:Hp} {Q:VK} {P:Addr→Prop} {H0:Hp} {l:List (Addr×Ob)} {fs:List Pr}
theorem ES {z:Str} {n:Int} (hn:PySem.intText? z=some n) (hl:z.length≤640) (h:Q (.int n) H):yT [.str z] H Q:=⟨z,n,rfl,hn,hl,h⟩
theorem g_split {z y:Str} (L:Led P H0 H l fs) (hy:(y.length == 0)=false) (hz:z.length≤1000) (h:∀ (b:Addr) (H':Hp),H b=none→Led P H0 H' ((b,Eo (.lst ((Txt.split z y).map V.str)))::l) fs→az H H'→Q (.ref b) H'):yO (.str z) [.str y] H Q:=
 ⟨z,y,rfl,rfl,hy,hz,fun b nb=>h b _ nb (L.BL nb rfl) (aQ nb)⟩
end
end L4

namespace Law
open PySem PySem.Spec PyProof.Rows L2 L3 L4
def pJ:Str:="0123456789"
def lQ (c:Nat):Bool:=!(Builtin.Str.occurrences pJ ⟨#[c]⟩ 0 pJ.length 1).isEmpty
theorem Ae:∀ i,i < 10→pJ.cps.extract i (i+1)=#[48+i]:=by decide +kernel
theorem wZ:pJ.length=10:=by decide +kernel
theorem Fb:∀ i,i < 10→lQ (48+i)=true:=by decide +kernel
theorem lP (c:Nat):lQ c=true↔48≤c∧c≤57:=by
 constructor
 ·intro h
  refine Classical.byContradiction fun hc=>?_
  have e:Builtin.Str.occurrences pJ ⟨#[c]⟩ 0 pJ.length 1=[]:=by
   refine PySem.W.occ_nil_of_no _ _ _ fun i hi=>?_
   have hi':i+1≤10:=by rw [wZ] at hi;exact hi
   show (pJ.cps.extract i (i+1) == #[c])=false
   rw [Ae i (by omega)]
   have:¬ 48+i=c:=fun z=>hc (by omega)
   simpa using this
  unfold lQ at h
  rw [e] at h
  cases h
 ·intro h
  have:=Fb (c - 48) (by omega)
  rw [show 48+(c - 48)=c by omega] at this
  exact this
def mq (l:List Nat):Bool:=decide (1≤l.length) && (decide (l.length≤40) && (l.all lQ && (!decide (l.head?=some 48) || decide (l.length=1))))
def bS (l:List Nat):Option Nat:=if mq l=true then some (NumText.digitsVal l) else none
theorem gT {l:List Nat} (h:mq l=true) : 1≤l.length∧l.length≤40∧l.all lQ=true:=by
 unfold mq at h
 rw [Bool.and_eq_true,Bool.and_eq_true,Bool.and_eq_true,decide_eq_true_iff,decide_eq_true_iff] at h
 exact ⟨h.1,h.2.1,h.2.2.1⟩
theorem BI {z:Str} (h:mq z.cps.toList=true):PySem.intText? z=some ((NumText.digitsVal z.cps.toList:Nat):Int):=by
 obtain ⟨h1,h2,h3⟩:=gT h
 refine PySem.intText_digits (fun c hc=>(lP c).mp (List.all_eq_true.mp h3 c hc)) (fun e=>?_) ?_
 ·rw [e] at h1;exact absurd h1 (by decide)
 ·rw [show z.length=z.cps.toList.length by simp [Str.length]];omega
theorem kJ {n:Nat} (hn:n < 10 ^ 40):mq ((toString (n:Int):String):Str).cps.toList=true∧NumText.digitsVal ((toString (n:Int):String):Str).cps.toList=n:=by
 have hs:((toString (n:Int):String):Str).cps.toList=(Nat.toDigits 10 n).map Char.toNat:=PySem.W.KIN.signs_num n
 have hv:=PySem.W.KIN.val_back n
 have hl1:=toDigits_len_ge 10 n
 have hl2:=digits10_le (k:=40) (by decide) hn
 have hd:NumText.AllDigits ((Nat.toDigits 10 n).map Char.toNat):=fun c hc=>by
  obtain ⟨ch,hch,e⟩:=List.mem_map.mp hc
  rw [← e]
  exact digit_range (Nat.isDigit_of_mem_toDigits (by decide) (by decide) hch)
 rw [hs]
 refine ⟨?_,hv⟩
 have hz:((Nat.toDigits 10 n).map Char.toNat).head?=some 48→((Nat.toDigits 10 n).map Char.toNat).length=1:=fun h0=>by
  have hall:=NumText.toDigits_all _ hd
  rw [hv] at hall
  generalize hcs:(Nat.toDigits 10 n).map Char.toNat=cs at *
  cases cs with
  | nil=>cases h0
  | cons a r=>
   cases h0
   have hlen:(Nat.toDigits 10 n).length=r.length+1:=by rw [← List.length_map (f:=Char.toNat),hcs];rfl
   rw [hall] at hlen
   have hdw:(List.dropWhile (fun x=>x == 48) (48::r)).length≤r.length:=by
    rw [List.dropWhile_cons_of_pos (by rfl)]
    exact (List.dropWhile_sublist _).length_le
   cases hdc:List.dropWhile (fun x=>x == 48) (48::r) with
   | nil=>
    rw [hdc] at hlen
    exact hlen.symm
   | cons b t=>
    rw [hdc] at hlen hdw
    have hlen:((b::t).map Char.ofNat).length=r.length+1:=hlen
    rw [List.length_map] at hlen
    omega
 unfold mq
 rw [List.length_map,decide_eq_true hl1,decide_eq_true hl2,List.all_eq_true.mpr fun c hc=>(lP c).mpr (hd c hc),Bool.true_and,Bool.true_and,Bool.true_and]
 by_cases h0:((Nat.toDigits 10 n).map Char.toNat).head?=some 48
 ·have:=hz h0
  rw [List.length_map] at this
  rw [decide_eq_true this,Bool.or_true]
 ·rw [decide_eq_false h0];rfl
def rk (z:Str):Int:=if z = "ahead" then 0 else if z = "apart" then 1 else if z = "ends" then 2 else if z = "once" then 3 else 4
theorem F3:∀ z∈bq,∀ y∈bq,ltCps z.cps.toList y.cps.toList=decide (rk z < rk y):=by decide +kernel
theorem DV:∀ z∈bq,∀ y∈bq,rk z=rk y→z=y:=by decide +kernel
theorem m8:∀ (l:List Str) (p:Str),(∀ z∈p::l,z∈bq)→risingS p l=true→((p::l).map rk).Pairwise (·≤·)
 | [],p,_,_=>by simp
 | x::r,p,hm,h=>by
  have h:(!ltCps x.cps.toList p.cps.toList && risingS x r)=true:=h
  rw [Bool.and_eq_true,F3 x (hm x (List.mem_cons_of_mem _ List.mem_cons_self)) p (hm p List.mem_cons_self),Bool.not_eq_true',decide_eq_false_iff_not] at h
  have ih:=m8 r x (fun z hz=>hm z (List.mem_cons_of_mem _ hz)) h.2
  rw [List.map_cons,List.pairwise_cons]
  refine ⟨fun y hy=>?_,ih⟩
  rw [List.map_cons] at hy ih
  rcases List.mem_cons.mp hy with rfl | hy
  ·omega
  ·have:=(List.pairwise_cons.mp ih).1 y hy
   omega
theorem mX {xs ys:List Str} (hx:∀ z∈xs,z∈bq) (p:xs.Perm ys) (sx:sortedS xs=true) (sy:sortedS ys=true):xs=ys:=by
 have pw:∀ {l:List Str},(∀ z∈l,z∈bq)→sortedS l=true→(l.map rk).Pairwise (·≤·):=fun {l} hl sl=>by
  cases l with
  | nil=>exact List.Pairwise.nil
  | cons a l=>exact m8 l a hl sl
 have hy:∀ z∈ys,z∈bq:=fun z hz=>hx z (p.symm.subset hz)
 have e:=lg (p.map rk) (pw hx sx) (pw hy sy)
 have inj:∀ {a b:List Str},(∀ z∈a,z∈bq)→(∀ z∈b,z∈bq)→a.map rk=b.map rk→a=b:=by
  intro a
  induction a with
  | nil=>intro b _ _ h;cases b with | nil=>rfl | cons _ _=>cases h
  | cons x a ih=>
   intro b ha hb h
   cases b with
   | nil=>cases h
   | cons y b=>
    rw [List.map_cons,List.map_cons] at h
    injection h with h1 h2
    rw [DV x (ha x List.mem_cons_self) y (hb y List.mem_cons_self) h1,ih (fun z hz=>ha z (List.mem_cons_of_mem _ hz)) (fun z hz=>hb z (List.mem_cons_of_mem _ hz)) h2]
 exact inj hx hy e
def eK (z:Str):List Str:=(bF 43 z.cps.toList).map sH
def allR (ws:List Str):Bool:=ws.all fun z=>decide (z∈bq)
def aZ (ws:List Str):Bool:=allR ws && (decide ws.Nodup && sortedS ws)
def cA (z:Str):Option (List Str):=if z = "none" then some [] else if aZ (eK z)=true then some (eK z) else none
def dN (ws:List Str):Str:=if ws=[] then "none" else Txt.join "+" ws
def far (z:Str):Bool:=z.cps.toList.all fun c=>decide (c < 48) || decide (57 < c)
theorem yK {z:Str} (h1:z ≠ "none") (h2:aZ (eK z)=false):cA z=none:=by
 unfold cA
 rw [if_neg h1,h2,if_neg Bool.false_ne_true]
theorem dU (c:Nat):∀ l,(bF c l).length≤l.length+1
 | []=>Nat.le_refl _
 | y::r=>by
  have ih:=dU c r
  by_cases e:y=c
  ·subst e
   rw [iB,List.length_cons,List.length_cons];omega
  ·obtain ⟨q,qs,e1,e2⟩:=eO (c:=c) (r:=r) e
   rw [e1] at ih
   rw [e2,List.length_cons,List.length_cons]
   rw [List.length_cons] at ih
   omega
end Law

namespace L4
open PySem PySem.Spec PyProof.Rows L2 L3
theorem bx:Slot "set_iterator" "__next__" "set_iterator.__next__" :=
 .of (owner:="set_iterator") (n:="__next__") (by rw [typeLookup_type,builtinLookup_eq_fast];kernel_rfl) (by decide +kernel) (by decide +kernel) (by decide +kernel)
  (by first | exact .inl (by decide +kernel) | exact .inr (by decide +kernel)) (by rw [isSubtype_type];kernel_rfl)
theorem iW:Slot "set_iterator" "__iter__" "set_iterator.__iter__" :=
 .of (owner:="set_iterator") (n:="__iter__") (by rw [typeLookup_type,builtinLookup_eq_fast];kernel_rfl) (by decide +kernel) (by decide +kernel) (by decide +kernel)
  (by first | exact .inl (by decide +kernel) | exact .inr (by decide +kernel)) (by rw [isSubtype_type];kernel_rfl)
theorem dm:entryFor table "set_iterator.__next__" = some Builtin.«set_iterator.__next__»:=entryFor_of_tree (by kernel_rfl)
theorem mC:entryFor table "set_iterator.__iter__" = some Builtin.«dict_keyiterator.__iter__»:=
 entryFor_alias (id':="dict_keyiterator.__iter__") (by kernel_rfl) rfl (by decide +kernel) (by kernel_rfl)
theorem pN:entryFor table "set.__iter__" = some Builtin.«frozenset.__iter__»:=
 entryFor_alias (id':="frozenset.__iter__") (by kernel_rfl) rfl (by decide +kernel) (by kernel_rfl)
theorem qL:Manifest.owners.lookup (String.ofList ['r', 'o', 't', 'a', 'r', 'e', 't', 'i', '_', 't', 'e', 's'].reverse)=some Manifest.sig_set_iterator:=by kernel_rfl
theorem dP (a:Value):argsOk "set_iterator.__next__" ⟨[a],[]⟩:=by
 unfold argsOk;rw [signature?_of (id:="set_iterator.__next__") (n:=['_', '_', 't', 'x', 'e', 'n', '_', '_']) (o:=['r', 'o', 't', 'a', 'r', 'e', 't', 'i', '_', 't', 'e', 's']) (by kernel_rfl) qL];kernel_rfl
theorem p5 (a:Value):argsOk "set_iterator.__iter__" ⟨[a],[]⟩:=by
 unfold argsOk;rw [signature?_of (id:="set_iterator.__iter__") (n:=['_', '_', 'r', 'e', 't', 'i', '_', '_']) (o:=['r', 'o', 't', 'a', 'r', 'e', 't', 'i', '_', 't', 'e', 's']) (by kernel_rfl) qL];kernel_rfl
end L4
namespace L4
open PySem PySem.Spec PyProof.Rows L2 L3
def cU (h:Heap) (a:Addr) (es:Array (Int×Value)) (ep:Nat) (t:SetTable):Prop:=∃ o,h.get? a=some o∧o.cls = .type "set" ∧ o.data = .set es ep t∧t.fits es.size=true
def eF (h:Heap) (I:Addr) (first:Value) (i:Nat) (a:Addr) (n ep:Nat):Prop:=∃ o,h.get? I=some o∧o.cls = .type "set_iterator" ∧ o.data = .fields #[first,.int i 0,.ref a,.int n 0,.int ep 0]
section
variable {prog:Program} {w:World} {A:Around} {E:Value→Shared→Prop} {s:Shared}
theorem eF.typeIs {I a:Addr} {first:Value} {i n ep:Nat} (h:eF s.heap I first i a n ep):s.TypeIs (.ref I) "set_iterator" := let ⟨o,ho,hc,_⟩:=h;⟨o,ho,hc⟩
theorem cU.typeIs {a:Addr} {es:Array (Int×Value)} {ep:Nat} {t:SetTable} (h:cU s.heap a es ep t):s.TypeIs (.ref a) "set" := let ⟨o,ho,hc,_⟩:=h;⟨o,ho,hc⟩
theorem b8 {a:Addr} {es:Array (Int×Value)} {ep:Nat} {t:SetTable} {Q:(Array (Int×Value)×Nat×SetTable)→Shared→Prop} (hs:cU s.heap a es ep t) (h:Q (es,ep,t) s):wpAny (model prog w) A (setState a) Q E s:=by
 obtain ⟨o,ho,_,hd,hf⟩:=hs
 exact wpAny_setState_of ho hd hf h
theorem om {I a:Addr} {first:Value} {i n ep:Nat} {Q:Value→Shared→Prop} (hit:eF s.heap I first i a n ep) (h:Q (.ref I) s):wpAny (model prog w) A (pyIter (.ref I)) Q E s:=by
 refine wpAny_pyIter_slot hit.typeIs iW (wpAny_call_entry iW hit.typeIs mC ?_ (p5 _))
 show wpAny _ _ (ret (.ref I)) _ _ s
 exact wpAny_pure ⟨_,rfl, "set_iterator",_,hit.typeIs,bx.lookup,h⟩
theorem iO {I a:Addr} {sl i nx ep:Nat} {es:Array (Int×Value)} {t:SetTable} {x:Value} {Q:Option Value→Shared→Prop} (hit:eF s.heap I (.int sl 0) i a es.size ep) (hs:cU s.heap a es ep t)
  (hN:∀ (Q:Option (Value×Nat)→Shared→Prop) (E:Value→Shared→Prop),Q (some (x,nx)) s→wpAny (model prog w) A.in1 (setNext a sl i ep) Q E s)
  (hQ:∀ h',eF h' I (.int nx 0) (i+1) a es.size ep→Heap.SameBut I s.heap h'→Q (some x) { s with heap:=h' }) :
  wpAny (model prog w) A (pyNext (.ref I)) Q E s:=by
 obtain ⟨o,ho,hc,hd⟩:=id hit
 unfold pyNext
 refine wpAny_bind (wpAny_attempt (wpAny_callSpecial?_slot (name:=Str.ofString "__next__") hit.typeIs bx (wpAny_call_entry bx hit.typeIs dm ?_ (dP _))))
 unfold Builtin.«set_iterator.__next__»
 refine wpAny_bind (wpAny_pure ?_)
 refine wpAny_bind (wpAny_fieldsOf ho hd ?_)
 dsimp only
 unfold setEntries
 refine wpAny_bind (wpAny_bind (b8 hs (wpAny_pure ?_)))
 rw [if_neg (by simp)]
 refine wpAny_bind ?_
 simp only [Int.toNat_natCast]
 refine hN _ _ ?_
 dsimp only
 refine wpAny_bind (wpAny_setField ho hd (by simp) ?_)
 refine wpAny_bind (wpAny_setField (Heap.get?_update_self _ ho (Obj.isFreed_of_fields (Obj.data_mapFields hd _))) (Obj.data_mapFields hd _) (by simp) ?_)
 refine wpAny_pure ⟨_,rfl,wpAny_pure (hQ _ ⟨_,Heap.get?_update_self _ (Heap.get?_update_self _ ho (Obj.isFreed_of_fields (Obj.data_mapFields hd _))) (Obj.isFreed_of_fields (Obj.data_mapFields (Obj.data_mapFields hd _) _)),?_,?_⟩ ?_)⟩
 ·rw [Obj.cls_mapFields,Obj.cls_mapFields];exact hc
 ·rw [Obj.data_mapFields (Obj.data_mapFields hd _)];simp [rawInt]
 ·exact (Heap.SameBut.update ..).trans (Heap.SameBut.update ..)
theorem j3 {I a:Addr} {sl i ep:Nat} {es:Array (Int×Value)} {t:SetTable} {Q:Option Value→Shared→Prop} (hh:A.handled=none) (hit:eF s.heap I (.int sl 0) i a es.size ep) (hs:cU s.heap a es ep t)
  (hN:∀ (Q:Option (Value×Nat)→Shared→Prop) (E:Value→Shared→Prop),Q none s→wpAny (model prog w) A.in1 (setNext a sl i ep) Q E s)
  (hQ:∀ h',Heap.ExtBut I s.heap h'→Q none { s with heap:=h' }) :
  wpAny (model prog w) A (pyNext (.ref I)) Q E s:=by
 obtain ⟨o,ho,hc,hd⟩:=id hit
 unfold pyNext
 refine wpAny_bind (wpAny_attempt (wpAny_callSpecial?_slot (name:=Str.ofString "__next__") hit.typeIs bx (wpAny_call_entry bx hit.typeIs dm ?_ (dP _))))
 unfold Builtin.«set_iterator.__next__»
 refine wpAny_bind (wpAny_pure ?_)
 refine wpAny_bind (wpAny_fieldsOf ho hd ?_)
 dsimp only
 unfold setEntries
 refine wpAny_bind (wpAny_bind (b8 hs (wpAny_pure ?_)))
 rw [if_neg (by simp)]
 refine wpAny_bind ?_
 simp only [Int.toNat_natCast]
 refine hN _ _ ?_
 dsimp only
 refine wpAny_bind (wpAny_setField ho hd (by simp) ?_)
 refine wpAny_bind ?_
 simp only [newExc,newTuple]
 refine wpAny_bind (wpAny_newObj_type ?_ (by size_fits))
 refine wpAny_bind (m:=firstArgMember _ _) (wpAny_of_eq (a:=Value.none) (by first | rfl | (simp only [firstArgMember];rfl)) ?_)
 refine wpAny_newObj_type ?_ (by size_fits)
 simp only [raiseNew]
 refine wpAny_bind (wpAny_handled ?_)
 rw [show A.in1.handled=none from hh]
 refine wpAny_bind (wpAny_pure (wpAny_throw ?_))
 refine wpAny_bind (wpAny_isInstance (T:="StopIteration") (b:=true) ⟨_,Heap.get?_push_size _ rfl,rfl⟩ isSubtype_stop ?_)
 exact wpAny_pure (hQ _ (((Heap.SameBut.update ..).extBut.push _).push _))
end
end L4
namespace L4
open PySem PySem.Spec PyProof.Rows L2 L3
theorem iM {α : Type}:∀ (l:List α) (i:Nat) (h:i < l.length),(l[i]::l.eraseIdx i).Perm l
 | [],_,h=>by cases h
 | x::l,0,_=>.refl _
 | x::l,i+1,h=>(List.Perm.swap x (l[i]'(Nat.lt_of_succ_lt_succ h)) (l.eraseIdx i)).trans ((iM l i (Nat.lt_of_succ_lt_succ h)).cons x)
theorem uW {α : Type} (next:Nat→Nat):∀ (fuel k:Nat) (left:List α) (out:Array α),left.length=fuel→(pickOrder.go next fuel k left out).toList.Perm (out.toList++left)
 | 0,k,left,out,h=>by
  rw [List.length_eq_zero_iff.mp h,List.append_nil]
  unfold pickOrder.go
  exact .refl _
 | fuel+1,k,left,out,h=>by
  have hl:next k % left.length < left.length:=Nat.mod_lt _ (by omega)
  unfold pickOrder.go
  rw [List.getElem?_eq_getElem hl]
  dsimp only
  refine (uW next fuel (k+1) _ _ (by rw [List.length_eraseIdx_of_lt hl];omega)).trans ?_
  rw [Array.toList_push,List.append_assoc]
  exact List.Perm.append_left _ (iM _ _ hl)
theorem jD {α : Type} (next:Nat→Nat) (xs:Array α):(pickOrder next xs).toList.Perm xs.toList:=by
 have:=uW next xs.size 0 xs.toList #[] (Array.length_toList)
 rw [show (#[]:Array α).toList=[] from rfl,List.nil_append] at this
 exact this
section
variable {prog:Program} {w:World} {A:Around} {E:Value→Shared→Prop} {s:Shared}
theorem wp_choose {n:Nat} {Q:Nat→Shared→Prop} (hn:n≠0) (h:∀ i d',i < n→Q i { s with drawn:=d' }):wpAny (model prog w) A (choose .order n) Q E s:=fun Γ p hΓ=>
 ⟨hn,h _ _ (Nat.mod_lt _ (Nat.pos_of_ne_zero hn))⟩
theorem uD {α : Type}:∀ (n:Nat) (xs:List α) {s:Shared} {Q:List α→Shared→Prop},xs.length=n→(∀ ys d',ys.Perm xs→Q ys { s with drawn:=d' })→wpAny (model prog w) A (drawOrder n xs) Q E s
 | 0,xs,s,Q,hl,h=>by
  rw [List.length_eq_zero_iff.mp hl] at h
  unfold drawOrder
  exact wpAny_pure (h [] s.drawn (.refl _))
 | n+1,[],s,Q,hl,h=>by cases hl
 | n+1,x::xs,s,Q,hl,h=>by
  unfold drawOrder
  refine wpAny_bind (wp_choose (by rw [hl];omega) fun i d' hi=>?_)
  rw [List.getElem?_eq_getElem hi]
  dsimp only
  refine wpAny_bind (uD n _ (by rw [List.length_eraseIdx_of_lt hi,hl];rfl) fun ys d2 hp=>wpAny_pure ?_)
  exact h _ d2 ((hp.cons _).trans (iM _ _ hi))
theorem gF {Q:Bool→Shared→Prop} (h:Q (w.params.followText "set-order") s):wpAny (model prog w) A setsByText Q E s:=by
 unfold setsByText
 exact wpAny_bind (wpAny_askSetting (wpAny_pure h))
theorem fO {a:Addr} {sl i ep:Nat} {es:Array (Int×Value)} {t:SetTable} {Q:Option (Value×Nat)→Shared→Prop} (hb:w.params.followText "set-order" = true) (hs:cU s.heap a es ep t)
  (h:Q (((pickOrder (w.params.setOrder a ep) es)[i]?).map fun e=>(e.2,sl)) s):wpAny (model prog w) A (setNext a sl i ep) Q E s:=by
 unfold setNext
 refine wpAny_bind (b8 hs ?_)
 dsimp only
 refine wpAny_bind (gF ?_)
 rw [hb,if_pos rfl,if_neg (by simp)]
 refine wpAny_bind ?_
 unfold setWalk
 refine wpAny_bind (b8 hs ?_)
 dsimp only
 refine wpAny_bind (gF ?_)
 rw [hb,if_pos rfl]
 refine wpAny_bind (wpAny_askSetting (wpAny_pure (wpAny_pure h)))
theorem fV {a:Addr} {sl i ep:Nat} {es:Array (Int×Value)} {t:SetTable} {Q:Option (Value×Nat)→Shared→Prop} (hb:w.params.followText "set-order" = false) (hs:cU s.heap a es ep t) (pD:t.led=true) (h1:es.size≤1)
  (h:Q (match es[SetTable.below t.place sl]?,t.place[SetTable.below t.place sl]? with | some (_,x),some j=>some (x,j+1) | _,_=>none) s):wpAny (model prog w) A (setNext a sl i ep) Q E s:=by
 unfold setNext
 refine wpAny_bind (b8 hs ?_)
 dsimp only
 refine wpAny_bind (gF ?_)
 rw [hb,if_neg Bool.false_ne_true]
 have e1:(!t.plain && decide (es.size > 1))=false:=by rw [decide_eq_false (by omega),Bool.and_false]
 refine wpAny_mono (Q:=Q) (E:=E) ?_ (fun _ _ h=>h) (fun _ _ h=>h)
 show wpAny _ _ (if (!t.plain && decide (es.size > 1))=true then _ else _) _ _ _
 rw [e1,if_neg Bool.false_ne_true]
 refine wpAny_bind ?_
 show wpAny _ _ (if (!t.led && !es.isEmpty)=true then _ else _) _ _ _
 rw [pD,Bool.not_true,Bool.false_and,if_neg Bool.false_ne_true]
 exact wpAny_pure (wpAny_pure h)
end
end L4
namespace L4
open PySem PySem.Spec PyProof.Rows L2 L3
def TupAt (h:Heap) (T:Addr) (ps:List Nat):Prop:=∃ o c,h.get? T=some o∧o.data = .seq ((ps.map fun (i:Nat)=>Value.int i 0).toArray) c
section
variable {prog:Program} {w:World} {A:Around} {E:Value→Shared→Prop} {s:Shared}
theorem j0 {T:Addr} {ps:List Nat} {Q:Option (Array Value)→Shared→Prop} (ht:TupAt s.heap T ps) (h:Q (some ((ps.map fun (i:Nat)=>Value.int i 0).toArray)) s):wpAny (model prog w) A (seqItems? (.ref T)) Q E s:=by
 obtain ⟨o,c,ho,hd⟩:=ht
 unfold seqItems?
 dsimp only
 refine wpAny_bind (wpAny_load ho ?_)
 rw [hd]
 exact wpAny_pure h
theorem l6 {I a T:Addr} {i ep:Nat} {es:Array (Int×Value)} {t:SetTable} {ps:List Nat} {p:Nat} {e:Int×Value} {Q:Option Value→Shared→Prop} (hit:eF s.heap I (.ref T) i a es.size ep) (hs:cU s.heap a es ep t) (ht:TupAt s.heap T ps) (hp:ps[i]?=some p) (he:es[p]?=some e)
  (hQ:∀ h',eF h' I (.ref T) (i+1) a es.size ep→Heap.SameBut I s.heap h'→Q (some e.2) { s with heap:=h' }) :
  wpAny (model prog w) A (pyNext (.ref I)) Q E s:=by
 obtain ⟨o,ho,hc,hd⟩:=id hit
 unfold pyNext
 refine wpAny_bind (wpAny_attempt (wpAny_callSpecial?_slot (name:=Str.ofString "__next__") hit.typeIs bx (wpAny_call_entry bx hit.typeIs dm ?_ (dP _))))
 unfold Builtin.«set_iterator.__next__»
 refine wpAny_bind (wpAny_pure ?_)
 refine wpAny_bind (wpAny_fieldsOf ho hd ?_)
 dsimp only
 unfold setEntries
 refine wpAny_bind (wpAny_bind (b8 hs (wpAny_pure ?_)))
 rw [if_neg (by simp)]
 refine wpAny_bind (j0 ht ?_)
 simp only [Int.toNat_natCast,List.getElem?_toArray,List.getElem?_map,hp,Option.map_some]
 unfold setNextDrawn
 refine wpAny_bind (wpAny_bind (b8 hs ?_))
 dsimp only
 rw [if_neg (by simp),he]
 refine wpAny_pure ?_
 refine wpAny_bind (wpAny_setField ho hd (by simp) ?_)
 refine wpAny_pure ⟨_,rfl,wpAny_pure (hQ _ ⟨_,Heap.get?_update_self _ ho (Obj.isFreed_of_fields (Obj.data_mapFields hd _)),?_,?_⟩ (Heap.SameBut.update ..))⟩
 ·rw [Obj.cls_mapFields];exact hc
 ·rw [Obj.data_mapFields hd];simp [rawInt]
theorem oq {I a T:Addr} {i ep:Nat} {es:Array (Int×Value)} {t:SetTable} {ps:List Nat} {Q:Option Value→Shared→Prop} (hh:A.handled=none) (hit:eF s.heap I (.ref T) i a es.size ep) (hs:cU s.heap a es ep t) (ht:TupAt s.heap T ps) (hp:ps[i]?=none)
  (hQ:∀ h',Heap.ExtBut I s.heap h'→Q none { s with heap:=h' }) :
  wpAny (model prog w) A (pyNext (.ref I)) Q E s:=by
 obtain ⟨o,ho,hc,hd⟩:=id hit
 unfold pyNext
 refine wpAny_bind (wpAny_attempt (wpAny_callSpecial?_slot (name:=Str.ofString "__next__") hit.typeIs bx (wpAny_call_entry bx hit.typeIs dm ?_ (dP _))))
 unfold Builtin.«set_iterator.__next__»
 refine wpAny_bind (wpAny_pure ?_)
 refine wpAny_bind (wpAny_fieldsOf ho hd ?_)
 dsimp only
 unfold setEntries
 refine wpAny_bind (wpAny_bind (b8 hs (wpAny_pure ?_)))
 rw [if_neg (by simp)]
 refine wpAny_bind (j0 ht ?_)
 simp only [Int.toNat_natCast,List.getElem?_toArray,List.getElem?_map,hp,Option.map_none]
 refine wpAny_bind (wpAny_setField ho hd (by simp) ?_)
 refine wpAny_bind (wpAny_setField (Heap.get?_update_self _ ho (Obj.isFreed_of_fields (Obj.data_mapFields hd _))) (Obj.data_mapFields hd _) (by simp) ?_)
 refine wpAny_bind ?_
 simp only [newExc,newTuple]
 refine wpAny_bind (wpAny_newObj_type ?_ (by size_fits))
 refine wpAny_bind (m:=firstArgMember _ _) (wpAny_of_eq (a:=Value.none) (by first | rfl | (simp only [firstArgMember];rfl)) ?_)
 refine wpAny_newObj_type ?_ (by size_fits)
 simp only [raiseNew]
 refine wpAny_bind (wpAny_handled ?_)
 rw [show A.in1.handled=none from hh]
 refine wpAny_bind (wpAny_pure (wpAny_throw ?_))
 refine wpAny_bind (wpAny_isInstance (T:="StopIteration") (b:=true) ⟨_,Heap.get?_push_size _ rfl,rfl⟩ isSubtype_stop ?_)
 exact wpAny_pure (hQ _ ((((Heap.SameBut.update ..).trans (Heap.SameBut.update ..)).extBut.push _).push _))
end
end L4
namespace L4
open PySem PySem.Spec PyProof.Rows L2 L3
theorem eF.at {h h':Heap} {I a:Addr} {first:Value} {i n ep:Nat} (x:eF h I first i a n ep) (e:∀ o,h.get? I=some o→h'.get? I=some o):eF h' I first i a n ep:=let ⟨o,ho,r⟩:=x;⟨o,e _ ho,r⟩
theorem cU.at {h h':Heap} {a:Addr} {es:Array (Int×Value)} {ep:Nat} {t:SetTable} (x:cU h a es ep t) (e:∀ o,h.get? a=some o→h'.get? a=some o):cU h' a es ep t:=let ⟨o,ho,r⟩:=x;⟨o,e _ ho,r⟩
theorem TupAt.at {h h':Heap} {T:Addr} {ps:List Nat} (x:TupAt h T ps) (e:∀ o,h.get? T=some o→h'.get? T=some o):TupAt h' T ps:=let ⟨o,c,ho,r⟩:=x;⟨o,c,e _ ho,r⟩
section
variable {prog:Program} {w:World} {A:Around} {E:Value→Shared→Prop} {s:Shared}
theorem AM {a:Addr} {es:Array (Int×Value)} {ep:Nat} {t:SetTable} {Q:Value→Shared→Prop} (hs:cU s.heap a es ep t) (hz:es.size≤sizeLine)
  (h1:(!w.params.followText "set-order" && (!t.plain && decide (es.size > 1)))=false→Q (.ref s.heap.objs.size) { s with heap:=s.heap.push { cls:=.type "set_iterator",data:=.fields #[.int (0:Nat) 0,.int (0:Nat) 0,.ref a,.int es.size 0,.int ep 0] } })
  (h2:w.params.followText "set-order" = false→∀ (ps:List Nat) d',ps.Perm (List.range es.size)→Q (.ref (s.heap.objs.size+1)) { s with heap:=(s.heap.push { cls:=.type "tuple",data:=.seq ((ps.map fun (i:Nat)=>Value.int i 0).toArray) }).push { cls:=.type "set_iterator",data:=.fields #[.ref s.heap.objs.size,.int (0:Nat) 0,.ref a,.int es.size 0,.int ep 0] },drawn:=d' }) :
  wpAny (model prog w) A (pyIter (.ref a)) Q E s:=by
 have hT:=hs.typeIs
 refine wpAny_pyIter_slot hT F.slot_set_iter (wpAny_call_entry F.slot_set_iter hT pN ?_ (F.args_set_iter_1 _))
 unfold Builtin.«frozenset.__iter__» Builtin.Frozenset.slot0 slotArgs
 simp only [List.isEmpty_nil,Bool.not_true,Bool.false_eq_true,↓reduceIte,bind_assoc,List.length_nil,bne_self_eq_false]
 unfold Builtin.Frozenset.addrOf Builtin.Frozenset.sizeOf setEntries
 refine wpAny_bind (wpAny_pure ?_)
 try dsimp only
 refine wpAny_bind (wpAny_pure ?_)
 refine wpAny_bind (wpAny_bind (wpAny_bind (b8 hs (wpAny_pure (wpAny_pure ?_)))))
 unfold setDrawn
 refine wpAny_bind (wpAny_bind (b8 hs ?_))
 dsimp only
 refine wpAny_bind (gF (wpAny_pure ?_))
 show wpAny _ _ (if (!w.params.followText "set-order" && (!t.plain && decide (es.size > 1)))=true then _ else _) _ _ _
 cases hm:(!w.params.followText "set-order" && (!t.plain && decide (es.size > 1))) with
 | false=>
  rw [if_neg Bool.false_ne_true]
  refine wpAny_bind (wpAny_pure ?_)
  unfold setEpoch
  refine wpAny_bind (wpAny_bind (b8 hs (wpAny_pure ?_)))
  unfold newFields
  refine wpAny_bind (wpAny_newObj_type (wpAny_pure ⟨_,rfl, "set_iterator",_,⟨_,Heap.get?_push_size _ rfl,rfl⟩,bx.lookup,?_⟩))
  exact h1 hm
 | true=>
  rw [if_pos rfl]
  rw [Bool.and_eq_true,Bool.not_eq_true'] at hm
  refine wpAny_bind (uD _ _ List.length_range fun ps d' hp=>?_)
  have hl:ps.length=es.size:=by rw [hp.length_eq,List.length_range]
  refine wpAny_bind (wpAny_newTuple ?_ (by rw [List.length_map,hl];exact hz))
  unfold setEpoch
  refine wpAny_bind (wpAny_bind (b8 (hs.at fun o e=>Heap.get?_push_of_some _ e) (wpAny_pure ?_)))
  unfold newFields
  refine wpAny_bind (wpAny_newObj_type (wpAny_pure ⟨_,rfl, "set_iterator",_,⟨_,Heap.get?_push_size _ rfl,rfl⟩,bx.lookup,?_⟩))
  have:=h2 hm.1 ps d' hp
  rw [Heap.size_push]
  exact this
theorem sr (hb:w.params.followText "set-order" = true) (hh:A.handled=none) (I a:Addr) (hne:a≠I) (es:Array (Int×Value)) (ep:Nat) (t:SetTable) :
  Walks prog w A I [I,a] [I] es.size (fun i v=>((pickOrder (w.params.setOrder a ep) es).toList.map (·.2))[i]?=some v) (fun i h=>eF h I (.int (0:Nat) 0) i a es.size ep∧cU h a es ep t) where
 sub:=fun b hb=>by simp at hb;simp [hb]
 frame:=fun _ _ _ st hk=>⟨st.1.at fun o e=>hk I (by simp) o e,st.2.at fun o e=>hk a (by simp) o e⟩
 item:=fun i s Q E hi st hQ=>by
  have hl:(pickOrder (w.params.setOrder a ep) es).size=es.size:=by
   rw [← Array.length_toList,(jD _ es).length_eq,Array.length_toList]
  have hi':i < (pickOrder (w.params.setOrder a ep) es).size:=by omega
  refine iO (x:=(pickOrder (w.params.setOrder a ep) es)[i].2) (nx:=0) st.1 st.2 (fun Q E h=>fO hb st.2 (by rw [Array.getElem?_eq_getElem hi'];exact h)) fun h' hit' hs'=>?_
  exact hQ _ h' s.toks (by rw [List.getElem?_map,Array.getElem?_toList,Array.getElem?_eq_getElem hi'];rfl) ⟨hit',st.2.at fun o e=>by rw [hs'.2 a hne];exact e⟩ fun b o hb e=>by rw [hs'.2 b (fun h=>hb (by simp [h]))];exact e
 done:=fun s Q E st hQ=>by
  have hl:(pickOrder (w.params.setOrder a ep) es).size=es.size:=by
   rw [← Array.length_toList,(jD _ es).length_eq,Array.length_toList]
  exact j3 hh st.1 st.2 (fun Q E h=>fO hb st.2 (by rw [Array.getElem?_eq_none (by omega)];exact h)) fun h' he'=>hQ h' s.toks fun b o hb e=>he' b o (fun h=>hb (by simp [h])) e
 self:=fun _ _ _ _ st hQ=>om st.1 hQ
theorem qe (hh:A.handled=none) (I a T:Addr) (hne:a≠I) (hnT:T≠I) (es:Array (Int×Value)) (ep:Nat) (t:SetTable) (ps:List Nat) (hp:ps.Perm (List.range es.size)) :
  Walks prog w A I [I,a,T] [I] es.size (fun i v=>(ps.map fun p=>(es.getD p (0,.none)).2)[i]?=some v) (fun i h=>eF h I (.ref T) i a es.size ep∧cU h a es ep t∧TupAt h T ps) where
 sub:=fun b hb=>by simp at hb;simp [hb]
 frame:=fun _ _ _ st hk=>⟨st.1.at fun o e=>hk I (by simp) o e,st.2.1.at fun o e=>hk a (by simp) o e,st.2.2.at fun o e=>hk T (by simp) o e⟩
 item:=fun i s Q E hi st hQ=>by
  have hl:ps.length=es.size:=by rw [hp.length_eq,List.length_range]
  have hi':i < ps.length:=by omega
  have hpi:ps[i] < es.size:=List.mem_range.mp (hp.mem_iff.mp (List.getElem_mem hi'))
  refine l6 st.1 st.2.1 st.2.2 (List.getElem?_eq_getElem hi') (Array.getElem?_eq_getElem hpi) fun h' hit' hs'=>?_
  exact hQ _ h' s.toks (by rw [List.getElem?_map,List.getElem?_eq_getElem hi',Option.map_some,Array.getD_eq_getD_getElem?,Array.getElem?_eq_getElem hpi];rfl) ⟨hit',st.2.1.at fun o e=>by rw [hs'.2 a hne];exact e,st.2.2.at fun o e=>by rw [hs'.2 T hnT];exact e⟩ fun b o hb e=>by rw [hs'.2 b (fun h=>hb (by simp [h]))];exact e
 done:=fun s Q E st hQ=>by
  have hl:ps.length=es.size:=by rw [hp.length_eq,List.length_range]
  exact oq hh st.1 st.2.1 st.2.2 (List.getElem?_eq_none (by omega)) fun h' he'=>hQ h' s.toks fun b o hb e=>he' b o (fun h=>hb (by simp [h])) e
 self:=fun _ _ _ _ st hQ=>om st.1 hQ
end
end L4
namespace L4
open PySem PySem.Spec PyProof.Rows L2 L3
theorem um (j:Nat):SetTable.below #[j] 0=0:=by simp [SetTable.below,SetTable.below.go]
theorem uh (j:Nat):SetTable.below #[j] (j+1)=1:=by simp [SetTable.below,SetTable.below.go]
theorem xx (k:Nat):SetTable.below #[] k=0:=by simp [SetTable.below,SetTable.below.go]
theorem CM {α : Type} {xs:Array α} (h:xs.size=0):xs=#[]:=Array.eq_empty_of_size_eq_zero h
theorem pZ {α : Type} {xs:Array α} (h:xs.size=1):∃ x,xs=#[x]:=by
 obtain ⟨l⟩:=xs
 match l,h with
 | [x],_=>exact ⟨x,rfl⟩
section
variable {prog:Program} {w:World} {A:Around} {E:Value→Shared→Prop} {s:Shared}
theorem vJ (hb:w.params.followText "set-order" = false) (hh:A.handled=none) (I a:Addr) (hne:a≠I) (es:Array (Int×Value)) (ep:Nat) (t:SetTable) (hf:t.fits es.size=true) (pD:t.led=true) (h1:es.size≤1) :
  Walks prog w A I [I,a] [I] es.size (fun i v=>(es.toList.map (·.2))[i]?=some v) (fun i h=>(∃ sl:Nat,eF h I (.int sl 0) i a es.size ep∧SetTable.below t.place sl=i)∧cU h a es ep t) where
 sub:=fun b hb=>by simp at hb;simp [hb]
 frame:=fun _ _ _ st hk=>⟨st.1.elim fun sl x=>⟨sl,x.1.at fun o e=>hk I (by simp) o e,x.2⟩,st.2.at fun o e=>hk a (by simp) o e⟩
 item:=fun i s Q E hi st hQ=>by
  obtain ⟨⟨sl,hit,hbl⟩,hs⟩:=st
  have hz:es.size=1:=by omega
  obtain ⟨e,rfl⟩:=pZ hz
  have hpz:t.place.size=1:=by
   simp only [SetTable.fits,Bool.and_eq_true,beq_iff_eq] at hf
   exact hf.1
  obtain ⟨j,hj⟩:=pZ hpz
  obtain rfl:i=0:=by omega
  refine iO (x:=e.2) (nx:=j+1) hit hs (fun Q E h=>fV hb hs pD h1 (by rw [hbl,hj];exact h)) fun h' hit' hs'=>?_
  exact hQ _ h' s.toks rfl ⟨⟨j+1,hit',by rw [hj];exact uh j⟩,hs.at fun o e=>by rw [hs'.2 a hne];exact e⟩ fun b o hb e=>by rw [hs'.2 b (fun h=>hb (by simp [h]))];exact e
 done:=fun s Q E st hQ=>by
  obtain ⟨⟨sl,hit,hbl⟩,hs⟩:=st
  exact j3 hh hit hs (fun Q E h=>fV hb hs pD h1 (by rw [hbl,Array.getElem?_eq_none (Nat.le_refl _)];exact h)) fun h' he'=>hQ h' s.toks fun b o hb e=>he' b o (fun h=>hb (by simp [h])) e
 self:=fun _ _ _ _ st hQ=>st.1.elim fun sl x=>om x.1 hQ
end
end L4
namespace L4
open PySem PySem.Spec PyProof.Rows L2 L3
theorem lK {l:List Value} {acc:Array Value} {n:Nat} (h:ItemsOf (fun i v=>l[i]?=some v) acc n) (hl:l.length=n):acc.toList=l:=by
 refine List.ext_getElem? fun i=>?_
 by_cases hi:i < n
 ·have hi':i < acc.size:=by rw [h.1];exact hi
  rw [Array.getElem?_toList,Array.getElem?_eq_getElem hi']
  exact (h.2 i _ (Array.getElem?_eq_getElem hi')).symm
 ·rw [List.getElem?_eq_none (by rw [Array.length_toList,h.1];omega),List.getElem?_eq_none (by omega)]
theorem sR (es:Array (Int×Value)):(List.range es.size).map (fun p=>(es.getD p (0,.none)).2)=es.toList.map (·.2):=by
 refine List.ext_getElem? fun i=>?_
 have e0:es.toList[i]?=es[i]?:=Array.getElem?_toList ..
 rw [List.getElem?_map,List.getElem?_map,e0]
 by_cases hi:i < es.size
 ·rw [List.getElem?_range hi,Array.getElem?_eq_getElem hi,Option.map_some,Option.map_some,Array.getD_eq_getD_getElem?,Array.getElem?_eq_getElem hi];rfl
 ·rw [List.getElem?_eq_none (by rw [List.length_range];omega),Array.getElem?_eq_none (by omega)];rfl
section
variable {prog:Program} {w:World} {A:Around} {E:Value→Shared→Prop} {s:Shared}
theorem lR {a I S:Addr} {fp wr:List Addr} {n:Nat} {P:Nat→Value→Prop} {St:Nat→Heap→Prop} {R:Result→Shared→Prop} {K:PySem.Fin→Shared→Prop} (W:Walks prog w A.in1 I fp wr n P St) (hz:n≤sizeLine) (hSf:S∉fp) (st:St 0 s.heap)
  (hS:s.heap.get? S=some { cls:=.type "list",data:=.seq ([]:List Value).toArray }) (ha:s.TypeIs (.ref a) "set")
  (hK:∀ s2,codeAny (model prog w) A (.builtin "list.extend.loop" ⟨[.ref S,.ref I,.ref S],[]⟩) R s2→K (.again (.builtin "list.extend.loop" ⟨[.ref S,.ref I,.ref S],[]⟩)) s2)
  (k:∀ s' acc c,Moved (S::wr) (fun a b=>b=a) s s'→s'.heap.get? S=some { cls:=.type "list",data:=.seq acc c }→ItemsOf P acc n→R (.ok (.ret (.ref S))) s') :
  wpAny (model prog w) A.in1 (do
   let room ← holding [.ref I] (Builtin.List.listLengthHint (.ref a))
   if (room || ["set", "frozenset", "dict", "dict_keys", "dict_values", "dict_items"].any (Value.type "set" == .type ·))=true then do
     rule "list.extend.makes-room"
     Builtin.List.listTouch (.ref S)
     again (.builtin "list.extend.loop" ⟨[.ref S,.ref I,.ref S],[]⟩)
    else again (.builtin "list.extend.loop" ⟨[.ref S,.ref I,.ref S],[]⟩)) K E s:=by
 refine wpAny_bind (wpAny_holding ?_)
 unfold Builtin.List.listLengthHint
 refine wpAny_bind (wpAny_specialOf ha F.slot_set_len.lookup ?_)
 generalize hid:("set.__len__" : String)=id0
 dsimp only
 rw [show splitId id0=some ("set", "__len__") from by subst hid;decide +kernel]
 subst hid
 dsimp only
 refine wpAny_bind (wpAny_isInstance (b:=true) ha (by rw [isSubtype_type];kernel_rfl) ?_)
 rw [if_neg (by decide)]
 show wpAny _ _ (if true=true then _ else _) _ _ _
 rw [if_pos rfl]
 refine wpAny_bind (wpAny_typeOf ha (wpAny_pure ?_))
 rw [if_pos (by decide)]
 refine wpAny_bind (wpAny_rule ?_)
 refine wpAny_bind ?_
 show wpAny _ A.in1 (updateSeq S (·.push .none) >>= fun _=>updateSeq S (·.pop)) _ _ _
 refine wpAny_bind (wpAny_updateSeq hS rfl ?_)
 have hS2:=Heap.get?_update_self (Obj.mapSeq (·.push Value.none)) hS rfl
 refine wpAny_updateSeq hS2 rfl ?_
 have hS3:=Heap.get?_update_self (Obj.mapSeq (·.pop)) hS2 rfl
 have oth:∀ b o,b≠S→s.heap.get? b=some o→((s.heap.update S (Obj.mapSeq (·.push Value.none))).update S (Obj.mapSeq (·.pop))).get? b=some o:=
  fun b o hb e=>(Heap.get?_update_other _ _ (Ne.symm hb)).trans ((Heap.get?_update_other _ _ (Ne.symm hb)).trans e)
 refine wpAny_pure (hK _ (codeAny_extend_loopS W.toS hz _ hSf _ n 0 _ _ _ rfl (Nat.zero_le _) (W.frame 0 _ _ st fun b hb o e=>oth b o (fun h=>hSf (h▸hb)) e) hS3 (ItemsOf.nil P) fun s' acc' c' hm hS' hacc=>k s' acc' c' ?_ hS' hacc))
 exact ⟨fun b o hb e=>hm.heap b o hb (oth b o (fun h=>hb (by rw [h];exact List.mem_cons_self)) e),hm.gens,hm.drawn,hm.os,hm.toks⟩
theorem rz {a:Addr} {es:Array (Int×Value)} {ep:Nat} {t:SetTable} {Q:List Value→Shared→Prop} (hh:A.handled=none) (hs:cU s.heap a es ep t) (hz:es.size≤sizeLine)
  (hm:w.params.followText "set-order" = false→t.led=true∧(t.plain=false∨es.size≤1))
  (hQ:∀ vals h' d' tk,vals.Perm (es.toList.map (·.2))→s.heap.objs.size < h'.objs.size→(∀ b o,s.heap.get? b=some o→h'.get? b=some o)→Q vals { s with heap:=h',drawn:=d',toks:=tk }) :
  wpAny (model prog w) A (collect (.ref a)) Q E s:=by
 have hla:a < s.heap.objs.size:=by obtain ⟨o,ho,_⟩:=hs;exact Heap.lt_size ho
 have hSa:s.heap.objs.size≠a:=Nat.ne_of_gt hla
 unfold collect
 refine wpAny_bind (wpAny_runValue (codeAny_builtin F.entry_proto_collect ?_))
 rw [Around.under_plainId F.plain_proto_collect _]
 show wpAny _ A.in1 (newList [] >>= fun l=>again (.builtin "list.__iadd__" ⟨[l,.ref a],[]⟩)) _ _ s
 refine wpAny_bind (wpAny_newObj_type ?_)
 refine wpAny_pure ⟨plainId_quiet F.plain_list_iadd _,codeAny_builtin F.entry_list_iadd ?_⟩
 rw [Around.under_plainId F.plain_list_iadd _]
 show wpAny _ A.in1 (Builtin.List.listExtendWith (.ref s.heap.objs.size) (.ref a) (.ref s.heap.objs.size)) _ _ _
 have hsz:(s.heap.push { cls:=.type "list",data:=.seq ([]:List Value).toArray }).objs.size=s.heap.objs.size+1:=Heap.size_push ..
 have hs1:cU (s.heap.push { cls:=.type "list",data:=.seq ([]:List Value).toArray }) a es ep t:=hs.at fun o e=>Heap.get?_push_of_some _ e
 have hS1:(s.heap.push { cls:=.type "list",data:=.seq ([]:List Value).toArray }).get? s.heap.objs.size=some { cls:=.type "list",data:=.seq ([]:List Value).toArray }:=Heap.get?_push_size _ rfl
 have hT:Shared.TypeIs { s with heap:=s.heap.push { cls:=.type "list",data:=.seq ([]:List Value).toArray } } (.ref a) "set" := hs1.typeIs
 have h1:Builtin.List.listSameRef (.ref s.heap.objs.size) (.ref a)=false:=by simp [Builtin.List.listSameRef,hSa]
 unfold Builtin.List.listExtendWith
 refine wpAny_bind (wpAny_typeOf hT ?_)
 rw [if_neg (by rw [h1];decide)]
 refine wpAny_bind (AM hs1 hz (fun hd=>?_) (fun hd ps d' hp=>?_))
 ·cases hb:w.params.followText "set-order" with
  | true=>
   have W:=sr (prog:=prog) (A:=A.in1) hb hh (s.heap.push { cls:=.type "list",data:=.seq ([]:List Value).toArray }).objs.size a (by rw [hsz];exact Nat.ne_of_lt (Nat.lt_succ_of_lt hla)) es ep t
   refine lR W hz (fun z=>?_) ⟨⟨_,Heap.get?_push_size _ rfl,rfl,rfl⟩,hs1.at fun o e=>Heap.get?_push_of_some _ e⟩ (Heap.get?_push_of_some _ hS1) ((hs1.at fun o e=>Heap.get?_push_of_some _ e).elim fun o x=>⟨o,x.1,x.2.1⟩) (fun _ h=>⟨plainId_quiet F.plain_extend_loop _,h⟩) (fun s' acc c mv hS' hacc=>?_)
   ·simp only [hsz,List.mem_cons,List.not_mem_nil,or_false] at z
    rcases z with z | z
    ·exact absurd z (Nat.ne_of_lt (Nat.lt_succ_self _))
    ·exact hSa z
   ·show wpAny _ A (load s.heap.objs.size >>= _) _ _ s'
    refine wpAny_bind (wpAny_load hS' (wpAny_pure ?_))
    obtain ⟨h',g',d2,tk',os'⟩:=s'
    obtain rfl:g'=s.gens:=mv.gens
    obtain rfl:os'=s.os:=mv.os
    refine hQ _ h' d2 tk' ?_ (Heap.lt_size hS') fun b o e=>mv.heap b o (fun z=>?_) (Heap.get?_push_of_some _ (Heap.get?_push_of_some _ e))
    ·have pp:=(jD (w.params.setOrder a ep) es).map (·.2)
     rw [lK hacc (by rw [pp.length_eq,List.length_map,Array.length_toList])]
     exact pp
    ·have hb1:=Heap.lt_size e
     simp only [hsz,List.mem_cons,List.not_mem_nil,or_false] at z
     rcases z with z | z
     ·exact absurd z (Nat.ne_of_lt hb1)
     ·exact absurd z (Nat.ne_of_lt (Nat.lt_succ_of_lt hb1))
  | false=>
   obtain ⟨hl,h2⟩:=hm hb
   have hle:es.size≤1:=by
    rcases h2 with h2 | h2
    ·rw [hb,h2] at hd
     simp at hd
     exact hd
    ·exact h2
   have hf:t.fits es.size=true:=hs.elim fun o x=>x.2.2.2
   have W:=vJ (prog:=prog) (A:=A.in1) hb hh (s.heap.push { cls:=.type "list",data:=.seq ([]:List Value).toArray }).objs.size a (by rw [hsz];exact Nat.ne_of_lt (Nat.lt_succ_of_lt hla)) es ep t hf hl hle
   have b0:SetTable.below t.place 0=0:=by
    have hpz:t.place.size=es.size:=by
     simp only [SetTable.fits,Bool.and_eq_true,beq_iff_eq] at hf
     exact hf.1
    by_cases h0:es.size=0
    ·rw [CM (hpz.trans h0)];exact xx 0
    ·obtain ⟨j,hj⟩:=pZ (hpz.trans (show es.size=1 by omega))
     rw [hj];exact um j
   refine lR W hz (fun z=>?_) ⟨⟨0,⟨_,Heap.get?_push_size _ rfl,rfl,rfl⟩,b0⟩,hs1.at fun o e=>Heap.get?_push_of_some _ e⟩ (Heap.get?_push_of_some _ hS1) ((hs1.at fun o e=>Heap.get?_push_of_some _ e).elim fun o x=>⟨o,x.1,x.2.1⟩) (fun _ h=>⟨plainId_quiet F.plain_extend_loop _,h⟩) (fun s' acc c mv hS' hacc=>?_)
   ·simp only [hsz,List.mem_cons,List.not_mem_nil,or_false] at z
    rcases z with z | z
    ·exact absurd z (Nat.ne_of_lt (Nat.lt_succ_self _))
    ·exact hSa z
   ·show wpAny _ A (load s.heap.objs.size >>= _) _ _ s'
    refine wpAny_bind (wpAny_load hS' (wpAny_pure ?_))
    obtain ⟨h',g',d2,tk',os'⟩:=s'
    obtain rfl:g'=s.gens:=mv.gens
    obtain rfl:os'=s.os:=mv.os
    refine hQ _ h' d2 tk' ?_ (Heap.lt_size hS') fun b o e=>mv.heap b o (fun z=>?_) (Heap.get?_push_of_some _ (Heap.get?_push_of_some _ e))
    ·rw [lK hacc (by rw [List.length_map,Array.length_toList])]
    ·have hb1:=Heap.lt_size e
     simp only [hsz,List.mem_cons,List.not_mem_nil,or_false] at z
     rcases z with z | z
     ·exact absurd z (Nat.ne_of_lt hb1)
     ·exact absurd z (Nat.ne_of_lt (Nat.lt_succ_of_lt hb1))
 ·have hsT:((s.heap.push { cls:=.type "list",data:=.seq ([]:List Value).toArray }).push { cls:=.type "tuple",data:=.seq ((ps.map fun (i:Nat)=>Value.int i 0).toArray) }).objs.size=s.heap.objs.size+1+1:=by rw [Heap.size_push,hsz]
  have W:=qe (prog:=prog) (w:=w) (A:=A.in1) hh ((s.heap.push { cls:=.type "list",data:=.seq ([]:List Value).toArray }).objs.size+1) a (s.heap.push { cls:=.type "list",data:=.seq ([]:List Value).toArray }).objs.size (by rw [hsz];exact Nat.ne_of_lt (Nat.lt_succ_of_lt (Nat.lt_succ_of_lt hla))) (Nat.ne_of_lt (Nat.lt_succ_self _)) es ep t ps hp
  have hI:=Heap.get?_push_size ((s.heap.push { cls:=.type "list",data:=.seq ([]:List Value).toArray }).push { cls:=.type "tuple",data:=.seq ((ps.map fun (i:Nat)=>Value.int i 0).toArray) }) (o:={ cls:=.type "set_iterator",data:=.fields #[.ref (s.heap.push { cls:=.type "list",data:=.seq ([]:List Value).toArray }).objs.size,.int (0:Nat) 0,.ref a,.int es.size 0,.int ep 0] }) rfl
  rw [hsT,← hsz] at hI
  refine lR W hz (fun z=>?_) ⟨⟨_,hI,rfl,rfl⟩,hs1.at fun o e=>Heap.get?_push_of_some _ (Heap.get?_push_of_some _ e),⟨_,_,Heap.get?_push_of_some _ (Heap.get?_push_size _ rfl),rfl⟩⟩ (Heap.get?_push_of_some _ (Heap.get?_push_of_some _ hS1)) ((hs1.at fun o e=>Heap.get?_push_of_some _ (Heap.get?_push_of_some _ e)).elim fun o x=>⟨o,x.1,x.2.1⟩) (fun _ h=>⟨plainId_quiet F.plain_extend_loop _,h⟩) (fun s' acc c mv hS' hacc=>?_)
  ·simp only [hsz,List.mem_cons,List.not_mem_nil,or_false] at z
   rcases z with z | z | z
   ·exact absurd z (Nat.ne_of_lt (Nat.lt_succ_of_lt (Nat.lt_succ_self _)))
   ·exact hSa z
   ·exact absurd z (Nat.ne_of_lt (Nat.lt_succ_self _))
  ·show wpAny _ A (load s.heap.objs.size >>= _) _ _ s'
   refine wpAny_bind (wpAny_load hS' (wpAny_pure ?_))
   obtain ⟨h',g',d2,tk',os'⟩:=s'
   obtain rfl:g'=s.gens:=mv.gens
   obtain rfl:os'=s.os:=mv.os
   refine hQ _ h' d2 tk' ?_ (Heap.lt_size hS') fun b o e=>mv.heap b o (fun z=>?_) (Heap.get?_push_of_some _ (Heap.get?_push_of_some _ (Heap.get?_push_of_some _ e)))
   ·rw [lK hacc (by rw [List.length_map,hp.length_eq,List.length_range]),← sR]
    exact hp.map _
   ·have hb1:=Heap.lt_size e
    simp only [hsz,List.mem_cons,List.not_mem_nil,or_false] at z
    rcases z with z | z
    ·exact absurd z (Nat.ne_of_lt hb1)
    ·exact absurd z (Nat.ne_of_lt (Nat.lt_succ_of_lt (Nat.lt_succ_of_lt hb1)))
end
end L4
namespace L4
open PySem PySem.Spec PyProof.Rows L2 L3
def kD (h:Heap) (a:Addr) (led:Bool):Prop:=∃ o es ep t,h.get? a=some o∧o.data = .set es ep t∧t.led=led∧(t.plain=false∨es.size≤1)
theorem nA {h h':Heap} {a:Addr} {led:Bool} (x:kD h a led) (k:∀ o,h.get? a=some o→h'.get? a=some o):kD h' a led:=let ⟨o,es,ep,t,ho,r⟩:=x;⟨o,es,ep,t,k o ho,r⟩
theorem vK (t:SetTable) (n:Nat):(t.orStandIn n).led=t.led:=by unfold SetTable.orStandIn;split <;> rfl
theorem BS (t:SetTable) (es:Array (Int×Value)) (h:Int) (x:Value):(layNew t es h x).2.1.led=t.led:=by
 unfold layNew
 cases t.freeSlot h with
 | none=>rfl
 | some p=>exact vK _ _
theorem vZ (t:SetTable) (es:Array (Int×Value)) (n:Nat):(relayAll t es n).2.1.led=t.led∧(t.plain=false→(relayAll t es n).2.1.plain=false):=by
 unfold relayAll
 cases hr:t.relaid (es.map (·.1)) n with
 | none=>exact ⟨rfl,fun _=>rfl⟩
 | some p=>
  obtain ⟨t',order⟩:=p
  have e:t'.led=t.led∧t'.plain=t.plain:=by
   unfold SetTable.relaid SetTable.laid at hr
   cases hc:SetTable.layClean (SetTable.sizeAbove n - 1) (es.map (·.1)) with
   | none=>rw [hc] at hr;cases hr
   | some ow=>
    rw [hc] at hr
    cases hr
    exact ⟨rfl,rfl⟩
  dsimp only
  split
  ·exact ⟨e.1,fun z=>e.2.trans z⟩
  ·exact ⟨rfl,fun _=>rfl⟩
section
variable {prog:Program} {w:World} {A:Around} {E:Value→Shared→Prop} {s:Shared}
theorem qm {h:Heap} {a:Addr} {o:Obj} {es es':Array (Int×Value)} {ep:Nat} {t t':SetTable} {led:Bool} (ho:h.get? a=some o) (hd:o.data = .set es ep t) (hl:t'.led=led) (hp:t'.plain=false):kD (h.update a (Obj.putSet es' t')) a led:=by
 refine ⟨_,es',ep+1,t',Heap.get?_update_self (Obj.putSet es' t') ho (by rw [putSet_of es' t' hd];rfl),?_,hl,.inl hp⟩
 rw [putSet_of es' t' hd]
theorem rP {g:Bool→Sem Unit} (hg:∀ (b:Bool) (s1:Shared) (Q':Unit→Shared→Prop),Q' () s1→wpAny (model prog w) A (g b) Q' E s1) {a:Addr} {o:Obj} {es es1:Array (Int×Value)} {ep:Nat} {t t2:SetTable} {S':Str→Bool} {led wasDummy:Bool} {R:Option Bool→Shared→Prop} (ho:s.heap.get? a=some o) (hex:o.ExactSet) (hd:o.data = .set es ep t)
  (hel1:ElemsOf (strKind prog w) es1.toList) (hmem1:∀ k',S' k'=true↔∃ e∈es1.toList,(strKind prog w).is k' e.2=true) (hb1:es1.size < scanBound) (hf2:t2.fits es1.size=true) (hl:t2.led=led) (hp:t2.plain=false)
  (h:∀ h',Heap.SameBut a s.heap h'→h'.SetOf (strKind prog w) a S' es1.size→kD h' a led→R (some true) { s with heap:=h' }) :
  wpAny (model prog w) A (do
    storeSet a es1 t2
    if (!wasDummy && t2.tooFull)=true then do
      g (relayAll t2 es1 (SetTable.grown es1.size)).2.2
      storeSet a (relayAll t2 es1 (SetTable.grown es1.size)).1 (relayAll t2 es1 (SetTable.grown es1.size)).2.1
      pure (some true)
     else pure (some true)) R E s:=by
 refine wpAny_bind (wpAny_storeSet_of ho hd ?_ (fits_of_scanBound hb1))
 obtain ⟨ho1,hS1⟩:=SetOf_store (knd:=strKind prog w) ho hex hd hel1 hmem1 hb1 hf2
 have sb1:=Heap.SameBut.update s.heap a (Obj.putSet es1 t2)
 split
 ·have pp:=relayAll_perm t2 es1 (SetTable.grown es1.size)
  have ff:=relayAll_fits t2 es1 (SetTable.grown es1.size)
  have ll:=vZ t2 es1 (SetTable.grown es1.size)
  generalize relayAll t2 es1 (SetTable.grown es1.size)=r at pp ff ll ⊢
  obtain ⟨es2,t3,gv⟩:=r
  dsimp only at pp ff ll ⊢
  have hz:es2.size=es1.size:=by rw [← Array.length_toList,pp.length_eq,Array.length_toList]
  have hb2:es2.size < scanBound:=by rw [hz];exact hb1
  refine wpAny_bind (hg _ _ _ (wpAny_bind (wpAny_storeSet_of ho1 rfl ?_ (fits_of_scanBound hb2))))
  have hS2:=(SetOf_store (knd:=strKind prog w) (S':=S') ho1 hex rfl (hel1.perm pp) (fun k'=>(hmem1 k').trans ⟨fun ⟨e,he,q⟩=>⟨e,pp.mem_iff.mpr he,q⟩,fun ⟨e,he,q⟩=>⟨e,pp.mem_iff.mp he,q⟩⟩) hb2 ff).2
  rw [hz] at hS2
  exact wpAny_pure (h _ (sb1.trans (Heap.SameBut.update _ a _)) hS2 (qm ho1 rfl (ll.1.trans hl) (ll.2 hp)))
 ·exact wpAny_pure (h _ sb1 hS1 (qm ho hd hl hp))
theorem AF {a:Addr} {S:Str→Bool} {n:Nat} {x:Str} {tk:Tok} {led:Bool} {Q:Bool→Shared→Prop} (hS:s.heap.SetOf (strKind prog w) a S n) (hL:kD s.heap a led) (hroom:n+1 < scanBound)
  (h:∀ h',Heap.SameBut a s.heap h'→h'.SetOf (strKind prog w) a (fun k'=>S k' || decide (k'=x)) (if S x then n else n+1)→kD h' a led→Q (!S x) { s with heap:=h' }) :
  wpAny (model prog w) A (setAddHashed a (.str x tk) ((strKind prog w).hash x)) Q E s:=by
 have hkey:(strKind prog w).is x (.str x tk)=true:=strKind_is _ _ _ _
 have hsc:(Value.str x tk).scannable=true:=rfl
 obtain ⟨o,es,ep,t,ho,hex,hd,hel,hmem,hb,hf,hn⟩:=id hS
 have htl:t.led=led:=by
  obtain ⟨o',es',ep',t',ho',hd',hl,_⟩:=hL
  rw [ho] at ho';cases ho'
  rw [hd] at hd';cases hd'
  exact hl
 unfold setAddHashed setAddHashedIn
 refine wpAny_holding (wpAny_bind (wpAny_setState_of ho hd hf ?_))
 dsimp only
 rw [byScan_of hsc hb hel,if_pos rfl]
 unfold setAddByScan
 refine wpAny_bind (wpAny_bind (wpAny_rule (wpAny_bind (wpAny_setScan_of hkey ho hd hf hel ?_))))
 cases hr:List.findIdx? (fun e=>(strKind prog w).is x e.2) es.toList with
 | some j=>
  obtain ⟨hj,hpj,_⟩:=List.findIdx?_eq_some_iff_getElem.mp hr
  have hSk:S x=true:=(hmem x).mpr ⟨es.toList[j],List.getElem_mem hj,hpj⟩
  refine wpAny_pure (wpAny_pure ?_)
  have:=h s.heap (Heap.SameBut.refl a s.heap) (SetOf_congr hS (fun k'=>?_) (by rw [hSk];rfl)) hL
  ·rw [hSk] at this;exact this
  ·by_cases e:k'=x
   ·rw [e,hSk];rfl
   ·rw [decide_eq_false e,Bool.or_false]
 | none=>
  have hSk:S x=false:=by
   cases hk:S x with
   | false=>rfl
   | true=>
    obtain ⟨e,he,hp⟩:=(hmem x).mp hk
    have:=List.findIdx?_eq_none_iff.mp hr e he
    rw [hp] at this;cases this
  have nH:=layNew_perm t es ((strKind prog w).hash x) (.str x tk)
  have vh:=layNew_fits t es ((strKind prog w).hash x) (.str x tk)
  have pD:=BS t es ((strKind prog w).hash x) (.str x tk)
  dsimp only
  generalize hL1:layNew t es ((strKind prog w).hash x) (.str x tk)=L1 at nH vh pD ⊢
  obtain ⟨es1,t1,wasDummy,gave⟩:=L1
  dsimp only at nH vh pD ⊢
  rw [Array.toList_push] at nH
  have hel1:=(hel.push hkey hsc).perm nH
  have hmem1:∀ k',(S k' || decide (k'=x))=true↔∃ e∈es1.toList,(strKind prog w).is k' e.2=true:=mem_push_iff hkey hmem nH
  have hsz1:es1.size=n+1:=by rw [← Array.length_toList,nH.length_eq,List.length_append,Array.length_toList,hn];rfl
  have hb1:es1.size < scanBound:=by rw [hsz1];exact hroom
  have hend:∀ h',Heap.SameBut a s.heap h'→h'.SetOf (strKind prog w) a (fun k'=>S k' || decide (k'=x)) es1.size→kD h' a led→Q true { s with heap:=h' }:=fun h' q1 q2 q3=>by
   have:=h h' q1
   rw [hSk,← hsz1] at this
   exact this q2 q3
  have hgw:∀ (b:Bool) (s1:Shared) (Q':Unit→Shared→Prop),Q' () s1→wpAny (model prog w) A (match b with | true=>rule "set.scan.the-table-gave-way" | false=>pure ()) Q' E s1:=fun b s1 Q' hq=>by cases b <;> first | exact wpAny_pure hq | exact wpAny_rule hq
  refine wpAny_bind (hgw _ _ _ ?_)
  split
  ·refine wpAny_bind ?_
   rw [hashByValue_scannable 8 hsc]
   refine wpAny_pure ?_
   rw [show plainKind (Value.str x tk)=false from rfl,if_neg Bool.false_ne_true]
   exact rP (t2:={ t1 with plain:=false }) hgw ho hex hd hel1 hmem1 hb1 (SetTable.fits_plain_off vh) (pD.trans htl) rfl fun h' q1 q2 q3=>wpAny_pure (hend h' q1 q2 q3)
  ·rename_i hpl
   refine wpAny_bind (wpAny_pure ?_)
   rw [if_pos rfl]
   exact rP (t2:=t1) hgw ho hex hd hel1 hmem1 hb1 vh (pD.trans htl) (by simpa using hpl) fun h' q1 q2 q3=>wpAny_pure (hend h' q1 q2 q3)
end
end L4
namespace L4
open PySem PySem.Spec PyProof.Rows L2 L3
section
variable {prog:Program} {w:World} {A:Around} {E:Value→Shared→Prop} {s:Shared} {R:Result→Shared→Prop} {I S:Addr} {fp wr:List Addr} {G:Array GenState→Array GenState→Prop} {P:Nat→Value→Prop} {St:Nat→Shared→Prop} {xs:List Str}
theorem AY {led:Bool} (W:WalksS prog w A.in1 I fp wr G xs.length P St) (hSf:S∉fp) (hval:∀ i v,P i v→∃ x t,xs[i]?=some x∧v = .str x t) (hb:xs.length+1 < scanBound) :
  ∀ (r i:Nat) (s:Shared),xs.length - i=r→i≤xs.length→St i s→s.heap.SetOf (strKind prog w) S (fun k=>decide (k∈aE [] (xs.take i))) (aE [] (xs.take i)).length→kD s.heap S led →
   (∀ s',Moved (S::wr) G s s'→s'.heap.SetOf (strKind prog w) S (fun k=>decide (k∈aE [] xs)) (aE [] xs).length→kD s'.heap S led→R (.ok (.ret .none)) s') →
   codeAny (model prog w) A (.builtin "set.update.loop" ⟨[.ref S,.ref I],[]⟩) R s:=by
 have hSw:S∉wr:=fun h=>hSf (W.sub _ h)
 have up:∀ b∈wr,b∈S::wr:=fun b hb=>List.mem_cons_of_mem _ hb
 intro r
 induction r with
 | zero=>
  intro i s hr hi st hS hL k
  obtain rfl:i=xs.length:=by omega
  rw [List.take_length] at hS
  refine codeAny_builtin F.entry_set_update_loop ?_
  rw [Around.under_plainId F.plain_set_update_loop _]
  show wpAny _ A.in1 (pyNext (.ref I) >>= _) _ _ s
  refine wpAny_bind (W.done s _ _ st fun s' hm=>?_)
  exact wpAny_pure (k s' (hm.mono up) (gM hS fun o e=>hm.heap S o hSw e) (nA hL fun o e=>hm.heap S o hSw e))
 | succ r ih=>
  intro i s hr hi st hS hL k
  have hlt:i < xs.length:=by omega
  refine codeAny_builtin F.entry_set_update_loop ?_
  rw [Around.under_plainId F.plain_set_update_loop _]
  show wpAny _ A.in1 (pyNext (.ref I) >>= _) _ _ s
  refine wpAny_bind (W.item i s _ _ hlt st fun v s1 hP st1 hm=>?_)
  obtain ⟨x,t,hx,rfl⟩:=hval i v hP
  have hS1:=gM hS fun o e=>hm.heap S o hSw e
  have hL1:=nA hL fun o e=>hm.heap S o hSw e
  have hl:=eu (xs.take i) []
  rw [List.length_take] at hl
  show wpAny _ A.in1 (holding [Value.str x t] (setAdd S (.str x t)) >>= _) _ _ s1
  refine wpAny_bind (wpAny_holding ?_)
  unfold setAdd
  refine wpAny_holding (wpAny_bind ((strKind prog w).pyHash (k:=x) (strKind_is _ _ _ _) ?_))
  refine AF (s:={ s1 with toks:=s1.toks+1 }) hS1 hL1 (by simp at hl;omega) fun h2 same hS2 hL2=>?_
  have hS3:h2.SetOf (strKind prog w) S (fun k=>decide (k∈aE [] (xs.take (i+1)))) (aE [] (xs.take (i+1))).length:=by
   refine SetOf_congr hS2 (fun k'=>?_) ?_
   ·rw [eW hx]
    by_cases c:x∈aE [] (xs.take i)
    ·rw [if_pos c]
     by_cases e:k'=x
     ·subst e;simp [c]
     ·simp [e]
    ·rw [if_neg c];simp [List.mem_append]
   ·rw [eW hx]
    by_cases c:x∈aE [] (xs.take i)
    ·rw [if_pos c,if_pos (decide_eq_true c)]
    ·rw [if_neg c,if_neg (by rw [decide_eq_false c];exact Bool.false_ne_true),List.length_append,List.length_singleton]
  refine wpAny_pure ⟨plainId_quiet F.plain_set_update_loop _,ih (i+1) _ (by omega) hlt (W.frame _ s1 _ _ st1 (Nat.le_succ _) fun b hb o e=>?_) hS3 hL2 fun s' hm' hS' hL'=>?_⟩
  ·rw [same.2 b (fun h:b=S=>hSf (by rw [← h];exact hb))];exact e
  ·refine k s' (Moved.trans W.gtrans ((hm.mono up).then_heap (Nat.le_succ _) fun b o hb e=>?_) hm') hS' hL'
   rw [same.2 b (fun h:b=S=>hb (by rw [h];exact List.mem_cons_self))];exact e
theorem qA (a:Value) {Q1:Value→Shared→Prop} (h:Q1 (.ref s.heap.objs.size) { s with heap:=s.heap.push { cls:=.type "set",dict:=none,data:=.set #[] 0 (.fresh 0 0 (!w.params.followText "set-order")) } }) :
  codeAny (model prog w) A (.call (.builtin "set.__new__") ⟨[.type "set",a],[]⟩) (wants Q1 E) s:=by
 refine codeAny_of_tree ?_
 show wpAny _ A.in1 (do checkBuiltinCall "set.__new__" ⟨[.type "set",a],[]⟩;again (.builtin "set.__new__" ⟨[.type "set",a],[]⟩)) _ _ s
 refine wpAny_bind (wpAny_of_eq (F.newCall_set_1 a) (wpAny_pure ⟨plainId_quiet F.plain_set_new _,codeAny_builtin F.entry_set_new ?_⟩))
 rw [Around.under_plainId F.plain_set_new _]
 unfold Builtin.«set.__new__» Builtin.Frozenset.newClass
 have hsub:=sub_set_self
 obtain ⟨hp,g,d,tk,os⟩:=s
 dsimp only
 wp_walk
 refine wpAny_askSetting (wpAny_pure ?_)
 dsimp only
 simp only [newObj]
 refine wpAny_bind (wpAny_alloc (wpAny_pure ?_))
 exact wpAny_pure h
set_option maxRecDepth 100000 in
set_option maxHeartbeats 3200000 in
theorem sM {l:Addr} {items:Array Value} {Q:Value→Shared→Prop} (hh:A.handled=none) (hl:s.heap.IsList l items) (hn:items.size=xs.length) (hi:∀ (i:Nat) (v:Value),items[i]?=some v→∃ x t,xs[i]?=some x∧v=Value.str x t) (hb:xs.length+1 < scanBound)
  (h:∀ (h':Heap) (tk:Nat),h'.SetOf (strKind prog w) s.heap.objs.size (fun k=>decide (k∈aE [] xs)) (aE [] xs).length→kD h' s.heap.objs.size (!w.params.followText "set-order")→(∀ b o,s.heap.get? b=some o→h'.get? b=some o)→Q (.ref s.heap.objs.size) { s with heap:=h',toks:=tk }) :
  wpAny (model prog w) A (call (.type "set") [.ref l]) Q E s:=by
 obtain ⟨c,tl,hmro⟩:=F.called_set.mro
 have hmade:=F.called_set.made
 have hsub:=F.called_set.sub
 have h1:=F.called_set.notType
 have h2:=F.called_set.canCreate
 have hct:=F.typeCall_set_1 (.ref l)
 refine wpAny_call (codeAny_of_tree ?_)
 show wpAny _ _ (callAny (.type "set") _) _ _ _
 refine wpAny_pure ⟨Code.quiet_builtin _ (by decide +kernel),codeAny_builtin F.entry_type_call ?_⟩
 rw [Around.under_plain (weight_type_call_type "set" [.ref l] []) rfl]
 repeat (any_goals (first | assumption | wp_step))
 refine codeAny_mono (qA (.ref l) (E:=E) (Q1:=fun obj s₁=>∃ led:Bool,led=(!w.params.followText "set-order")∧obj = .ref s.heap.objs.size∧s₁={ s with heap:=s.heap.push { cls:=.type "set",dict:=none,data:=.set #[] 0 (.fresh 0 0 led) } }) ⟨_,rfl,rfl,rfl⟩) fun r s₁ hr=>?_
 rcases r with e | fl
 ·exact hr
 cases fl with
 | ret obj=>
  obtain ⟨led,eled,rfl,rfl⟩:=hr
  generalize ho:({ cls:=.type "set",dict:=none,data:=.set #[] 0 (.fresh 0 0 led) }:Obj)=so at *
  have hS:(s.heap.push so).get? s.heap.objs.size=some so:=Heap.get?_push_size _ (by rw [← ho];rfl)
  have hT:Shared.TypeIs { s with heap:=s.heap.push so } (.ref s.heap.objs.size) "set" := ⟨_,hS,by rw [← ho]⟩
  have hli:=F.called_set.init.lookup
  have hbi:=F.called_set.init.bind (.ref s.heap.objs.size)
  repeat (any_goals (first | assumption | wp_step))
  refine codeAny_mono (codeAny_call_builtin (R:=wants (fun r s₂=>r = .none∧∃ h' tk,s₂={ s with heap:=h',toks:=tk }∧h'.SetOf (strKind prog w) s.heap.objs.size (fun k=>decide (k∈aE [] xs)) (aE [] xs).length∧kD h' s.heap.objs.size led∧∀ b o,s.heap.get? b=some o→h'.get? b=some o) E) F.called_set.init.plain F.entry_set_init (check_set_init_1 hT ?_)) fun r₂ s₂ hr₂=>?_
  ·have hlS:l < s.heap.objs.size:=by obtain ⟨_,e,_⟩:=hl;exact Heap.lt_size e
   subst ho
   have hl1:=hl.push { cls:=.type "set",dict:=none,data:=.set #[] 0 (.fresh 0 0 led) }
   obtain ⟨⟨lc,ld,ldat,lsl⟩,e1,e2,nl,e3⟩:=id hl1
   simp only at e2 e3
   subst e2 e3
   have Gp:=F.sub_list_set
   have Gq:=F.sub_list_frozenset
   have hne:(Value.type "list" == Value.type "dict")=false:=by decide
   unfold Builtin.«set.__init__» noKeywords Builtin.Frozenset.updateFrom
   generalize hPI:pyIter=PI
   wp_walk
   subst hPI
   refine wpAny_pyIter_list hl1 ?_
   refine wpAny_bind (wpAny_runValue ?_)
   have hsz:(s.heap.push { cls:=.type "set",dict:=none,data:=.set #[] 0 (.fresh 0 0 led) }).objs.size=s.heap.objs.size+1:=Heap.size_push ..
   have W:=(Walks.list (prog:=prog) (w:=w) (A:=A.in1.in1.in1) (by simp [hh]) (s.heap.push { cls:=.type "set",dict:=none,data:=.set #[] 0 (.fresh 0 0 led) }).objs.size l (by rw [hsz];exact Nat.ne_of_lt (Nat.lt_succ_of_lt hlS)) items).toS
   rw [hn] at W
   refine AY (led:=led) (xs:=xs) W (by rw [hsz];simp only [List.mem_cons,List.not_mem_nil,or_false,not_or];exact ⟨Nat.ne_of_lt (Nat.lt_succ_self _),Nat.ne_of_gt hlS⟩) (fun i v hv=>hi i v hv) hb _ 0 _ rfl (Nat.zero_le _) ⟨⟨_,Heap.get?_push_size _ rfl,rfl,rfl⟩,hl1.push _⟩ ?_ ⟨_,_,_,_,Heap.get?_push_of_some _ hS,rfl,rfl,.inr (Nat.zero_le _)⟩ fun s' hm hS' hL'=>?_
   ·exact SetOf_congr ((setObjOf_fresh (knd:=strKind prog w) led).setOf (Heap.get?_push_of_some _ hS) (by unfold scanBound;decide)) (fun _=>rfl) rfl
   ·obtain ⟨h',g',d',tk',os'⟩:=s'
    obtain rfl:g'=s.gens:=hm.gens
    obtain rfl:d'=s.drawn:=hm.drawn
    obtain rfl:os'=s.os:=hm.os
    refine wpAny_pure (wpAny_pure ⟨rfl,h',tk',rfl,hS',hL',fun b o e=>?_⟩)
    have hb1:=Heap.lt_size e
    exact hm.heap b o (by rw [hsz];simp only [List.mem_cons,List.not_mem_nil,or_false,not_or];exact ⟨Nat.ne_of_lt hb1,Nat.ne_of_lt (Nat.lt_succ_of_lt hb1)⟩) (Heap.get?_push_of_some _ (Heap.get?_push_of_some _ e))
  ·rcases r₂ with e | fl₂
   ·exact hr₂
   cases fl₂ with
   | ret r=>
    obtain ⟨rfl,h',tk,rfl,hS',hL',hk'⟩:=hr₂
    repeat (any_goals (first | assumption | wp_step))
    exact h _ _ hS' (eled▸hL') hk'
   | _=>exact hr₂.elim
 | _=>exact hr.elim
end
end L4
namespace L4
open PySem PySem.Spec PyProof.Rows L2 L3
theorem i0 {α : Type} [DecidableEq α]:∀ {ws ss:List α},ws.Nodup→(∀ x∈ws,x∈ss)→ss.length=ws.length→ss.Perm ws
 | [],ss,_,_,h=>by rw [List.length_eq_zero_iff.mp h]
 | x::ws,ss,nd,hm,h=>by
  rw [List.nodup_cons] at nd
  have hx:=hm x List.mem_cons_self
  refine (List.perm_cons_erase hx).trans (List.Perm.cons x (i0 nd.2 (fun y hy=>(List.mem_erase_of_ne (fun z:y=x=>nd.1 (by rw [← z];exact hy))).mpr (hm y (List.mem_cons_of_mem _ hy))) ?_))
  have:=List.length_erase_of_mem hx
  rw [List.length_cons] at h
  omega
theorem lY:∀ (xs acc:List Str) (x:Str),x∈aE acc xs↔x∈acc∨x∈xs
 | [],acc,x=>by simp [aE]
 | y::xs,acc,x=>by
  show x∈aE (if y∈acc then acc else acc++[y]) xs↔_
  rw [lY xs]
  by_cases c:y∈acc
  ·rw [if_pos c,List.mem_cons]
   refine ⟨fun h=>h.elim .inl fun h=>.inr (.inr h),fun h=>h.elim .inl fun h=>h.elim (fun e=>.inl (e▸c)) .inr⟩
  ·rw [if_neg c,List.mem_append,List.mem_singleton,List.mem_cons,or_assoc]
theorem dQ:∀ (xs acc:List Str),acc.Nodup→(aE acc xs).Nodup
 | [],acc,h=>h
 | y::xs,acc,h=>by
  show (aE (if y∈acc then acc else acc++[y]) xs).Nodup
  by_cases c:y∈acc
  ·rw [if_pos c];exact dQ xs acc h
  ·rw [if_neg c]
   refine dQ xs _ (List.nodup_append.mpr ⟨h,by simp,fun a ha b hb z=>c ?_⟩)
   rw [List.mem_singleton.mp hb] at z
   exact z▸ha
theorem jy:∀ (l:List Value),(∀ v∈l,∃ x t,v = .str x t)→∃ ss,StrsAre l ss
 | [],_=>⟨[],.nil⟩
 | v::l,h=>by
  obtain ⟨ss,hs⟩:=jy l fun u hu=>h u (List.mem_cons_of_mem _ hu)
  obtain ⟨x,t,rfl⟩:=h v List.mem_cons_self
  exact ⟨x::ss,.cons x t hs⟩
theorem kZ:∀ {l:List Value} {ss:List Str} {x:Str} {t:Tok},StrsAre l ss→Value.str x t∈l→x∈ss
 | _,_,x,t,.nil,h=>by simp at h
 | _,_,x,t,.cons y u r,h=>by
  rcases List.mem_cons.mp h with h | h
  ·cases h;exact List.mem_cons_self
  ·exact List.mem_cons_of_mem _ (kZ r h)
theorem eN:∀ {l:List Value} {ss:List Str},StrsAre l ss→l.length=ss.length
 | _,_,.nil=>rfl
 | _,_,.cons _ _ r=>by rw [List.length_cons,List.length_cons,eN r]
section
variable {prog:Program} {w:World} {A:Around} {E:Value→Shared→Prop} {s:Shared}
theorem yj {a:Addr} {ws:List Str} {Q:Value→Shared→Prop} (hh:A.handled=none) (hS:s.heap.SetOf (PySem.strKind prog w) a (fun k=>decide (k∈ws)) ws.length) (hL:kD s.heap a (!w.params.followText "set-order")) (hnd:ws.Nodup) (h64:ws.length < 64)
  (h:∀ (h':Heap) (l:Addr) d' tk (out:List Value) (ms:List Str) (e:Nat),s.heap.objs.size≤l→h'.get? l=some (seqObj "list" out.toArray e)→StrsAre out ms→ms.Perm ws→sortedS ms=true→(∀ b o,s.heap.get? b=some o→h'.get? b=some o)→Q (.ref l) { s with heap:=h',drawn:=d',toks:=tk }) :
  wpAny (model prog w) A (call (.builtin "sorted") [.ref a]) Q E s:=by
 obtain ⟨o,es,ep,t,ho,hex,hd,hel,hmem,hb,hf,hn⟩:=id hS
 have hs:cU s.heap a es ep t:=⟨o,ho,hex.1,hd,hf⟩
 have hm:w.params.followText "set-order" = false→t.led=true∧(t.plain=false∨es.size≤1):=fun hb=>by
  obtain ⟨o',es',ep',t',ho',hd',hl,hp⟩:=hL
  rw [ho] at ho';cases ho'
  rw [hd] at hd';cases hd'
  exact ⟨by rw [hl,hb];rfl,hp⟩
 obtain ⟨ss0,hss⟩:=jy (es.toList.map (·.2)) fun v hv=>by
  obtain ⟨e,he,rfl⟩:=List.mem_map.mp hv
  obtain ⟨⟨k,hk,_⟩,_⟩:=hel e he
  obtain ⟨u,hu⟩:=Value.isStrOf_shape hk
  exact ⟨k,u,hu⟩
 have hp0:ss0.Perm ws:=by
  refine i0 hnd (fun x hx=>?_) ?_
  ·obtain ⟨e,he,hk⟩:=(hmem x).mp (decide_eq_true hx)
   obtain ⟨u,hu⟩:=Value.isStrOf_shape hk
   exact kZ hss (List.mem_map.mpr ⟨e,he,hu⟩)
  ·rw [← eN hss,List.length_map,Array.length_toList,hn]
 refine Calls.call_function_entry kind_sorted plain_sorted entry_sorted (args_sorted1 _) ?_
 unfold Builtin.«sorted»
 refine wpAny_bind (m:=checkCount "sorted" 1 1 _) (wpAny_pure ?_)
 refine wpAny_bind (rz (by exact hh) hs (by rw [hn,sizeLine_eq];omega) hm fun vals h1 d1 tk1 hpv hlt1 hk1=>?_)
 obtain ⟨ss1,hs1⟩:=jy vals fun v hv=>by
  obtain ⟨e,he,rfl⟩:=List.mem_map.mp (hpv.mem_iff.mp hv)
  obtain ⟨⟨k,hk,_⟩,_⟩:=hel e he
  obtain ⟨u,hu⟩:=Value.isStrOf_shape hk
  exact ⟨k,u,hu⟩
 have hp1:ss1.Perm ws:=by
  refine i0 hnd (fun x hx=>?_) ?_
  ·obtain ⟨e,he,hk⟩:=(hmem x).mp (decide_eq_true hx)
   obtain ⟨u,hu⟩:=Value.isStrOf_shape hk
   exact kZ hs1 (hpv.mem_iff.mpr (List.mem_map.mpr ⟨e,he,hu⟩))
  ·rw [← eN hs1,hpv.length_eq,List.length_map,Array.length_toList,hn]
 have hl1:vals.length < 64:=by rw [eN hs1,hp1.length_eq];exact h64
 refine wpAny_bind (wpAny_newList ?_ (by rw [sizeLine_eq];omega))
 have hoL:(h1.push (seqObj "list" vals.toArray 0)).get? h1.objs.size=some (seqObj "list" vals.toArray 0):=Heap.get?_push_size _ rfl
 show wpAny _ _ _ _ _ { s with heap:=h1.push (seqObj "list" vals.toArray 0),drawn:=d1,toks:=tk1 }
 refine wpAny_bind (wpAny_holding (wpAny_call_entry slot_list_sort ⟨_,hoL,rfl⟩ entry_list_sort (list_sort_treeK strKind_oneLt hoL hs1.keysOf (fun v₁ v₂ rest e=>keyKind_strs (by rw [← e];exact hs1)) hl1 fun st' a1 a2=>⟨_,rfl,?_⟩) (args_list_sort _)))
 obtain ⟨ms,b1,b2,b3⟩:=sorted_out_str hs1 a1 a2
 obtain ⟨e,he⟩:=sortedHeap_at (vs:=vals) (out:=(arrOf st').map (·.2)) hoL
 refine wpAny_pure ⟨_,rfl,h _ _ d1 tk1 _ ms e (Nat.le_of_lt hlt1) (by rw [Array.toArray_toList];exact he) b1 (b2.trans hp1) b3 fun b o hb=>?_⟩
 have hb1:=hk1 b o hb
 have hlt:=Heap.lt_size hb1
 rw [sortedHeap_old (Nat.ne_of_lt hlt) (by rw [size_push'];exact Nat.lt_succ_of_lt hlt),Heap.get?_push_ne _ _ _ (Nat.ne_of_lt hlt)]
 exact hb1
end
end L4
namespace L4
open PySem PySem.Spec PyProof.Rows L2 L3
def lA (K:PySem.W.Frag) (x:V) (H:Hp) (Q:VK):Prop:=∃ (a:Addr) (xs:List Str),x = .ref a∧SqL K H a (xs.map V.str)∧xs.length < 64∧∀ (l:Addr) (ms:List Str),H l=none→ms.Perm (aE [] xs)→sortedS ms=true→Q (.ref l) (upd H l (.lst (ms.map V.str)))
def qj (K:PySem.W.Frag) (te:TE):TE:=fun σ H Q=>te σ H fun x H1=>lA K x H1 Q
section
variable {X:Cx} {e:Expr} {te:TE} {p p2 pos pos2:Pos}
theorem wO {pins:List (Addr×Obj)} {σ : List (Option V)} {H:Hp} {s:Shared} {d':Drawn} (I:Inv X pins σ H s):Inv X pins σ H { s with drawn:=d' }:=⟨I.ok,I.os,I.bare,I.base,I.loc,I.cell,I.free,I.freeC,I.pin,I.hok,I.len⟩
theorem sY (hc:X.calm=true) (hg:Gl X "sorted") (hg2:Gl X "set") (hm:X.mg "sorted" = none) (hm2:X.mg "set" = none) (he:PE X e te) (hs1:starEach [.Call (.Name "set" p2) [e] [] pos2] X.env=[(false,eval (.Call (.Name "set" p2) [e] [] pos2) X.env)]:=by rfl) (hs2:starEach [e] X.env=[(false,eval e X.env)]:=by rfl) :
  PE X (.Call (.Name "sorted" p) [.Call (.Name "set" p2) [e] [] pos2] [] pos) (qj X.K te):=by
 intro pins s σ H Q I h
 refine wpAny_Call_Name_kw (gj I hg hm L3.nW ?_)
 refine PyProof.Rows.callWith_builtin1 ?_ (by rw [hs1];rfl) (by rfl)
 rw [hs1]
 show wpAny (model X.prog X.w) X.A (spliced ((false,eval (.Call (.Name "set" p2) [e] [] pos2) X.env)::[])) _ X.xe s
 refine Calls.spliced_cons (wpAny_Call_Name_kw (gj I hg2 hm2 L3.AA ?_))
 refine PyProof.Rows.callWith_type1 ?_ (by rw [hs2];rfl) (by rfl)
 rw [hs2]
 show wpAny (model X.prog X.w) X.A (spliced ((false,eval e X.env)::[])) _ X.xe s
 refine Calls.spliced_cons (thn (he pins s σ H _ I h) fun u s1 ⟨x,H1,I1,r1,q1⟩=>Calls.spliced_nil ?_)
 obtain ⟨a,xs,rfl,hq,h64,q⟩:=q1
 cases r1
 obtain ⟨its,rv,pl,hz⟩:=I1.list hq
 have hlen:its.length=xs.length:=by rw [← rv.length,List.length_map]
 have hsb:xs.length+1 < scanBound:=by unfold scanBound;omega
 have hal:=eu xs []
 rw [List.length_nil,Nat.zero_add] at hal
 refine sM (I.ok.hd hc) pl.isList (by rw [List.size_toArray];exact hlen) (fun i v hv=>?_) hsb fun h' tk hS hL hk=>?_
 ·have hv':its[i]?=some v:=by simpa using hv
  have hi:i < xs.length:=by
   have:=(List.getElem?_eq_some_iff.mp hv').1
   omega
  obtain ⟨u,hu,ru⟩:=rv.get (i:=i) (x:=V.str xs[i]) (by rw [List.getElem?_map,List.getElem?_eq_getElem hi];rfl)
  rw [hv'] at hu
  cases hu
  obtain ⟨t,rfl⟩:=ru
  exact ⟨_,t,List.getElem?_eq_getElem hi,rfl⟩
 ·have I2:=I1.kept (t':=tk) hk
  refine Calls.spliced_nil ?_
  refine yj (I.ok.hd hc) hS hL (dQ xs [] List.nodup_nil) (by omega) fun h2 l d2 tk2 out ms e2 hle hat hso hpm hsd hk2=>?_
  have ro:=jv hso
  have hz2:(ms.map V.str).length≤sizeLine:=by rw [List.length_map,hpm.length_eq];exact Nat.le_of_lt (small1000 (by omega))
  exact ⟨.ref l,_,wO (I2.laid (a:=l) (o:=.lst (ms.map V.str)) (t':=tk2) hk2 hle ⟨hz2,out,e2,ro,hat⟩),rfl,q _ ms (I2.hok.fresh hle) hpm hsd⟩
theorem wU {K:PySem.W.Frag} {σ : St} {H:Hp} {Q:VK} (h:te σ H fun x H1=>lA K x H1 Q):qj K te σ H Q:=h
theorem tP {K:PySem.W.Frag} {H:Hp} {Q:VK} {a:Addr} {xs:List Str} (s:SqL K H a (xs.map V.str)) (hl:xs.length < 64) (h:∀ (l:Addr) (ms:List Str) (H':Hp),H l=none→ms.Perm (aE [] xs)→sortedS ms=true→H' l=some (.lst (ms.map V.str))→az H H'→Q (.ref l) H'):lA K (.ref a) H Q:=
 ⟨a,xs,rfl,s,hl,fun l ms nl hp hs=>h l ms _ nl hp hs ao (aQ nl)⟩
end
end L4

namespace L4
open PySem PySem.Spec PyProof.Rows L2 L3 PySem.W
def Its (x:Str):It:=⟨fun i _=>i < x.cps.size,fun i H y H'=>H'=H∧∃ c,x.cps[i]?=some c∧y = .str ⟨#[c]⟩,fun i _=>x.cps.size≤i⟩
theorem xS {P:Program} {w:World} {K:PySem.W.Frag} {tg:Expr} {ty:String} (hty:ty = "str_ascii_iterator" ∨ ty = "str_iterator") (x:Str) (t:Tok) (it:Addr):Turn P w K tg (Its x) [it] it (fun i h=>h.IsStrIter it ty x t i) where
 mem:=by simp
 obj:=fun i h st b hb=>by
  have e:b=it:=by simpa using hb
  subst e
  obtain ⟨o,e,c,d⟩:=st
  exact ⟨o,e,fun v z=>by rw [d] at z;cases z⟩
 keep:=fun i h h' st k=>let ⟨o,e,r⟩:=st;⟨o,k it (by simp) o e,r⟩
 item:=by
  intro X hP hw hK hc i pins s σ H E I hf st hg
  subst hP hw hK
  obtain ⟨f0,f1,f2,f3,f4,f5⟩:=hf it (by simp)
  have hi:i < x.cps.size:=hg
  have go:∀ h' tk,h'.IsStrIter it ty x t (i+1)→(∀ b o,b≠it→s.heap.get? b=some o→h'.get? b=some o)→wpAny (model X.prog X.w) X.A (letOwnedTupleGo tg (.ref it) (.str ⟨#[x.cps[i]]⟩ s.toks)) (fun _ s2=>∃ y H',Inv X pins σ H' s2∧RelV y (.str ⟨#[x.cps[i]]⟩ s.toks)∧(Its x).yld i H y H'∧s2.heap.IsStrIter it ty x t (i+1)∧∀ b∈[it],H' b=none) E { s with heap:=h',toks:=tk }:=fun h' tk st' kk=>by
   have I1:Inv X pins σ H { s with heap:=h',toks:=tk }:=I.turned (fun b o hb e=>kk b o hb e) f0 f1 f3 f4 f5
   obtain ⟨o,e,c,d⟩:=id st'
   exact vn (s:={ s with heap:=h',toks:=tk }) e c d (by rcases hty with rfl | rfl <;> decide) ⟨.str ⟨#[x.cps[i]]⟩,H,I1,⟨_,rfl⟩,⟨rfl,_,by simp [hi],rfl⟩,st',fun b hb=>(hf b hb).1⟩
  rcases hty with rfl | rfl
  ·exact wpAny_pyNext_ascii_item st (c:=x.cps[i]) (by simp [hi]) fun h' st' sb=>⟨_,rfl,go h' _ st' fun b o hb e=>(sb.2 b hb).trans e⟩
  ·exact wpAny_pyNext_wide_item st (c:=x.cps[i]) (by simp [hi]) fun h' st' sb=>⟨_,rfl,go h' _ st' fun b o hb e=>(sb.2 b hb).trans e⟩
 done:=by
  intro X hP hw hK hc i pins s σ H E I hf st hg
  subst hP hw hK
  obtain ⟨f0,f1,f2,f3,f4,f5⟩:=hf it (by simp)
  have hi:x.cps.size≤i:=hg
  rcases hty with rfl | rfl
  ·exact wpAny_pyNext_ascii_end (I.ok.hd hc) st (by simp [hi]) fun h' eb=>⟨rfl,I.turned (t':=s.toks) (fun b o hb e=>eb b o hb e) f0 f1 f3 f4 f5⟩
  ·exact wpAny_pyNext_wide_end (I.ok.hd hc) st (by simp [hi]) fun h' eb=>⟨rfl,I.turned (t':=s.toks) (fun b o hb e=>eb b o hb e) f0 f1 f3 f4 f5⟩
 self:=fun _ _ _ _ _ st h=>by
  rcases hty with rfl | rfl
  ·exact wpAny_pyIter_striter_ascii st h
  ·exact wpAny_pyIter_striter_wide st h
def WkS (x:V) (H:Hp) (R:It→Hp→Prop):Prop:=∃ z,x = .str z∧R (Its z) H
def Gm (tl:TE):TI:=fun σ H R=>tl σ H fun x H1=>WkS x H1 R
section
variable {X:Cx} {tg:Expr}
theorem D6 {l:Expr} {tl:TE} (hl:PE X l tl):PI X tg l (Gm tl):=by
 intro pins s σ H R I h
 refine thn (hl pins s σ H _ I h) fun v s1 ⟨x,H1,I1,r1,z,e,q⟩=>?_
 subst e
 obtain ⟨t,rfl⟩:=r1
 have fin:∀ {ty:String} (hty:ty = "str_ascii_iterator" ∨ ty = "str_iterator"),PIE X pins σ tg R (.ref s1.heap.objs.size) { s1 with heap:=s1.heap.push { cls:=.type ty,data:=.fields #[.str z t,.int 0 0] } }:=fun {ty} hty=>
  ⟨s1.heap.objs.size,[s1.heap.objs.size],_,_,H1,rfl,I1.kept (t':=s1.toks) fun b o e=>Heap.get?_push_of_some _ e,xS hty z t _,⟨_,Heap.get?_push_size _ rfl,rfl,rfl⟩,fun b hb=>by
   have e:b=s1.heap.objs.size:=by simpa using hb
   subst e
   exact I1.wW (Nat.le_refl _) (I1.hok.fresh (Nat.le_refl _)),q⟩
 cases ha:z.cps.all (· < 128)
 ·exact wpAny_pyIter_wide ha (fin (.inr rfl))
 ·exact wpAny_pyIter_ascii ha (fin (.inl rfl))
end
section
variable {K:PySem.W.Frag} {σ : St} {H:Hp} {Q:VK} {D:Ends} {wi:TI} {g:TG} {tb:TS} {ta:TE} {R:It→Hp→Prop} {tc:TT} {te:TE}
theorem GG (h:ta σ H fun x H1=>WkS x H1 R):Gm ta σ H R:=h
theorem EB {z:Str} (h:R (Its z) H):WkS (.str z) H R:=⟨z,rfl,h⟩
theorem z9 {x:Str} {σb:St} (Pv:Nat→List V→Hp→Prop) (h0:Pv 0 [] H) (hl:∀ i ys H,i≤x.cps.toList.length→Pv i ys H→ys.length≤sizeLine)
  (hs:∀ i c ys H,x.cps.toList[i]?=some c→Pv i ys H→g (.str ⟨#[c]⟩) σb H fun σ2 H2=>tc σ2 H2 fun b H3=>if b=true then te σ2 H3 fun y H4=>Pv (i+1) (ys++[y]) H4 else Pv (i+1) ys H3) (hd:∀ ys H,Pv x.cps.toList.length ys H→∀ p,H p=none→Q (.ref p) (upd H p (.lst ys))) :
  vH (Its x) Q σb g tc te H:=by
 refine ⟨fun i m ys H=>m=x.cps.size - i∧i≤x.cps.size∧Pv i ys H,⟨x.cps.size,by simp,Nat.zero_le _,h0⟩,?_⟩
 rintro i m ys H ⟨rfl,hi,p⟩
 refine ⟨hl i ys H (by rw [Array.length_toList];exact hi) p,?_⟩
 by_cases hlt:i < x.cps.size
 ·refine .inr ⟨hlt,Pv (i+1),fun ys' H' p'=>⟨x.cps.size - (i+1),by omega,rfl,hlt,p'⟩,fun y H' ⟨e,c,hc,ey⟩=>?_⟩
  subst e ey
  exact hs i c ys _ (by rw [Array.getElem?_toList];exact hc) p
 ·have e:i=x.cps.size:=by omega
  subst e
  exact .inl ⟨Nat.le_refl _,hd ys H (by rw [Array.length_toList];exact p)⟩
end
end L4

namespace L4
open PySem PySem.Spec PyProof.Rows L2 L3
def yQ (K:PySem.W.Frag):V→List V→Hp→VK→Prop:=fun x xs H Q=>∃ z p ys,x = .str z∧xs=[.ref p]∧SqT K H p (ys.map V.str)∧(ys.map (·.length)).sum+ys.length * z.length≤16777216∧Q (.str (Txt.join z ys)) H
theorem u7 {X:Cx}:MtR X "str.join" (yQ X.K):=by
 intro pins s σ H x xs v us Q I rx rs h
 obtain ⟨z,p,ys,rfl,rfl,hq,hz,q⟩:=h
 obtain ⟨t,rfl⟩:=rx
 obtain ⟨u,rfl,ru⟩:=vals1 rs
 cases ru
 obtain ⟨its,r,pl,_⟩:=I.tuple hq
 exact join_tuple pl (by simpa using iQ r) hz fun t' k=>⟨.str _,H,I.tok _,⟨_,rfl⟩,q⟩
theorem vo {K:PySem.W.Frag} {H:Hp} {Q:VK} {z:Str} {p:Addr} {ys:List Str} (s:SqT K H p (ys.map V.str)) (b:(ys.map (·.length)).sum+ys.length * z.length≤16777216) (h:Q (.str (Txt.join z ys)) H):yQ K (.str z) [.ref p] H Q:=⟨z,p,ys,rfl,rfl,s,b,h⟩
theorem Ec {X:Cx} {K:PySem.W.Frag} (h:X.K=K):OpR X (compareOp .In) (rIn K false):=h▸fh
end L4
namespace Law
open PySem PySem.Spec PyProof.Rows L2 L3 L4
section
variable {P:Program} {w:World} {K:PySem.W.Frag} {mg:Str→Option Value} {base:Heap} {CX:CXT} {CN aR:Addr}
theorem A7:aB ["is_right"] ["is_right"] (aj (top 27)):=by walk_at "s"
def fD (CN:Addr):Sp:=fun vs H Q E=>∃ b:Bool,vs=[.bl b]∧(b=true→Q .non H)∧(b=false→E (.ref CN) none H)
theorem BD (D:Dat K mg "need" "need" (top 27) ["is_right"]) (AI:ux K mg "NoText" CN):Cal P w K mg base (CX1 P w) "need" 1 ["is_right"] (fD CN):=by
 have S:=A7
 refine D.okR S (fun vs H Q E h=>?_) (fun f cdv A outer s H vs Q E hr h=>?_)
 ·obtain ⟨b,rfl,_⟩:=h
  rfl
 obtain ⟨b,rfl,qT,qF⟩:=h
 refine ⟨_,(@ak _ _ _ (@br _ _ _ _ _ _ _ _ (@cB _ _ _ _ (@cH _ _ _ (@pv _ 0 _ _ (by rfl) (by first | exact Or.inl rfl | exact Or.inr (Or.inl rfl) | exact Or.inr (Or.inr rfl)) (by decide) (by decide)) (by intro _;rfl))) (@ak _ _ _ (@qJ _ _ _ _ _ _ _ _ _ _ AI rfl (@aA _ _) (@aa _ _ _ _ _ (@aq _ _ _ _) (@af _) (by rfl)) (by rfl) (by decide) (by rfl) (by rfl))) (@aF _))),?_⟩
 try dsimp only [xcx,bM]
 walk_at "go"
 cases b with
 | true=>
  walk_at "go"
  exact qT rfl
 | false=>
  walk_at "go"
  exact qF rfl
theorem aV {H:Hp} {Q:VK} {E:XK} {b:Bool} (qT:b=true→Q .non H) (qF:b=false→E (.ref CN) none H):fD CN [.bl b] H Q E:=⟨b,rfl,qT,qF⟩
theorem dZ (z:Str):z.length=z.cps.toList.length:=by simp [Str.length]
theorem e48 (b:Nat):(({ cps:=#[b] }:Str)=Str.ofString "0")↔b=48:=by
 constructor
 ·intro z
  have:=congrArg (fun s:Str=>s.cps.toList) z
  have h2:(Str.ofString "0").cps.toList=[48]:=by decide +kernel
  simp only [h2] at this
  simpa using this
 ·rintro rfl;decide +kernel
theorem A4:aB ["word"] ["word"] (aj (top 29)):=by walk_at "s"
def BJ:V→Option Nat
 | .str z=>bS z.cps.toList
 | _=>none
def oF (CN:Addr):Sp:=fun vs H Q E=>∃ v,vs=[v]∧Knd H v∧(∀ z,v = .str z→z.length≤500)∧(∀ n,BJ v=some n→∀ H',az H H'→Q (.int (n:Nat)) H')∧(BJ v=none→∀ H',az H H'→E (.ref CN) none H')
theorem kL {H:Hp} {Q:VK} {v:V} (k:Knd H v) (hT:∀ z,v = .str z→Q (.bl true) H) (hF:(∀ z,v≠.str z)→Q (.bl false) H):Be K [v,.ty "str"] H Q:=by
 cases k with
 | str z=>exact b7 (b:=true) (T:="str") (.str z) rfl (hT z rfl)
 | int i=>exact b7 (b:=false) (T:="str") (.int i) rfl (hF fun _ z=>nomatch z)
 | bl b=>exact b7 (b:=false) (T:="str") (.bl b) rfl (hF fun _ z=>nomatch z)
 | non=>exact b7 (b:=false) (T:="str") .non rfl (hF fun _ z=>nomatch z)
 | lst e9=>exact b7 (b:=false) (T:="str") (.lst e9) rfl (hF fun _ z=>nomatch z)
 | tup e9=>exact b7 (b:=false) (T:="str") (.tup e9) rfl (hF fun _ z=>nomatch z)
 | dK e9=>exact b7 (b:=false) (T:="str") (.dK e9) rfl (hF fun _ z=>nomatch z)
theorem BA (D:Dat K mg "read_number" "read_number" (top 29) ["word"]) (BT:Bt mg) (NE:bN (CX1 P w)) (wV:GlV mg "FIGURES" (.str pJ)) (lO:GlV mg "MOST_FIGURES" (.int 40)) (bu:Cal P w K mg base (CX1 P w) "need" 1 ["is_right"] (fD CN)):Cal P w K mg base (CX1 P w) "read_number" 2 ["word"] (oF CN):=by
 have S:=A4
 refine D.okR S (fun vs H Q E h=>?_) (fun f cdv A outer s H vs Q E hr h=>?_)
 ·obtain ⟨v,rfl,_⟩:=h
  rfl
 obtain ⟨v,rfl,k,hv,qT,qF⟩:=h
 refine ⟨_,(@ai _ _ _ _ _ (@bR _ _ _ _ (@bf _ _ _ _ _ _ _ _ _ _ _ bu (hr.mono (by first | decide | omega)) (@aA _ _) (@aa _ _ _ _ _ (@iG _ _ _ _ _ _ _ _ BT.isinstance BT.str_ L3.ee (@pv _ 0 _ _ (by rfl) (by first | exact Or.inl rfl | exact Or.inr (Or.inl rfl) | exact Or.inr (Or.inr rfl)) (by decide) (by decide)) (by rfl) (by rfl) (by decide) (by decide) (by rfl) (by rfl) (by rfl)) (@af _) (by rfl)) (by rfl) (by decide) (by rfl) (by rfl)) (by rfl)) (@ai _ _ _ _ _ (@bR _ _ _ _ (@bf _ _ _ _ _ _ _ _ _ _ _ bu (hr.mono (by first | decide | omega)) (@aA _ _) (@aa _ _ _ _ _ (@iH _ _ _ _ _ _ _ (@bA _ _ _ _ _ _ _ _ (@eU _) (@ah _ _ _ _) (@aW _ _ _ _ _ _ _ _ _ (@ud _) rfl BT.len L3.cT (@aa _ _ _ _ _ (@pv _ 0 _ _ (by rfl) (by first | exact Or.inl rfl | exact Or.inr (Or.inl rfl) | exact Or.inr (Or.inr rfl)) (by decide) (by decide)) (@af _) (by rfl)) (by decide) (by decide) (by rfl) (by rfl)) (@aH _ _ (by decide) (by decide))) (@f7 _ _ _ _ _ (@bA _ _ _ _ _ _ _ _ (@eU _) (@aW _ _ _ _ _ _ _ _ _ (@ud _) rfl BT.len L3.cT (@aa _ _ _ _ _ (@pv _ 0 _ _ (by rfl) (by first | exact Or.inl rfl | exact Or.inr (Or.inl rfl) | exact Or.inr (Or.inr rfl)) (by decide) (by decide)) (@af _) (by rfl)) (by decide) (by decide) (by rfl) (by rfl)) (@oZ _ _ _ _ lO (by rfl) (by decide)) (@aH _ _ (by decide) (by decide))))) (@af _) (by rfl)) (by rfl) (by decide) (by rfl) (by rfl)) (by rfl)) (@ai _ _ _ _ _ (@bR _ _ _ _ (@bf _ _ _ _ _ _ _ _ _ _ _ bu (hr.mono (by first | decide | omega)) (@aA _ _) (@aa _ _ _ _ _ (@aW _ _ _ _ _ _ _ _ _ (@lW _ rfl) rfl BT.all L3.ug (@aa _ _ _ _ _ (@eS _ _ _ _ _ _ _ _ _ _ (aS 0) _ _ rfl (D6 (@pv _ 0 _ _ (by rfl) (by first | exact Or.inl rfl | exact Or.inr (Or.inl rfl) | exact Or.inr (Or.inr rfl)) (by decide) (by decide))) (@eY _ _ ["sign"] [] (aj (top 29)).names ["word"] rfl rfl rfl (by decide +kernel)) (fun _ _ _ _=>(@bL _ _ 0 _ (show (jW ["word"] ["sign"] []).Nodup by decide +kernel) rfl (by first | exact Or.inl rfl | exact Or.inr rfl) (by first | exact .inl rfl | exact .inr rfl | assumption))) (fun _ _ _ _=>(@cN _)) (fun _ _ _ _=>(@bA _ _ _ _ _ _ _ _ (@Gf _) (@pv _ 0 _ _ (by rfl) (by first | exact Or.inl rfl | exact Or.inr (Or.inl rfl) | exact Or.inr (Or.inr rfl)) (by decide) (by decide)) (@oZ _ _ _ _ wV (by rfl) (by decide)) (by with_unfolding_all rfl))) (by intro _;rfl)) (@af _) (by rfl)) (by decide) (by decide) (by rfl) (by rfl)) (@af _) (by rfl)) (by rfl) (by decide) (by rfl) (by rfl)) (by rfl)) (@ai _ _ _ _ _ (@bR _ _ _ _ (@bf _ _ _ _ _ _ _ _ _ _ _ bu (hr.mono (by first | decide | omega)) (@aA _ _) (@aa _ _ _ _ _ (@Ga _ _ _ _ _ _ _ (@bA _ _ _ _ _ _ _ _ (@j7 _) (@aL _ _ _ _ _ _ _ (@Ew _) (@pv _ 0 _ _ (by rfl) (by first | exact Or.inl rfl | exact Or.inr (Or.inl rfl) | exact Or.inr (Or.inr rfl)) (by decide) (by decide)) (@ah _ _ _ _) (fun _ _=>rfl)) (@aq _ _ _ _) (@aH _ _ (by decide) (by decide))) (@f7 _ _ _ _ _ (@bA _ _ _ _ _ _ _ _ (@cM _) (@aW _ _ _ _ _ _ _ _ _ (@ud _) rfl BT.len L3.cT (@aa _ _ _ _ _ (@pv _ 0 _ _ (by rfl) (by first | exact Or.inl rfl | exact Or.inr (Or.inl rfl) | exact Or.inr (Or.inr rfl)) (by decide) (by decide)) (@af _) (by rfl)) (by decide) (by decide) (by rfl) (by rfl)) (@ah _ _ _ _) (@aH _ _ (by decide) (by decide))))) (@af _) (by rfl)) (by rfl) (by decide) (by rfl) (by rfl)) (by rfl)) (@ak _ _ _ (@av _ _ _ _ (@b9 _ _ _ _ _ _ _ _ _ Fp rfl BT.int_ L3.AB (@aa _ _ _ _ _ (@pv _ 0 _ _ (by rfl) (by first | exact Or.inl rfl | exact Or.inr (Or.inl rfl) | exact Or.inr (Or.inr rfl)) (by decide) (by decide)) (@af _) (by rfl)) (by decide) (by decide) (by rfl) (by rfl)))))))),?_⟩
 try dsimp only [xcx,bM]
 walk_at "go"
 refine kL k (fun z e=>?_) (fun e=>?_)
 rotate_left
 ·have en:BJ v=none:=by
   cases v with
   | str z=>exact absurd rfl (e z)
   | _=>rfl
  walk_at "go"
  exact aV (fun z=>nomatch z) fun _=>qF en _ (az.refl _)
 subst e
 have hz:=hv z rfl
 have zs:z.length≤sizeLine:=Nat.le_of_lt (small1000 (by omega))
 have hzl:=dZ z
 walk_at "go"
 refine aV (fun _=>?_) (fun z=>nomatch z)
 walk_at "go"
 have no:mq z.cps.toList=false→BJ (.str z)=none:=fun h=>by
  show bS z.cps.toList=none
  unfold bS
  rw [h,if_neg Bool.false_ne_true]
 have nb:mq z.cps.toList=(decide (1≤z.cps.toList.length) && (decide (z.cps.toList.length≤40) && (z.cps.toList.all lQ && (!decide (z.cps.toList.head?=some 48) || decide (z.cps.toList.length=1))))):=rfl
 refine bW (fun c1=>?_) (fun c1=>?_)
 rotate_left
 ·walk_at "go"
  exact aV (fun z=>nomatch z) fun _=>qF (no (by rw [nb,decide_eq_false (show ¬ 1≤z.cps.toList.length by omega)];rfl)) _ (az.refl _)
 walk_at "go"
 rw [decide_eq_true (show 1≤z.cps.toList.length by omega),Bool.true_and] at nb
 refine aV (fun c2=>?_) (fun c2=>?_)
 rotate_left
 ·rw [decide_eq_false_iff_not] at c2
  exact qF (no (by rw [nb,decide_eq_false (show ¬ z.cps.toList.length≤40 by omega)];rfl)) _ (az.refl _)
 rw [decide_eq_true_iff] at c2
 rw [decide_eq_true (show z.cps.toList.length≤40 by omega),Bool.true_and] at nb
 walk_at "go"
 refine GG ?_
 walk_at "go"
 refine EB ?_
 refine z9 (fun i ys H'=>ys=((z.cps.toList.take i).map lQ).map V.bl∧H'=H) ⟨rfl,rfl⟩ (fun i ys H' hi ⟨e,_⟩=>by rw [e,List.length_map,List.length_map,List.length_take];exact Nat.le_of_lt (small1000 (by omega))) ?_ ?_
 ·rintro i c ys H' hc ⟨rfl,rfl⟩
  try dsimp only [aS]
  walk_at "go"
  refine ⟨_,_,rfl,rfl,?_⟩
  walk_at "go"
  exact ⟨by rw [List.take_add_one,hc,Option.toList,List.map_append,List.map_append];rfl,rfl⟩
 rintro ys H' ⟨rfl,rfl⟩ lc nlc
 rw [List.take_length]
 walk_at "go"
 refine pI (SqL.of ao) ?_
 have sm:=bG nlc (.lst ((z.cps.toList.map lQ).map V.bl))
 generalize upd H' lc (.lst ((z.cps.toList.map lQ).map V.bl))=H2 at *
 rw [List.all_map,show (id ∘ lQ)=lQ from rfl]
 walk_at "go"
 refine aV (fun c3=>?_) (fun c3=>?_)
 rotate_left
 ·exact qF (no (by rw [nb,c3];rfl)) _ sm
 rw [c3,Bool.true_and] at nb
 obtain ⟨a,r,hl⟩:∃ a r,z.cps.toList=a::r:=by
  cases hl:z.cps.toList with
  | nil=>rw [hl] at hzl;simp at hzl;omega
  | cons a r=>exact ⟨a,r,rfl⟩
 have eh:decide (z.cps.toList.head?=some 48)=decide (({ cps:=#[a] }:Str)=Str.ofString "0"):=by
  rw [hl]
  by_cases h:a=48
  ·rw [decide_eq_true ((e48 a).mpr h),h];rfl
  ·rw [decide_eq_false (fun x=>h ((e48 a).mp x))];simp [h]
 have el:decide (z.cps.toList.length=1)=decide ((z.length:Int)=1):=by
  rw [← hzl]
  by_cases h:z.length=1
  ·rw [decide_eq_true h,decide_eq_true (by omega)]
  ·rw [decide_eq_false h,decide_eq_false (by omega)]
 rw [eh,el] at nb
 walk_at "go"
 refine Hf (c:=a) zs (by rw [hl];exact fN (j:=0) rfl) ?_
 walk_at "go"
 have fin:mq z.cps.toList=true→yT [V.str z] H2 Q:=fun h=>ES (BI h) (by omega) (qT _ (by show bS z.cps.toList=_;unfold bS;rw [if_pos h]) _ sm)
 refine nO (fun c4=>?_) (fun c4=>?_)
 ·walk_at "go"
  refine aV (fun c5=>?_) (fun c5=>?_)
  ·walk_at "go"
   exact fin (by rw [nb,c5,Bool.or_true])
  ·exact qF (no (by rw [nb,c5,decide_eq_true c4];rfl)) _ sm
 ·walk_at "go"
  refine aV (fun _=>?_) (fun z=>nomatch z)
  walk_at "go"
  exact fin (by rw [nb,decide_eq_false c4];rfl)
theorem vR:aB ["word", "rules"] ["word"] (aj (top 32)):=by walk_at "s"
def Bb:V→Option (List Str)
 | .str z=>cA z
 | _=>none
def qt (CN:Addr):Sp:=fun vs H Q E=>∃ v,vs=[v]∧Knd H v∧(∀ z,v = .str z→z.length≤500∧(allR (eK z)=true→(eK z).length < 64))∧(∀ ws,Bb v=some ws→∀ a H',H' a=some (.tup (ws.map V.str))→az H H'→Q (.ref a) H')∧(Bb v=none→∀ H',az H H'→E (.ref CN) none H')
theorem fX {H:Hp}:∀ ws:List Str,Ats K H (ws.map V.str) (ws.map Dt.str)
 | []=>.nil
 | _::ws=>.cons (.str _) (fX ws)
theorem jz:∀ ws:List Str,deps (ws.map Dt.str)=0
 | []=>rfl
 | x::ws=>by rw [List.map_cons,deps,jz ws];rfl
theorem mU:∀ ws ms:List Str,gu (ws.map Dt.str) (ms.map Dt.str)=decide (ws=ms)
 | [],[]=>by rw [List.map_nil,gu];rfl
 | [],_::_=>by rw [decide_eq_false (fun z=>nomatch z)];simp [gu]
 | _::_,[]=>by rw [decide_eq_false (fun z=>nomatch z)];simp [gu]
 | x::ws,y::ms=>by
  rw [List.map_cons,List.map_cons,gu,mU ws ms,eqD]
  by_cases h:x=y
  ·subst h
   rw [beq_self_eq_true,Bool.true_and]
   by_cases h2:ws=ms
   ·rw [decide_eq_true h2,h2,decide_eq_true rfl]
   ·rw [decide_eq_false h2,decide_eq_false fun z=>h2 (List.cons.inj z).2]
  ·rw [beq_eq_false_iff_ne.mpr h,Bool.false_and,decide_eq_false fun z=>h (List.cons.inj z).1]
theorem vY {ws ms:List Str} (ha:allR ws=true) (pm:ms.Perm (aE [] ws)) (sd:sortedS ms=true):aZ ws=decide (ws=ms):=by
 have hw:∀ z∈ws,z∈bq:=fun z hz=>of_decide_eq_true (List.all_eq_true.mp ha z hz)
 unfold aZ
 rw [ha,Bool.true_and]
 by_cases h:ws=ms
 ·have nd:ws.Nodup:=by rw [h];exact pm.symm.nodup (dQ ws [] List.nodup_nil)
  rw [decide_eq_true h,decide_eq_true nd,h,sd];rfl
 ·rw [decide_eq_false h]
  refine Bool.eq_false_iff.mpr fun z=>?_
  rw [Bool.and_eq_true,decide_eq_true_iff] at z
  have pw:(aE [] ws).Perm ws:=i0 z.1 (fun x hx=>(lY ws [] x).mpr (.inr hx)) (by rw [iN ws [] z.1 (fun _ _=>by simp)];simp)
  exact h (mX hw (pm.trans pw).symm z.2 sd)
theorem wg (D:Dat K mg "read_rules" "read_rules" (top 32) ["word"]) (BT:Bt mg) (NE:bN (CX1 P w)) (iK:GlV mg "NO_RULES" (.str "none")) (dO:GlV mg "RULES" (.ref aR)) (hR:∀ H,SqT K H aR (bq.map V.str)) (bu:Cal P w K mg base (CX1 P w) "need" 1 ["is_right"] (fD CN)):Cal P w K mg base (CX1 P w) "read_rules" 2 ["word"] (qt CN):=by
 have S:=vR
 refine D.okR S (fun vs H Q E h=>?_) (fun f cdv A outer s H vs Q E hr h=>?_)
 ·obtain ⟨v,rfl,_⟩:=h
  rfl
 obtain ⟨v,rfl,k,hv,qT,qF⟩:=h
 refine ⟨_,(@ai _ _ _ _ _ (@bR _ _ _ _ (@bf _ _ _ _ _ _ _ _ _ _ _ bu (hr.mono (by first | decide | omega)) (@aA _ _) (@aa _ _ _ _ _ (@iG _ _ _ _ _ _ _ _ BT.isinstance BT.str_ L3.ee (@pv _ 0 _ _ (by rfl) (by first | exact Or.inl rfl | exact Or.inr (Or.inl rfl) | exact Or.inr (Or.inr rfl)) (by decide) (by decide)) (by rfl) (by rfl) (by decide) (by decide) (by rfl) (by rfl) (by rfl)) (@af _) (by rfl)) (by rfl) (by decide) (by rfl) (by rfl)) (by rfl)) (@ai _ _ _ _ _ (@br _ _ _ _ _ _ _ _ (@aJ _ _ _ _ _ _ _ _ (@cM _) (@pv _ 0 _ _ (by rfl) (by first | exact Or.inl rfl | exact Or.inr (Or.inl rfl) | exact Or.inr (Or.inr rfl)) (by decide) (by decide)) (@oZ _ _ _ _ iK (by rfl) (by decide)) (@aH _ _ (by decide) (by decide))) (@ak _ _ _ (@av _ _ _ _ (@aP _ _ _ _ _ (@af _)))) (@aF _)) (@ai _ _ _ _ _ (@aM _ _ 1 _ _ _ _ S.nd rfl (by first | exact Or.inl rfl | exact Or.inr rfl) (@dX _ _ _ _ _ _ _ _ _ _ _ _ PySem.F.plainAttrs_str PySem.F.slot_str_split PySem.F.type_str_split m_split (@pv _ 0 _ _ (by rfl) (by first | exact Or.inl rfl | exact Or.inr (Or.inl rfl) | exact Or.inr (Or.inr rfl)) (by decide) (by decide)) (@aa _ _ _ _ _ (@aq _ _ _ _) (@af _) (by rfl)) (by rfl) (by rfl) (by rfl) (by rfl) (by rfl)) (by rfl) (by first | exact .inl rfl | exact .inr rfl | assumption)) (@ai _ _ _ _ _ (@bR _ _ _ _ (@bf _ _ _ _ _ _ _ _ _ _ _ bu (hr.mono (by first | decide | omega)) (@aA _ _) (@aa _ _ _ _ _ (@aW _ _ _ _ _ _ _ _ _ (@lW _ rfl) rfl BT.all L3.ug (@aa _ _ _ _ _ (@eS _ _ _ _ _ _ _ _ _ _ (aS 0) _ _ rfl (@fE _ _ _ _ (@pv _ 1 _ _ (by rfl) (by first | exact Or.inl rfl | exact Or.inr (Or.inl rfl) | exact Or.inr (Or.inr rfl)) (by decide) (by decide))) (@eY _ _ ["rule"] [] (aj (top 32)).names ["word", "rules"] rfl rfl rfl (by decide +kernel)) (fun _ _ _ _=>(@bL _ _ 0 _ (show (jW ["word", "rules"] ["rule"] []).Nodup by decide +kernel) rfl (by first | exact Or.inl rfl | exact Or.inr rfl) (by first | exact .inl rfl | exact .inr rfl | assumption))) (fun _ _ _ _=>(@cN _)) (fun _ _ _ _=>(@bA _ _ _ _ _ _ _ _ (Ec (K:=K) rfl) (@pv _ 0 _ _ (by rfl) (by first | exact Or.inl rfl | exact Or.inr (Or.inl rfl) | exact Or.inr (Or.inr rfl)) (by decide) (by decide)) (@oZ _ _ _ _ dO (by rfl) (by decide)) (by with_unfolding_all rfl))) (by intro _;rfl)) (@af _) (by rfl)) (by decide) (by decide) (by rfl) (by rfl)) (@af _) (by rfl)) (by rfl) (by decide) (by rfl) (by rfl)) (by rfl)) (@ai _ _ _ _ _ (@bR _ _ _ _ (@bf _ _ _ _ _ _ _ _ _ _ _ bu (hr.mono (by first | decide | omega)) (@aA _ _) (@aa _ _ _ _ _ (@bA _ _ _ _ _ _ _ _ (@zj _ (hr.mono (Nat.zero_le _))) (@pv _ 1 _ _ (by rfl) (by first | exact Or.inl rfl | exact Or.inr (Or.inl rfl) | exact Or.inr (Or.inr rfl)) (by decide) (by decide)) (sY rfl rfl rfl BT.sorted BT.set_ (@pv _ 1 _ _ (by rfl) (by first | exact Or.inl rfl | exact Or.inr (Or.inl rfl) | exact Or.inr (Or.inr rfl)) (by decide) (by decide))) (@aH _ _ (by decide) (by decide))) (@af _) (by rfl)) (by rfl) (by decide) (by rfl) (by rfl)) (by rfl)) (@ak _ _ _ (@av _ _ _ _ (@b9 _ _ _ _ _ _ _ _ _ (@pS _) rfl BT.tuple_ L3.jl (@aa _ _ _ _ _ (@pv _ 1 _ _ (by rfl) (by first | exact Or.inl rfl | exact Or.inr (Or.inl rfl) | exact Or.inr (Or.inr rfl)) (by decide) (by decide)) (@af _) (by rfl)) (by decide) (by decide) (by rfl) (by rfl))))))))),?_⟩
 try dsimp only [xcx,bM]
 walk_at "go"
 refine kL k (fun z e=>?_) (fun e=>?_)
 rotate_left
 ·have en:Bb v=none:=by
   cases v with
   | str z=>exact absurd rfl (e z)
   | _=>rfl
  walk_at "go"
  exact aV (fun z=>nomatch z) fun _=>qF en _ (az.refl _)
 subst e
 obtain ⟨hz,h64⟩:=hv z rfl
 walk_at "go"
 refine aV (fun _=>?_) (fun z=>nomatch z)
 have L:=Led.start H (fun _=>False)
 walk_at "go"
 refine bW (fun c1=>?_) (fun c1=>?_)
 ·walk_at "go"
  refine qT [] ?_ _ _ (L'.tup (by walk_at "mem")) L'.same
  show cA z=some []
  unfold cA
  exact if_pos c1
 walk_at "go"
 refine g_split L (by decide) (by omega) fun b H1 nb L s1=>?_
 rw [show Txt.split z (Str.ofString "+")=eK z from gK z (c:=43) (by decide)] at L
 have hb:=L.eo (p:=b) .head
 walk_at "go"
 have hws:(eK z).length≤501:=by
  have:=dU 43 z.cps.toList
  unfold eK
  rw [List.length_map]
  rw [dZ] at hz
  omega
 refine g9 ((eK z).map V.str) (fun i ys H'=>ys=(((eK z).take i).map (fun x=>decide (x∈bq))).map V.bl∧H'=H1) ⟨rfl,rfl⟩ (fun i ys H' hi ⟨e,e2⟩=>⟨e2▸SqL.of hb,by rw [e,List.length_map,List.length_map,List.length_take];exact Nat.le_of_lt (small1000 (by omega))⟩) ?_ ?_
 ·rintro i y ys H' hy ⟨rfl,rfl⟩
  rw [List.getElem?_map] at hy
  cases e:(eK z)[i]? with
  | none=>rw [e] at hy;cases hy
  | some x=>
   rw [e] at hy
   cases hy
   try dsimp only [aS]
   walk_at "go"
   refine q9 (hR _) ?_
   walk_at "go"
   exact ⟨by rw [List.take_add_one,e,Option.toList,List.map_append,List.map_append];rfl,rfl⟩
 rintro ys H' ⟨rfl,rfl⟩ lc nlc
 rw [List.length_map,List.take_length]
 walk_at "go"
 refine pI (SqL.of ao) ?_
 have sm:=bG nlc (.lst (((eK z).map (fun x=>decide (x∈bq))).map V.bl))
 generalize upd H' lc (.lst (((eK z).map (fun x=>decide (x∈bq))).map V.bl))=H2 at *
 have ea:((eK z).map (fun x=>decide (x∈bq))).all id=allR (eK z):=by rw [List.all_map];rfl
 rw [ea]
 walk_at "go"
 have no:aZ (eK z)=false→Bb (.str z)=none:=fun h=>yK c1 h
 refine aV (fun c3=>?_) (fun c3=>?_)
 rotate_left
 ·exact qF (no (by unfold aZ;rw [c3];rfl)) _ (s1.trans sm)
 walk_at "go"
 refine wU ?_
 walk_at "go"
 refine tP (SqL.of (sm _ _ hb)) (h64 c3) fun l ms H5 nl pm sd hl s5=>?_
 have eo:=vY c3 pm sd
 refine Hq (d:=.lst ((eK z).map Dt.str)) (e:=.lst (ms.map Dt.str)) (.lst (SqL.of (s5 _ _ (sm _ _ hb))) (fX _)) (.lst (SqL.of hl) (fX _)) (by rw [dep,jz];decide) ?_
 rw [eqD,mU,← eo]
 walk_at "go"
 refine aV (fun c4=>?_) (fun c4=>?_)
 rotate_left
 ·exact qF (no c4) _ ((s1.trans sm).trans s5)
 clear L
 have L:=Led.start H5 (fun _=>False)
 walk_at "go"
 refine ⟨b,_,rfl,.inl ⟨SqL.of (s5 _ _ (sm _ _ hb)),fun t nt=>?_⟩⟩
 refine qT (eK z) ?_ t _ ao (((s1.trans sm).trans s5).trans (aQ nt))
 show cA z=_
 unfold cA
 rw [if_neg c1,if_pos c4]
end
end Law

namespace L4
open PySem PySem.Spec PyProof.Rows L2 L3 PySem.W
theorem tD {e:Value} {env env':Env} (h:env.frame=env'.frame):noteFrame e env=noteFrame e env':=by
 unfold noteFrame PySem.frameOf
 rw [h]
def nT (M:Model) (A:Around) (E:Value→Shared→Prop) (Q:Value→Shared→Prop) (acc:Value) (C:Addr) (fr:Option Addr) (r:Result) (s':Shared):Prop:=
 match r with
 | .ok _=>∃ m,s'.heap.Ns C m∧∀ h',Heap.SameBut C s'.heap h'→Q acc { s' with heap:=h' }
 | .error x=>∃ m,s'.heap.Ns C m∧∀ h',Heap.SameBut C s'.heap h'→∀ cenv:Env,cenv.locals=C→cenv.frame=fr→wpAny M A (passOn "comprehension.variables-let-go" x cenv:Sem Value) (fun _ _=>False) E { s' with heap:=h' }
theorem ua {M:Model} {A:Around} {E:Value→Shared→Prop} {s:Shared} {env:Env} {e:Expr} {scope:Scope} {pos:Pos} {newAcc first:Sem Value} {g:Comprehension} {gs:List Comprehension} {cl:List (Str×Addr)} {Q:Value→Shared→Prop}
  (hcl:clausesOf e=g::gs) (hs:∀ x,foldedSetIterable g.iter env x=pure x) (hclos:closureFor scope env=pure cl) (hkind:scope.kind = .function) (hnames:∀ x∈scope.names,x.2 = .local→scope.names.lookup x.1=some .local)
  (h:wpAny M A first (fun x s1=>wpAny M A (pyIter x) (fun it s2=>wpAny M A newAcc (fun acc s3=>wpAny M A (newFunctionEnv scope env.globals cl [] env.qual none .none (some env)) (fun cenv s4=>
   codeAny M A (.compStart e 0 it acc { cenv with scope:=relabel scope env }) (nT M A E Q acc cenv.locals cenv.frame) s4) E s3) E s2) E s1) E s) :
  wpAny M A (comprehension e scope env pos newAcc false first none) Q E s:=by
 unfold comprehension
 rw [hclos,hcl]
 refine wpAny_bind (wpAny_mono h (fun x s1 h1=>?_) fun _ _ z=>z)
 refine wpAny_bind (wpAny_standAt (wpAny_bind (wpAny_of_eq (hs x) (wpAny_bind (wpAny_holding (wpAny_mono h1 (fun it s2 h2=>?_) fun _ _ z=>z))))))
 refine wpAny_standIf (wpAny_bind (wpAny_mono h2 (fun acc s3 h3=>?_) fun _ _ z=>z))
 refine wpAny_bind (wpAny_pure (wpAny_bind (wpAny_mono h3 (fun cenv s4 h4=>?_) fun _ _ z=>z)))
 dsimp only
 have lets:∀ x∈(scope.names.filter fun x=>(x.2 == .local || x.2 == .cell) && x.1 != (".0" : Str)).reverse,x.2 = .local→Env.kindOf { cenv with scope:=relabel scope env } x.1=some .local:=
  fun x hx hl=>lookup_relabel_local (hnames x (List.mem_filter.mp (List.mem_reverse.mp hx)).1 hl)
 refine wpAny_holding (wpAny_bind (wpAny_attempt (wpAny_holding (wpAny_run (codeAny_mono h4 fun r s' hr=>?_)))))
 cases r with
 | ok f=>
  obtain ⟨m,hn,q⟩:=hr
  exact wpAny_bind (wpAny_holding (wpAny_comp_letGo (cenv:={ cenv with scope:=relabel scope env }) hkind _ s' m lets hn fun h' _ _ sb=>wpAny_pure (q h' sb)))
 | error x=>
  obtain ⟨m,hn,q⟩:=hr
  exact wpAny_bind (wpAny_holding (wpAny_comp_letGo (cenv:={ cenv with scope:=relabel scope env }) hkind _ s' m lets hn fun h' _ _ sb=>wpAny_mono (q h' sb _ rfl rfl) (fun _ _ z=>z.elim) fun _ _ z=>z))
theorem pP {prog:Program} {w:World} {A:Around} {R:Result→Shared→Prop} {s:Shared} {elt target iter:Expr} {ifs:List Expr} {scope:Scope} {pos:Pos} {it acc:Value} {env:Env} {Ez:Value→Shared→Prop} (I:Nat→Shared→Prop)
  (hz:∀ e s',Ez e s'→notedBy (model prog w) A env (fun e s'=>R (.error e) s') e s')
  (turn:∀ n s,I n s→wpAny (model prog w) A (pyNext it) (fun r s₁=>match r with
   | none=>R (.ok .next) s₁
   | some v=>wpAny (model prog w) A (letOwnedTupleGo target it v) (fun _ s₁'=>wpAny (model prog w) A (assign target env v) (fun _ s₂=>
     wpAny (model prog w) A (forIn ifs true fun c r=>if r=true then do let ok ← isTrue c env (eval c env);pure (ForInStep.yield ok) else pure (ForInStep.yield r)) (fun ok s₃=>
      if ok=true then wpAny (model prog w) A (eval elt env) (fun x s₄=>
       wpAny (model prog w) A (call (.builtin "list.append") [acc,x]) (fun _ s₅=>∃ m,m < n∧I m s₅) (fun _ _=>False) s₄) Ez s₃
      else ∃ m,m < n∧I m s₃) (fun _ _=>False) s₂) (fun _ _=>False) s₁') (fun _ _=>False) s₁) (fun _ _=>False) s)
  (n:Nat) (h:I n s) :
  codeAny (model prog w) A (.compLoop (.ListComp elt [⟨target,iter,ifs,0⟩] scope pos) 0 it acc env) R s:=by
 refine codeAny_loop rfl I (fun n s hI=>?_) n h
 show wpAny _ A ((compTurn (.ListComp elt [⟨target,iter,ifs,0⟩] scope pos) 0 it acc env).onRaise (fun x=>do noteFrame x env;theTreesLotGoes x)) _ _ s
 refine wpAny_noted ?_
 rw [compTurn_list]
 refine wpAny_bind (wpAny_standAt (wpAny_bind (wpAny_mono (turn n s hI) (fun r s₁ h₁=>?_) fun _ _ z=>z.elim)))
 cases r with
 | none=>exact wpAny_pure h₁
 | some v=>
  refine wpAny_bind (wpAny_mono h₁ (fun _ s₁' h₁'=>?_) fun _ _ z=>z.elim)
  refine wpAny_bind (wpAny_mono h₁' (fun _ s₂ h₂=>wpAny_bind (wpAny_mono h₂ (fun ok s₃ h₃=>?_) fun _ _ z=>z.elim)) fun _ _ z=>z.elim)
  cases ok with
  | false=>exact wpAny_pure ⟨rfl,h₃⟩
  | true=>
   exact wpAny_bind (wpAny_bind (wpAny_mono h₃ (fun x s₄ h₄=>wpAny_bind (wpAny_mono h₄ (fun _ s₅ h₅=>wpAny_pure (wpAny_pure ⟨rfl,h₅⟩)) fun _ _ z=>z.elim)) fun e s' q=>hz e s' q))
def XB (X:Cx) (E:XK) (e:Value) (s':Shared):Prop:=∃ pins σ H x C dx t,e=Value.ref x∧Inv X pins σ H s'∧ExcAt s'.heap x C dx (some t) .none∧eG X pins H x∧eG X pins H t∧E C dx H
section
variable {X:Cx} {pins:List (Addr×Obj)} {σ : St} {H:Hp} {s:Shared} {scope:Scope} {own:List Str} {cap:List Nat} {fp:List Addr}
theorem leaveX {C:Addr} {pl:List (Addr×Obj)} {s':Shared} {h':Heap} {H':Hp} {σ':St} (I:Inv X pins σ H s) (f2:∀ b∈fp,jr X pins H b) (hC:s.heap.objs.size≤C) (J:Inv (blk X scope own cap C s H fp) pl σ' H' s') (hs:Heap.SameBut C s'.heap h') :
  Inv X pins σ H' { s' with heap:=h' }:=by
 have nC:H' C=none:=J.free
 have neC:∀ b o,s.heap.get? b=some o→b≠C:=fun b o e=>Nat.ne_of_lt (Nat.lt_of_lt_of_le (Heap.lt_size e) hC)
 have J0:Un (frs X.stack) fp H H' s.heap s'.heap:=J.base
 have u:Un (frs X.stack) fp H H' s.heap h':=by
  refine ⟨fun b o e n hb hx=>(hs.2 b (neC b o e)).trans (J0.keep b o e n hb hx),fun b o e n hb hx=>?_,fun b o e n hx=>J0.free b o e n hx,fun b o e hx=>?_,fun b xs e=>J0.tups b xs e,fun b o xs e=>J0.gn b o xs e,fun b ps e=>J0.ia b ps e⟩
  ·obtain ⟨sl,q⟩:=J0.slot b o e n hb hx
   exact ⟨sl,(hs.2 b (neC b o e)).trans q⟩
  ·obtain ⟨o',q⟩:=J0.there b o e hx
   exact ⟨o',(hs.2 b (neC b o e)).trans q⟩
 have hok:HOk X.prog X.w H' h':=fun b o e=>by
  refine (J.hok b o e).stay (fun c v hc q=>(hs.2 c ?_).trans q) (fun c q=>q) fun c xs q=>q
  rcases hc with rfl | hc
  ·exact ay e nC
  ·exact ay hc nC
 obtain ⟨hh,g,d,t,os⟩:=s'
 have eos:os=s.os:=J.os
 subst eos
 exact Inv.call (s:=s) (h':=h') (g':=g) (d':=d) (t':=t) (ch:=fp) I u hok J.bare fun b hb=>⟨(f2 b hb).2.2.2.1,(f2 b hb).2.1,fun x c e=>(f2 b hb).2.2.2.2.1 x c e,(f2 b hb).2.2.2.2.2⟩
end
end L4
namespace L4
open PySem PySem.Spec PyProof.Rows L2 L3 PySem.W
section
variable {X:Cx} {scope:Scope} {own:List Str} {cap:List Nat} {tg elt iter:Expr} {ifs:List Expr} {pos:Pos} {wi:TI} {g:TG} {tc:TT} {te:TE}
theorem rm {Ez:XK} (hst:X.stack=X.env::X.outer) (hfr:X.env.frame=some X.env.locals) (B:Blk X scope own cap) (hc:X.calm=true) (hg:∀ C s H fp,PG (blk X scope own cap C s H fp) tg g) (ht:∀ C s H fp,uu (blk X scope own cap C s H fp) ifs tc) (he:∀ C s H fp,PE ((blk X scope own cap C s H fp).eZ (XB (blk X scope own cap C s H fp) Ez)) elt te)
  {pins:List (Addr×Obj)} {s2:Shared} {σ : St} {H2:Hp} {it:Addr} {fp:List Addr} {tn:Nat→Heap→Prop} {J:It} {W:Nat→Nat→List V→Hp→Prop} {D:List V→Hp→Prop} {m0:Nat} {E:Value→Shared→Prop} {RR:Value→Addr→Option Addr→Result→Shared→Prop}
  (I2:Inv X pins σ H2 s2) (T:Turn X.prog X.w X.K tg J fp it tn) (st2:tn 0 s2.heap) (f2:∀ b∈fp,jr X pins H2 b) (w0:W 0 m0 [] H2) (turn:oj J W D (mH own.length cap σ) g tc te)
  (done:∀ (C L:Addr) (s':Shared) (H':Hp) (σ':St) (ys:List V) (its:List Value) (n:Nat),s2.heap.objs.size≤C→s2.heap.objs.size≤L→L≠C→Inv (blk X scope own cap C s2 H2 fp) [(L,{ cls:=.type "list",data:=.seq its.toArray n })] σ' H' s'→Vals ys its→ys.length≤sizeLine→D ys H' →
   RR (.ref L) C X.env.frame (.ok .next) s')
  (fail:∀ (C L:Addr) (e:Value) (s':Shared),s2.heap.objs.size≤C→XB (blk X scope own cap C s2 H2 fp) Ez e s'→notedBy (model X.prog X.w) X.A (compEnvC scope (bQ X.env.cells scope.names []) C X.env) (fun e s'=>RR (.ref L) C X.env.frame (.error e) s') e s') :
  wpAny (model X.prog X.w) X.A (newList []) (fun acc s₃=>wpAny (model X.prog X.w) X.A (newFunctionEnv scope X.env.globals (bQ X.env.cells scope.names []) [] X.env.qual none .none (some X.env)) (fun cenv s₄=>
   codeAny (model X.prog X.w) X.A (.compStart (.ListComp elt [⟨tg,iter,ifs,0⟩] scope pos) 0 (.ref it) acc { cenv with scope:=relabel scope X.env }) (RR acc cenv.locals cenv.frame) s₄) E s₃) E s2:=by
 refine wpAny_newObj_type (wpAny_newFunctionEnv B.nocell (by intro y hy;simp at hy) (fun h₁ hns₁ hsb₁=>?_) B.kind)
 dsimp only at hns₁ hsb₁ ⊢
 have flt:∀ b∈fp,b < s2.heap.objs.size:=fun b hb=>by
  obtain ⟨o,e,_⟩:=T.obj _ _ st2 b hb
  exact Heap.lt_size e
 generalize hH2:s2.heap.push { cls:=.type "list",dict:=none,data:=.seq ([]:List Value).toArray }=G2 at hns₁ hsb₁ ⊢
 have hCs:G2.objs.size=s2.heap.objs.size+1:=by rw [← hH2,Heap.size_push]
 have hC:s2.heap.objs.size≤G2.objs.size:=by rw [hCs];exact Nat.le_succ _
 have hDC:s2.heap.objs.size≠G2.objs.size:=by rw [hCs];exact Nat.ne_of_lt (Nat.lt_succ_self _)
 have old:∀ b o,s2.heap.get? b=some o→h₁.get? b=some o:=fun b o e=>
  hsb₁.extBut b o (Nat.ne_of_lt (Nat.lt_of_lt_of_le (Heap.lt_size e) hC)) (Heap.get?_push_of_some _ (hH2▸Heap.get?_push_of_some _ e))
 have hacc:h₁.get? s2.heap.objs.size=some { cls:=.type "list",data:=.seq ([]:List Value).toArray 0 }:=hsb₁.extBut _ _ hDC (Heap.get?_push_of_some _ (hH2▸Heap.get?_push_size _ rfl))
 have loop:∀ s₃ : Shared,s₃={ s2 with heap:=h₁,toks:=s2.toks+([]:List (Str×Value)).length } →
   codeAny (model X.prog X.w) X.A (.compLoop (.ListComp elt [⟨tg,iter,ifs,0⟩] scope pos) 0 (.ref it) (.ref s2.heap.objs.size) (compEnvC scope (bQ X.env.cells scope.names []) G2.objs.size X.env))
    (RR (.ref s2.heap.objs.size) G2.objs.size X.env.frame) s₃:=by
  rintro s₃ rfl
  refine pP (Ez:=XB (blk X scope own cap G2.objs.size s2 H2 fp) Ez) (fun n s'=>∃ i ys its nn H',Inv (blk X scope own cap G2.objs.size s2 H2 fp) [(s2.heap.objs.size,{ cls:=.type "list",data:=.seq (its:List Value).toArray nn })] (mH own.length cap σ) H' s'∧tn i s'.heap∧(∀ b∈fp,H' b=none)∧Vals ys its∧W i n ys H')
   (fun e s' z=>fail _ _ e s' hC z) ?_ m0 ⟨0,[],[],0,H2,L3.Inv.enter I2 hc B f2 flt old hC hns₁ _ (fun p hp=>?_),T.keep _ _ _ st2 (fun b _ o e=>old b o e),fun b hb=>(f2 b hb).1,.nil,w0⟩
  ·rintro n s3 ⟨i,ys,its,nn,H3,J3,st3,fr3,rv,w3⟩
   have fpb:∀ {pl:List (Addr×Obj)} {H':Hp},(∀ b∈fp,H' b=none)→(∀ p∈pl,∀ b∈fp,p.1≠b)→∀ b∈fp,jr (blk X scope own cap G2.objs.size s2 H2 fp) pl H' b:=fun {pl H'} hn hp b hb=>
    ⟨hn b hb,Nat.ne_of_lt (Nat.lt_of_lt_of_le (flt b hb) hC),fun z=>J3.ok.exfs b hb z,.inl hb,fun x c e=>(J3.ok.exf b hb).2 x c e,fun p hp'=>by
     rcases List.mem_append.mp hp' with z | z
     ·exact absurd (show p∈([]:List (Addr×Obj)) from z) (by simp)
     ·exact hp p z b hb⟩
   have nD:∀ (o:Obj),∀ p∈[(s2.heap.objs.size,o)],∀ b∈fp,p.1≠b:=fun o p hp b hb=>by
    have e:p=(s2.heap.objs.size,o):=by simpa using hp
    subst e
    exact (Nat.ne_of_lt (flt b hb)).symm
   obtain ⟨hz,tr⟩:=turn i n ys H3 w3
   rcases tr with ⟨stop,qD⟩ | ⟨go,N,hN,step⟩
   ·refine thn (T.done (blk X scope own cap G2.objs.size s2 H2 fp) rfl rfl rfl rfl i _ s3 _ H3 (fun _ _=>False) J3 (fpb fr3 (nD _)) st3 stop) fun r s4 ⟨hr,J4⟩=>?_
    subst hr
    exact done _ _ s4 H3 _ ys its nn hC (Nat.le_refl _) hDC J4 rv hz qD
   ·refine thn (T.item (blk X scope own cap G2.objs.size s2 H2 fp) rfl rfl rfl rfl i _ s3 _ H3 (fun _ _=>False) J3 (fpb fr3 (nD _)) st3 go) fun r s4 ⟨u,hr,h4⟩=>?_
    subst hr
    refine thn h4 fun _ s5 ⟨x,H5,J5,r5,y5,st5,fr5⟩=>?_
    have J5':=J5.pinned (fpb fr5 (nD _)) (T.obj _ _ st5)
    refine thn (hg _ _ _ _ _ s5 _ H5 x u _ J5' r5 (step x H5 y5)) fun _ s6 ⟨σ6,H6,J6,q6⟩=>?_
    -- a turn's end,the list at L as it stands
    have again:∀ {pl:List (Addr×Obj)} {its':List Value} {nn':Nat} {ys':List V} {s8:Shared} {H8:Hp} {σ8:St} {m':Nat},Inv (blk X scope own cap G2.objs.size s2 H2 fp) ([(s2.heap.objs.size,{ cls:=.type "list",data:=.seq its'.toArray nn' })]++dH fp s5.heap) σ8 H8 s8→Vals ys' its'→m' < n→W (i+1) m' ys' H8 →
      ∃ m,m < n∧∃ i ys its nn H',Inv (blk X scope own cap G2.objs.size s2 H2 fp) [(s2.heap.objs.size,{ cls:=.type "list",data:=.seq (its:List Value).toArray nn })] (mH own.length cap σ) H' s8∧tn i s8.heap∧(∀ b∈fp,H' b=none)∧Vals ys its∧W i m ys H':=by
     intro pl its' nn' ys' s8 H8 σ8 m' J8 rv' hm w8
     have yX:∀ b∈fp,∀ o,s5.heap.get? b=some o→s8.heap.get? b=some o∧H8 b=none:=fun b hb o e=>by
      have q:=J8.pin (b,o) (List.mem_append_right _ (List.mem_append_right _ (fH hb e)))
      exact ⟨q.1,q.2.1⟩
     refine ⟨m',hm,i+1,ys',its',nn',H8,Inv.again I2 B f2 J8.fW,T.keep _ _ _ st5 fun b hb o e=>(yX b hb o e).1,fun b hb=>?_,rv',w8⟩
     obtain ⟨o,e,_⟩:=T.obj _ _ st5 b hb
     exact (yX b hb o e).2
    refine thn (ht _ _ _ _ _ s6 _ H6 _ J6 q6) fun ok s7 ⟨H7,J7,q7⟩=>?_
    cases ok with
    | false=>
     rw [if_neg Bool.false_ne_true]
     rw [if_neg Bool.false_ne_true] at q7
     obtain ⟨m',hm,w7⟩:=hN _ _ q7
     exact again (pl:=[]) J7 rv hm w7
    | true=>
     rw [if_pos rfl]
     rw [if_pos rfl] at q7
     refine wpAny_mono (he _ _ _ _ _ s7 _ H7 _ (J7.eZ _) q7) (fun v s8 ⟨y,H8,J8',ry,q8⟩=>?_) (fun _ _ z=>z)
     have J8:=J8'.ck
     obtain ⟨m',hm,w8⟩:=hN _ _ q8
     have pL:=J8.pin (s2.heap.objs.size,{ cls:=.type "list",data:=.seq its.toArray nn }) (List.mem_append_right _ (List.mem_append_left _ (List.mem_singleton.mpr rfl)))
     refine wpAny_list_append_plain (l:=s2.heap.objs.size) (items:=its.toArray) ⟨nn,pL.1⟩ (fun h' hp' hsb=>?_) (by rw [List.size_toArray,← rv.length];exact hz)
     obtain ⟨nn',hL'⟩:=hp'
     have J9:Inv (blk X scope own cap G2.objs.size s2 H2 fp) (dH fp s5.heap) σ6 H8 s8:=J8.gQ fun p hp=>J8.pin p (List.mem_append_right _ (List.mem_append_right _ hp))
     have Ek:∀ p∈(blk X scope own cap G2.objs.size s2 H2 fp).pn++dH fp s5.heap,p.1≠s2.heap.objs.size:=fun p hp=>by
      rcases List.mem_append.mp hp with z | z
      ·exact absurd (show p∈([]:List (Addr×Obj)) from z) (by simp)
      ·exact Nat.ne_of_lt (flt _ (jH z).1)
     have J10:Inv (blk X scope own cap G2.objs.size s2 H2 fp) (dH fp s5.heap) σ6 H8 { s8 with heap:=h' }:=J9.turned (t':=s8.toks) (it:=s2.heap.objs.size) (fun b o hb e=>(hsb.2 b hb).trans e) pL.2.1 pL.2.2.1 (.inr (Nat.le_refl _))
      (fun x c e z=>by
       obtain ⟨v',o',ho',hd'⟩:=J9.cell x c e
       rw [z,pL.1] at ho';cases ho';cases hd') Ek
     refine again (pl:=[]) (its':=its++[v]) (nn':=nn') (J10.gQ fun p hp=>?_) (rv.append (.cons ry .nil)) hm w8
     rcases List.mem_append.mp hp with z | z
     ·have e:p=(s2.heap.objs.size,{ cls:=.type "list",data:=.seq (its++[v]).toArray nn' }):=by simpa using z
      subst e
      refine ⟨?_,pL.2.1,pL.2.2.1,pL.2.2.2.1,fun v'=>by intro q;cases q⟩
      rw [hL']
      simp
     ·exact J10.pin p (List.mem_append_right _ z)
  ·have e:p=(s2.heap.objs.size,{ cls:=.type "list",data:=.seq ([]:List Value).toArray 0 }):=by simpa using hp
   subst e
   exact ⟨hacc,Nat.le_refl _,hDC,fun v'=>by intro q;cases q⟩
 exact codeAny_compStart_list (loop _ rfl) (T.self _ 0 _ _ _ (T.keep _ _ _ st2 fun b _ o e=>old b o e) (loop _ rfl))

end
end L4
namespace L4
open PySem PySem.Spec PyProof.Rows L2 L3 PySem.W
section
variable {X:Cx} {scope:Scope} {own:List Str} {cap:List Nat} {tg elt iter:Expr} {ifs:List Expr} {pos:Pos} {wi:TI} {g:TG} {tc:TT} {te:TE} {E:XK}
theorem Fd {h h':Heap} {x t C:Addr} {c:Value} {dx:Option Addr} {fl:Value} (e:ExcAt h x c dx (some t) fl) (sb:Heap.SameBut C h h') (nx:x≠C) (nt:t≠C):ExcAt h' x c dx (some t) fl:=by
 obtain ⟨oe,vs,e1,e2,e3,e4,e5,e6⟩:=e
 obtain ⟨ne,oT,ts,f1,f2,f3⟩:=e6 t rfl
 exact ⟨oe,vs,(sb.2 x nx).trans e1,e2,e3,e4,e5,fun t' z=>by cases z;exact ⟨ne,oT,ts,(sb.2 t nt).trans f1,f2,f3⟩⟩
theorem zb (hst:X.stack=X.env::X.outer) (hfr:X.env.frame=some X.env.locals) (hx:PaX X (fun _=>E)) (hc:X.calm=true) (hi:PI X tg iter wi) (B:Blk X scope own cap) (hg:∀ C s H fp,PG (blk X scope own cap C s H fp) tg g) (ht:∀ C s H fp,uu (blk X scope own cap C s H fp) ifs tc)
  (he:∀ C s H fp,PE ((blk X scope own cap C s H fp).eZ (XB (blk X scope own cap C s H fp) E)) elt te) (hs:∀ x,foldedSetIterable iter X.env x=pure x:=by intro _;rfl):PE X (.ListComp elt [⟨tg,iter,ifs,0⟩] scope pos) (ql wi own.length cap g tc te):=by
 intro pins s σ H Q I h
 rw [eval_ListComp]
 refine ua rfl hs (jS (B.cells I.ok)) B.kind B.names (thn (hi pins s σ H _ I h) fun v s1 h1=>thn h1 fun itv s2 h2=>?_)
 obtain ⟨it,fp,tn,J,H2,e,I2,T,st2,f2,W,⟨m0,w0⟩,turn⟩:=h2
 subst e
 refine rm (RR:=fun acc C fr=>nT (model X.prog X.w) X.A X.xe (EP X pins σ Q) acc C fr) hst hfr B hc hg ht he I2 T st2 f2 w0 turn ?_ ?_
 ·intro C L s' H' σ' ys its n hC hL hLC J' rv hz hD
  obtain ⟨m,hn,_⟩:=J'.loc
  have nL:=(J'.pin _ (List.mem_append_right _ (List.mem_singleton.mpr rfl))).2.1
  exact ⟨m,hn,fun h' hs'=>⟨.ref L,_,Inv.leave I2 f2 hC hL hLC J' hs' rv hz,rfl,hD L nL⟩⟩
 ·intro C L e s' hC hb
  obtain ⟨pl,σ',H',x,c,dx,t,rfl,J',ex,ox,ot,q⟩:=hb
  unfold notedBy
  rw [tD (show (compEnvC scope (bQ X.env.cells scope.names []) C X.env).frame=X.env.frame from rfl)]
  have hfs:=I2.ok.frames
  have hk:s'.heap.FunFrames X.base X.stack:=J'.stack
  rw [hst] at hfs hk
  refine iI (base:=X.base) hfs hk hfr ex (.inl rfl) fun h1 t1 a b cc=>?_
  have J1:=fK (T:=some t) J' ox (fun t' z=>by cases z;exact ot) (by show But x (some t) (frs X.stack) _ _;rw [hst];exact b)
  obtain ⟨m,hn,_⟩:=J1.loc
  obtain ⟨o1,o2,o3⟩:s2.heap.objs.size≤t1∧H' t1=none∧t1≠C:=by
   rcases cc with cc | cc
   ·cases cc
    exact ⟨ot.ab,ot.no,ot.lo⟩
   ·exact ⟨Nat.le_trans J'.sz cc,J'.hok.fresh cc,Nat.ne_of_gt (Nat.lt_of_lt_of_le J'.lt cc)⟩
  refine ⟨m,hn,fun h2 sb cenv el ef=>?_⟩
  have a2:=Fd a sb ox.lo o3
  have K:=leaveX I2 f2 hC J1 sb
  have oxX:eG X pins H' x:=cP I2 ox.ab ox.no
  have otX:eG X pins H' t1:=cP I2 o1 o2
  unfold PySem.passOn
  obtain ⟨oe,vs,e1,e2,e3,e4,e5,e6⟩:=id a2
  refine wpAny_bind (wpAny_field e1 e4 e5 ?_)
  rw [if_neg (by simp)]
  refine wpAny_bind (dW (fr:=cenv.frame) a2 fun h3 a3 b3=>wpAny_throw (hx _ _ ?_))
  exact ⟨pins,σ,H',x,c,dx,some t1,_,rfl,fK K oxX (fun t' z=>by cases z;exact otX) (b3.mono fun _ z=>absurd z (by simp)),a3,.inr (by rw [ef,hfr];rfl),oxX,fun t' z=>by cases z;exact otX,q⟩
end
section
variable {X:Cx} {k:Nat} {f:Addr} {fd:FuncData} {ps:List Str} {sp:Sp} {E:XK} {x:Str} {p pos:Pos} {e:Expr} {es:List Expr} {t:TA}
theorem AL {pins:List (Addr×Obj)} {σ : St} {H:Hp} {s s':Shared} {e:Value} (I:Inv X pins σ H s) (h:CX1 X.prog X.w X.stack H s E e s'):XB X E e s':=by
 obtain ⟨x,C,dx,t,H',rfl,os,bare,un,hok,ex,x1,t1,nx,nt,q⟩:=h
 exact ⟨pins,σ,H',x,C,dx,t,rfl,I.Au (ch:=[]) os un hok bare (fun b z=>absurd z (by simp)),ex,cP I x1 nx,cP I t1 nt,q⟩
theorem AK:∀ e s',XB (X.eZ (XB X E)) E e s'→(X.eZ (XB X E)).xe e s':=fun _ _ ⟨pins,σ,H,x,C,dx,t,a,I,b,o,ot,q⟩=>⟨pins,σ,H,x,C,dx,t,a,I.ck,b,o.ck,ot.ck,q⟩
theorem Ea (C:Cal X.prog X.w X.K X.mg X.base (CX1 X.prog X.w) x k ps sp) (hr:cy k X.A) (hx:∀ e s',XB X E e s'→X.xe e s') (ha:PA X (e::es) t) (hg:Gl X x:=by rfl)
  (hdb:(x == ("__debug__" : Str))=false:=by decide) (he:starEach (e::es) X.env=(false,eval e X.env)::starEach es X.env:=by rfl) (hpl:(backTo pos (starEach es X.env)).any (·.1)=false:=by rfl) :
  PE X (.Call (.Name x p) (e::es) [] pos) (sD sp (fun _=>E) t):=by
 obtain ⟨f,fd,F,b,kp,m⟩:=C.ex
 intro pins s σ H Q I h
 refine wpAny_Call_Name_kw (cQ I hg m ?_ hdb)
 refine PySem.W.callWith_K (h₀:=X.base) I.ok.mod.kin kp (thn (ha pos pins s σ H _ I h) fun us s1 ⟨vs,H1,I1,r,q⟩=>⟨I1.kIn,?_⟩) he hpl
 have hl:us.length=ps.length:=by rw [← r.length];exact F.len _ _ _ _ q
 have hb':=b s1 us I1.kIn (by rw [List.append_nil];exact hl)
 rw [List.append_nil] at hb'
 refine wpAny_call (codeAny_mono (F.run X.A X.stack s1 H1 ⟨us,[]⟩ us vs Q E hr I1.w6 hb' r q) fun r s' hq=>?_)
 cases r with
 | error e=>exact hx e s' (AL I1 hq)
 | ok fl=>
  cases fl with
  | ret u=>exact I1.after hq
  | _=>exact False.elim hq
end
end L4

namespace Law
open PySem PySem.Spec PyProof.Rows L2 L3 L4
def bV:List Str→Option (List Nat)
 | []=>some []
 | w::ws=>match bS w.cps.toList with
  | none=>none
  | some n=>(bV ws).map (n :: ·)
theorem lE:∀ {ws:List Str} {ns:List Nat} {w:Str},bV ws=some ns→bV (ws++[w])=(bS w.cps.toList).map (fun n=>ns++[n])
 | [],ns,w,h=>by
  cases h
  show (match bS w.cps.toList with | none=>none | some n=>(bV []).map (n :: ·))=_
  cases bS w.cps.toList <;> rfl
 | x::ws,ns,w,h=>by
  have h:(match bS x.cps.toList with | none=>none | some n=>(bV ws).map (n :: ·))=some ns:=h
  show (match bS x.cps.toList with | none=>none | some n=>(bV (ws++[w])).map (n :: ·))=_
  cases e:bS x.cps.toList with
  | none=>rw [e] at h;cases h
  | some t=>
   rw [e] at h
   cases e2:bV ws with
   | none=>rw [e2] at h;cases h
   | some us=>
    rw [e2] at h
    cases h
    show (bV (ws++[w])).map (t :: ·)=_
    rw [lE e2]
    cases bS w.cps.toList <;> rfl
theorem cI {w:Str}:∀ {ws:List Str},w∈ws→bS w.cps.toList=none→bV ws=none
 | x::ws,h,e=>by
  show (match bS x.cps.toList with | none=>none | some n=>(bV ws).map (n :: ·))=_
  cases e1:bS x.cps.toList with
  | none=>rfl
  | some t=>
   rcases List.mem_cons.mp h with h | h
   ·rw [h,e1] at e;cases e
   ·show (bV ws).map (t :: ·)=none
    rw [cI h e];rfl
theorem gS:∀ {ws:List Str} {ns:List Nat},bV ws=some ns→ns.length=ws.length
 | [],ns,h=>by cases h;rfl
 | x::ws,ns,h=>by
  have h:(match bS x.cps.toList with | none=>none | some n=>(bV ws).map (n :: ·))=some ns:=h
  cases e:bS x.cps.toList with
  | none=>rw [e] at h;cases h
  | some t=>
   rw [e] at h
   cases e2:bV ws with
   | none=>rw [e2] at h;cases h
   | some us=>rw [e2] at h;cases h;rw [List.length_cons,List.length_cons,gS e2]
def nV (ns:List Nat):List V:=ns.map fun n=>V.int ((n:Nat):Int)
def e7 (z:Str):List Str:=(bF 32 z.cps.toList).map sH
inductive mJ where
 | text | shape | sett (w:Str) | told (c s far room term:Nat) (rs:List Str)
def bounds (c s far room term:Nat) (rs:List Str):mJ:=if (decide (1≤c) && (decide (c≤1000) && (decide (1≤s) && decide (s≤1000))))=false then .shape else if 1000000000000 < far then .sett "far" else if (decide (1≤room) && decide (room≤1000000000000))=false then .sett "room" else if (decide (1≤term) && decide (term≤1000000000000))=false then .sett "term" else .told c s far room term rs
end Law

namespace L4
open PySem PySem.Spec PyProof.Rows L2 L3
theorem zX {K:PySem.W.Frag} {H:Hp} {Q:VK} {p:Addr} {ws:List Str} {z:Str} (s:SqL K H p (ws.map V.str)) (h:Q (.bl (!decide (z∈ws))) H):rIn K true (.str z) (.ref p) H Q:=
 ⟨p,_,rfl,.inl s,rfl,rf ws,by rw [if_pos rfl,vf];exact h⟩
end L4
namespace Law
open PySem PySem.Spec PyProof.Rows L2 L3 L4
theorem Dy (z:Str):(e7 z).length≤z.length+1:=by
 have:=dU 32 z.cps.toList
 unfold e7
 rw [List.length_map,dZ]
 exact this
theorem qo (c:Nat):∀ (l:List Nat) (p:List Nat),p∈bF c l→p.length≤l.length:=by
 intro l
 induction l with
 | nil=>intro p hp;rw [List.mem_singleton.mp (show p∈[[]] from hp)];exact Nat.le_refl _
 | cons y r ih=>
  intro p hp
  by_cases e:y=c
  ·subst e
   rw [iB] at hp
   rcases List.mem_cons.mp hp with hp | hp
   ·rw [hp];exact Nat.zero_le _
   ·exact Nat.le_succ_of_le (ih p hp)
  ·obtain ⟨q,qs,e1,e2⟩:=eO (c:=c) (r:=r) e
   rw [e2] at hp
   rcases List.mem_cons.mp hp with hp | hp
   ·rw [hp,List.length_cons,List.length_cons]
    exact Nat.succ_le_succ (ih q (by rw [e1];exact List.mem_cons_self))
   ·exact Nat.le_succ_of_le (ih p (by rw [e1];exact List.mem_cons_of_mem _ hp))
theorem part_short {c:Nat} {z w:Str} (h:w∈(bF c z.cps.toList).map sH):w.length≤z.length:=by
 obtain ⟨p,hp,rfl⟩:=List.mem_map.mp h
 have:=qo c _ p hp
 rw [dZ,dZ]
 show p.toArray.toList.length≤_
 rw [List.toList_toArray]
 exact this
def CP (z:Str):Prop:=z.length≤500∧(allR (eK z)=true→(eK z).length < 64)
section
variable {P:Program} {w:World} {K:PySem.W.Frag} {mg:Str→Option Value} {base:Heap} {CX:CXT} {CN CH CB C CS aR:Addr}
theorem yq:aB ["text", "words"] ["text"] (aj (top 28)):=by walk_at "s"
def qp (CN:Addr):Sp:=fun vs H Q E=>∃ v,vs=[v]∧Knd H v∧(∀ z,v = .str z→z.length≤500)∧(∀ z,v = .str z→("" : Str)∉e7 z→∀ l H',H' l=some (.lst ((e7 z).map V.str))→az H H'→Q (.ref l) H')∧((∀ z,v = .str z→("" : Str)∈e7 z)→∀ H',az H H'→E (.ref CN) none H')
theorem wc (D:Dat K mg "words_of" "words_of" (top 28) ["text"]) (BT:Bt mg) (NE:bN (CX1 P w)) (bu:Cal P w K mg base (CX1 P w) "need" 1 ["is_right"] (fD CN)):Cal P w K mg base (CX1 P w) "words_of" 2 ["text"] (qp CN):=by
 have S:=yq
 refine D.okR S (fun vs H Q E h=>?_) (fun f cdv A outer s H vs Q E hr h=>?_)
 ·obtain ⟨v,rfl,_⟩:=h
  rfl
 obtain ⟨v,rfl,k,hv,qT,qF⟩:=h
 refine ⟨_,(@ai _ _ _ _ _ (@bR _ _ _ _ (@bf _ _ _ _ _ _ _ _ _ _ _ bu (hr.mono (by first | decide | omega)) (@aA _ _) (@aa _ _ _ _ _ (@iG _ _ _ _ _ _ _ _ BT.isinstance BT.str_ L3.ee (@pv _ 0 _ _ (by rfl) (by first | exact Or.inl rfl | exact Or.inr (Or.inl rfl) | exact Or.inr (Or.inr rfl)) (by decide) (by decide)) (by rfl) (by rfl) (by decide) (by decide) (by rfl) (by rfl) (by rfl)) (@af _) (by rfl)) (by rfl) (by decide) (by rfl) (by rfl)) (by rfl)) (@ai _ _ _ _ _ (@aM _ _ 1 _ _ _ _ S.nd rfl (by first | exact Or.inl rfl | exact Or.inr rfl) (@dX _ _ _ _ _ _ _ _ _ _ _ _ PySem.F.plainAttrs_str PySem.F.slot_str_split PySem.F.type_str_split m_split (@pv _ 0 _ _ (by rfl) (by first | exact Or.inl rfl | exact Or.inr (Or.inl rfl) | exact Or.inr (Or.inr rfl)) (by decide) (by decide)) (@aa _ _ _ _ _ (@aq _ _ _ _) (@af _) (by rfl)) (by rfl) (by rfl) (by rfl) (by rfl) (by rfl)) (by rfl) (by first | exact .inl rfl | exact .inr rfl | assumption)) (@ai _ _ _ _ _ (@bR _ _ _ _ (@bf _ _ _ _ _ _ _ _ _ _ _ bu (hr.mono (by first | decide | omega)) (@aA _ _) (@aa _ _ _ _ _ (@bA _ _ _ _ _ _ _ _ (@pq _) (@aq _ _ _ _) (@pv _ 1 _ _ (by rfl) (by first | exact Or.inl rfl | exact Or.inr (Or.inl rfl) | exact Or.inr (Or.inr rfl)) (by decide) (by decide)) (by with_unfolding_all rfl)) (@af _) (by rfl)) (by rfl) (by decide) (by rfl) (by rfl)) (by rfl)) (@ak _ _ _ (@av _ _ _ _ (@pv _ 1 _ _ (by rfl) (by first | exact Or.inl rfl | exact Or.inr (Or.inl rfl) | exact Or.inr (Or.inr rfl)) (by decide) (by decide))))))),?_⟩
 try dsimp only [xcx,bM]
 walk_at "go"
 refine kL k (fun z e=>?_) (fun e=>?_)
 rotate_left
 ·walk_at "go"
  exact aV (fun z=>nomatch z) fun _=>qF (fun z ez=>absurd ez (e z)) _ (az.refl _)
 subst e
 have hz:=hv z rfl
 walk_at "go"
 refine aV (fun _=>?_) (fun z=>nomatch z)
 have L:=Led.start H (fun _=>False)
 walk_at "go"
 refine g_split L (by decide) (by omega) fun b H1 nb L s1=>?_
 rw [show Txt.split z (Str.ofString " ")=e7 z from gK z (c:=32) (by decide)] at L
 have hb:=L.eo (p:=b) .head
 try dsimp only [aS]
 walk_at "go"
 refine zX (SqL.of hb) ?_
 walk_at "go"
 refine aV (fun c=>?_) (fun c=>?_)
 ·walk_at "go"
  exact qT z rfl (by simpa using c) b _ hb s1
 ·exact qF (fun y ey=>by cases ey;simpa using c) _ s1
theorem yz:aB ["words"] ["words"] (aj (top 30)):=by walk_at "s"
def oE (CN:Addr):Sp:=fun vs H Q E=>∃ (l:Addr) (ws:List Str),vs=[.ref l]∧H l=some (.lst (ws.map V.str))∧(∀ x∈ws,x.length≤500)∧ws.length≤501∧(∀ ns,bV ws=some ns→∀ t H',H' t=some (.tup (nV ns))→az H H'→Q (.ref t) H')∧(bV ws=none→∀ H',az H H'→E (.ref CN) none H')
theorem zx (D:Dat K mg "read_numbers" "read_numbers" (top 30) ["words"]) (BT:Bt mg) (NE:bN (CX1 P w)) (cj:Cal P w K mg base (CX1 P w) "read_number" 2 ["word"] (oF CN)):Cal P w K mg base (CX1 P w) "read_numbers" 3 ["words"] (oE CN):=by
 have S:=yz
 refine D.okR S (fun vs H Q E h=>?_) (fun f cdv A outer s H vs Q E hr h=>?_)
 ·obtain ⟨l,ws,rfl,_⟩:=h
  rfl
 obtain ⟨l,ws,rfl,hl,hx,hn,qT,qF⟩:=h
 refine ⟨_,(@ak _ _ _ (@av _ _ _ _ (@b9 _ _ _ _ _ _ _ _ _ (@pS _) rfl BT.tuple_ L3.jl (@aa _ _ _ _ _ (zb (g:=(aS 0)) rfl rfl (@aA _ _) rfl (@fE _ _ _ _ (@pv _ 0 _ _ (by rfl) (by first | exact Or.inl rfl | exact Or.inr (Or.inl rfl) | exact Or.inr (Or.inr rfl)) (by decide) (by decide))) (@eY _ _ ["word"] [] (aj (top 30)).names ["words"] rfl rfl rfl (by decide +kernel)) (fun _ _ _ _=>(@bL _ _ 0 _ (show (jW ["words"] ["word"] []).Nodup by decide +kernel) rfl (by first | exact Or.inl rfl | exact Or.inr rfl) (by first | exact .inl rfl | exact .inr rfl | assumption))) (fun _ _ _ _=>(@cN _)) (fun _ _ _ _=>(Ea cj (hr.mono (by first | decide | omega)) AK (@aa _ _ _ _ _ (@pv _ 0 _ _ (by rfl) (by first | exact Or.inl rfl | exact Or.inr (Or.inl rfl) | exact Or.inr (Or.inr rfl)) (by decide) (by decide)) (@af _) (by rfl))))) (@af _) (by rfl)) (by decide) (by decide) (by rfl) (by rfl)))),?_⟩
 try dsimp only [xcx,bM]
 walk_at "go"
 refine jM (SqL.of hl) ?_
 refine g9 (ws.map V.str) (fun i ys H'=>∃ ns,bV (ws.take i)=some ns∧ys=nV ns∧az H H') ⟨[],rfl,rfl,az.refl _⟩ (fun i ys H' hi ⟨ns,e,e2,s'⟩=>⟨SqL.of (s' _ _ hl),by unfold nV at e2;rw [e2,List.length_map,gS e,List.length_take];exact Nat.le_of_lt (small1000 (by omega))⟩) ?_ ?_
 ·rintro i y ys H' hy ⟨ns,e,rfl,s'⟩
  rw [List.getElem?_map] at hy
  cases ew:ws[i]? with
  | none=>rw [ew] at hy;cases hy
  | some x=>
   rw [ew] at hy
   cases hy
   have hm:x∈ws:=List.mem_of_getElem? ew
   have et:bV (ws.take (i+1))=(bS x.cps.toList).map (fun n=>ns++[n]):=by rw [List.take_add_one,ew];exact lE e
   try dsimp only [aS]
   walk_at "go"
   refine ⟨_,rfl,.str x,(fun y e=>by cases e;exact hx x hm),(fun n er H2 s2=>?_),fun er H2 s2=>qF (cI hm er) _ (s'.trans s2)⟩
   walk_at "go"
   exact ⟨ns++[n],by rw [et,show bS x.cps.toList=some n from er];rfl,by unfold nV;rw [List.map_append];rfl,s'.trans s2⟩
 rintro ys H2 ⟨ns,e,rfl,s2⟩ lc nlc
 rw [List.length_map,List.take_length] at e
 walk_at "go"
 refine ⟨lc,_,rfl,.inl ⟨SqL.of ao,fun t nt=>?_⟩⟩
 exact qT ns e t _ ao ((s2.trans (aQ nlc)).trans (aQ nt))
theorem vS:aB ["words"] ["words"] (aj (top 35)):=by walk_at "s"
def zf (a:Option (List Nat)) (b:Option (List Str)):Option (List Nat×List Str):=match a,b with
 | some ns,some rs=>some (ns,rs)
 | _,_=>none
def cZ (ws:List Str):Option (List Nat×List Str):=match ws with
 | [w0,w1,w2,w3,w4,w5]=>zf (bV [w0,w1,w2,w3,w4]) (cA w5)
 | _=>none
theorem pe {w0 w1 w2 w3 w4 w5:Str} {a:Option (List Nat)} {b:Option (List Str)} (ha:bV [w0,w1,w2,w3,w4]=a) (hb:cA w5=b):cZ [w0,w1,w2,w3,w4,w5]=zf a b:=by
 subst ha hb
 rfl
theorem gR {w0 w1 w2 w3 w4 w5:Str} (ha:bV [w0,w1,w2,w3,w4]=none):cZ [w0,w1,w2,w3,w4,w5]=none:=by
 rw [pe ha rfl];rfl
theorem uX {w0 w1 w2 w3 w4 w5:Str} (hb:cA w5=none):cZ [w0,w1,w2,w3,w4,w5]=none:=by
 rw [pe rfl hb]
 cases bV [w0,w1,w2,w3,w4] <;> rfl
def qu (CN:Addr):Sp:=fun vs H Q E=>∃ (l:Addr) (ws:List Str),vs=[.ref l]∧H l=some (.lst (ws.map V.str))∧(∀ x∈ws,CP x)∧ws.length≤501∧(∀ ns rs,cZ ws=some (ns,rs)→∀ t tr H',H' t=some (.tup (nV ns++[.ref tr]))→H' tr=some (.tup (rs.map V.str))→az H H'→Q (.ref t) H')∧(cZ ws=none→∀ H',az H H'→E (.ref CN) none H')
theorem wj (D:Dat K mg "read_parts" "read_parts" (top 35) ["words"]) (BT:Bt mg) (NE:bN (CX1 P w)) (bu:Cal P w K mg base (CX1 P w) "need" 1 ["is_right"] (fD CN)) (d9:Cal P w K mg base (CX1 P w) "read_numbers" 3 ["words"] (oE CN)) (pU:Cal P w K mg base (CX1 P w) "read_rules" 2 ["word"] (qt CN)):Cal P w K mg base (CX1 P w) "read_parts" 4 ["words"] (qu CN):=by
 have S:=vS
 refine D.okR S (fun vs H Q E h=>?_) (fun f cdv A outer s H vs Q E hr h=>?_)
 ·obtain ⟨l,ws,rfl,_⟩:=h
  rfl
 obtain ⟨l,ws,rfl,hl,hx,hn,qT,qF⟩:=h
 refine ⟨_,(@ai _ _ _ _ _ (@bR _ _ _ _ (@bf _ _ _ _ _ _ _ _ _ _ _ bu (hr.mono (by first | decide | omega)) (@aA _ _) (@aa _ _ _ _ _ (@bA _ _ _ _ _ _ _ _ (@cM _) (@aW _ _ _ _ _ _ _ _ _ (@iA _) rfl BT.len L3.cT (@aa _ _ _ _ _ (@pv _ 0 _ _ (by rfl) (by first | exact Or.inl rfl | exact Or.inr (Or.inl rfl) | exact Or.inr (Or.inr rfl)) (by decide) (by decide)) (@af _) (by rfl)) (by decide) (by decide) (by rfl) (by rfl)) (@ah _ _ _ _) (@aH _ _ (by decide) (by decide))) (@af _) (by rfl)) (by rfl) (by decide) (by rfl) (by rfl)) (by rfl)) (@ak _ _ _ (@av _ _ _ _ (@aG _ _ _ _ _ _ _ _ (@pA _) (@bf _ _ _ _ _ _ _ _ _ _ _ d9 (hr.mono (by first | decide | omega)) (@aA _ _) (@aa _ _ _ _ _ (@bO _ _ _ _ _ _ _ _ _ _ (@cC _) (@pv _ 0 _ _ (by rfl) (by first | exact Or.inl rfl | exact Or.inr (Or.inl rfl) | exact Or.inr (Or.inr rfl)) (by decide) (by decide)) (@b6 _) (@b5 _ _ _ (@ah _ _ _ _))) (@af _) (by rfl)) (by rfl) (by decide) (by rfl) (by rfl)) (@aP _ _ _ _ _ (@aa _ _ _ _ _ (@bf _ _ _ _ _ _ _ _ _ _ _ pU (hr.mono (by first | decide | omega)) (@aA _ _) (@aa _ _ _ _ _ (@aL _ _ _ _ _ _ _ (@aK _) (@pv _ 0 _ _ (by rfl) (by first | exact Or.inl rfl | exact Or.inr (Or.inl rfl) | exact Or.inr (Or.inr rfl)) (by decide) (by decide)) (@ah _ _ _ _) (fun _ _=>rfl)) (@af _) (by rfl)) (by rfl) (by decide) (by rfl) (by rfl)) (@af _) (by rfl))))))),?_⟩
 try dsimp only [xcx,bM]
 walk_at "go"
 refine jd (SqL.of hl) ?_
 rw [List.length_map]
 walk_at "go"
 refine aV (fun c=>?_) (fun c=>?_)
 rotate_left
 ·refine qF ?_ _ (az.refl _)
  rw [decide_eq_false_iff_not] at c
  unfold cZ
  split
  ·exact absurd rfl c
  ·rfl
 rw [decide_eq_true_iff] at c
 have c6:ws.length=6:=by omega
 obtain ⟨w0,w1,w2,w3,w4,w5,rfl⟩:∃ w0 w1 w2 w3 w4 w5,ws=[w0,w1,w2,w3,w4,w5]:=by
  match ws,c6 with
  | [w0,w1,w2,w3,w4,w5],_=>exact ⟨w0,w1,w2,w3,w4,w5,rfl⟩
 walk_at "go"
 refine ⟨l,_,rfl,SqL.of hl,fun l5 nl5=>?_⟩
 have e5:jh ([w0,w1,w2,w3,w4,w5].map V.str) none (some 5)=[w0,w1,w2,w3,w4].map V.str:=rfl
 rw [e5]
 have s5:az H (upd H l5 (.lst ([w0,w1,w2,w3,w4].map V.str))):=aQ nl5
 have h5:(upd H l5 (.lst ([w0,w1,w2,w3,w4].map V.str))) l5=some (.lst ([w0,w1,w2,w3,w4].map V.str)):=ao
 generalize upd H l5 (.lst ([w0,w1,w2,w3,w4].map V.str))=H5 at *
 walk_at "go"
 refine ⟨l5,_,rfl,h5,fun x hm=>(hx x (by simp only [List.mem_cons,List.not_mem_nil,or_false] at hm ⊢;rcases hm with h | h | h | h | h <;> simp [h])).1,by simp,fun ns en t H6 ht s6=>?_,fun en H6 s6=>qF (gR en) _ (s5.trans s6)⟩
 walk_at "go"
 refine cS (SqL.of (s6 _ _ (s5 _ _ hl))) (by with_unfolding_all exact rfl) ?_
 walk_at "go"
 refine ⟨_,rfl,.str w5,(fun y e=>by cases e;exact hx w5 (by simp)),(fun rs er tr H7 htr s7=>?_),fun er H7 s7=>qF (uX er) _ ((s5.trans s6).trans s7)⟩
 have ht7:=s7 _ _ ht
 have L:=(Led.start H7 (fun _=>False)).more (cz t (nV ns)) ht7
 walk_at "go"
 refine tS L' (xs:=nV ns) (ys:=[.ref tr]) (by walk_at "mem") (by walk_at "mem") (by unfold nV;rw [List.length_map,gS en];exact Nat.le_of_lt (small1000 (by simp))) fun t2 H9 L9 s9=>?_
 exact qT ns rs (pe en er) t2 tr _ (L9.tup (by walk_at "mem")) (L9.same _ _ htr) (((s5.trans s6).trans s7).trans L9.same)
theorem DN:aB ["parts", "shape"] ["parts"] (aj (top 36)):=by walk_at "s"
def Fw (C:Addr) (H:Hp) (p:Addr) (c s:Int):Prop:=∃ dx,H p=some (.ins C dx (shF c s))
def Ends (K:PySem.W.Frag) (C CS CN CH CB:Addr) (o:mJ) (H:Hp) (Q:VK) (E:XK):Prop:=match o with
 | .text=>∀ H',az H H'→E (.ref CN) none H'
 | .shape=>∀ H',az H H'→E (.ref CH) none H'
 | .sett wd=>∀ d' H',az H H'→H' d'=some (.xd [("word",.str wd)])→E (.ref CB) (some d') H'
 | .told c s far room term rs=>∀ x sp H',StB K CS H' x (.ref sp) far room term rs→Fw C H' sp c s→az H H'→Q (.ref x) H'
theorem Ends.same {o:mJ} {H H1:Hp} {Q:VK} {E:XK} (h:Ends K C CS CN CH CB o H Q E) (s:az H H1):Ends K C CS CN CH CB o H1 Q E:=by
 cases o with
 | text=>exact fun H' s'=>h H' (s.trans s')
 | shape=>exact fun H' s'=>h H' (s.trans s')
 | sett wd=>exact fun d' H' s' hd=>h d' H' (s.trans s') hd
 | told c s' far room term rs=>exact fun x sp H' a b s'=>h x sp H' a b (s.trans s')
def C6 (K:PySem.W.Frag) (C CS CN CH CB:Addr):Sp:=fun vs H Q E=>∃ (t tr:Addr) (c s far room term:Nat) (rs:List Str),vs=[.ref t]∧H t=some (.tup (nV [c,s,far,room,term]++[.ref tr]))∧H tr=some (.tup (rs.map V.str))∧aZ rs=true∧rs.length≤20∧Ends K C CS CN CH CB (bounds c s far room term rs) H Q E
theorem lT {H:Hp}:∀ rs:List Str,Els H (rs.map V.str) (rs.map El.s)
 | []=>.nil
 | _::rs=>.cons rfl (lT rs)
theorem gy:∀ rs:List Str,elS (rs.map El.s)=rs
 | []=>rfl
 | x::rs=>by
  show x::elS (rs.map El.s)=_
  rw [gy rs]
theorem Ef (D:Dat K mg "settings_of" "settings_of" (top 36) ["parts"]) (BT:Bt mg) (NE:bN (CX1 P w)) (gW:Mak P w K mg base (CX1 P w) "Shape" C 4 ["self", "counts", "slots"] (iU C CH)) (dg:Mak P w K mg base (CX1 P w) "Settings" CS 4 ["self", "shape", "far", "room", "term", "rules"] (dz K CS CB)):Cal P w K mg base (CX1 P w) "settings_of" 6 ["parts"] (C6 K C CS CN CH CB):=by
 have S:=DN
 refine D.okR S (fun vs H Q E h=>?_) (fun f cdv A outer s H vs Q E hr h=>?_)
 ·obtain ⟨t,tr,c,s,far,room,term,rs,rfl,_⟩:=h
  rfl
 obtain ⟨t,tr,c,s',far,room,term,rs,rfl,ht,htr,hrs,h20,en⟩:=h
 have ht:H t=some (.tup [.int (c:Nat),.int (s':Nat),.int (far:Nat),.int (room:Nat),.int (term:Nat),.ref tr]):=ht
 refine ⟨_,(@ai _ _ _ _ _ (@aM _ _ 1 _ _ _ _ S.nd rfl (by first | exact Or.inl rfl | exact Or.inr rfl) (@y9 _ _ _ _ _ _ _ _ _ _ _ _ gW (hr.mono (by first | decide | omega)) (@aA _ _) (@aa _ _ _ _ _ (@aL _ _ _ _ _ _ _ (@bU _) (@pv _ 0 _ _ (by rfl) (by first | exact Or.inl rfl | exact Or.inr (Or.inl rfl) | exact Or.inr (Or.inr rfl)) (by decide) (by decide)) (@ah _ _ _ _) (fun _ _=>rfl)) (@aa _ _ _ _ _ (@aL _ _ _ _ _ _ _ (@bU _) (@pv _ 0 _ _ (by rfl) (by first | exact Or.inl rfl | exact Or.inr (Or.inl rfl) | exact Or.inr (Or.inr rfl)) (by decide) (by decide)) (@ah _ _ _ _) (fun _ _=>rfl)) (@af _) (by rfl)) (by rfl)) (by rfl) (by decide) (by rfl) (by rfl)) (by rfl) (by first | exact .inl rfl | exact .inr rfl | assumption)) (@ak _ _ _ (@av _ _ _ _ (@y9 _ _ _ _ _ _ _ _ _ _ _ _ dg (hr.mono (by first | decide | omega)) (@aA _ _) (@aa _ _ _ _ _ (@pv _ 1 _ _ (by rfl) (by first | exact Or.inl rfl | exact Or.inr (Or.inl rfl) | exact Or.inr (Or.inr rfl)) (by decide) (by decide)) (@aa _ _ _ _ _ (@aL _ _ _ _ _ _ _ (@bU _) (@pv _ 0 _ _ (by rfl) (by first | exact Or.inl rfl | exact Or.inr (Or.inl rfl) | exact Or.inr (Or.inr rfl)) (by decide) (by decide)) (@ah _ _ _ _) (fun _ _=>rfl)) (@aa _ _ _ _ _ (@aL _ _ _ _ _ _ _ (@bU _) (@pv _ 0 _ _ (by rfl) (by first | exact Or.inl rfl | exact Or.inr (Or.inl rfl) | exact Or.inr (Or.inr rfl)) (by decide) (by decide)) (@ah _ _ _ _) (fun _ _=>rfl)) (@aa _ _ _ _ _ (@aL _ _ _ _ _ _ _ (@bU _) (@pv _ 0 _ _ (by rfl) (by first | exact Or.inl rfl | exact Or.inr (Or.inl rfl) | exact Or.inr (Or.inr rfl)) (by decide) (by decide)) (@ah _ _ _ _) (fun _ _=>rfl)) (@aa _ _ _ _ _ (@aL _ _ _ _ _ _ _ (@bU _) (@pv _ 0 _ _ (by rfl) (by first | exact Or.inl rfl | exact Or.inr (Or.inl rfl) | exact Or.inr (Or.inr rfl)) (by decide) (by decide)) (@ah _ _ _ _) (fun _ _=>rfl)) (@af _) (by rfl)) (by rfl)) (by rfl)) (by rfl)) (by rfl)) (by rfl) (by decide) (by rfl) (by rfl))))),?_⟩
 try dsimp only [xcx,bM]
 have L:=(Led.start H (fun _=>False)).more (cz t _) ht
 walk_at "go"
 have sb:∀ n:Nat,iX (.int (n:Nat))=(decide (1≤n) && decide (n≤1000)):=fun n=>by
  show (decide ((1:Int)≤(n:Nat)) && decide (((n:Nat):Int)≤1000))=_
  by_cases h1 : 1≤n
  ·by_cases h2:n≤1000
   ·rw [decide_eq_true h1,decide_eq_true h2,decide_eq_true (by omega),decide_eq_true (by omega)]
   ·rw [decide_eq_true h1,decide_eq_false h2,decide_eq_true (by omega),decide_eq_false (by omega)]
  ·rw [decide_eq_false h1,decide_eq_false (by omega),Bool.false_and,Bool.false_and]
 cases hsd:(decide (1≤c) && (decide (c≤1000) && (decide (1≤s') && decide (s'≤1000)))) with
 | false=>
  have eo:bounds c s' far room term rs = .shape:=if_pos hsd
  rw [eo] at en
  exact oz (.int _) (.int _) (by rw [sb,sb,Bool.and_assoc];exact hsd) en
 | true=>
 rw [Bool.and_eq_true,Bool.and_eq_true,Bool.and_eq_true,decide_eq_true_iff,decide_eq_true_iff,decide_eq_true_iff,decide_eq_true_iff] at hsd
 have Ip:(decide (1≤c) && (decide (c≤1000) && (decide (1≤s') && decide (s'≤1000))))=true:=by rw [decide_eq_true hsd.1,decide_eq_true hsd.2.1,decide_eq_true hsd.2.2.1,decide_eq_true hsd.2.2.2];rfl
 refine mR L ⟨by omega,by omega,by omega,by omega⟩ fun x H2 nx L s2=>?_
 obtain ⟨osh,hsh,dsh,rfl⟩:=L.at_ _ List.mem_cons_self
 try dsimp only [aS]
 walk_at "go"
 have hw:∀ z∈rs,z∈bq:=fun z hz=>by
  unfold aZ allR at hrs
  rw [Bool.and_eq_true] at hrs
  exact of_decide_eq_true (List.all_eq_true.mp hrs.1 z hz)
 have hnd:rs.Nodup∧sortedS rs=true:=by
  unfold aZ at hrs
  rw [Bool.and_eq_true,Bool.and_eq_true,decide_eq_true_iff] at hrs
  exact hrs.2
 have good:nM (.sq false (rs.map El.s))=true:=by
  show (((rs.map El.s).all elB) && decide ((elS (rs.map El.s)).Nodup))=true
  rw [gy,decide_eq_true hnd.1,Bool.and_true,List.all_eq_true]
  intro e he
  obtain ⟨z,hz,rfl⟩:=List.mem_map.mp he
  exact decide_eq_true (hw z hz)
 have sp:∀ (k n:Nat),e8 (k:Int) (.int (n:Nat))=(decide (k≤n) && decide (n≤1000000000000)):=fun k n=>by
  show (decide ((k:Int)≤(n:Nat)) && decide (((n:Nat):Int)≤1000000000000))=_
  by_cases h1:k≤n
  ·by_cases h2:n≤1000000000000
   ·rw [decide_eq_true h1,decide_eq_true h2,decide_eq_true (by omega),decide_eq_true (by omega)]
   ·rw [decide_eq_true h1,decide_eq_false h2,decide_eq_true (by omega),decide_eq_false (by omega)]
  ·rw [decide_eq_false h1,decide_eq_false (by omega),Bool.false_and,Bool.false_and]
 have am:eE (.int (far:Nat)) (.int (room:Nat)) (.int (term:Nat)) (.sq false (rs.map El.s))=if 1000000000000 < far then some ("far" : Str) else if (decide (1≤room) && decide (room≤1000000000000))=false then some ("room" : Str) else if (decide (1≤term) && decide (term≤1000000000000))=false then some ("term" : Str) else none:=by
  unfold eE
  rw [show e8 0 (.int (far:Nat))=_ from sp 0 far,show e8 1 (.int (room:Nat))=_ from sp 1 room,show e8 1 (.int (term:Nat))=_ from sp 1 term,good]
  rw [decide_eq_true (Nat.zero_le far),Bool.true_and]
  by_cases hf : 1000000000000 < far
  ·rw [if_pos hf,if_pos (decide_eq_false (by omega))]
  ·rw [if_neg hf,if_neg (by rw [decide_eq_true (show far≤1000000000000 by omega)];exact fun z=>nomatch z),if_neg (show ¬ true=false from fun z=>nomatch z)]
 have bo:bounds c s' far room term rs=match eE (.int (far:Nat)) (.int (room:Nat)) (.int (term:Nat)) (.sq false (rs.map El.s)) with | some wd=>.sett wd | none=>.told c s' far room term rs:=by
  rw [am]
  unfold bounds
  rw [if_neg (by rw [Ip];exact fun z=>nomatch z)]
  split
  ·rfl
  ·split
   ·rfl
   ·split <;> rfl
 refine ig (d:=.sq false (rs.map El.s)) (.int _) (.int _) (.int _) ⟨tr,_,rfl,s2 _ _ htr,lT rs,by rw [List.length_map];exact h20⟩ (fun hn tV room' term' e1 e2 e3 x2 H3 nx2 hst s3=>?_) fun wd hwd d' H3 s3 hd3=>?_
 ·cases e1;cases e2;cases e3
  rw [bo,hn] at en
  try dsimp only [aS]
  walk_at "go"
  obtain ⟨dx,tr2,ms,g1,g2,g3,g4⟩:=hst
  refine en x2 x H3 ⟨dx,tr2,ms,g1,g2,?_,g4⟩ ⟨dsh,s3 _ _ hsh⟩ (s2.trans s3)
  have e:wsD (.sq false (rs.map El.s))=rs:=gy rs
  rw [e] at g3
  exact g3
 ·rw [bo,hwd] at en
  exact en d' H3 (s2.trans s3) hd3
end
end Law

namespace L4
open PySem PySem.Spec PyProof.Rows L2 L3
def Dd:RL:=fun xs H Q=>(∃ i,xs=[.int i]∧i.natAbs.log2 < 1920∧Q (.str (toString i)) H)∨(∃ z,xs=[.str z]∧Q (.str z) H)
theorem jT {X:Cx}:cV X (.type "str") Dd:=by
 intro pins s σ H xs us Q I r h
 rcases h with ⟨i,rfl,hl,q⟩ | ⟨z,rfl,q⟩
 ·obtain ⟨u,rfl,rx⟩:=vals1 r
  obtain ⟨t,rfl⟩:=rx
  exact P.str_of_int hl ⟨.str _,H,I.tok _,⟨_,rfl⟩,q⟩
 ·obtain ⟨u,rfl,rx⟩:=vals1 r
  obtain ⟨t,rfl⟩:=rx
  exact P.str_of_str ⟨.str _,H,I,⟨_,rfl⟩,q⟩
end L4
namespace Law
open PySem PySem.Spec PyProof.Rows L2 L3 L4
def ic (ws:List Str):mJ:=match cZ ws with
 | some ([c,s,far,room,term],rs)=>bounds c s far room term rs
 | _=>.text
def fS:V→mJ
 | .str z=>if ("" : Str)∈e7 z then .text else ic (e7 z)
 | _=>.text
theorem jI {α : Type} [DecidableEq α]:∀ {ws ss:List α},ws.Nodup→(∀ x∈ws,x∈ss)→ws.length≤ss.length
 | [],_,_,_=>Nat.zero_le _
 | x::ws,ss,nd,hm=>by
  rw [List.nodup_cons] at nd
  have hx:=hm x List.mem_cons_self
  have ih:=jI (ss:=ss.erase x) nd.2 fun y hy=>(List.mem_erase_of_ne (fun z:y=x=>nd.1 (by rw [← z];exact hy))).mpr (hm y (List.mem_cons_of_mem _ hy))
  have:=List.length_erase_of_mem hx
  have:=List.length_pos_of_mem hx
  rw [List.length_cons]
  omega
theorem m6 {z:Str} {rs:List Str} (h:cA z=some rs):aZ rs=true∧rs.length≤5:=by
 have hb:aZ rs=true:=by
  unfold cA at h
  split at h
  ·cases h;decide +kernel
  ·split at h
   ·rename_i c;cases h;exact c
   ·cases h
 refine ⟨hb,?_⟩
 unfold aZ allR at hb
 rw [Bool.and_eq_true,Bool.and_eq_true,decide_eq_true_iff] at hb
 exact jI (ss:=bq) hb.2.1 fun x hx=>of_decide_eq_true (List.all_eq_true.mp hb.1 x hx)
theorem Cj {α : Type}:∀ {l:List α},l.length=5→∃ a b c d e,l=[a,b,c,d,e]
 | [a,b,c,d,e],_=>⟨a,b,c,d,e,rfl⟩
theorem ze {a:Option (List Nat)} {b:Option (List Str)} {ns:List Nat} {rs:List Str} (h:zf a b=some (ns,rs)):a=some ns∧b=some rs:=by
 cases a with
 | none=>exact nomatch h
 | some a=>
  cases b with
  | none=>exact nomatch h
  | some b=>cases h;exact ⟨rfl,rfl⟩
theorem nh {ws:List Str} {ns:List Nat} {rs:List Str} (ep:cZ ws=some (ns,rs)):∃ c s' far room term,ns=[c,s',far,room,term]∧∃ y,cA y=some rs:=by
 unfold cZ at ep
 split at ep
 ·obtain ⟨e1,e2⟩:=ze ep
  obtain ⟨a,b,c,d,e,h⟩:=Cj (gS e1)
  exact ⟨a,b,c,d,e,h,_,e2⟩
 ·cases ep
section
variable {P:Program} {w:World} {K:PySem.W.Frag} {mg:Str→Option Value} {base:Heap} {CX:CXT} {CN CH CB C CS aR:Addr}
theorem yy:aB ["text"] ["text"] (aj (top 37)):=by walk_at "s"
def uN (K:PySem.W.Frag) (C CS CN CH CB:Addr):Sp:=fun vs H Q E=>∃ v,vs=[v]∧Knd H v∧(∀ z,v = .str z→z.length≤300∧∀ x∈e7 z,CP x)∧Ends K C CS CN CH CB (fS v) H Q E
theorem zw (D:Dat K mg "read_settings" "read_settings" (top 37) ["text"]) (BT:Bt mg) (NE:bN (CX1 P w)) (uc:Cal P w K mg base (CX1 P w) "words_of" 2 ["text"] (qp CN)) (pV:Cal P w K mg base (CX1 P w) "read_parts" 4 ["words"] (qu CN)) (mF:Cal P w K mg base (CX1 P w) "settings_of" 6 ["parts"] (C6 K C CS CN CH CB)):Cal P w K mg base (CX1 P w) "read_settings" 7 ["text"] (uN K C CS CN CH CB):=by
 have S:=yy
 refine D.okR S (fun vs H Q E h=>?_) (fun f cdv A outer s H vs Q E hr h=>?_)
 ·obtain ⟨v,rfl,_⟩:=h
  rfl
 obtain ⟨v,rfl,k,hv,en⟩:=h
 refine ⟨_,(@ak _ _ _ (@av _ _ _ _ (@bf _ _ _ _ _ _ _ _ _ _ _ mF (hr.mono (by first | decide | omega)) (@aA _ _) (@aa _ _ _ _ _ (@bf _ _ _ _ _ _ _ _ _ _ _ pV (hr.mono (by first | decide | omega)) (@aA _ _) (@aa _ _ _ _ _ (@bf _ _ _ _ _ _ _ _ _ _ _ uc (hr.mono (by first | decide | omega)) (@aA _ _) (@aa _ _ _ _ _ (@pv _ 0 _ _ (by rfl) (by first | exact Or.inl rfl | exact Or.inr (Or.inl rfl) | exact Or.inr (Or.inr rfl)) (by decide) (by decide)) (@af _) (by rfl)) (by rfl) (by decide) (by rfl) (by rfl)) (@af _) (by rfl)) (by rfl) (by decide) (by rfl) (by rfl)) (@af _) (by rfl)) (by rfl) (by decide) (by rfl) (by rfl)))),?_⟩
 try dsimp only [xcx,bM]
 walk_at "go"
 refine ⟨v,rfl,k,fun z e=>by have:=(hv z e).1;omega,fun z e hne l H1 hl s1=>?_,fun hall H1 s1=>?_⟩
 rotate_left
 ·have et:fS v = .text:=by
   cases v with
   | str z=>exact if_pos (hall z rfl)
   | _=>rfl
  rw [et] at en
  exact en H1 s1
 subst e
 obtain ⟨hz,hx⟩:=hv z rfl
 have et:fS (.str z)=ic (e7 z):=if_neg hne
 rw [et] at en
 have hwl:=Dy z
 walk_at "go"
 refine ⟨l,_,rfl,hl,hx,by omega,fun ns rs ep t tr H2 ht htr s2=>?_,fun ep H2 s2=>?_⟩
 rotate_left
 ·have e2:ic (e7 z) = .text:=by unfold ic;rw [ep]
  rw [e2] at en
  exact en H2 (s1.trans s2)
 obtain ⟨c,s',far,room,term,rfl,hr5⟩:=nh ep
 obtain ⟨y,hy⟩:=hr5
 obtain ⟨hrb,hr5⟩:=m6 hy
 have e2:ic (e7 z)=bounds c s' far room term rs:=by unfold ic;rw [ep]
 rw [e2] at en
 walk_at "go"
 exact ⟨t,tr,c,s',far,room,term,rs,rfl,ht,htr,hrb,by omega,en.same (s1.trans s2)⟩
theorem vQ:aB ["rules"] ["rules"] (aj (top 31)):=by walk_at "s"
def iV (K:PySem.W.Frag):Sp:=fun vs H Q _=>∃ (a:Addr) (ws:List Str),vs=[.ref a]∧SqT K H a (ws.map V.str)∧(∀ z∈ws,z∈bq)∧ws.length≤5∧Q (.str (dN ws)) H
theorem yL:∀ z∈bq,z.length≤6:=by decide +kernel
theorem jC {ws:List Str} (h:∀ z∈ws,z∈bq):(ws.map (·.length)).sum≤6 * ws.length:=by
 induction ws with
 | nil=>exact Nat.le_refl _
 | cons x ws ih=>
  rw [List.map_cons,List.sum_cons,List.length_cons]
  have:=yL x (h x List.mem_cons_self)
  have:=ih fun z hz=>h z (List.mem_cons_of_mem _ hz)
  omega
theorem we (D:Dat K mg "rules_text" "rules_text" (top 31) ["rules"]) (BT:Bt mg) (iK:GlV mg "NO_RULES" (.str "none")):Cal P w K mg base CX "rules_text" 1 ["rules"] (iV K):=by
 have S:=vQ
 walk_at "d"
 ·obtain ⟨a,ws,rfl,_⟩:=h
  rfl
 obtain ⟨a,ws,rfl,ha,hw,h5,q⟩:=h
 have hsum:=jC hw
 have plus:(Str.ofString "+").length=1:=by decide +kernel
 refine ⟨_,(@ak _ _ _ (@av _ _ _ _ (@lC _ _ _ _ _ _ _ _ (@aJ _ _ _ _ _ _ _ _ (@uY _) (@aW _ _ _ _ _ _ _ _ _ (@iA _) rfl BT.len L3.cT (@aa _ _ _ _ _ (@pv _ 0 _ _ (by rfl) (by first | exact Or.inl rfl | exact Or.inr (Or.inl rfl) | exact Or.inr (Or.inr rfl)) (by decide) (by decide)) (@af _) (by rfl)) (by decide) (by decide) (by rfl) (by rfl)) (@ah _ _ _ _) (@aH _ _ (by decide) (by decide))) (@dX _ _ _ _ _ _ _ _ _ _ _ _ PySem.F.plainAttrs_str PySem.F.slot_str_join PySem.F.type_str_join u7 (@aq _ _ _ _) (@aa _ _ _ _ _ (@pv _ 0 _ _ (by rfl) (by first | exact Or.inl rfl | exact Or.inr (Or.inl rfl) | exact Or.inr (Or.inr rfl)) (by decide) (by decide)) (@af _) (by rfl)) (by rfl) (by rfl) (by rfl) (by rfl) (by rfl)) (@oZ _ _ _ _ iK (by rfl) (by decide))))),?_⟩
 try dsimp only [bM]
 walk_at "go"
 refine kN ha ?_
 walk_at "go"
 refine bW (fun c1=>?_) (fun c1=>?_)
 ·walk_at "go"
  rw [List.length_map] at c1
  refine vo ha (by rw [plus];omega) ?_
  have e:dN ws=Txt.join "+" ws:=if_neg fun z=>by rw [z] at c1;exact absurd c1 (by decide)
  rw [e] at q
  exact q
 ·walk_at "go"
  rw [List.length_map] at c1
  have e:dN ws = "none" := if_pos (List.length_eq_zero_iff.mp (by omega))
  rw [e] at q
  exact q
def PrV:V→Prop
 | .int i=>0≤i∧i < 10 ^ 40
 | .str z=>z.length≤150
 | _=>False
def su:V→Str
 | .int i=>((toString i:String):Str)
 | .str z=>z
 | _ => ""
theorem Gj {i:Int} (h0 : 0≤i) (h:i < 10 ^ 40):i.natAbs.log2 < 1920:=by
 by_cases z:i.natAbs=0
 ·rw [z];decide
 ·exact (Nat.log2_lt z).mpr (Nat.lt_of_lt_of_le (show i.natAbs < 10 ^ 40 by omega) (by decide +kernel))
theorem Bj {v:V} (h:PrV v):(su v).length≤150:=by
 cases v with
 | int i=>
  obtain ⟨h0,h1⟩:=(h : 0≤i∧i < 10 ^ 40)
  obtain ⟨n,rfl⟩:=Int.eq_ofNat_of_zero_le h0
  obtain ⟨a,_⟩:=kJ (n:=n) (by omega)
  rw [dZ]
  have:=(gT a).2.1
  show ((toString (n:Int):String):Str).cps.toList.length≤150
  omega
 | str z=>exact h
 | _=>exact h.elim
theorem gI {v:V} {H:Hp} {Q:VK} (h:PrV v) (q:Q (.str (su v)) H):Dd [v] H Q:=by
 cases v with
 | int i=>exact .inl ⟨i,rfl,Gj h.1 h.2,q⟩
 | str z=>exact .inr ⟨z,rfl,q⟩
 | _=>exact h.elim
theorem mT:∀ {zs:List Str},(∀ z∈zs,z.length≤150)→(zs.map (·.length)).sum≤150 * zs.length
 | [],_=>Nat.le_refl _
 | z::zs,h=>by
  rw [List.map_cons,List.sum_cons,List.length_cons]
  have:=h z List.mem_cons_self
  have:=mT fun y hy=>h y (List.mem_cons_of_mem _ hy)
  omega
theorem yt:aB ["things", "sign"] ["things", "sign"] (aj (top 33)):=by walk_at "s"
def fC:Sp:=fun vs H Q _=>∃ (a:Addr) (xs:List V) (sg:Str),vs=[.ref a,.str sg]∧H a=some (.tup xs)∧(∀ v∈xs,PrV v)∧xs.length≤6∧sg.length≤1∧∀ H',az H H'→Q (.str (Txt.join sg (xs.map su))) H'
theorem zo (D:Dat K mg "things_text" "things_text" (top 33) ["things", "sign"]) (BT:Bt mg):Cal P w K mg base CX "things_text" 1 ["things", "sign"] fC:=by
 have S:=yt
 walk_at "d"
 ·obtain ⟨a,xs,sg,rfl,_⟩:=h
  rfl
 obtain ⟨a,xs,sg,rfl,ha,hp,h6,h1,q⟩:=h
 refine ⟨_,(@ak _ _ _ (@av _ _ _ _ (@dX _ _ _ _ _ _ _ _ _ _ _ _ PySem.F.plainAttrs_str PySem.F.slot_str_join PySem.F.type_str_join (@gg _) (@pv _ 1 _ _ (by rfl) (by first | exact Or.inl rfl | exact Or.inr (Or.inl rfl) | exact Or.inr (Or.inr rfl)) (by decide) (by decide)) (@aa _ _ _ _ _ (@eS _ _ _ _ _ _ _ _ _ _ (aS 0) _ _ rfl (@sX _ _ _ _ (@pv _ 0 _ _ (by rfl) (by first | exact Or.inl rfl | exact Or.inr (Or.inl rfl) | exact Or.inr (Or.inr rfl)) (by decide) (by decide))) (@eY _ _ ["thing"] [] (aj (top 33)).names ["things", "sign"] rfl rfl rfl (by decide +kernel)) (fun _ _ _ _=>(@bL _ _ 0 _ (show (jW ["things", "sign"] ["thing"] []).Nodup by decide +kernel) rfl (by first | exact Or.inl rfl | exact Or.inr rfl) (by first | exact .inl rfl | exact .inr rfl | assumption))) (fun _ _ _ _=>(@cN _)) (fun _ _ _ _=>(@b9 _ _ _ _ _ _ _ _ _ jT rfl BT.str_ L3.ee (@aa _ _ _ _ _ (@pv _ 0 _ _ (by rfl) (by first | exact Or.inl rfl | exact Or.inr (Or.inl rfl) | exact Or.inr (Or.inr rfl)) (by decide) (by decide)) (@af _) (by rfl)) (by decide) (by decide) (by rfl) (by rfl))) (by intro _;rfl)) (@af _) (by rfl)) (by rfl) (by rfl) (by rfl) (by rfl) (by rfl)))),?_⟩
 try dsimp only [bM]
 walk_at "go"
 refine pH (SqT.of ha) ?_
 refine kO xs (fun i ys H'=>ys=((xs.take i).map su).map V.str∧H'=H) ⟨rfl,rfl⟩ (fun i ys H' hi ⟨e,e2⟩=>⟨e2▸SqT.of ha,by rw [e,List.length_map,List.length_map,List.length_take];exact Nat.le_of_lt (small1000 (by omega))⟩) ?_ ?_
 ·rintro i y ys H' hy ⟨rfl,rfl⟩
  try dsimp only [aS]
  walk_at "go"
  refine gI (hp y (List.mem_of_getElem? hy)) ?_
  walk_at "go"
  exact ⟨by rw [List.take_add_one,hy,Option.toList,List.map_append,List.map_append];rfl,rfl⟩
 rintro ys H' ⟨rfl,rfl⟩ lc nlc
 rw [List.take_length]
 have hs:=mT (zs:=xs.map su) fun z hz=>by
  obtain ⟨t,ht,rfl⟩:=List.mem_map.mp hz
  exact Bj (hp t ht)
 rw [List.length_map] at hs
 have hm:xs.length * sg.length≤6 * 1:=Nat.mul_le_mul h6 h1
 walk_at "go"
 refine tR (SqL.of ao) (by rw [List.length_map];omega) ?_
 exact q _ (aQ nlc)
end
end Law

namespace Law
open PySem PySem.Spec PyProof.Rows L2 L3 L4
def cut (c:Nat) (z:Str):List Str:=(bF c z.cps.toList).map sH
theorem gz {c:Nat} {sg:Str} (hc:sg=⟨#[c]⟩) {ws:List Str} (hn:ws≠[]) (h:∀ x∈ws,¬ c∈x.cps.toList):cut c (Txt.join sg ws)=ws:=by
 unfold cut Txt.join
 rw [hc,StrLaws.glued_eq_join,dF,fY]
 ·rw [List.map_map]
  exact List.map_id _
 ·simpa using hn
 ·intro p hp
  obtain ⟨t,ht,rfl⟩:=List.mem_map.mp hp
  exact h t ht
theorem HX:(":" : Str)=⟨#[58]⟩:=by decide +kernel
theorem FW:("," : Str)=⟨#[44]⟩:=by decide +kernel
theorem FZ:(" " : Str)=⟨#[32]⟩:=by decide +kernel
def aX (n:Nat):Str:=((toString ((n:Nat):Int):String):Str)
theorem fj {n:Nat} (h:n < 10 ^ 40):bS (aX n).cps.toList=some n:=by
 obtain ⟨a,b⟩:=kJ h
 show (if mq ((toString (n:Int):String):Str).cps.toList=true then some (NumText.digitsVal ((toString (n:Int):String):Str).cps.toList) else none)=_
 rw [if_pos a,b]
theorem i8 {n:Nat} (h:n < 10 ^ 40):(aX n).length≤40:=by
 obtain ⟨a,b⟩:=kJ h
 rw [dZ]
 exact (gT a).2.1
theorem gU {n c:Nat} (h:n < 10 ^ 40) (hc:c < 48∨57 < c):¬ c∈(aX n).cps.toList:=fun hm=>by
 obtain ⟨a,b⟩:=kJ h
 have:=(lP c).mp (List.all_eq_true.mp (gT a).2.2 c hm)
 omega
theorem f9 {n:Nat} {z:Str} (h:n < 10 ^ 40) (hz:bS z.cps.toList=none):aX n≠z:=fun e=>by
 rw [← e,fj h] at hz
 cases hz
inductive Ln where
 | held (n:Nat) | heard (n:Nat) | took (g a b c:Nat) | ends (g n:Nat)
structure Ln3 (a b c:Nat):Prop where
 a:a < 10 ^ 34
 b:b < 10 ^ 34
 c:c < 10 ^ 34
def p6:Ln→Prop
 | .held n=>n < 10 ^ 34
 | .heard n=>n < 10 ^ 34
 | .took g a b c=>1≤g∧g < 10 ^ 34∧Ln3 a b c∧b≤c
 | .ends g n=>1≤g∧g < 10 ^ 34∧n < 10 ^ 34
def fQ (a b c:Nat):Str:=Txt.join "," [aX a,aX b,aX c]
def lnW:Ln→List Str
 | .held n=>["held",aX n]
 | .heard n=>["heard",aX n]
 | .took g a b c=>["took",aX g,fQ a b c]
 | .ends g n=>["ends",aX g,aX n]
def lnT (l:Ln):Str:=Txt.join ":" (lnW l)
def lnD:Ln→Dt
 | .held n=>.tup [.str "held",.int n]
 | .heard n=>.tup [.str "heard",.int n]
 | .took g a b c=>.tup [.str "took",.int g,.tup [.int a,.int b,.int c]]
 | .ends g n=>.tup [.str "ends",.int g,.int n]
def fT (H:Hp) (t:Addr):Ln→Prop
 | .held n=>H t=some (.tup [.str "held",.int (n:Nat)])
 | .heard n=>H t=some (.tup [.str "heard",.int (n:Nat)])
 | .took g a b c=>∃ ta,H t=some (.tup [.str "took",.int (g:Nat),.ref ta])∧H ta=some (.tup [.int (a:Nat),.int (b:Nat),.int (c:Nat)])
 | .ends g n=>H t=some (.tup [.str "ends",.int (g:Nat),.int (n:Nat)])
theorem fT.same {H H':Hp} {t:Addr} {l:Ln} (h:fT H t l) (s:az H H'):fT H' t l:=by
 cases l with
 | took g a b c=>
  obtain ⟨ta,h1,h2⟩:=h
  exact ⟨ta,s _ _ h1,s _ _ h2⟩
 | _=>exact s _ _ h
theorem fT.at {K:PySem.W.Frag} {H:Hp} {t:Addr} {l:Ln} (h:fT H t l):At K H (.ref t) (lnD l):=by
 cases l with
 | took g a b c=>
  obtain ⟨ta,h1,h2⟩:=h
  exact .tup (SqT.of h1) (.cons (.str _) (.cons (.int _) (.cons (.tup (SqT.of h2) (.cons (.int _) (.cons (.int _) (.cons (.int _) .nil)))) .nil)))
 | held n=>exact .tup (SqT.of h) (.cons (.str _) (.cons (.int _) .nil))
 | heard n=>exact .tup (SqT.of h) (.cons (.str _) (.cons (.int _) .nil))
 | ends g n=>exact .tup (SqT.of h) (.cons (.str _) (.cons (.int _) (.cons (.int _) .nil)))
theorem BO (l:Ln):dep (lnD l)≤2:=by
 cases l <;> simp [lnD,dep,deps]
def grO (z:Str):Option Nat:=match bS z.cps.toList with
 | some n=>if 1≤n then some n else none
 | none=>none
def fR (z:Str):Option (Nat×Nat×Nat):=match bV (cut 44 z) with
 | some [a,b,c]=>if b≤c then some (a,b,c) else none
 | _=>none
def pB:Option Nat→Option (Nat×Nat×Nat)→Option Ln
 | some g,some (a,b,c)=>some (.took g a b c)
 | _,_=>none
def pC:Option Nat→Option Nat→Option Ln
 | some g,some n=>some (.ends g n)
 | _,_=>none
def lJ (h x:Str):Option Ln:=if h = "held" then (bS x.cps.toList).map .held else if h = "heard" then (bS x.cps.toList).map .heard else none
def lI (h x y:Str):Option Ln:=if h = "took" then pB (grO x) (fR y) else if h = "ends" then pC (grO x) (bS y.cps.toList) else none
def bZ:List Str→Option Ln
 | [h,x]=>lJ h x
 | [h,x,y]=>lI h x y
 | _=>none
def qS:V→Option Ln
 | .str z=>bZ (cut 58 z)
 | _=>none
theorem gb (o:Option (Nat×Nat×Nat)):pB none o=none:=by cases o <;> rfl
theorem i9 (o:Option Nat):pB o none=none:=by cases o <;> rfl
theorem gc (o:Option Nat):pC none o=none:=by cases o <;> rfl
theorem ja (o:Option Nat):pC o none=none:=by cases o <;> rfl
theorem w9:¬ (("ends" : Str) = "took"):=by decide +kernel
theorem tN:¬ (("heard" : Str) = "held"):=by decide +kernel
theorem dh (x y:Str):bZ ["took",x,y]=pB (grO x) (fR y):=by
 show lI "took" x y=_
 unfold lI
 rw [if_pos rfl]
theorem di (x y:Str):bZ ["ends",x,y]=pC (grO x) (bS y.cps.toList):=by
 show lI "ends" x y=_
 unfold lI
 rw [if_neg w9,if_pos rfl]
theorem jJ (x:Str):bZ ["held",x]=(bS x.cps.toList).map .held:=by
 show lJ "held" x=_
 unfold lJ
 rw [if_pos rfl]
theorem iJ (x:Str):bZ ["heard",x]=(bS x.cps.toList).map .heard:=by
 show lJ "heard" x=_
 unfold lJ
 rw [if_neg tN,if_pos rfl]
theorem dD {h x:Str} (n1:h ≠ "held") (n2:h ≠ "heard"):bZ [h,x]=none:=by
 show lJ h x=_
 unfold lJ
 rw [if_neg n1,if_neg n2]
theorem fk {h x y:Str} (n1:h ≠ "took") (n2:h ≠ "ends"):bZ [h,x,y]=none:=by
 show lI h x y=_
 unfold lI
 rw [if_neg n1,if_neg n2]
theorem lD:∀ {ns:List Nat},(∀ n∈ns,n < 10 ^ 40)→bV (ns.map aX)=some ns
 | [],_=>rfl
 | n::ns,h=>by
  show (match bS (aX n).cps.toList with | none=>none | some m=>(bV (ns.map aX)).map (m :: ·))=_
  rw [fj (h n List.mem_cons_self),lD fun m hm=>h m (List.mem_cons_of_mem _ hm)]
  rfl
theorem dI {n:Nat} (h:n < 10 ^ 34):n < 10 ^ 40:=Nat.lt_trans h (by decide +kernel)
theorem tK {a b c n:Nat} (h:Ln3 a b c) (hn:n∈[a,b,c]):n < 10 ^ 40:=by
 simp only [List.mem_cons,List.not_mem_nil,or_false] at hn
 rcases hn with rfl | rfl | rfl
 ·exact dI h.a
 ·exact dI h.b
 ·exact dI h.c
theorem AE {a b c:Nat} (h:Ln3 a b c):cut 44 (fQ a b c)=[aX a,aX b,aX c]:=by
 refine gz FW (by simp) fun x hx=>?_
 obtain ⟨n,hn,rfl⟩:=List.mem_map.mp (show x∈[a,b,c].map aX from hx)
 exact gU (tK h hn) (.inl (by decide))
theorem xB {a b c:Nat} (h:Ln3 a b c) (hb:b≤c):fR (fQ a b c)=some (a,b,c):=by
 unfold fR
 rw [AE h,show [aX a,aX b,aX c]=[a,b,c].map aX from rfl,lD fun n hn=>tK h hn]
 exact if_pos hb
theorem vm {g:Nat} (h1 : 1≤g) (h:g < 10 ^ 40):grO (aX g)=some g:=by
 unfold grO
 rw [fj h]
 exact if_pos h1
theorem wH {l:Ln} (h:p6 l):bZ (lnW l)=some l:=by
 cases l with
 | held n=>rw [lnW,jJ,fj (dI h)];rfl
 | heard n=>rw [lnW,iJ,fj (dI h)];rfl
 | took g a b c=>rw [lnW,dh,vm h.1 (dI h.2.1),xB h.2.2.1 h.2.2.2];rfl
 | ends g n=>rw [lnW,di,vm h.1 (dI h.2.1),fj (dI h.2.2)];rfl
theorem jL {c x:Nat}:∀ {ps:List (List Nat)},x∈ir c ps→x=c∨∃ p∈ps,x∈p
 | [],h=>by cases h
 | [p],h=>.inr ⟨p,List.mem_cons_self,h⟩
 | p::q::r,h=>by
  have h:x∈p++c::ir c (q::r):=h
  rcases List.mem_append.mp h with h | h
  ·exact .inr ⟨p,List.mem_cons_self,h⟩
  ·rcases List.mem_cons.mp h with h | h
   ·exact .inl h
   ·rcases jL h with h | ⟨p',hp,h⟩
    ·exact .inl h
    ·exact .inr ⟨p',List.mem_cons_of_mem _ hp,h⟩
theorem xA {a b c x:Nat} (h:Ln3 a b c) (hx:x < 44∨57 < x):¬ x∈(fQ a b c).cps.toList:=fun hm=>by
 unfold fQ Txt.join at hm
 rw [FW,StrLaws.glued_eq_join,dF] at hm
 rcases jL hm with h1 | ⟨p,hp,h1⟩
 ·omega
 ·obtain ⟨z,hz,rfl⟩:=List.mem_map.mp hp
  obtain ⟨n,hn,rfl⟩:=List.mem_map.mp (show z∈[a,b,c].map aX from hz)
  exact gU (tK h hn) (by omega) h1
theorem join_le {sg:Str} (hs:sg.length=1) (ws:List Str):(Txt.join sg ws).length≤(ws.map (·.length)).sum+ws.length:=by
 have h:=StrLaws.join_length_le sg ws
 unfold Txt.join
 rw [StrLaws.glued_eq_join]
 rw [hs] at h
 omega
theorem rO {a b c:Nat} (h:Ln3 a b c):(fQ a b c).length≤123:=by
 have:=join_le (sg:=",") (by decide +kernel) [aX a,aX b,aX c]
 have:=i8 (dI h.a)
 have:=i8 (dI h.b)
 have:=i8 (dI h.c)
 simp only [List.map_cons,List.map_nil,List.sum_cons,List.sum_nil,List.length_cons,List.length_nil] at *
 unfold fQ
 omega
structure HH (x:Str):Prop where
 f:¬ 58∈x.cps.toList
 l:x.length≤130
theorem Ep {l:Ln} (h:p6 l):∀ x∈lnW l,HH x:=by
 have nn:∀ n,n < 10 ^ 34→HH (aX n):=fun n hn=>⟨gU (dI hn) (.inr (by decide)),by have:=i8 (dI hn);omega⟩
 cases l with
 | held n=>
  intro x hx
  simp only [lnW,List.mem_cons,List.not_mem_nil,or_false] at hx
  rcases hx with rfl | rfl
  ·exact ⟨by decide +kernel,by decide +kernel⟩
  ·exact nn n h
 | heard n=>
  intro x hx
  simp only [lnW,List.mem_cons,List.not_mem_nil,or_false] at hx
  rcases hx with rfl | rfl
  ·exact ⟨by decide +kernel,by decide +kernel⟩
  ·exact nn n h
 | took g a b c=>
  intro x hx
  simp only [lnW,List.mem_cons,List.not_mem_nil,or_false] at hx
  rcases hx with rfl | rfl | rfl
  ·exact ⟨by decide +kernel,by decide +kernel⟩
  ·exact nn g h.2.1
  ·exact ⟨xA h.2.2.1 (.inr (by decide)),by have:=rO h.2.2.1;omega⟩
 | ends g n=>
  intro x hx
  simp only [lnW,List.mem_cons,List.not_mem_nil,or_false] at hx
  rcases hx with rfl | rfl | rfl
  ·exact ⟨by decide +kernel,by decide +kernel⟩
  ·exact nn g h.2.1
  ·exact nn n h.2.2
def wA:List Str:=["", "-1", "01", "x", "1,2", "3,5,4"]
theorem tw:∀ o∈wA,(¬ 58∈o.cps.toList∧o.length≤130)∧bS o.cps.toList=none∧fR o=none∧o ≠ "held" ∧ o ≠ "heard" ∧ o ≠ "took" ∧ o ≠ "ends" := by decide +kernel
theorem BU:bS (("held" : Str)).cps.toList=none∧bS (("heard" : Str)).cps.toList=none∧bS (("took" : Str)).cps.toList=none∧bS (("ends" : Str)).cps.toList=none:=by decide +kernel
theorem pG {x:Str} (h:bS x.cps.toList=none):grO x=none:=by unfold grO;rw [h]
theorem eV {o x y:Str} (h:o∈wA):bZ [o,x]=none∧bZ [o,x,y]=none:=by
 obtain ⟨_,_,_,h1,h2,h3,h4⟩:=tw o h
 exact ⟨dD h1 h2,fk h3 h4⟩
theorem wG {l:Ln} (hl:p6 l) {i:Nat} (hi:i < (lnW l).length):bZ ((lnW l).take i++(lnW l).drop (i+1))=none:=by
 obtain ⟨k1,k2,k3,k4⟩:=BU
 cases l with
 | held n=>
  obtain rfl | rfl:i=0∨i=1:=by simp only [lnW,List.length_cons,List.length_nil] at hi;omega
  ·rfl
  ·rfl
 | heard n=>
  obtain rfl | rfl:i=0∨i=1:=by simp only [lnW,List.length_cons,List.length_nil] at hi;omega
  ·rfl
  ·rfl
 | took g a b c=>
  obtain rfl | rfl | rfl:i=0∨i=1∨i=2:=by simp only [lnW,List.length_cons,List.length_nil] at hi;omega
  ·exact dD (f9 (dI hl.2.1) k1) (f9 (dI hl.2.1) k2)
  ·exact dD (by decide +kernel) (by decide +kernel)
  ·exact dD (by decide +kernel) (by decide +kernel)
 | ends g n=>
  obtain rfl | rfl | rfl:i=0∨i=1∨i=2:=by simp only [lnW,List.length_cons,List.length_nil] at hi;omega
  ·exact dD (f9 (dI hl.2.1) k1) (f9 (dI hl.2.1) k2)
  ·exact dD (by decide +kernel) (by decide +kernel)
  ·exact dD (by decide +kernel) (by decide +kernel)
theorem zK {l:Ln} {i:Nat} {o:Str} (hi:i < (lnW l).length) (ho:o∈wA):bZ ((lnW l).take i++[o]++(lnW l).drop (i+1))=none:=by
 obtain ⟨_,h1,h2,_⟩:=tw o ho
 cases l with
 | held n=>
  obtain rfl | rfl:i=0∨i=1:=by simp only [lnW,List.length_cons,List.length_nil] at hi;omega
  ·exact (eV (y:="") ho).1
  ·exact (jJ o).trans (by rw [h1];rfl)
 | heard n=>
  obtain rfl | rfl:i=0∨i=1:=by simp only [lnW,List.length_cons,List.length_nil] at hi;omega
  ·exact (eV (y:="") ho).1
  ·exact (iJ o).trans (by rw [h1];rfl)
 | took g a b c=>
  obtain rfl | rfl | rfl:i=0∨i=1∨i=2:=by simp only [lnW,List.length_cons,List.length_nil] at hi;omega
  ·exact (eV ho).2
  ·exact (dh o _).trans (by rw [pG h1];exact gb _)
  ·exact (dh _ o).trans (by rw [h2];exact i9 _)
 | ends g n=>
  obtain rfl | rfl | rfl:i=0∨i=1∨i=2:=by simp only [lnW,List.length_cons,List.length_nil] at hi;omega
  ·exact (eV ho).2
  ·exact (di o _).trans (by rw [pG h1];exact gc _)
  ·exact (di _ o).trans (by rw [h1];exact ja _)
theorem wF {l:Ln} (x:Str):bZ (lnW l++[x])=none:=by
 cases l with
 | held n=>exact fk (by decide +kernel) (by decide +kernel)
 | heard n=>exact fk (by decide +kernel) (by decide +kernel)
 | took g a b c=>rfl
 | ends g n=>rfl
theorem vj:grO "0" = none:=by decide +kernel
theorem nE (y:Str):bZ ["took", "0",y]=none∧bZ ["ends", "0",y]=none:=
 ⟨(dh "0" y).trans (by rw [vj];exact gb _),(di "0" y).trans (by rw [vj];exact gc _)⟩
end Law

namespace Law
open PySem PySem.Spec PyProof.Rows L2 L3 L4
section
variable {P:Program} {w:World} {K:PySem.W.Frag} {mg:Str→Option Value} {base:Heap} {CX:CXT} {CN CH CB C CS aR:Addr}
theorem A6:aB ["shape"] ["shape"] (aj (top 12)):=by walk_at "s"
def yg (C:Addr):Sp:=fun vs H Q _=>∃ (p:Addr) (c s:Int),vs=[.ref p]∧Fw C H p c s∧∀ t H',H' t=some (.tup [.int c,.int s])→az H H'→Q (.ref t) H'
theorem BC (D:Dat K mg "pair_of" "pair_of" (top 12) ["shape"]) (SC:ShC K C):Cal P w K mg base CX "pair_of" 1 ["shape"] (yg C):=by
 have S:=A6
 walk_at "d"
 ·obtain ⟨p,c,s,rfl,_⟩:=h
  rfl
 obtain ⟨p,c,sl,rfl,⟨dx,hp⟩,q⟩:=h
 refine ⟨_,(@ak _ _ _ (@av _ _ _ _ (@aP _ _ _ _ _ (@aa _ _ _ _ _ (@bg _ _ _ _ _ (@pv _ 0 _ _ (by rfl) (by first | exact Or.inl rfl | exact Or.inr (Or.inl rfl) | exact Or.inr (Or.inr rfl)) (by decide) (by decide)) rfl) (@aa _ _ _ _ _ (@bg _ _ _ _ _ (@pv _ 0 _ _ (by rfl) (by first | exact Or.inl rfl | exact Or.inr (Or.inl rfl) | exact Or.inr (Or.inr rfl)) (by decide) (by decide)) rfl) (@af _) (by rfl)) (by rfl))))),?_⟩
 dsimp only [bM]
 have L:=Led.start H (fun _=>False)
 walk_at "go"
 refine ⟨p,C,dx,_,_,rfl,hp,SC.cl,SC.nc,uS c sl,?_⟩
 walk_at "go"
 refine ⟨p,C,dx,_,_,rfl,hp,SC.cl,SC.ns,uR c sl,?_⟩
 walk_at "go"
 exact q _ _ (L'.tup (by walk_at "mem")) (by assumption)
theorem qE:aB ["area"] ["area"] (aj (top 14)):=by walk_at "s"
theorem vW:aB ["area"] ["area"] (aj (top 15)):=by walk_at "s"
def FF (H:Hp) (t:Addr) (x y z:Int):Prop:=H t=some (.tup [.int x,.int y,.int z])
def C9:Sp:=fun vs H Q _=>∃ (t:Addr) (x y z:Int),vs=[.ref t]∧FF H t x y z∧Q (.int y) H
def C8:Sp:=fun vs H Q _=>∃ (t:Addr) (x y z:Int),vs=[.ref t]∧FF H t x y z∧Q (.int z) H
theorem qO (D:Dat K mg "first_of" "first_of" (top 14) ["area"]):Cal P w K mg base CX "first_of" 1 ["area"] C9:=by
 have S:=qE
 walk_at "d"
 ·obtain ⟨t,x,y,z,rfl,_⟩:=h
  rfl
 obtain ⟨t,x,y,z,rfl,ht,q⟩:=h
 refine ⟨_,(@ak _ _ _ (@av _ _ _ _ (@aL _ _ _ _ _ _ _ (@bU _) (@pv _ 0 _ _ (by rfl) (by first | exact Or.inl rfl | exact Or.inr (Or.inl rfl) | exact Or.inr (Or.inr rfl)) (by decide) (by decide)) (@ah _ _ _ _) (fun _ _=>rfl)))),?_⟩
 dsimp only [bM]
 have L:=(Led.start H (fun _=>False)).more (cz t [.int x,.int y,.int z]) ht
 walk_at "go"
 exact q
theorem wu (D:Dat K mg "end_of" "end_of" (top 15) ["area"]):Cal P w K mg base CX "end_of" 1 ["area"] C8:=by
 have S:=vW
 walk_at "d"
 ·obtain ⟨t,x,y,z,rfl,_⟩:=h
  rfl
 obtain ⟨t,x,y,z,rfl,ht,q⟩:=h
 refine ⟨_,(@ak _ _ _ (@av _ _ _ _ (@aL _ _ _ _ _ _ _ (@bU _) (@pv _ 0 _ _ (by rfl) (by first | exact Or.inl rfl | exact Or.inr (Or.inl rfl) | exact Or.inr (Or.inr rfl)) (by decide) (by decide)) (@ah _ _ _ _) (fun _ _=>rfl)))),?_⟩
 dsimp only [bM]
 have L:=(Led.start H (fun _=>False)).more (cz t [.int x,.int y,.int z]) ht
 walk_at "go"
 exact q
def StX (K:PySem.W.Frag) (C CS:Addr) (H:Hp) (x:Addr) (c s far room term:Nat) (ms:List Str):Prop:=∃ dx tr sp dsp,H x=some (.ins CS dx (stF (.ref sp) far room term tr))∧SqT K H tr (ms.map V.str)∧H sp=some (.ins C dsp (shF c s))
theorem StX.same {H H':Hp} {x:Addr} {c s far room term:Nat} {ms:List Str} (h:StX K C CS H x c s far room term ms) (sm:az H H'):StX K C CS H' x c s far room term ms:=by
 obtain ⟨dx,tr,sp,dsp,h1,h2,h3⟩:=h
 exact ⟨dx,tr,sp,dsp,sm _ _ h1,dS sm h2,sm _ _ h3⟩
theorem StX.of {H:Hp} {x sp:Addr} {c s far room term:Nat} {ms:List Str} (h:StB K CS H x (.ref sp) far room term ms) (h2:Fw C H sp c s) (hr:aZ ms=true):StX K C CS H x c s far room term ms:=by
 obtain ⟨dx,tr,ms',g1,g2,g3,g4⟩:=h
 obtain ⟨dsp,g5⟩:=h2
 have hm:ms'=ms:=by
  unfold aZ allR at hr
  rw [Bool.and_eq_true,Bool.and_eq_true] at hr
  refine mX (fun z hz=>of_decide_eq_true (List.all_eq_true.mp hr.1 z (g3.subset hz))) g3 g4 hr.2.2
 subst hm
 exact ⟨dx,tr,sp,dsp,g1,g2,g5⟩
structure N5 (c s far room term:Nat):Prop where
 c:c < 10 ^ 34
 s:s < 10 ^ 34
 f:far < 10 ^ 34
 r:room < 10 ^ 34
 t:term < 10 ^ 34
def bK (c s far room term:Nat) (ms:List Str):List Str:=[aX c,aX s,aX far,aX room,aX term,dN ms]
theorem cY {ms:List Str} (h:aZ ms=true):(∀ z∈ms,z∈bq)∧ms.length≤5:=by
 unfold aZ allR at h
 rw [Bool.and_eq_true,Bool.and_eq_true,decide_eq_true_iff] at h
 have hw:∀ z∈ms,z∈bq:=fun z hz=>of_decide_eq_true (List.all_eq_true.mp h.1 z hz)
 exact ⟨hw,jI (ss:=bq) h.2.1 hw⟩
theorem iP {ms:List Str} (h:∀ z∈ms,z∈bq) (h5:ms.length≤5):(dN ms).length≤60:=by
 unfold dN
 split
 ·decide +kernel
 ·have:=join_le (sg:="+") (by decide +kernel) ms
  have:=jC h
  omega
theorem bI {n:Nat} (h:n < 10 ^ 34):PrV (.int (n:Nat)):=⟨by omega,by have:=dI h;exact_mod_cast this⟩
theorem yu:aB ["settings", "spans"] ["settings"] (aj (top 34)):=by walk_at "s"
def uK (K:PySem.W.Frag) (C CS:Addr):Sp:=fun vs H Q _=>∃ (x:Addr) (c s far room term:Nat) (ms:List Str),vs=[.ref x]∧StX K C CS H x c s far room term ms∧N5 c s far room term∧aZ ms=true∧∀ H',az H H'→Q (.str (Txt.join " " (bK c s far room term ms))) H'
theorem zp (D:Dat K mg "settings_text" "settings_text" (top 34) ["settings"]) (SC:ShC K C) (SS:StC K CS) (NE:bN CX) (xr:Cal P w K mg base CX "pair_of" 1 ["shape"] (yg C)) (pT:Cal P w K mg base CX "rules_text" 1 ["rules"] (iV K)) (cF:Cal P w K mg base CX "things_text" 1 ["things", "sign"] fC):Cal P w K mg base CX "settings_text" 2 ["settings"] (uK K C CS):=by
 have S:=yu
 walk_at "d"
 ·obtain ⟨x,c,s,far,room,term,ms,rfl,_⟩:=h
  rfl
 obtain ⟨x,c,s',far,room,term,ms,rfl,⟨dx,tr,sp,dsp,hx,htr,hsp⟩,n5,hrb,q⟩:=h
 obtain ⟨hw,h5⟩:=cY hrb
 refine ⟨_,(@ai _ _ _ _ _ (@aM _ _ 1 _ _ _ _ S.nd rfl (by first | exact Or.inl rfl | exact Or.inr rfl) (@aP _ _ _ _ _ (@aa _ _ _ _ _ (@bg _ _ _ _ _ (@pv _ 0 _ _ (by rfl) (by first | exact Or.inl rfl | exact Or.inr (Or.inl rfl) | exact Or.inr (Or.inr rfl)) (by decide) (by decide)) rfl) (@aa _ _ _ _ _ (@bg _ _ _ _ _ (@pv _ 0 _ _ (by rfl) (by first | exact Or.inl rfl | exact Or.inr (Or.inl rfl) | exact Or.inr (Or.inr rfl)) (by decide) (by decide)) rfl) (@aa _ _ _ _ _ (@bg _ _ _ _ _ (@pv _ 0 _ _ (by rfl) (by first | exact Or.inl rfl | exact Or.inr (Or.inl rfl) | exact Or.inr (Or.inr rfl)) (by decide) (by decide)) rfl) (@af _) (by rfl)) (by rfl)) (by rfl))) (by rfl) (by first | exact .inl rfl | exact .inr rfl | assumption)) (@ak _ _ _ (@av _ _ _ _ (@aI _ _ _ _ _ _ _ _ _ _ _ _ cF (hr.mono (by first | decide | omega)) NE.pass (@aa _ _ _ _ _ (@aG _ _ _ _ _ _ _ _ (@pA _) (@aG _ _ _ _ _ _ _ _ (@pA _) (@aI _ _ _ _ _ _ _ _ _ _ _ _ xr (hr.mono (by first | decide | omega)) NE.pass (@aa _ _ _ _ _ (@bg _ _ _ _ _ (@pv _ 0 _ _ (by rfl) (by first | exact Or.inl rfl | exact Or.inr (Or.inl rfl) | exact Or.inr (Or.inr rfl)) (by decide) (by decide)) rfl) (@af _) (by rfl)) (by rfl) (by decide) (by rfl) (by rfl)) (@pv _ 1 _ _ (by rfl) (by first | exact Or.inl rfl | exact Or.inr (Or.inl rfl) | exact Or.inr (Or.inr rfl)) (by decide) (by decide))) (@aP _ _ _ _ _ (@aa _ _ _ _ _ (@aI _ _ _ _ _ _ _ _ _ _ _ _ pT (hr.mono (by first | decide | omega)) NE.pass (@aa _ _ _ _ _ (@bg _ _ _ _ _ (@pv _ 0 _ _ (by rfl) (by first | exact Or.inl rfl | exact Or.inr (Or.inl rfl) | exact Or.inr (Or.inr rfl)) (by decide) (by decide)) rfl) (@af _) (by rfl)) (by rfl) (by decide) (by rfl) (by rfl)) (@af _) (by rfl)))) (@aa _ _ _ _ _ (@aq _ _ _ _) (@af _) (by rfl)) (by rfl)) (by rfl) (by decide) (by rfl) (by rfl))))),?_⟩
 try dsimp only [bM]
 have L:=Led.start H (fun _=>False)
 walk_at "go"
 refine ⟨x,CS,dx,_,_,rfl,hx,SS.cl,SS.n2,kI _ _ _ _ _,?_⟩
 walk_at "go"
 refine ⟨x,CS,dx,_,_,rfl,hx,SS.cl,SS.n3,iT _ _ _ _ _,?_⟩
 walk_at "go"
 refine ⟨x,CS,dx,_,_,rfl,hx,SS.cl,SS.n4,iS _ _ _ _ _,?_⟩
 walk_at "go"
 have s1:=L'.same
 have ht1:=L'.tup (r:=t') (by walk_at "mem")
 refine ⟨x,CS,dx,_,_,rfl,s1 _ _ hx,SS.cl,SS.n1,cW _ _ _ _ _,?_⟩
 walk_at "go"
 refine ⟨sp,_,_,rfl,⟨dsp,s1 _ _ hsp⟩,fun tp H2 htp s2=>?_⟩
 have ht2:=s2 _ _ ht1
 have hx2:=s2 _ _ (s1 _ _ hx)
 have zO:=dS (s1.trans s2) htr
 have s12:=s1.trans s2
 clear L L'
 have L:=((Led.start H2 (fun _=>False)).more (cz tp _) htp).more (cz _ _) ht2
 walk_at "go"
 refine tS L (xs:=[.int (c:Nat),.int (s':Nat)]) (ys:=[.int (far:Nat),.int (room:Nat),.int (term:Nat)]) (by walk_at "mem") (by walk_at "mem") (by walk_at "sz") fun t3 H3 L s3=>?_
 walk_at "go"
 have s3:=L.same
 refine ⟨x,CS,dx,_,_,rfl,s3 _ _ hx2,SS.cl,SS.n5,gJ _ _ _ _ _,?_⟩
 walk_at "go"
 refine ⟨tr,ms,rfl,dS s3 zO,hw,h5,?_⟩
 walk_at "go"
 refine tS L' (xs:=[.int (c:Nat),.int (s':Nat),.int (far:Nat),.int (room:Nat),.int (term:Nat)]) (ys:=[.str (dN ms)]) (by walk_at "mem") (by walk_at "mem") (by walk_at "sz") fun t5 H5 L s5=>?_
 have s5:=L.same
 have ht5:=L.tup (r:=t5) (by walk_at "mem")
 walk_at "go"
 refine ⟨t5,_, " ",rfl,ht5,fun v hv=>?_,by simp,by decide +kernel,fun H6 s6=>?_⟩
 ·simp only [List.cons_append,List.nil_append,List.mem_cons,List.not_mem_nil,or_false] at hv
  rcases hv with rfl | rfl | rfl | rfl | rfl | rfl
  ·exact bI n5.c
  ·exact bI n5.s
  ·exact bI n5.f
  ·exact bI n5.r
  ·exact bI n5.t
  ·have:=iP hw h5
   show (dN ms).length≤150
   omega
 ·exact q _ ((s12.trans s5).trans s6)
end
end Law

namespace Law
open PySem PySem.Spec PyProof.Rows L2 L3 L4
section
variable {P:Program} {w:World} {K:PySem.W.Frag} {mg:Str→Option Value} {base:Heap} {CX:CXT} {CN CH CB C CS aR:Addr}
theorem yE:aB ["line"] ["line"] (aj (top 38)):=by walk_at "s"
def qw:Sp:=fun vs H Q _=>∃ (t:Addr) (l:Ln),vs=[.ref t]∧fT H t l∧p6 l∧∀ H',az H H'→Q (.str (lnT l)) H'
theorem uE {H:Hp} {Q:VK} {E:XK} {t:Addr} {k:Str} {n:Nat} (ht:H t=some (.tup [.str k,.int (n:Nat)])) (hk:k.length≤150) (hn:n < 10 ^ 34) (q:∀ H',az H H'→Q (.str (Txt.join ":" [k,aX n])) H'):fC [.ref t,.str ":"] H Q E:=by
 refine ⟨t,_, ":",rfl,ht,fun v hv=>?_,by simp,by decide +kernel,q⟩
 simp only [List.mem_cons,List.not_mem_nil,or_false] at hv
 rcases hv with rfl | rfl
 ·exact hk
 ·exact bI hn
theorem AQ {H:Hp} {Q:VK} {E:XK} {t:Addr} {k:Str} {g n:Nat} (ht:H t=some (.tup [.str k,.int (g:Nat),.int (n:Nat)])) (hk:k.length≤150) (hg:g < 10 ^ 34) (hn:n < 10 ^ 34) (q:∀ H',az H H'→Q (.str (Txt.join ":" [k,aX g,aX n])) H'):fC [.ref t,.str ":"] H Q E:=by
 refine ⟨t,_, ":",rfl,ht,fun v hv=>?_,by simp,by decide +kernel,q⟩
 simp only [List.mem_cons,List.not_mem_nil,or_false] at hv
 rcases hv with rfl | rfl | rfl
 ·exact hk
 ·exact bI hg
 ·exact bI hn
theorem xP {H:Hp} {Q:VK} {E:XK} {t:Addr} {k a:Str} {g:Nat} (ht:H t=some (.tup [.str k,.int (g:Nat),.str a])) (hk:k.length≤150) (hg:g < 10 ^ 34) (hn:a.length≤150) (q:∀ H',az H H'→Q (.str (Txt.join ":" [k,aX g,a])) H'):fC [.ref t,.str ":"] H Q E:=by
 refine ⟨t,_, ":",rfl,ht,fun v hv=>?_,by simp,by decide +kernel,q⟩
 simp only [List.mem_cons,List.not_mem_nil,or_false] at hv
 rcases hv with rfl | rfl | rfl
 ·exact hk
 ·exact bI hg
 ·exact hn
theorem AO {H:Hp} {Q:VK} {E:XK} {t:Addr} {a b c:Nat} (ht:H t=some (.tup [.int (a:Nat),.int (b:Nat),.int (c:Nat)])) (h:Ln3 a b c) (q:∀ H',az H H'→Q (.str (fQ a b c)) H'):fC [.ref t,.str ","] H Q E:=by
 refine ⟨t,_, ",",rfl,ht,fun v hv=>?_,by simp,by decide +kernel,q⟩
 simp only [List.mem_cons,List.not_mem_nil,or_false] at hv
 rcases hv with rfl | rfl | rfl
 ·exact bI h.a
 ·exact bI h.b
 ·exact bI h.c
theorem zA (D:Dat K mg "line_text" "line_text" (top 38) ["line"]) (NE:bN CX) (cF:Cal P w K mg base CX "things_text" 1 ["things", "sign"] fC):Cal P w K mg base CX "line_text" 2 ["line"] qw:=by
 have S:=yE
 walk_at "d"
 ·obtain ⟨t,l,rfl,_⟩:=h
  rfl
 obtain ⟨t,l,rfl,hl,ho,q⟩:=h
 refine ⟨_,(@ai _ _ _ _ _ (@br _ _ _ _ _ _ _ _ (@aJ _ _ _ _ _ _ _ _ (@cM _) (@aL _ _ _ _ _ _ _ (@bU _) (@pv _ 0 _ _ (by rfl) (by first | exact Or.inl rfl | exact Or.inr (Or.inl rfl) | exact Or.inr (Or.inr rfl)) (by decide) (by decide)) (@ah _ _ _ _) (fun _ _=>rfl)) (@aq _ _ _ _) (@aH _ _ (by decide) (by decide))) (@ak _ _ _ (@av _ _ _ _ (@aI _ _ _ _ _ _ _ _ _ _ _ _ cF (hr.mono (by first | decide | omega)) NE.pass (@aa _ _ _ _ _ (@aP _ _ _ _ _ (@aa _ _ _ _ _ (@aL _ _ _ _ _ _ _ (@bU _) (@pv _ 0 _ _ (by rfl) (by first | exact Or.inl rfl | exact Or.inr (Or.inl rfl) | exact Or.inr (Or.inr rfl)) (by decide) (by decide)) (@ah _ _ _ _) (fun _ _=>rfl)) (@aa _ _ _ _ _ (@aL _ _ _ _ _ _ _ (@bU _) (@pv _ 0 _ _ (by rfl) (by first | exact Or.inl rfl | exact Or.inr (Or.inl rfl) | exact Or.inr (Or.inr rfl)) (by decide) (by decide)) (@ah _ _ _ _) (fun _ _=>rfl)) (@aa _ _ _ _ _ (@aI _ _ _ _ _ _ _ _ _ _ _ _ cF (hr.mono (by first | decide | omega)) NE.pass (@aa _ _ _ _ _ (@aL _ _ _ _ _ _ _ (@bU _) (@pv _ 0 _ _ (by rfl) (by first | exact Or.inl rfl | exact Or.inr (Or.inl rfl) | exact Or.inr (Or.inr rfl)) (by decide) (by decide)) (@ah _ _ _ _) (fun _ _=>rfl)) (@aa _ _ _ _ _ (@aq _ _ _ _) (@af _) (by rfl)) (by rfl)) (by rfl) (by decide) (by rfl) (by rfl)) (@af _) (by rfl)) (by rfl)) (by rfl))) (@aa _ _ _ _ _ (@aq _ _ _ _) (@af _) (by rfl)) (by rfl)) (by rfl) (by decide) (by rfl) (by rfl)))) (@aF _)) (@ak _ _ _ (@av _ _ _ _ (@aI _ _ _ _ _ _ _ _ _ _ _ _ cF (hr.mono (by first | decide | omega)) NE.pass (@aa _ _ _ _ _ (@pv _ 0 _ _ (by rfl) (by first | exact Or.inl rfl | exact Or.inr (Or.inl rfl) | exact Or.inr (Or.inr rfl)) (by decide) (by decide)) (@aa _ _ _ _ _ (@aq _ _ _ _) (@af _) (by rfl)) (by rfl)) (by rfl) (by decide) (by rfl) (by rfl))))),?_⟩
 try dsimp only [bM]
 cases l with
 | held n=>
  have hl:H t=some (.tup [.str "held",.int (n:Nat)]):=hl
  have L:=(Led.start H (fun _=>False)).more (cz t _) hl
  walk_at "go"
  refine bW (fun z=>absurd z (by decide +kernel)) fun _=>?_
  walk_at "go"
  exact uE hl (by decide +kernel) ho q
 | heard n=>
  have hl:H t=some (.tup [.str "heard",.int (n:Nat)]):=hl
  have L:=(Led.start H (fun _=>False)).more (cz t _) hl
  walk_at "go"
  refine bW (fun z=>absurd z (by decide +kernel)) fun _=>?_
  walk_at "go"
  exact uE hl (by decide +kernel) ho q
 | ends g n=>
  have hl:H t=some (.tup [.str "ends",.int (g:Nat),.int (n:Nat)]):=hl
  have L:=(Led.start H (fun _=>False)).more (cz t _) hl
  walk_at "go"
  refine bW (fun z=>absurd z (by decide +kernel)) fun _=>?_
  walk_at "go"
  exact AQ hl (by decide +kernel) ho.2.1 ho.2.2 q
 | took g a b c=>
  obtain ⟨ta,hl,hta⟩:=hl
  have L:=(Led.start H (fun _=>False)).more (cz t _) hl
  walk_at "go"
  refine AO hta ho.2.2.1 fun H1 s1=>?_
  clear L
  have L:=Led.start H1 (fun _=>False)
  walk_at "go"
  have:=rO ho.2.2.1
  refine xP (L'.tup (by walk_at "mem")) (by decide +kernel) ho.2.1 (by omega) fun H2 s2=>?_
  exact q _ ((s1.trans L'.same).trans s2)
theorem yD:aB ["word", "area"] ["word"] (aj (top 39)):=by walk_at "s"
def uP (CN:Addr):Sp:=fun vs H Q E=>∃ z:Str,vs=[.str z]∧z.length≤500∧(∀ a b c,fR z=some (a,b,c)→∀ t H',H' t=some (.tup [.int (a:Nat),.int (b:Nat),.int (c:Nat)])→az H H'→Q (.ref t) H')∧(fR z=none→∀ H',az H H'→E (.ref CN) none H')
theorem xT {α : Type}:∀ {l:List α},l.length=3→∃ a b c,l=[a,b,c]
 | [a,b,c],_=>⟨a,b,c,rfl⟩
theorem AD {z:Str} {ns:List Nat} (h:bV (cut 44 z)=some ns) (h3:ns.length≠3):fR z=none:=by
 unfold fR
 rw [h]
 split
 ·rename_i a b c e
  cases e
  exact absurd rfl h3
 ·rfl
theorem CO {z:Str} {a b c:Nat} (h:bV (cut 44 z)=some [a,b,c]):fR z=if b≤c then some (a,b,c) else none:=by
 unfold fR
 rw [h]
theorem nR {c:Nat} {z x:Str} (h:x∈cut c z):x.length≤z.length:=part_short h
theorem Cq (c:Nat) (z:Str):(cut c z).length≤z.length+1:=by
 have:=dU c z.cps.toList
 unfold cut
 rw [List.length_map,dZ]
 exact this
theorem zz (D:Dat K mg "read_area" "read_area" (top 39) ["word"]) (BT:Bt mg) (NE:bN (CX1 P w)) (bu:Cal P w K mg base (CX1 P w) "need" 1 ["is_right"] (fD CN)) (d9:Cal P w K mg base (CX1 P w) "read_numbers" 3 ["words"] (oE CN)) (uf:Cal P w K mg base (CX1 P w) "first_of" 1 ["area"] C9) (Az:Cal P w K mg base (CX1 P w) "end_of" 1 ["area"] C8):Cal P w K mg base (CX1 P w) "read_area" 4 ["word"] (uP CN):=by
 have S:=yD
 refine D.okR S (fun vs H Q E h=>?_) (fun f cdv A outer s H vs Q E hr h=>?_)
 ·obtain ⟨z,rfl,_⟩:=h
  rfl
 obtain ⟨z,rfl,hz,qT,qF⟩:=h
 refine ⟨_,(@ai _ _ _ _ _ (@aM _ _ 1 _ _ _ _ S.nd rfl (by first | exact Or.inl rfl | exact Or.inr rfl) (@bf _ _ _ _ _ _ _ _ _ _ _ d9 (hr.mono (by first | decide | omega)) (@aA _ _) (@aa _ _ _ _ _ (@dX _ _ _ _ _ _ _ _ _ _ _ _ PySem.F.plainAttrs_str PySem.F.slot_str_split PySem.F.type_str_split m_split (@pv _ 0 _ _ (by rfl) (by first | exact Or.inl rfl | exact Or.inr (Or.inl rfl) | exact Or.inr (Or.inr rfl)) (by decide) (by decide)) (@aa _ _ _ _ _ (@aq _ _ _ _) (@af _) (by rfl)) (by rfl) (by rfl) (by rfl) (by rfl) (by rfl)) (@af _) (by rfl)) (by rfl) (by decide) (by rfl) (by rfl)) (by rfl) (by first | exact .inl rfl | exact .inr rfl | assumption)) (@ai _ _ _ _ _ (@bR _ _ _ _ (@bf _ _ _ _ _ _ _ _ _ _ _ bu (hr.mono (by first | decide | omega)) (@aA _ _) (@aa _ _ _ _ _ (@bA _ _ _ _ _ _ _ _ (@cM _) (@aW _ _ _ _ _ _ _ _ _ (@iA _) rfl BT.len L3.cT (@aa _ _ _ _ _ (@pv _ 1 _ _ (by rfl) (by first | exact Or.inl rfl | exact Or.inr (Or.inl rfl) | exact Or.inr (Or.inr rfl)) (by decide) (by decide)) (@af _) (by rfl)) (by decide) (by decide) (by rfl) (by rfl)) (@ah _ _ _ _) (@aH _ _ (by decide) (by decide))) (@af _) (by rfl)) (by rfl) (by decide) (by rfl) (by rfl)) (by rfl)) (@ai _ _ _ _ _ (@bR _ _ _ _ (@bf _ _ _ _ _ _ _ _ _ _ _ bu (hr.mono (by first | decide | omega)) (@aA _ _) (@aa _ _ _ _ _ (@bA _ _ _ _ _ _ _ _ (@eU _) (@aI _ _ _ _ _ _ _ _ _ _ _ _ uf (hr.mono (by first | decide | omega)) NE.pass (@aa _ _ _ _ _ (@pv _ 1 _ _ (by rfl) (by first | exact Or.inl rfl | exact Or.inr (Or.inl rfl) | exact Or.inr (Or.inr rfl)) (by decide) (by decide)) (@af _) (by rfl)) (by rfl) (by decide) (by rfl) (by rfl)) (@aI _ _ _ _ _ _ _ _ _ _ _ _ Az (hr.mono (by first | decide | omega)) NE.pass (@aa _ _ _ _ _ (@pv _ 1 _ _ (by rfl) (by first | exact Or.inl rfl | exact Or.inr (Or.inl rfl) | exact Or.inr (Or.inr rfl)) (by decide) (by decide)) (@af _) (by rfl)) (by rfl) (by decide) (by rfl) (by rfl)) (@aH _ _ (by decide) (by decide))) (@af _) (by rfl)) (by rfl) (by decide) (by rfl) (by rfl)) (by rfl)) (@ak _ _ _ (@av _ _ _ _ (@pv _ 1 _ _ (by rfl) (by first | exact Or.inl rfl | exact Or.inr (Or.inl rfl) | exact Or.inr (Or.inr rfl)) (by decide) (by decide))))))),?_⟩
 try dsimp only [xcx,bM]
 have L:=Led.start H (fun _=>False)
 walk_at "go"
 refine g_split L (by decide) (by omega) fun b H1 nb L s1=>?_
 rw [show Txt.split z (Str.ofString ",")=cut 44 z from gK z (c:=44) (by decide)] at L
 have hb:=L.eo (p:=b) .head
 have hcl:=Cq 44 z
 clear L
 try dsimp only [aS]
 walk_at "go"
 refine ⟨b,_,rfl,hb,fun x hx=>by have:=nR hx;omega,by omega,fun ns en t H2 ht s2=>?_,fun en H2 s2=>qF (by unfold fR;rw [en]) _ (s1.trans s2)⟩
 have s12:=s1.trans s2
 walk_at "go"
 refine kN (SqT.of ht) ?_
 walk_at "go"
 have el:(nV ns).length=ns.length:=List.length_map _
 refine aV (fun c3=>?_) (fun c3=>?_)
 rotate_left
 ·rw [decide_eq_false_iff_not,el] at c3
  exact qF (AD en (by omega)) _ s12
 rw [decide_eq_true_iff,el] at c3
 obtain ⟨a,b',c,rfl⟩:=xT (show ns.length=3 by omega)
 have ea:=CO en
 walk_at "go"
 refine ⟨t,a,b',c,rfl,ht,?_⟩
 walk_at "go"
 refine ⟨t,a,b',c,rfl,ht,?_⟩
 walk_at "go"
 refine aV (fun c4=>?_) (fun c4=>?_)
 ·walk_at "go"
  rw [decide_eq_true_iff] at c4
  exact qT a b' c (by rw [ea,if_pos (by omega)]) t _ ht s12
 ·rw [decide_eq_false_iff_not] at c4
  exact qF (by rw [ea,if_neg (by omega)]) _ s12
theorem vU:aB ["word", "grant"] ["word"] (aj (top 40)):=by walk_at "s"
def qv (CN:Addr):Sp:=fun vs H Q E=>∃ z:Str,vs=[.str z]∧z.length≤500∧(∀ g,grO z=some g→∀ H',az H H'→Q (.int (g:Nat)) H')∧(grO z=none→∀ H',az H H'→E (.ref CN) none H')
theorem wk (D:Dat K mg "read_grant" "read_grant" (top 40) ["word"]) (BT:Bt mg) (NE:bN (CX1 P w)) (bu:Cal P w K mg base (CX1 P w) "need" 1 ["is_right"] (fD CN)) (cj:Cal P w K mg base (CX1 P w) "read_number" 2 ["word"] (oF CN)):Cal P w K mg base (CX1 P w) "read_grant" 3 ["word"] (qv CN):=by
 have S:=vU
 refine D.okR S (fun vs H Q E h=>?_) (fun f cdv A outer s H vs Q E hr h=>?_)
 ·obtain ⟨z,rfl,_⟩:=h
  rfl
 obtain ⟨z,rfl,hz,qT,qF⟩:=h
 refine ⟨_,(@ai _ _ _ _ _ (@aM _ _ 1 _ _ _ _ S.nd rfl (by first | exact Or.inl rfl | exact Or.inr rfl) (@bf _ _ _ _ _ _ _ _ _ _ _ cj (hr.mono (by first | decide | omega)) (@aA _ _) (@aa _ _ _ _ _ (@pv _ 0 _ _ (by rfl) (by first | exact Or.inl rfl | exact Or.inr (Or.inl rfl) | exact Or.inr (Or.inr rfl)) (by decide) (by decide)) (@af _) (by rfl)) (by rfl) (by decide) (by rfl) (by rfl)) (by rfl) (by first | exact .inl rfl | exact .inr rfl | assumption)) (@ai _ _ _ _ _ (@bR _ _ _ _ (@bf _ _ _ _ _ _ _ _ _ _ _ bu (hr.mono (by first | decide | omega)) (@aA _ _) (@aa _ _ _ _ _ (@bA _ _ _ _ _ _ _ _ (@Dj _) (@pv _ 1 _ _ (by rfl) (by first | exact Or.inl rfl | exact Or.inr (Or.inl rfl) | exact Or.inr (Or.inr rfl)) (by decide) (by decide)) (@ah _ _ _ _) (@aH _ _ (by decide) (by decide))) (@af _) (by rfl)) (by rfl) (by decide) (by rfl) (by rfl)) (by rfl)) (@ak _ _ _ (@av _ _ _ _ (@pv _ 1 _ _ (by rfl) (by first | exact Or.inl rfl | exact Or.inr (Or.inl rfl) | exact Or.inr (Or.inr rfl)) (by decide) (by decide)))))),?_⟩
 try dsimp only [xcx,bM]
 walk_at "go"
 refine ⟨_,rfl,.str z,(fun y e=>by cases e;exact hz),(fun n er H2 s2=>?_),fun er H2 s2=>qF (pG er) _ s2⟩
 have eg:grO z=if 1≤n then some n else none:=by unfold grO;rw [show bS z.cps.toList=some n from er]
 walk_at "go"
 refine aV (fun c4=>?_) (fun c4=>?_)
 ·walk_at "go"
  rw [decide_eq_true_iff] at c4
  exact qT n (by rw [eg,if_pos (by omega)]) _ s2
 ·rw [decide_eq_false_iff_not] at c4
  exact qF (by rw [eg,if_neg (by omega)]) _ s2
theorem yC:aB ["word", "parts", "grant"] ["word"] (aj (top 41)):=by walk_at "s"
def uO (CN:Addr):Sp:=fun vs H Q E=>∃ v,vs=[v]∧Knd H v∧(∀ z,v = .str z→z.length≤500)∧(∀ l,qS v=some l→∀ t H',fT H' t l→az H H'→Q (.ref t) H')∧(qS v=none→∀ H',az H H'→E (.ref CN) none H')
theorem zS {h:Str} {r:List Str} (hh:h∈[("held" : Str), "heard"]) (hr:r.length≠1):bZ (h::r)=none:=by
 match r,hr with
 | [],_=>rfl
 | [x],hr=>exact absurd rfl hr
 | [x,y],_=>
  simp only [List.mem_cons,List.not_mem_nil,or_false] at hh
  rcases hh with rfl | rfl
  ·exact fk (by decide +kernel) (by decide +kernel)
  ·exact fk (by decide +kernel) (by decide +kernel)
 | x::y::z::r,_=>rfl
theorem qi {h:Str} {r:List Str} (h1:¬ h∈[("held" : Str), "heard"]) (hr:¬ h∈[("took" : Str), "ends"]∨r.length≠2):bZ (h::r)=none:=by
 simp only [List.mem_cons,List.not_mem_nil,or_false,not_or] at h1 hr
 match r,hr with
 | [],_=>rfl
 | [x],_=>exact dD h1.1 h1.2
 | [x,y],.inl hr=>exact fk hr.1 hr.2
 | [x,y],.inr hr=>exact absurd rfl hr
 | x::y::z::r,_=>rfl
theorem DE {α : Type}:∀ {l:List α},l.length=2→∃ a b,l=[a,b]
 | [a,b],_=>⟨a,b,rfl⟩
theorem Ed {α : Type}:∀ {l:List α},l.length=1→∃ a,l=[a]
 | [a],_=>⟨a,rfl⟩
theorem zy (D:Dat K mg "read_line" "read_line" (top 41) ["word"]) (BT:Bt mg) (NE:bN (CX1 P w)) (bu:Cal P w K mg base (CX1 P w) "need" 1 ["is_right"] (fD CN)) (cj:Cal P w K mg base (CX1 P w) "read_number" 2 ["word"] (oF CN)) (pW:Cal P w K mg base (CX1 P w) "read_grant" 3 ["word"] (qv CN)) (rB:Cal P w K mg base (CX1 P w) "read_area" 4 ["word"] (uP CN)):Cal P w K mg base (CX1 P w) "read_line" 5 ["word"] (uO CN):=by
 have S:=yC
 refine D.okR S (fun vs H Q E h=>?_) (fun f cdv A outer s H vs Q E hr h=>?_)
 ·obtain ⟨v,rfl,_⟩:=h
  rfl
 obtain ⟨v,rfl,k,hv,qT,qF⟩:=h
 refine ⟨_,(@ai _ _ _ _ _ (@bR _ _ _ _ (@bf _ _ _ _ _ _ _ _ _ _ _ bu (hr.mono (by first | decide | omega)) (@aA _ _) (@aa _ _ _ _ _ (@iG _ _ _ _ _ _ _ _ BT.isinstance BT.str_ L3.ee (@pv _ 0 _ _ (by rfl) (by first | exact Or.inl rfl | exact Or.inr (Or.inl rfl) | exact Or.inr (Or.inr rfl)) (by decide) (by decide)) (by rfl) (by rfl) (by decide) (by decide) (by rfl) (by rfl) (by rfl)) (@af _) (by rfl)) (by rfl) (by decide) (by rfl) (by rfl)) (by rfl)) (@ai _ _ _ _ _ (@aM _ _ 1 _ _ _ _ S.nd rfl (by first | exact Or.inl rfl | exact Or.inr rfl) (@dX _ _ _ _ _ _ _ _ _ _ _ _ PySem.F.plainAttrs_str PySem.F.slot_str_split PySem.F.type_str_split m_split (@pv _ 0 _ _ (by rfl) (by first | exact Or.inl rfl | exact Or.inr (Or.inl rfl) | exact Or.inr (Or.inr rfl)) (by decide) (by decide)) (@aa _ _ _ _ _ (@aq _ _ _ _) (@af _) (by rfl)) (by rfl) (by rfl) (by rfl) (by rfl) (by rfl)) (by rfl) (by first | exact .inl rfl | exact .inr rfl | assumption)) (@ai _ _ _ _ _ (@br _ _ _ _ _ _ _ _ (@aJ _ _ _ _ _ _ _ _ (@fh _) (@aL _ _ _ _ _ _ _ (@aK _) (@pv _ 1 _ _ (by rfl) (by first | exact Or.inl rfl | exact Or.inr (Or.inl rfl) | exact Or.inr (Or.inr rfl)) (by decide) (by decide)) (@ah _ _ _ _) (fun _ _=>rfl)) (@aP _ _ _ _ _ (@aa _ _ _ _ _ (@aq _ _ _ _) (@aa _ _ _ _ _ (@aq _ _ _ _) (@af _) (by rfl)) (by rfl))) (by with_unfolding_all rfl)) (@ai _ _ _ _ _ (@bR _ _ _ _ (@bf _ _ _ _ _ _ _ _ _ _ _ bu (hr.mono (by first | decide | omega)) (@aA _ _) (@aa _ _ _ _ _ (@bA _ _ _ _ _ _ _ _ (@cM _) (@aW _ _ _ _ _ _ _ _ _ (@iA _) rfl BT.len L3.cT (@aa _ _ _ _ _ (@pv _ 1 _ _ (by rfl) (by first | exact Or.inl rfl | exact Or.inr (Or.inl rfl) | exact Or.inr (Or.inr rfl)) (by decide) (by decide)) (@af _) (by rfl)) (by decide) (by decide) (by rfl) (by rfl)) (@ah _ _ _ _) (@aH _ _ (by decide) (by decide))) (@af _) (by rfl)) (by rfl) (by decide) (by rfl) (by rfl)) (by rfl)) (@ak _ _ _ (@av _ _ _ _ (@aP _ _ _ _ _ (@aa _ _ _ _ _ (@aL _ _ _ _ _ _ _ (@aK _) (@pv _ 1 _ _ (by rfl) (by first | exact Or.inl rfl | exact Or.inr (Or.inl rfl) | exact Or.inr (Or.inr rfl)) (by decide) (by decide)) (@ah _ _ _ _) (fun _ _=>rfl)) (@aa _ _ _ _ _ (@bf _ _ _ _ _ _ _ _ _ _ _ cj (hr.mono (by first | decide | omega)) (@aA _ _) (@aa _ _ _ _ _ (@aL _ _ _ _ _ _ _ (@aK _) (@pv _ 1 _ _ (by rfl) (by first | exact Or.inl rfl | exact Or.inr (Or.inl rfl) | exact Or.inr (Or.inr rfl)) (by decide) (by decide)) (@ah _ _ _ _) (fun _ _=>rfl)) (@af _) (by rfl)) (by rfl) (by decide) (by rfl) (by rfl)) (@af _) (by rfl)) (by rfl)))))) (@aF _)) (@ai _ _ _ _ _ (@bR _ _ _ _ (@bf _ _ _ _ _ _ _ _ _ _ _ bu (hr.mono (by first | decide | omega)) (@aA _ _) (@aa _ _ _ _ _ (@iH _ _ _ _ _ _ _ (@bA _ _ _ _ _ _ _ _ (@fh _) (@aL _ _ _ _ _ _ _ (@aK _) (@pv _ 1 _ _ (by rfl) (by first | exact Or.inl rfl | exact Or.inr (Or.inl rfl) | exact Or.inr (Or.inr rfl)) (by decide) (by decide)) (@ah _ _ _ _) (fun _ _=>rfl)) (@aP _ _ _ _ _ (@aa _ _ _ _ _ (@aq _ _ _ _) (@aa _ _ _ _ _ (@aq _ _ _ _) (@af _) (by rfl)) (by rfl))) (by with_unfolding_all rfl)) (@f7 _ _ _ _ _ (@bA _ _ _ _ _ _ _ _ (@cM _) (@aW _ _ _ _ _ _ _ _ _ (@iA _) rfl BT.len L3.cT (@aa _ _ _ _ _ (@pv _ 1 _ _ (by rfl) (by first | exact Or.inl rfl | exact Or.inr (Or.inl rfl) | exact Or.inr (Or.inr rfl)) (by decide) (by decide)) (@af _) (by rfl)) (by decide) (by decide) (by rfl) (by rfl)) (@ah _ _ _ _) (@aH _ _ (by decide) (by decide))))) (@af _) (by rfl)) (by rfl) (by decide) (by rfl) (by rfl)) (by rfl)) (@ai _ _ _ _ _ (@aM _ _ 2 _ _ _ _ S.nd rfl (by first | exact Or.inl rfl | exact Or.inr rfl) (@bf _ _ _ _ _ _ _ _ _ _ _ pW (hr.mono (by first | decide | omega)) (@aA _ _) (@aa _ _ _ _ _ (@aL _ _ _ _ _ _ _ (@aK _) (@pv _ 1 _ _ (by rfl) (by first | exact Or.inl rfl | exact Or.inr (Or.inl rfl) | exact Or.inr (Or.inr rfl)) (by decide) (by decide)) (@ah _ _ _ _) (fun _ _=>rfl)) (@af _) (by rfl)) (by rfl) (by decide) (by rfl) (by rfl)) (by rfl) (by first | exact .inl rfl | exact .inr rfl | assumption)) (@ak _ _ _ (@av _ _ _ _ (@aP _ _ _ _ _ (@aa _ _ _ _ _ (@aL _ _ _ _ _ _ _ (@aK _) (@pv _ 1 _ _ (by rfl) (by first | exact Or.inl rfl | exact Or.inr (Or.inl rfl) | exact Or.inr (Or.inr rfl)) (by decide) (by decide)) (@ah _ _ _ _) (fun _ _=>rfl)) (@aa _ _ _ _ _ (@pv _ 2 _ _ (by rfl) (by first | exact Or.inl rfl | exact Or.inr (Or.inl rfl) | exact Or.inr (Or.inr rfl)) (by decide) (by decide)) (@aa _ _ _ _ _ (@lC _ _ _ _ _ _ _ _ (@aJ _ _ _ _ _ _ _ _ (@cM _) (@aL _ _ _ _ _ _ _ (@aK _) (@pv _ 1 _ _ (by rfl) (by first | exact Or.inl rfl | exact Or.inr (Or.inl rfl) | exact Or.inr (Or.inr rfl)) (by decide) (by decide)) (@ah _ _ _ _) (fun _ _=>rfl)) (@aq _ _ _ _) (@aH _ _ (by decide) (by decide))) (@bf _ _ _ _ _ _ _ _ _ _ _ rB (hr.mono (by first | decide | omega)) (@aA _ _) (@aa _ _ _ _ _ (@aL _ _ _ _ _ _ _ (@aK _) (@pv _ 1 _ _ (by rfl) (by first | exact Or.inl rfl | exact Or.inr (Or.inl rfl) | exact Or.inr (Or.inr rfl)) (by decide) (by decide)) (@ah _ _ _ _) (fun _ _=>rfl)) (@af _) (by rfl)) (by rfl) (by decide) (by rfl) (by rfl)) (@bf _ _ _ _ _ _ _ _ _ _ _ cj (hr.mono (by first | decide | omega)) (@aA _ _) (@aa _ _ _ _ _ (@aL _ _ _ _ _ _ _ (@aK _) (@pv _ 1 _ _ (by rfl) (by first | exact Or.inl rfl | exact Or.inr (Or.inl rfl) | exact Or.inr (Or.inr rfl)) (by decide) (by decide)) (@ah _ _ _ _) (fun _ _=>rfl)) (@af _) (by rfl)) (by rfl) (by decide) (by rfl) (by rfl))) (@af _) (by rfl)) (by rfl)) (by rfl)))))))))),?_⟩
 try dsimp only [xcx,bM]
 walk_at "go"
 refine kL k (fun z e=>?_) (fun e=>?_)
 rotate_left
 ·walk_at "go"
  refine aV (fun z=>nomatch z) fun _=>qF ?_ _ (az.refl _)
  cases v with
  | str z=>exact absurd rfl (e z)
  | _=>rfl
 subst e
 have hz:=hv z rfl
 walk_at "go"
 refine aV (fun _=>?_) (fun z=>nomatch z)
 have L:=Led.start H (fun _=>False)
 walk_at "go"
 refine g_split L (by decide) (by omega) fun b H1 nb L s1=>?_
 rw [show Txt.split z (Str.ofString ":")=cut 58 z from gK z (c:=58) (by decide)] at L
 have hb:=L.eo (p:=b) .head
 have hcs:∀ x∈cut 58 z,x.length≤500:=fun x hx=>by have:=nR hx;omega
 have qT:∀ l,bZ (cut 58 z)=some l→∀ t H',fT H' t l→az H H'→Q (.ref t) H':=qT
 have qF:bZ (cut 58 z)=none→∀ H',az H H'→E (.ref CN) none H':=qF
 obtain ⟨h,r,hcut⟩:∃ h r,cut 58 z=h::r:=by
  cases e:cut 58 z with
  | nil=>unfold cut at e;exact absurd (List.map_eq_nil_iff.mp e) (mW _ _)
  | cons h r=>exact ⟨h,r,rfl⟩
 rw [hcut] at hb hcs qT qF
 clear L
 have L:=Led.start H1 (fun _=>False)
 try dsimp only [aS]
 walk_at "go"
 refine cS (SqL.of hb) (fN (j:=0) rfl) ?_
 walk_at "go"
 have s2:=L'.same
 refine q9 (ws:=[("held" : Str), "heard"]) (SqT.of (L'.tup (by walk_at "mem"))) ?_
 obtain ⟨H2,eH2⟩:∃ z,z=H':=⟨_,rfl⟩
 subst eH2
 have hb2:=s2 _ _ hb
 have s12:=s1.trans s2
 clear L L'
 have L:=Led.start H2 (fun _=>False)
 walk_at "go"
 refine bW (fun c1=>?_) (fun c1=>?_)
 ·walk_at "go"
  refine jd (SqL.of hb2) ?_
  rw [List.length_map,List.length_cons]
  walk_at "go"
  refine aV (fun c2=>?_) (fun c2=>?_)
  rotate_left
  ·rw [decide_eq_false_iff_not] at c2
   exact qF (zS c1 (by omega)) _ s12
  rw [decide_eq_true_iff] at c2
  obtain ⟨x,rfl⟩:=Ed (show r.length=1 by omega)
  walk_at "go"
  refine cS (SqL.of hb2) (by with_unfolding_all exact rfl) ?_
  walk_at "go"
  refine cS (SqL.of hb2) (by with_unfolding_all exact rfl) ?_
  walk_at "go"
  have e2:bZ [h,x]=if h = "held" then (bS x.cps.toList).map .held else if h = "heard" then (bS x.cps.toList).map .heard else none:=rfl
  refine ⟨_,rfl,.str x,(fun y e=>by cases e;exact hcs x (by simp)),(fun n er H3 s3=>?_),fun er H3 s3=>qF ?_ _ (s12.trans s3)⟩
  ·have er:bS x.cps.toList=some n:=er
   clear L
   have L:=Led.start H3 (fun _=>False)
   walk_at "go"
   have ht:=L'.tup (r:=t') (by walk_at "mem")
   simp only [List.mem_cons,List.not_mem_nil,or_false] at c1
   rcases c1 with rfl | rfl
   ·exact qT (.held n) (by rw [jJ,er];rfl) t' _ ht ((s12.trans s3).trans L'.same)
   ·exact qT (.heard n) (by rw [iJ,er];rfl) t' _ ht ((s12.trans s3).trans L'.same)
  ·have er:bS x.cps.toList=none:=er
   rw [e2,er]
   split
   ·rfl
   ·split <;> rfl
 walk_at "go"
 refine cS (SqL.of hb2) (fN (j:=0) rfl) ?_
 walk_at "go"
 have s3:=L'.same
 refine q9 (ws:=[("took" : Str), "ends"]) (SqT.of (L'.tup (by walk_at "mem"))) ?_
 obtain ⟨H3,eH3⟩:∃ z,z=H':=⟨_,rfl⟩
 subst eH3
 have hb3:=s3 _ _ hb2
 have s13:=s12.trans s3
 clear L L'
 walk_at "go"
 refine bW (fun c2=>?_) (fun c2=>?_)
 rotate_left
 ·walk_at "go"
  exact aV (fun z=>nomatch z) fun _=>qF (qi c1 (.inl c2)) _ s13
 walk_at "go"
 refine jd (SqL.of hb3) ?_
 rw [List.length_map,List.length_cons]
 walk_at "go"
 refine aV (fun c3=>?_) (fun c3=>?_)
 rotate_left
 ·rw [decide_eq_false_iff_not] at c3
  exact qF (qi c1 (.inr (by omega))) _ s13
 rw [decide_eq_true_iff] at c3
 obtain ⟨x,y,rfl⟩:=DE (show r.length=2 by omega)
 have hx5:=hcs x (by simp)
 have hy5:=hcs y (by simp)
 simp only [List.mem_cons,List.not_mem_nil,or_false] at c2
 walk_at "go"
 refine cS (SqL.of hb3) (by with_unfolding_all exact rfl) ?_
 walk_at "go"
 refine ⟨x,rfl,hx5,fun g eg H4 s4=>?_,fun eg H4 s4=>qF ?_ _ (s13.trans s4)⟩
 rotate_left
 ·rcases c2 with rfl | rfl
  ·rw [dh,eg,gb]
  ·rw [di,eg,gc]
 have hb4:=s4 _ _ hb3
 have s14:=s13.trans s4
 walk_at "go"
 refine cS (SqL.of hb4) (by with_unfolding_all exact rfl) ?_
 walk_at "go"
 refine cS (SqL.of hb4) (by with_unfolding_all exact rfl) ?_
 walk_at "go"
 rcases c2 with rfl | rfl
 ·walk_at "go"
  refine cS (SqL.of hb4) (by with_unfolding_all exact rfl) ?_
  walk_at "go"
  refine ⟨y,rfl,hy5,fun a b' c ea ta H5 hta s5=>?_,fun ea H5 s5=>qF (by rw [dh,ea,i9]) _ (s14.trans s5)⟩
  have L:=Led.start H5 (fun _=>False)
  walk_at "go"
  have ht:=L'.tup (r:=t') (by walk_at "mem")
  exact qT (.took g a b' c) (by rw [dh,eg,ea];rfl) t' _ ⟨ta,ht,L'.same _ _ hta⟩ ((s14.trans s5).trans L'.same)
 ·walk_at "go"
  refine bW (fun z=>absurd z (by decide +kernel)) fun _=>?_
  walk_at "go"
  refine cS (SqL.of hb4) (by with_unfolding_all exact rfl) ?_
  walk_at "go"
  refine ⟨_,rfl,.str y,(fun z e=>by cases e;exact hy5),(fun n er H5 s5=>?_),fun er H5 s5=>qF (by rw [di,show bS y.cps.toList=none from er,ja]) _ (s14.trans s5)⟩
  have L:=Led.start H5 (fun _=>False)
  walk_at "go"
  have ht:=L'.tup (r:=t') (by walk_at "mem")
  exact qT (.ends g n) (by rw [di,eg,show bS y.cps.toList=some n from er];rfl) t' _ ht ((s14.trans s5).trans L'.same)
end
end Law

namespace Law
open PySem PySem.Spec PyProof.Rows L2 L3 L4
def w5:List Str:=["spoken", "once", "ends", "apart", "ahead"]
theorem xO:w5.Nodup:=by unfold w5;decide +kernel
theorem Dz:∀ z∈w5,z∈bq:=by decide +kernel
theorem uq {fa ro te:Int} (h:StN fa ro te) {ws:List Str} (hs:∀ z∈ws,z∈bq) (nd:ws.Nodup):eE (.int fa) (.int ro) (.int te) (.sq true (ws.map El.s))=none:=by
 have good:nM (.sq true (ws.map El.s))=true:=by
  show (((ws.map El.s).all elB) && decide ((elS (ws.map El.s)).Nodup))=true
  rw [gy,decide_eq_true nd,Bool.and_true,List.all_eq_true]
  intro e he
  obtain ⟨z,hz,rfl⟩:=List.mem_map.mp he
  exact decide_eq_true (hs z hz)
 have sp:∀ k n:Int,k≤n→n≤1000000000000→e8 k (.int n)=true:=fun k n h1 h2=>by
  show (decide (k≤n) && decide (n≤1000000000000))=true
  rw [decide_eq_true h1,decide_eq_true h2];rfl
 unfold eE
 rw [sp 0 fa h.f0 h.f1,sp 1 ro h.r0 h.r1,sp 1 te h.t0 h.t1,good]
 rfl
structure rQ (c s far room term:Nat) (ms:List Str):Prop where
 c0 : 1≤c
 c1:c≤1000
 s0 : 1≤s
 s1:s≤1000
 f1:far≤1000000000000
 r0 : 1≤room
 r1:room≤1000000000000
 t0 : 1≤term
 t1:term≤1000000000000
 rb:aZ ms=true
theorem sQ {ms ws:List Str} (p:ms.Perm ws) (so:sortedS ms=true) (hs:∀ z∈ws,z∈bq) (nd:ws.Nodup):aZ ms=true:=by
 unfold aZ allR
 rw [so,decide_eq_true (p.nodup_iff.mpr nd),List.all_eq_true.mpr fun z hz=>decide_eq_true (hs z (p.subset hz))]
 rfl
theorem rL {xs:List V} {r:Int} (h0 : 0≤r) (h1:r < xs.length):∃ v,atI xs r=some v∧v∈xs:=by
 obtain ⟨n,rfl⟩:=Int.eq_ofNat_of_zero_le h0
 have hn:n < xs.length:=by omega
 exact ⟨xs[n],fN (List.getElem?_eq_getElem hn),List.getElem_mem hn⟩
theorem gk {K:PySem.W.Frag} {PP:Addr→Prop} {H0 H:Hp} {l l':List (Addr×Ob)} {fs:List Pr} {Q:VK} {p:Addr} {xs:List V} {r:Int} (L:Led PP H0 H l fs) (m:Put p (Eo (.lst xs)) (Eo (.lst xs)) l l') (h0 : 0≤r) (h1:r < xs.length) (h:∀ v∈xs,Q v H):yR K (.ref p) (.int r) H Q:=by
 obtain ⟨v,e,hm⟩:=rL h0 h1
 exact qZ L m e (h v hm)
section
variable {P:Program} {w:World} {K:PySem.W.Frag} {mg:Str→Option Value} {base:Heap} {CX:CXT} {C CS CL CN CH CB:Addr}
theorem yF:aB ["_law_cell", "_law_sound", "_law_wide", "_law_far", "_law_room", "_law_term", "_law_rules"] ["_law_cell", "_law_sound"] (aj (top 46)):=by walk_at "s"
def ye (K:PySem.W.Frag) (C CS:Addr):Sp:=fun vs H Q _=>∃ (p:Addr) (b:Int) (so:Bool),vs=[.ref p,.bl so]∧bw H p b∧b≤1000000∧∀ (x:Addr) (c s far room term:Nat) (ms:List Str) (H':Hp),StX K C CS H' x c s far room term ms→rQ c s far room term ms→bw H' p (b+17408)→Oth p H H'→Q (.ref x) H'
theorem zB (D:Dat K mg "_law_settings" "_law_settings" (top 46) ["_law_cell", "_law_sound"]) (BT:Bt mg) (NE:bN (CX1 P w)) (au:Cal P w K mg base (CX1 P w) "_law_pick" 11 ["_law_hand_here", "_law_many"] iC)
  (gW:Mak P w K mg base (CX1 P w) "Shape" C 4 ["self", "counts", "slots"] (iU C CH)) (dg:Mak P w K mg base (CX1 P w) "Settings" CS 4 ["self", "shape", "far", "room", "term", "rules"] (dz K CS CB)):Cal P w K mg base (CX1 P w) "_law_settings" 12 ["_law_cell", "_law_sound"] (ye K C CS):=by
 have S:=yF
 walk_at "d"
 ·obtain ⟨p,b,so,rfl,_⟩:=h
  rfl
 obtain ⟨p,b,so,rfl,hh,hb,q⟩:=h
 refine ⟨_,(@ai _ _ _ _ _ (@aM _ _ 2 _ _ _ _ S.nd rfl (by first | exact Or.inl rfl | exact Or.inr rfl) (@bC _ _ _ _ (@aa _ _ _ _ _ (@aG _ _ _ _ _ _ _ _ (@cu _) (@ah _ _ _ _) (@aI _ _ _ _ _ _ _ _ _ _ _ _ au (hr.mono (by first | decide | omega)) NE.pass (@aa _ _ _ _ _ (@pv _ 0 _ _ (by rfl) (by first | exact Or.inl rfl | exact Or.inr (Or.inl rfl) | exact Or.inr (Or.inr rfl)) (by decide) (by decide)) (@aa _ _ _ _ _ (@ah _ _ _ _) (@af _) (by rfl)) (by rfl)) (by rfl) (by decide) (by rfl) (by rfl))) (@aa _ _ _ _ _ (@aG _ _ _ _ _ _ _ _ (@cu _) (@ah _ _ _ _) (@aI _ _ _ _ _ _ _ _ _ _ _ _ au (hr.mono (by first | decide | omega)) NE.pass (@aa _ _ _ _ _ (@pv _ 0 _ _ (by rfl) (by first | exact Or.inl rfl | exact Or.inr (Or.inl rfl) | exact Or.inr (Or.inr rfl)) (by decide) (by decide)) (@aa _ _ _ _ _ (@ah _ _ _ _) (@af _) (by rfl)) (by rfl)) (by rfl) (by decide) (by rfl) (by rfl))) (@af _) (by rfl)) (by rfl))) (by rfl) (by first | exact .inl rfl | exact .inr rfl | assumption)) (@ai _ _ _ _ _ (@br _ _ _ _ _ _ _ _ (@aJ _ _ _ _ _ _ _ _ (@cM _) (@aI _ _ _ _ _ _ _ _ _ _ _ _ au (hr.mono (by first | decide | omega)) NE.pass (@aa _ _ _ _ _ (@pv _ 0 _ _ (by rfl) (by first | exact Or.inl rfl | exact Or.inr (Or.inl rfl) | exact Or.inr (Or.inr rfl)) (by decide) (by decide)) (@aa _ _ _ _ _ (@ah _ _ _ _) (@af _) (by rfl)) (by rfl)) (by rfl) (by decide) (by rfl) (by rfl)) (@ah _ _ _ _) (@aH _ _ (by decide) (by decide))) (@ak _ _ _ (@aM _ _ 2 _ _ _ _ S.nd rfl (by first | exact Or.inl rfl | exact Or.inr rfl) (@bC _ _ _ _ (@aa _ _ _ _ _ (@aG _ _ _ _ _ _ _ _ (@cu _) (@ah _ _ _ _) (@aI _ _ _ _ _ _ _ _ _ _ _ _ au (hr.mono (by first | decide | omega)) NE.pass (@aa _ _ _ _ _ (@pv _ 0 _ _ (by rfl) (by first | exact Or.inl rfl | exact Or.inr (Or.inl rfl) | exact Or.inr (Or.inr rfl)) (by decide) (by decide)) (@aa _ _ _ _ _ (@ah _ _ _ _) (@af _) (by rfl)) (by rfl)) (by rfl) (by decide) (by rfl) (by rfl))) (@aa _ _ _ _ _ (@aG _ _ _ _ _ _ _ _ (@cu _) (@ah _ _ _ _) (@aI _ _ _ _ _ _ _ _ _ _ _ _ au (hr.mono (by first | decide | omega)) NE.pass (@aa _ _ _ _ _ (@pv _ 0 _ _ (by rfl) (by first | exact Or.inl rfl | exact Or.inr (Or.inl rfl) | exact Or.inr (Or.inr rfl)) (by decide) (by decide)) (@aa _ _ _ _ _ (@ah _ _ _ _) (@af _) (by rfl)) (by rfl)) (by rfl) (by decide) (by rfl) (by rfl))) (@af _) (by rfl)) (by rfl))) (by rfl) (by first | exact .inl rfl | exact .inr rfl | assumption))) (@aF _)) (@ai _ _ _ _ _ (@aM _ _ 3 _ _ _ _ S.nd rfl (by first | exact Or.inl rfl | exact Or.inr rfl) (@aL _ _ _ _ _ _ _ (@aK _) (@bC _ _ _ _ (@aa _ _ _ _ _ (@ah _ _ _ _) (@aa _ _ _ _ _ (@ah _ _ _ _) (@aa _ _ _ _ _ (@ah _ _ _ _) (@aa _ _ _ _ _ (@ah _ _ _ _) (@aa _ _ _ _ _ (@ah _ _ _ _) (@aa _ _ _ _ _ (@ah _ _ _ _) (@aa _ _ _ _ _ (@aG _ _ _ _ _ _ _ _ (@dc _) (@ah _ _ _ _) (@ah _ _ _ _)) (@af _) (by rfl)) (by rfl)) (by rfl)) (by rfl)) (by rfl)) (by rfl)) (by rfl))) (@aI _ _ _ _ _ _ _ _ _ _ _ _ au (hr.mono (by first | decide | omega)) NE.pass (@aa _ _ _ _ _ (@pv _ 0 _ _ (by rfl) (by first | exact Or.inl rfl | exact Or.inr (Or.inl rfl) | exact Or.inr (Or.inr rfl)) (by decide) (by decide)) (@aa _ _ _ _ _ (@ah _ _ _ _) (@af _) (by rfl)) (by rfl)) (by rfl) (by decide) (by rfl) (by rfl)) (fun _ _=>rfl)) (by rfl) (by first | exact .inl rfl | exact .inr rfl | assumption)) (@ai _ _ _ _ _ (@aM _ _ 4 _ _ _ _ S.nd rfl (by first | exact Or.inl rfl | exact Or.inr rfl) (@aL _ _ _ _ _ _ _ (@aK _) (@bC _ _ _ _ (@aa _ _ _ _ _ (@ah _ _ _ _) (@aa _ _ _ _ _ (@ah _ _ _ _) (@aa _ _ _ _ _ (@ah _ _ _ _) (@aa _ _ _ _ _ (@ah _ _ _ _) (@aa _ _ _ _ _ (@ah _ _ _ _) (@aa _ _ _ _ _ (@aG _ _ _ _ _ _ _ _ (@dc _) (@ah _ _ _ _) (@ah _ _ _ _)) (@af _) (by rfl)) (by rfl)) (by rfl)) (by rfl)) (by rfl)) (by rfl))) (@aI _ _ _ _ _ _ _ _ _ _ _ _ au (hr.mono (by first | decide | omega)) NE.pass (@aa _ _ _ _ _ (@pv _ 0 _ _ (by rfl) (by first | exact Or.inl rfl | exact Or.inr (Or.inl rfl) | exact Or.inr (Or.inr rfl)) (by decide) (by decide)) (@aa _ _ _ _ _ (@ah _ _ _ _) (@af _) (by rfl)) (by rfl)) (by rfl) (by decide) (by rfl) (by rfl)) (fun _ _=>rfl)) (by rfl) (by first | exact .inl rfl | exact .inr rfl | assumption)) (@ai _ _ _ _ _ (@aM _ _ 5 _ _ _ _ S.nd rfl (by first | exact Or.inl rfl | exact Or.inr rfl) (@aL _ _ _ _ _ _ _ (@aK _) (@bC _ _ _ _ (@aa _ _ _ _ _ (@ah _ _ _ _) (@aa _ _ _ _ _ (@ah _ _ _ _) (@aa _ _ _ _ _ (@ah _ _ _ _) (@aa _ _ _ _ _ (@ah _ _ _ _) (@aa _ _ _ _ _ (@ah _ _ _ _) (@aa _ _ _ _ _ (@ah _ _ _ _) (@aa _ _ _ _ _ (@aG _ _ _ _ _ _ _ _ (@dc _) (@ah _ _ _ _) (@ah _ _ _ _)) (@af _) (by rfl)) (by rfl)) (by rfl)) (by rfl)) (by rfl)) (by rfl)) (by rfl))) (@aI _ _ _ _ _ _ _ _ _ _ _ _ au (hr.mono (by first | decide | omega)) NE.pass (@aa _ _ _ _ _ (@pv _ 0 _ _ (by rfl) (by first | exact Or.inl rfl | exact Or.inr (Or.inl rfl) | exact Or.inr (Or.inr rfl)) (by decide) (by decide)) (@aa _ _ _ _ _ (@ah _ _ _ _) (@af _) (by rfl)) (by rfl)) (by rfl) (by decide) (by rfl) (by rfl)) (fun _ _=>rfl)) (by rfl) (by first | exact .inl rfl | exact .inr rfl | assumption)) (@ai _ _ _ _ _ (@aM _ _ 6 _ _ _ _ S.nd rfl (by first | exact Or.inl rfl | exact Or.inr rfl) (@bC _ _ _ _ (@aa _ _ _ _ _ (@aq _ _ _ _) (@aa _ _ _ _ _ (@aq _ _ _ _) (@aa _ _ _ _ _ (@aq _ _ _ _) (@aa _ _ _ _ _ (@aq _ _ _ _) (@aa _ _ _ _ _ (@aq _ _ _ _) (@af _) (by rfl)) (by rfl)) (by rfl)) (by rfl)) (by rfl))) (by rfl) (by first | exact .inl rfl | exact .inr rfl | assumption)) (@ai _ _ _ _ _ (@br _ _ _ _ _ _ _ _ (@cB _ _ _ _ (@cH _ _ _ (@pv _ 1 _ _ (by rfl) (by first | exact Or.inl rfl | exact Or.inr (Or.inl rfl) | exact Or.inr (Or.inr rfl)) (by decide) (by decide)) (by intro _;rfl))) (@ak _ _ _ (@yW _ _ _ _ _ _ _ _ _ _ (aS 0) _ _ 6 _ _ _ rfl S.nd rfl (by first | exact Or.inl rfl | exact Or.inr rfl) (@fE _ _ _ _ (@pv _ 6 _ _ (by rfl) (by first | exact Or.inl rfl | exact Or.inr (Or.inl rfl) | exact Or.inr (Or.inr rfl)) (by decide) (by decide))) (@eY _ _ ["_law_word"] [0] (aj (top 46)).names ["_law_cell", "_law_sound", "_law_wide", "_law_far", "_law_room", "_law_term", "_law_rules"] rfl rfl rfl (by decide +kernel)) (fun _ _ _ _=>(@bL _ _ 0 _ (show (jW ["_law_cell", "_law_sound", "_law_wide", "_law_far", "_law_room", "_law_term", "_law_rules"] ["_law_word"] [0]).Nodup by decide +kernel) rfl (by first | exact Or.inl rfl | exact Or.inr rfl) (by first | exact .inl rfl | exact .inr rfl | assumption))) (fun _ _ _ _=>(@yY _ _ _ (@aJ _ _ _ _ _ _ _ _ (@uY _) (@aI _ _ _ _ _ _ _ _ _ _ _ _ au (hr.mono (by first | decide | omega)) NE.pass (@aa _ _ _ _ _ (@pv _ 1 _ _ (by rfl) (by first | exact Or.inl rfl | exact Or.inr (Or.inl rfl) | exact Or.inr (Or.inr rfl)) (by decide) (by decide)) (@aa _ _ _ _ _ (@ah _ _ _ _) (@af _) (by rfl)) (by rfl)) (by rfl) (by decide) (by rfl) (by rfl)) (@ah _ _ _ _) (@aH _ _ (by decide) (by decide))))) (fun _ _ _ _=>(@pv _ 0 _ _ (by rfl) (by first | exact Or.inl rfl | exact Or.inr (Or.inl rfl) | exact Or.inr (Or.inr rfl)) (by decide) (by decide))) (by with_unfolding_all rfl) (by first | exact .inl rfl | exact .inr rfl | assumption) (by intro _;rfl))) (@aF _)) (@ak _ _ _ (@av _ _ _ _ (@Di _ _ _ _ _ _ _ _ _ _ _ _ _ dg (hr.mono (by first | decide | omega)) NE.pass (@aa _ _ _ _ _ (@Di _ _ _ _ _ _ _ _ _ _ _ _ _ gW (hr.mono (by first | decide | omega)) NE.pass (@aa _ _ _ _ _ (@aL _ _ _ _ _ _ _ (@aK _) (@pv _ 2 _ _ (by rfl) (by first | exact Or.inl rfl | exact Or.inr (Or.inl rfl) | exact Or.inr (Or.inr rfl)) (by decide) (by decide)) (@ah _ _ _ _) (fun _ _=>rfl)) (@aa _ _ _ _ _ (@aL _ _ _ _ _ _ _ (@aK _) (@pv _ 2 _ _ (by rfl) (by first | exact Or.inl rfl | exact Or.inr (Or.inl rfl) | exact Or.inr (Or.inr rfl)) (by decide) (by decide)) (@ah _ _ _ _) (fun _ _=>rfl)) (@af _) (by rfl)) (by rfl)) (by rfl) (by decide) (by rfl) (by rfl)) (@aa _ _ _ _ _ (@pv _ 3 _ _ (by rfl) (by first | exact Or.inl rfl | exact Or.inr (Or.inl rfl) | exact Or.inr (Or.inr rfl)) (by decide) (by decide)) (@aa _ _ _ _ _ (@pv _ 4 _ _ (by rfl) (by first | exact Or.inl rfl | exact Or.inr (Or.inl rfl) | exact Or.inr (Or.inr rfl)) (by decide) (by decide)) (@aa _ _ _ _ _ (@pv _ 5 _ _ (by rfl) (by first | exact Or.inl rfl | exact Or.inr (Or.inl rfl) | exact Or.inr (Or.inr rfl)) (by decide) (by decide)) (@aa _ _ _ _ _ (@pv _ 6 _ _ (by rfl) (by first | exact Or.inl rfl | exact Or.inr (Or.inl rfl) | exact Or.inr (Or.inr rfl)) (by decide) (by decide)) (@af _) (by rfl)) (by rfl)) (by rfl)) (by rfl)) (by rfl)) (by rfl) (by decide) (by rfl) (by rfl))))))))))),?_⟩
 try dsimp only [bM]
 have L:=bB hh
 walk_at "go"
 refine aT L .head (by decide) (by decide) (by omega) fun r1 H1 a0 a1 L _=>?_
 walk_at "go"
 refine aT L .head (by decide) (by decide) (by omega) fun r2 H2 b0 b1 L _=>?_
 walk_at "one"
 try dsimp only [aS]
 have o2:Oth p H H':=L'.fr
 have h2:=aO.at (L'.at_ (p,aO _) (by walk_at "mem"))
 have hw2:=L'.eo (p:=l') (by walk_at "put")
 clear L
 refine gO (fun σ Hx=>∃ (lw:Addr) (x y:Int),σ=[some (.ref p),some (.bl so),some (.ref lw),none,none,none,none]∧bw Hx p (b+6144)∧Hx lw=some (.lst [.int x,.int y])∧lw≠p∧1≤x∧x≤1000∧1≤y∧y≤1000∧Oth p H Hx) (fun nx kk=>?_) ?_
 ·have nlp:l'≠p:=fun z=>by obtain ⟨u,v,y,e,_⟩:=h2;rw [← z,hw2] at e;have hl:=L'.nd;rw [List.map_cons,List.map_cons,z] at hl;exact absurd hl (by simp)
  clear L'
  have L:=bB h2
  walk_at "go"
  refine aT L .head (by decide) (by decide) (by omega) fun r3 H3 c0 c1 L _=>?_
  walk_at "go"
  refine bW (fun z=>?_) (fun z=>?_)
  ·walk_at "go"
   refine aT L .head (by decide) (by decide) (by omega) fun r4 H4 d0 d1 L _=>?_
   walk_at "go"
   refine aT L .head (by decide) (by decide) (by omega) fun r5 H5 e0 e1 L _=>?_
   walk_at "go"
   have h5:=aO.at (L.at_ (p,aO _) (by walk_at "mem"))
   exact kk _ _ ⟨_,_,_,rfl,(aO.at (L'.at_ (p,aO _) (by walk_at "mem"))).mono (by omega),L'.eo (by walk_at "put"),(fun z=>by obtain ⟨u,v,y,e,_⟩:=h5;rw [← z,n'] at e;cases e),by omega,by omega,by omega,by omega,o2.trans L'.fr⟩
  ·walk_at "go"
   exact kk _ _ ⟨_,_,_,rfl,(aO.at (L.at_ (p,aO _) (by walk_at "mem"))).mono (by omega),L.fr _ _ hw2 nlp,nlp,by omega,by omega,by omega,by omega,o2.trans L.fr⟩
 clear L'
 rintro σ H3 ⟨lw,x,y,rfl,h3,hlw,nlw,x0,x1,y0,y1,o3⟩
 have L:=bB h3
 walk_at "go"
 refine aT L' (by walk_at "put") (by decide) (by decide) (by omega) fun r6 H4 c0 c1 L _=>?_
 walk_at "go"
 refine gk L .head c0 (by simp only [List.length_cons,List.length_nil];omega) fun v hv=>?_
 obtain ⟨fa,rfl,f0,f1⟩:∃ n:Int,v = .int n∧0≤n∧n≤1000000000000:=by
  simp only [List.mem_cons,List.not_mem_nil,or_false] at hv
  rcases hv with rfl | rfl | rfl | rfl | rfl | rfl | rfl <;> exact ⟨_,rfl,by decide,by decide⟩
 have o4:=o3.trans L.fr
 have Ir:=L.fr _ _ hlw nlw
 have h4:=(aO.at (L.at_ (p,aO _) (by walk_at "mem"))).mono (show _≤b+8192 by omega)
 clear L L'
 have L:=bB h4
 walk_at "go"
 refine aT L' (by walk_at "put") (by decide) (by decide) (by omega) fun r7 H5 d0 d1 L _=>?_
 walk_at "go"
 refine gk L .head d0 (by simp only [List.length_cons,List.length_nil];omega) fun v hv=>?_
 obtain ⟨ro,rfl,g0,g1⟩:∃ n:Int,v = .int n∧1≤n∧n≤1000000000000:=by
  simp only [List.mem_cons,List.not_mem_nil,or_false] at hv
  rcases hv with rfl | rfl | rfl | rfl | rfl | rfl <;> exact ⟨_,rfl,by decide,by decide⟩
 have o5:=o4.trans L.fr
 have EA:=L.fr _ _ Ir nlw
 have h5:=(aO.at (L.at_ (p,aO _) (by walk_at "mem"))).mono (show _≤b+10240 by omega)
 clear L L'
 have L:=bB h5
 walk_at "go"
 refine aT L' (by walk_at "put") (by decide) (by decide) (by omega) fun r8 H6 e0 e1 L _=>?_
 walk_at "go"
 refine gk L .head e0 (by simp only [List.length_cons,List.length_nil];omega) fun v hv=>?_
 obtain ⟨te,rfl,t0,t1⟩:∃ n:Int,v = .int n∧1≤n∧n≤1000000000000:=by
  simp only [List.mem_cons,List.not_mem_nil,or_false] at hv
  rcases hv with rfl | rfl | rfl | rfl | rfl | rfl | rfl <;> exact ⟨_,rfl,by decide,by decide⟩
 have o6:=o5.trans L.fr
 have BZ:=L.fr _ _ EA nlw
 have h6:=(aO.at (L.at_ (p,aO _) (by walk_at "mem"))).mono (show _≤b+12288 by omega)
 clear L L'
 have shN:ShN x y:=⟨by omega,by omega,by omega,by omega⟩
 have stN:StN fa ro te:=⟨by omega,by omega,by omega,by omega,by omega,by omega⟩
 obtain ⟨n,rfl⟩:=Int.eq_ofNat_of_zero_le (show 0≤y by omega)
 have L:=Led.start H6 (fun _=>False)
 walk_at "one"
 try dsimp only [aS]
 refine g_seq ?_
 walk_at "one"
 obtain ⟨lr,elr⟩:∃ z,z=l':=⟨_,rfl⟩
 subst elr
 have hlr:=L'.eo (p:=lr) (by walk_at "put")
 have s7:=L'.same
 obtain ⟨H7,eH7⟩:∃ z,z=H':=⟨_,rfl⟩
 subst eH7
 have nlr:lr≠p:=fun z=>by obtain ⟨u,v,y,e,_⟩:=h6;rw [← z,n'] at e;cases e
 have h7:=h6.same s7
 clear L L'
 try dsimp only [aS]
 refine gO (fun σ Hx=>∃ (lr2:Addr) (ws:List Str),σ=[some (.ref p),some (.bl so),some (.ref lw),some (.int fa),some (.int ro),some (.int te),some (.ref lr2)]∧Hx lr2=some (.lst (ws.map V.str))∧ws.Sublist w5∧bw Hx p (b+17408)∧Oth p H7 Hx) (fun nx kk=>?_) ?_
 ·cases so with
  | true=>
   walk_at "go"
   exact kk _ _ ⟨_,w5,rfl,hlr,List.Sublist.refl _,h7.mono (by omega),Oth.refl _ _⟩
  | false=>
   walk_at "go"
   refine jM (SqL.of hlr) ?_
   refine g9 (w5.map V.str) (fun i ys Hx=>∃ ws:List Str,ys=ws.map V.str∧ws.Sublist (w5.take i)∧bw Hx p (b+12288+1024 * (i:Int))∧Oth p H7 Hx) ⟨[],rfl,List.Sublist.refl _,h7.mono (by omega),Oth.refl _ _⟩ (fun i ys Hx hi ⟨ws,e,hs,_,o⟩=>⟨SqL.of (o _ _ hlr nlr),by
    rw [e,List.length_map]
    have:=hs.length_le
    rw [List.length_take] at this
    exact Nat.le_of_lt (small1000 (by have:w5.length=5:=rfl;omega))⟩) ?_ ?_
   ·rintro i v ys Hx hv ⟨ws,rfl,hs,hx,o⟩
    rw [List.getElem?_map] at hv
    cases hw:w5[i]? with
    | none=>rw [hw] at hv;cases hv
    | some wo=>
     rw [hw] at hv
     cases Option.some.inj hv
     have hi5:i < 5:=(List.getElem?_eq_some_iff.mp hw).1
     have hl1:(ws++[wo]).Sublist (w5.take (i+1)):=by rw [List.take_add_one,hw];exact hs.append (List.Sublist.refl _)
     have hl2:ws.Sublist (w5.take (i+1)):=by rw [List.take_add_one,hw];exact hs.trans (List.sublist_append_left _ _)
     have L:=bB hx
     try dsimp only [aS]
     walk_at "go"
     refine aT L .head (by decide) (by decide) (by omega) fun r9 H8 b1 b2 L _=>?_
     have h8:=(aO.at (L.at_ (p,aO _) (by walk_at "mem"))).mono (show _≤b+12288+1024 * ((i+1:Nat):Int) by omega)
     have o8:=o.trans L.fr
     walk_at "go"
     refine bW (fun z=>?_) (fun z=>?_)
     ·walk_at "go"
      exact ⟨ws++[wo],by rw [List.map_append];rfl,hl1,h8,o8⟩
     ·exact ⟨ws,rfl,hl2,h8,o8⟩
   ·rintro ys Hx ⟨ws,rfl,hs,hx,o⟩ lc nlc
    rw [show (w5.map V.str).length=5 from rfl] at hs
    exact kk _ _ ⟨lc,ws,rfl,ao,hs,(hx.same (aQ nlc)).mono (by simp only [List.length_map,show w5.length=5 from rfl];omega),fun q o' e z=>by rw [aD (ay (o q o' e z) nlc)];exact o q o' e z⟩
 rintro σ H8 ⟨lr2,ws,rfl,hl2,hsu,h8,o8⟩
 have qY:=o8 _ _ (s7 _ _ BZ) nlw
 have o68:Oth p H H8:=fun q o e z=>o8 _ _ (s7 _ _ (o6 q o e z)) z
 have hws:∀ z∈ws,z∈bq:=fun z hz=>Dz z (hsu.subset hz)
 have hnd:ws.Nodup:=hsu.nodup xO
 have h5:ws.length≤5:=hsu.length_le
 have L:=Led.start H8 (fun _=>False)
 walk_at "go"
 refine cS (SqL.of qY) rfl ?_
 walk_at "go"
 refine cS (SqL.of qY) rfl ?_
 walk_at "go"
 refine mR L shN fun sp H9 nsp L s9=>?_
 walk_at "go"
 have am:=uq stN hws hnd
 refine ig (d:=.sq true (ws.map El.s)) (.int _) (.int _) (.int _) ⟨lr2,_,rfl,s9 _ _ hl2,lT ws,by rw [List.length_map];omega⟩ (fun hn tV room' term' e1 e2 e3 x' H10 nx10 hst s10=>?_) fun wd hwd d' H10 s10 hd10=>by rw [am] at hwd;cases hwd
 cases e1;cases e2;cases e3
 obtain ⟨o,eo,dsp,rfl⟩:=L.at_ (sp,AH C x n) (by walk_at "mem")
 obtain ⟨dx,tr,ms,g1,g2,g3,g4⟩:=hst
 have g3:ms.Perm ws:=by rw [show wsD (.sq true (ws.map El.s))=ws from gy ws] at g3;exact g3
 obtain ⟨x,rfl⟩:=Int.eq_ofNat_of_zero_le (show 0≤x by omega)
 obtain ⟨fa,rfl⟩:=Int.eq_ofNat_of_zero_le (show 0≤fa by omega)
 obtain ⟨ro,rfl⟩:=Int.eq_ofNat_of_zero_le (show 0≤ro by omega)
 obtain ⟨te,rfl⟩:=Int.eq_ofNat_of_zero_le (show 0≤te by omega)
 walk_at "go"
 exact q x' x n fa ro te ms _ ⟨dx,tr,sp,dsp,g1,g2,s10 _ _ eo⟩ ⟨by omega,by omega,by omega,by omega,by omega,by omega,by omega,by omega,by omega,sQ g3 g4 hws hnd⟩ ((h8.same s9).same s10) fun q o e z=>s10 _ _ (s9 _ _ (o68 q o e z))
end
end Law

namespace L4
open PySem PySem.Spec PyProof.Rows L2 L3
def Bg:V→List V→Hp→VK→Prop:=fun x vs H Q=>∃ (l:Addr) (bs:List Bool) (k:Bool),x = .ref l∧vs=[.bl k]∧H l=some (.lst (bs.map V.bl))∧Q (.int ((bs.countP (· == k):Nat):Int)) H
def Bf:V→List V→Hp→VK→Prop:=fun x vs H Q=>∃ (l:Addr) (bs:List Bool) (k:Bool) (j:Nat),x = .ref l∧vs=[.bl k]∧H l=some (.lst (bs.map V.bl))∧bs.length≤1000∧bs[j]?=some k∧(∀ m,m < j→bs[m]?=some (!k))∧Q (.int (j:Int)) H
def wL (k:Bool):Value→Bool
 | .bool b=>b == k
 | _=>false
theorem ou:∀ {bs:List Bool} {us:List Value},Vals (bs.map V.bl) us→us=bs.map Value.bool
 | [],_,.nil=>rfl
 | b::bs,_,.cons r h=>by
  have e:_=Value.bool b:=r
  rw [e,ou h];rfl
theorem nS (k:Bool):∀ bs:List Bool,(bs.map Value.bool).countP (wL k)=bs.countP (· == k)
 | []=>rfl
 | b::bs=>by
  rw [List.map_cons,List.countP_cons,List.countP_cons,nS k bs];rfl
section
variable {X:Cx}
theorem vq {A:Around} {s:Shared} {k:Bool} {bs:List Bool} {y:Value} (h:y∈(bs.map Value.bool).toArray):PySem.SeqAt.EqAt A s y (.bool k) (wL k y):=by
 obtain ⟨b,_,rfl⟩:=List.mem_map.mp (List.mem_toArray.mp h)
 exact PySem.SeqAt.EqAt.bool_bool b k
theorem nq:MtM X "list.count" Bg:=by
 intro pins s σ H x vs v us Q I rx rv h
 obtain ⟨l,bs,k,rfl,rfl,hH,q⟩:=h
 cases rx
 obtain ⟨u,rfl,ru⟩:=rv.one
 cases ru
 obtain ⟨z,its,n,r,hl,e⟩:=I.BN hH
 have ei:=ou r
 subst ei
 refine call_meets F.slot_list_count ⟨_,e,rfl⟩ F.entry_list_count (F.args_list_count_2 _ _) (PySem.SeqAt.list_countAt l _ n _ _ (.bool k) (wL k)) ⟨e,fun y hy=>vq hy,?_⟩
 refine ⟨.int _,H,I.tok _,⟨_,rfl⟩,?_⟩
 rw [show (bs.map Value.bool).toArray.toList=bs.map Value.bool from rfl,nS]
 exact q
theorem nk:MtM X "list.index" Bf:=by
 intro pins s σ H x vs v us Q I rx rv h
 obtain ⟨l,bs,k,j,rfl,rfl,hH,hz,hj,hb,q⟩:=h
 cases rx
 obtain ⟨u,rfl,ru⟩:=rv.one
 cases ru
 obtain ⟨z,its,n,r,hl,e⟩:=I.BN hH
 have ei:=ou r
 subst ei
 obtain ⟨hjl,hje⟩:=List.getElem?_eq_some_iff.mp hj
 refine call_meets F.slot_list_index ⟨_,e,rfl⟩ F.entry_list_index (F.args_list_index_2 _ _) (PySem.SeqAt.list_indexAt l _ n _ _ (.bool k) (wL k) j (by simpa using hjl) (by omega) ?_ ?_) ⟨e,fun y hy=>vq hy,?_⟩
 ·simp only [List.getElem_toArray,List.getElem_map,hje,wL,beq_self_eq_true]
 ·intro m hm hlt
  obtain ⟨hml,hme⟩:=List.getElem?_eq_some_iff.mp (hb m hlt)
  simp only [List.getElem_toArray,List.getElem_map,hme,wL]
  cases k <;> rfl
 ·exact ⟨.int _,H,I.tok _,⟨_,rfl⟩,q⟩
end
section
variable {X:Cx} {K:PySem.W.Frag} {o e:Expr} {es:List Expr} {to:TE} {t:TA} {name:Str} {apos cpos:Pos} {T id:String} {r:V→List V→Hp→VK→Prop}
theorem o7 (hK:X.K=K) (pa:PlainAttrs T) (slot:Slot T name id) (hty:typeOf (.builtin id)=pure (.type "method_descriptor")) (hm:MtR X id r) (ho:PE X o to) (ha:PA X (e::es) t)
  (hbase:attributeBase o name X.env (eval o X.env)=eval o X.env:=by rfl)
  (hfew:((backTo cpos (starEach (e::es) X.env)).all (fun x=>!x.1) && (backToKw cpos (keywordEach [] X.env)).all (fun x=>x.1.isSome)
   && decide ((e::es).length+([]:List Keyword).length+(if ([]:List Keyword).isEmpty then 0 else 1) < 30))=true:=by rfl)
  (hline:(apos.endLine == cpos.line)=true:=by rfl) (hs:starEach (e::es) X.env=(false,eval e X.env)::starEach es X.env:=by rfl) (hplain:(backTo cpos (starEach es X.env)).any (·.1)=false:=by rfl) :
  PE X (.Call (.Attribute o name apos) (e::es) [] cpos) (tBM K T r to t):=by
 subst hK
 exact dX pa slot hty hm ho ha hbase hfew hline hs hplain
end
end L4

namespace L4
open PySem PySem.Spec PyProof.Rows L2 L3
section
variable {prog:Program} {w:World} {A:Around} {E:Value→Shared→Prop} {s:Shared}
theorem nQ {it t:Addr} {items:Array Value} (hne:t≠it):∀ (n i:Nat) (s:Shared) (Q:List Value→Shared→Prop),s.heap.IsListIter it t i→s.heap.IsList t items→i+n≤items.size →
  (∀ h',h'.IsListIter it t (i+n)→Heap.SameBut it s.heap h'→Q ((items.toList.drop i).take n) { s with heap:=h' })→wpAny (model prog w) A (draw (.ref it) n) Q E s
 | 0,i,s,Q,hit,_,_,hQ=>by
  show wpAny _ _ (pure []) Q E s
  exact wpAny_pure (by simpa using hQ s.heap hit (Heap.SameBut.refl ..))
 | n+1,i,s,Q,hit,ht,hle,hQ=>by
  have hlt:i < items.size:=by omega
  show wpAny _ _ (pyNext (.ref it) >>= _) Q E s
  refine wpAny_bind (wpAny_pyNext_list_item hit ht (x:=items[i]) (by simp [hlt]) fun h₁ hit₁ hs₁=>?_)
  refine wpAny_bind (wpAny_holding (nQ hne n (i+1) _ _ hit₁ (ht.at fun o e=>hs₁.extBut _ o hne e) (by omega) fun h₂ hit₂ hs₂=>wpAny_pure ?_))
  have hd:items.toList.drop i=items[i]::items.toList.drop (i+1):=by simp [List.drop_eq_getElem_cons,hlt]
  have:=hQ h₂ (by rw [show i+(n+1)=i+1+n by omega];exact hit₂) (hs₁.trans hs₂)
  rw [hd,List.take_succ_cons] at this
  exact this
theorem jw {t:Addr} {items:Array Value} {Q:List Value→Shared→Prop} (hh:A.handled=none) (ht:s.heap.IsList t items)
  (hQ:∀ h',Heap.ExtBut s.heap.objs.size s.heap h'→Q items.toList { s with heap:=h' }):wpAny (model prog w) A (unpackItems (.ref t) items.size none) Q E s:=by
 have hlt:t≠s.heap.objs.size:=by obtain ⟨o,ho,_⟩:=ht;exact Nat.ne_of_lt (Heap.lt_size ho)
 unfold unpackItems
 refine wpAny_bind ?_
 ·unfold notIterableAtAll
  refine wpAny_bind (wpAny_specialOf ht.typeIs slot_list_iter.lookup ?_)
  refine wpAny_pure ?_
  simp only [Bool.false_eq_true,if_false]
  refine wpAny_bind (wpAny_holding (wpAny_pyIter_list ht ?_))
  refine wpAny_bind (wpAny_holding (nQ hlt items.size 0 _ _ ⟨_,Heap.get?_push_size _ rfl,rfl,rfl⟩ (ht.at fun o e=>Heap.get?_push_of_some _ e) (by omega) fun h₁ hit₁ hs₁=>?_))
  have hall:List.take items.size (List.drop 0 items.toList)=items.toList:=by
   rw [List.drop_zero];exact List.take_of_length_le (by simp)
  rw [hall]
  rw [if_neg (by simp)]
  have ht₁ : h₁.IsList t items:=ht.at fun o e=>hs₁.extBut _ o hlt (Heap.get?_push_of_some _ e)
  refine wpAny_bind (wpAny_holding (wpAny_pyNext_list_end hh hit₁ ht₁ (by simp) fun h₂ he₂=>?_))
  simp only [Option.isSome_none,Bool.false_eq_true,if_false]
  refine wpAny_pure (hQ h₂ fun b o hb e=>he₂ b o hb (hs₁.extBut b o hb (Heap.get?_push_of_some _ e)))
theorem jm {env:Env} {elts:List Expr} {x1} {pos:Pos} {t:Addr} {items:Array Value} {Q:Unit→Shared→Prop} (hh:A.handled=none) (ht:s.heap.IsList t items)
  (hn:(assignEach elts env).length=items.size) (hstar:(assignEach elts env).findIdx? (·.1)=none)
  (h:∀ h',Heap.ExtBut s.heap.objs.size s.heap h'→wpAny (model prog w) A (assignInOrder ((assignEach elts env).map (·.2)) items.toList) Q E { s with heap:=h' }) :
  wpAny (model prog w) A (assign (.Tuple elts x1 pos) env (.ref t)) Q E s:=by
 rw [assign_Tuple]
 refine wpAny_bind (wpAny_standAt ?_)
 unfold unpack
 rw [hn,hstar]
 exact wpAny_bind (wpAny_holding (jw hh ht h))
end
section
variable {X:Cx} {pos:Pos}
def IG (K:PySem.W.Frag) (n:Nat) (t:TGs):TG:=fun v σ H Q=>∃ a xs,v = .ref a∧SqL K H a xs∧xs.length=n∧t xs σ H Q
theorem Bm {es:List Expr} {k:Nat} {t:TGs} {n:Nat} (hc:X.calm=true) (h:PGs X es t)
  (hn:(assignEach es X.env).length=n:=by rfl) (hst:(assignEach es X.env).findIdx? (·.1)=none:=by rfl):PG X (.Tuple es k pos) (IG X.K n t):=by
 intro pins s σ H v u Q I r hw
 obtain ⟨a,xs,e1,hq,hl,hw⟩:=hw
 subst e1
 cases r
 obtain ⟨its,rv,ht,hz⟩:=I.list hq
 refine jm (I.ok.hd hc) ht.isList (by simp [hn,← hl,rv.length]) hst fun h' hx=>?_
 have I1:Inv X pins σ H { s with heap:=h' }:=I.kept (t':=s.toks) fun b o e=>hx b o (Nat.ne_of_lt (Heap.lt_size e)) e
 exact h pins _ σ H xs _ Q I1 (by simpa using rv) hw
end
end L4

namespace L4
open PySem PySem.Spec PyProof.Rows L2 L3
theorem qW {X:Cx} {K:PySem.W.Frag} (h:X.K=K):IxR X (yR K):=h▸aK
end L4
namespace Law
open PySem PySem.Spec PyProof.Rows L2 L3 L4
structure FA (K:PySem.W.Frag) (CR CN CH CB CL c:Addr) (b1 b2 b3:Bool):Prop where
 g:jY K c
 m:PySem.W.exmOne K (.ref c) (.ref CR)=some true
 k1:PySem.W.kitOne K (.ref c) (.ref CN)=some b1
 k2:PySem.W.kitOne K (.ref c) (.ref CH)=some b2
 k3:PySem.W.kitOne K (.ref c) (.ref CB)=some b3
 k4:PySem.W.kitOne K (.ref c) (.ref CL)=some false
structure Fz (K:PySem.W.Frag) (CR CN CH CB CL:Addr):Prop where
 n:FA K CR CN CH CB CL CN true false false
 h:FA K CR CN CH CB CL CH false true false
 b:FA K CR CN CH CB CL CB false false true
 hd:PySem.W.hasDictIn K CB=true
 fw:PySem.W.findIn K (.ref CB) "word" = some none
section
variable {P:Program} {w:World} {K:PySem.W.Frag} {mg:Str→Option Value} {base:Heap} {CX:CXT} {CN CH CB C CS CR CL aR:Addr}
theorem DO:aB ["_law_rules"] ["_law_rules"] (aj (top 47)):=by walk_at "s"
theorem Eh (D:Dat K mg "_law_rules_word" "_law_rules_word" (top 47) ["_law_rules"]) (BT:Bt mg):Cal P w K mg base CX "_law_rules_word" 1 ["_law_rules"] (iV K):=by
 have S:=DO
 walk_at "d"
 ·obtain ⟨a,ws,rfl,_⟩:=h
  rfl
 obtain ⟨a,ws,rfl,ha,hw,h5,q⟩:=h
 have hsum:=jC hw
 have plus:(Str.ofString "+").length=1:=by decide +kernel
 refine ⟨_,(@ai _ _ _ _ _ (@br _ _ _ _ _ _ _ _ (@aJ _ _ _ _ _ _ _ _ (@cM _) (@aW _ _ _ _ _ _ _ _ _ (@iA _) rfl BT.len L3.cT (@aa _ _ _ _ _ (@pv _ 0 _ _ (by rfl) (by first | exact Or.inl rfl | exact Or.inr (Or.inl rfl) | exact Or.inr (Or.inr rfl)) (by decide) (by decide)) (@af _) (by rfl)) (by decide) (by decide) (by rfl) (by rfl)) (@ah _ _ _ _) (@aH _ _ (by decide) (by decide))) (@ak _ _ _ (@av _ _ _ _ (@aq _ _ _ _))) (@aF _)) (@ak _ _ _ (@av _ _ _ _ (@dX _ _ _ _ _ _ _ _ _ _ _ _ PySem.F.plainAttrs_str PySem.F.slot_str_join PySem.F.type_str_join u7 (@aq _ _ _ _) (@aa _ _ _ _ _ (@pv _ 0 _ _ (by rfl) (by first | exact Or.inl rfl | exact Or.inr (Or.inl rfl) | exact Or.inr (Or.inr rfl)) (by decide) (by decide)) (@af _) (by rfl)) (by rfl) (by rfl) (by rfl) (by rfl) (by rfl))))),?_⟩
 try dsimp only [bM]
 walk_at "go"
 refine kN ha ?_
 rw [List.length_map]
 walk_at "go"
 refine bW (fun c1=>?_) (fun c1=>?_)
 ·walk_at "go"
  have e:dN ws = "none" := if_pos (List.length_eq_zero_iff.mp (by omega))
  rw [e] at q
  exact q
 ·walk_at "go"
  refine vo ha (by rw [plus];omega) ?_
  have e:dN ws=Txt.join "+" ws:=if_neg fun z=>by rw [z] at c1;exact absurd rfl c1
  rw [e] at q
  exact q
theorem yG:aB ["_law_settings_here", "_law_other", "_law_one"] ["_law_settings_here", "_law_other"] (aj (top 48)):=by walk_at "s"
def yf (K:PySem.W.Frag) (C CS:Addr):Sp:=fun vs H Q _=>∃ (x y:Addr) (c s far room term:Nat) (ms:List Str),vs=[.ref x,.ref y]∧StX K C CS H x c s far room term ms∧StX K C CS H y c s far room term ms∧∀ H',az H H'→Q (.bl true) H'
theorem zC (D:Dat K mg "_law_same" "_law_same" (top 48) ["_law_settings_here", "_law_other"]) (BT:Bt mg) (SC:ShC K C) (SS:StC K CS) (NE:bN CX):Cal P w K mg base CX "_law_same" 1 ["_law_settings_here", "_law_other"] (yf K C CS):=by
 have S:=yG
 walk_at "d"
 ·obtain ⟨x,y,c,s,far,room,term,ms,rfl,_⟩:=h
  rfl
 obtain ⟨x,y,c,s',far,room,term,ms,rfl,⟨dx,tr,sp,dsp,hx,htr,hsp⟩,⟨dx2,tr2,sp2,dsp2,hx2,zO,hsp2⟩,q⟩:=h
 refine ⟨_,(@ai _ _ _ _ _ (@aM _ _ 2 _ _ _ _ S.nd rfl (by first | exact Or.inl rfl | exact Or.inr rfl) (@aP _ _ _ _ _ (@aa _ _ _ _ _ (@bg _ _ _ _ _ (@bg _ _ _ _ _ (@pv _ 0 _ _ (by rfl) (by first | exact Or.inl rfl | exact Or.inr (Or.inl rfl) | exact Or.inr (Or.inr rfl)) (by decide) (by decide)) rfl) rfl) (@aa _ _ _ _ _ (@bg _ _ _ _ _ (@bg _ _ _ _ _ (@pv _ 0 _ _ (by rfl) (by first | exact Or.inl rfl | exact Or.inr (Or.inl rfl) | exact Or.inr (Or.inr rfl)) (by decide) (by decide)) rfl) rfl) (@aa _ _ _ _ _ (@bg _ _ _ _ _ (@pv _ 0 _ _ (by rfl) (by first | exact Or.inl rfl | exact Or.inr (Or.inl rfl) | exact Or.inr (Or.inr rfl)) (by decide) (by decide)) rfl) (@aa _ _ _ _ _ (@bg _ _ _ _ _ (@pv _ 0 _ _ (by rfl) (by first | exact Or.inl rfl | exact Or.inr (Or.inl rfl) | exact Or.inr (Or.inr rfl)) (by decide) (by decide)) rfl) (@aa _ _ _ _ _ (@bg _ _ _ _ _ (@pv _ 0 _ _ (by rfl) (by first | exact Or.inl rfl | exact Or.inr (Or.inl rfl) | exact Or.inr (Or.inr rfl)) (by decide) (by decide)) rfl) (@aa _ _ _ _ _ (@bg _ _ _ _ _ (@pv _ 0 _ _ (by rfl) (by first | exact Or.inl rfl | exact Or.inr (Or.inl rfl) | exact Or.inr (Or.inr rfl)) (by decide) (by decide)) rfl) (@af _) (by rfl)) (by rfl)) (by rfl)) (by rfl)) (by rfl)) (by rfl))) (by rfl) (by first | exact .inl rfl | exact .inr rfl | assumption)) (@ak _ _ _ (@av _ _ _ _ (@bA _ _ _ _ _ _ _ _ (@zj _ (hr.mono (Nat.zero_le _))) (@pv _ 2 _ _ (by rfl) (by first | exact Or.inl rfl | exact Or.inr (Or.inl rfl) | exact Or.inr (Or.inr rfl)) (by decide) (by decide)) (@aP _ _ _ _ _ (@aa _ _ _ _ _ (@bg _ _ _ _ _ (@bg _ _ _ _ _ (@pv _ 1 _ _ (by rfl) (by first | exact Or.inl rfl | exact Or.inr (Or.inl rfl) | exact Or.inr (Or.inr rfl)) (by decide) (by decide)) rfl) rfl) (@aa _ _ _ _ _ (@bg _ _ _ _ _ (@bg _ _ _ _ _ (@pv _ 1 _ _ (by rfl) (by first | exact Or.inl rfl | exact Or.inr (Or.inl rfl) | exact Or.inr (Or.inr rfl)) (by decide) (by decide)) rfl) rfl) (@aa _ _ _ _ _ (@bg _ _ _ _ _ (@pv _ 1 _ _ (by rfl) (by first | exact Or.inl rfl | exact Or.inr (Or.inl rfl) | exact Or.inr (Or.inr rfl)) (by decide) (by decide)) rfl) (@aa _ _ _ _ _ (@bg _ _ _ _ _ (@pv _ 1 _ _ (by rfl) (by first | exact Or.inl rfl | exact Or.inr (Or.inl rfl) | exact Or.inr (Or.inr rfl)) (by decide) (by decide)) rfl) (@aa _ _ _ _ _ (@bg _ _ _ _ _ (@pv _ 1 _ _ (by rfl) (by first | exact Or.inl rfl | exact Or.inr (Or.inl rfl) | exact Or.inr (Or.inr rfl)) (by decide) (by decide)) rfl) (@aa _ _ _ _ _ (@bg _ _ _ _ _ (@pv _ 1 _ _ (by rfl) (by first | exact Or.inl rfl | exact Or.inr (Or.inl rfl) | exact Or.inr (Or.inr rfl)) (by decide) (by decide)) rfl) (@af _) (by rfl)) (by rfl)) (by rfl)) (by rfl)) (by rfl)) (by rfl))) (@aH _ _ (by decide) (by decide)))))),?_⟩
 try dsimp only [bM]
 have L:=Led.start H (fun _=>False)
 walk_at "go"
 refine ⟨x,CS,dx,_,_,rfl,hx,SS.cl,SS.n1,cW _ _ _ _ _,?_⟩
 refine ⟨sp,C,dsp,_,_,rfl,hsp,SC.cl,SC.nc,uS _ _,?_⟩
 walk_at "go"
 refine ⟨x,CS,dx,_,_,rfl,hx,SS.cl,SS.n1,cW _ _ _ _ _,?_⟩
 refine ⟨sp,C,dsp,_,_,rfl,hsp,SC.cl,SC.ns,uR _ _,?_⟩
 walk_at "go"
 refine ⟨x,CS,dx,_,_,rfl,hx,SS.cl,SS.n2,kI _ _ _ _ _,?_⟩
 walk_at "go"
 refine ⟨x,CS,dx,_,_,rfl,hx,SS.cl,SS.n3,iT _ _ _ _ _,?_⟩
 walk_at "go"
 refine ⟨x,CS,dx,_,_,rfl,hx,SS.cl,SS.n4,iS _ _ _ _ _,?_⟩
 walk_at "go"
 refine ⟨x,CS,dx,_,_,rfl,hx,SS.cl,SS.n5,gJ _ _ _ _ _,?_⟩
 walk_at "go"
 have s1:=L'.same
 have ht1:=L'.tup (r:=t') (by walk_at "mem")
 obtain ⟨H1,eH1⟩:∃ z,z=H':=⟨_,rfl⟩
 subst eH1
 obtain ⟨t1,et1⟩:∃ z,z=t':=⟨_,rfl⟩
 subst et1
 clear L L'
 have L:=Led.start H1 (fun _=>False)
 have wQ:=s1 _ _ hx2
 have Dp:=s1 _ _ hsp2
 refine ⟨y,CS,dx2,_,_,rfl,wQ,SS.cl,SS.n1,cW _ _ _ _ _,?_⟩
 refine ⟨sp2,C,dsp2,_,_,rfl,Dp,SC.cl,SC.nc,uS _ _,?_⟩
 walk_at "go"
 refine ⟨y,CS,dx2,_,_,rfl,wQ,SS.cl,SS.n1,cW _ _ _ _ _,?_⟩
 refine ⟨sp2,C,dsp2,_,_,rfl,Dp,SC.cl,SC.ns,uR _ _,?_⟩
 walk_at "go"
 refine ⟨y,CS,dx2,_,_,rfl,wQ,SS.cl,SS.n2,kI _ _ _ _ _,?_⟩
 walk_at "go"
 refine ⟨y,CS,dx2,_,_,rfl,wQ,SS.cl,SS.n3,iT _ _ _ _ _,?_⟩
 walk_at "go"
 refine ⟨y,CS,dx2,_,_,rfl,wQ,SS.cl,SS.n4,iS _ _ _ _ _,?_⟩
 walk_at "go"
 refine ⟨y,CS,dx2,_,_,rfl,wQ,SS.cl,SS.n5,gJ _ _ _ _ _,?_⟩
 walk_at "go"
 have s2:=L'.same
 have ht2:=L'.tup (r:=t') (by walk_at "mem")
 refine EY (d:=.tup [.int c,.int s',.int far,.int room,.int term,.tup (ms.map Dt.str)]) (.tup (SqT.of (s2 _ _ ht1)) (.cons (.int _) (.cons (.int _) (.cons (.int _) (.cons (.int _) (.cons (.int _) (.cons (.tup (dS (s1.trans s2) htr) (fX ms)) .nil))))))) (.tup (SqT.of ht2) (.cons (.int _) (.cons (.int _) (.cons (.int _) (.cons (.int _) (.cons (.int _) (.cons (.tup (dS (s1.trans s2) zO) (fX ms)) .nil))))))) (by simp [dep,deps,jz]) ?_
 exact q _ (s1.trans s2)
theorem sP:aB ["_law_numbers", "_law_counts", "_law_slots", "_law_far", "_law_room", "_law_term"] ["_law_numbers"] (aj (top 50)):=by walk_at "s"
def Al:mJ→List Str
 | .text=>["text"]
 | .shape=>["shape"]
 | .sett wd=>["settings",wd]
 | .told ..=>["told"]
def qz:Sp:=fun vs H Q _=>∃ (l:Addr) (c s far room term:Nat),vs=[.ref l]∧H l=some (.lst (nV [c,s,far,room,term]))∧∀ t H',H' t=some (.tup ((Al (bounds c s far room term [])).map V.str))→az H H'→Q (.ref t) H'
theorem tu (D:Dat K mg "_law_bounds" "_law_bounds" (top 50) ["_law_numbers"]) (BT:Bt mg) (NE:bN CX):Cal P w K mg base CX "_law_bounds" 1 ["_law_numbers"] qz:=by
 have S:=sP
 walk_at "d"
 ·obtain ⟨l,c,s,far,room,term,rfl,_⟩:=h
  rfl
 obtain ⟨l,c,s',far,room,term,rfl,hl,q⟩:=h
 refine ⟨_,(@ai _ _ _ _ _ (@iF _ _ _ _ _ _ (@pv _ 0 _ _ (by rfl) (by first | exact Or.inl rfl | exact Or.inr (Or.inl rfl) | exact Or.inr (Or.inr rfl)) (by decide) (by decide)) (Bm rfl (@f6 _ _ _ _ _ (@bL _ _ 1 _ S.nd rfl (by first | exact Or.inl rfl | exact Or.inr rfl) (by first | exact .inl rfl | exact .inr rfl | assumption)) (@f6 _ _ _ _ _ (@bL _ _ 2 _ S.nd rfl (by first | exact Or.inl rfl | exact Or.inr rfl) (by first | exact .inl rfl | exact .inr rfl | assumption)) (@f6 _ _ _ _ _ (@bL _ _ 3 _ S.nd rfl (by first | exact Or.inl rfl | exact Or.inr rfl) (by first | exact .inl rfl | exact .inr rfl | assumption)) (@f6 _ _ _ _ _ (@bL _ _ 4 _ S.nd rfl (by first | exact Or.inl rfl | exact Or.inr rfl) (by first | exact .inl rfl | exact .inr rfl | assumption)) (@f6 _ _ _ _ _ (@bL _ _ 5 _ S.nd rfl (by first | exact Or.inl rfl | exact Or.inr rfl) (by first | exact .inl rfl | exact .inr rfl | assumption)) (@Bl _) (by rfl)) (by rfl)) (by rfl)) (by rfl)) (by rfl))) (by rfl) (by rfl) (by rfl)) (@ai _ _ _ _ _ (@br _ _ _ _ _ _ _ _ (@PW.pt _ _ _ (@j6 _ _ _ _ _ _ _ (@cB _ _ _ _ (@iZ _ _ _ _ _ _ _ _ _ _ _ _ (@eU _) (@eU _) (@ah _ _ _ _) (@pv _ 1 _ _ (by rfl) (by first | exact Or.inl rfl | exact Or.inr (Or.inl rfl) | exact Or.inr (Or.inr rfl)) (by decide) (by decide)) (@ah _ _ _ _) (by with_unfolding_all rfl))) (@iD _ _ _ _ (@cB _ _ _ _ (@iZ _ _ _ _ _ _ _ _ _ _ _ _ (@eU _) (@eU _) (@ah _ _ _ _) (@pv _ 2 _ _ (by rfl) (by first | exact Or.inl rfl | exact Or.inr (Or.inl rfl) | exact Or.inr (Or.inr rfl)) (by decide) (by decide)) (@ah _ _ _ _) (by with_unfolding_all rfl)))))) (@ak _ _ _ (@av _ _ _ _ (@aP _ _ _ _ _ (@aa _ _ _ _ _ (@aq _ _ _ _) (@af _) (by rfl))))) (@aF _)) (@ai _ _ _ _ _ (@br _ _ _ _ _ _ _ _ (@aJ _ _ _ _ _ _ _ _ (@uY _) (@pv _ 3 _ _ (by rfl) (by first | exact Or.inl rfl | exact Or.inr (Or.inl rfl) | exact Or.inr (Or.inr rfl)) (by decide) (by decide)) (@aG _ _ _ _ _ _ _ _ (@dc _) (@ah _ _ _ _) (@ah _ _ _ _)) (@aH _ _ (by decide) (by decide))) (@ak _ _ _ (@av _ _ _ _ (@aP _ _ _ _ _ (@aa _ _ _ _ _ (@aq _ _ _ _) (@aa _ _ _ _ _ (@aq _ _ _ _) (@af _) (by rfl)) (by rfl))))) (@aF _)) (@ai _ _ _ _ _ (@br _ _ _ _ _ _ _ _ (@cB _ _ _ _ (@iZ _ _ _ _ _ _ _ _ _ _ _ _ (@eU _) (@eU _) (@ah _ _ _ _) (@pv _ 4 _ _ (by rfl) (by first | exact Or.inl rfl | exact Or.inr (Or.inl rfl) | exact Or.inr (Or.inr rfl)) (by decide) (by decide)) (@aG _ _ _ _ _ _ _ _ (@dc _) (@ah _ _ _ _) (@ah _ _ _ _)) (by with_unfolding_all rfl))) (@ak _ _ _ (@av _ _ _ _ (@aP _ _ _ _ _ (@aa _ _ _ _ _ (@aq _ _ _ _) (@aa _ _ _ _ _ (@aq _ _ _ _) (@af _) (by rfl)) (by rfl))))) (@aF _)) (@ai _ _ _ _ _ (@br _ _ _ _ _ _ _ _ (@cB _ _ _ _ (@iZ _ _ _ _ _ _ _ _ _ _ _ _ (@eU _) (@eU _) (@ah _ _ _ _) (@pv _ 5 _ _ (by rfl) (by first | exact Or.inl rfl | exact Or.inr (Or.inl rfl) | exact Or.inr (Or.inr rfl)) (by decide) (by decide)) (@aG _ _ _ _ _ _ _ _ (@dc _) (@ah _ _ _ _) (@ah _ _ _ _)) (by with_unfolding_all rfl))) (@ak _ _ _ (@av _ _ _ _ (@aP _ _ _ _ _ (@aa _ _ _ _ _ (@aq _ _ _ _) (@aa _ _ _ _ _ (@aq _ _ _ _) (@af _) (by rfl)) (by rfl))))) (@aF _)) (@ak _ _ _ (@av _ _ _ _ (@aP _ _ _ _ _ (@aa _ _ _ _ _ (@aq _ _ _ _) (@af _) (by rfl)))))))))),?_⟩
 try dsimp only [bM]
 have L:=Led.start H (fun _=>False)
 walk_at "go"
 have hl:H l=some (.lst [.int (c:Nat),.int (s':Nat),.int (far:Nat),.int (room:Nat),.int (term:Nat)]):=hl
 refine ⟨l,_,rfl,SqL.of hl,rfl,?_⟩
 refine gZ ?_
 try dsimp only [aS]
 refine gZ ?_
 try dsimp only [aS]
 refine gZ ?_
 try dsimp only [aS]
 refine gZ ?_
 try dsimp only [aS]
 refine gZ ?_
 try dsimp only [aS]
 refine ⟨rfl,?_⟩
 have e12:((10:Int) ^ Int.toNat 12)=1000000000000:=by decide
 have sh:∀ H',az H H'→(decide (1≤c) && (decide (c≤1000) && (decide (1≤s') && decide (s'≤1000))))=false→∀ t,H' t=some (.tup [.str "shape"])→Q (.ref t) H':=fun H' sm e t ht=>q t H' (by unfold bounds;rw [if_pos e];exact ht) sm
 have b4 : 1≤c→c≤1000→1≤s'→s'≤1000→bounds c s' far room term []=if 1000000000000 < far then .sett "far" else if (decide (1≤room) && decide (room≤1000000000000))=false then .sett "room" else if (decide (1≤term) && decide (term≤1000000000000))=false then .sett "term" else .told c s' far room term []:=fun h1 h2 h3 h4=>by
  unfold bounds
  rw [decide_eq_true h1,decide_eq_true h2,decide_eq_true h3,decide_eq_true h4]
  exact if_neg (fun z=>nomatch z)
 walk_at "go"
 refine bW (fun c1=>?_) (fun c1=>?_)
 rotate_left
 ·walk_at "go"
  exact sh _ L'.same (by rw [decide_eq_false (show ¬ 1≤c by omega)];rfl) _ (L'.tup (by walk_at "mem"))
 walk_at "go"
 refine nO (fun c2=>?_) (fun c2=>?_)
 rotate_left
 ·walk_at "go"
  exact sh _ L'.same (by rw [decide_eq_false (show ¬ c≤1000 by omega),Bool.and_comm,Bool.and_assoc];rfl) _ (L'.tup (by walk_at "mem"))
 walk_at "go"
 refine bW (fun c3=>?_) (fun c3=>?_)
 rotate_left
 ·walk_at "go"
  exact sh _ L'.same (by rw [decide_eq_false (show ¬ 1≤s' by omega),Bool.false_and,Bool.and_false,Bool.and_false]) _ (L'.tup (by walk_at "mem"))
 walk_at "go"
 refine nO (fun c4=>?_) (fun c4=>?_)
 rotate_left
 ·walk_at "go"
  exact sh _ L'.same (by rw [decide_eq_false (show ¬ s'≤1000 by omega),Bool.and_false,Bool.and_false,Bool.and_false]) _ (L'.tup (by walk_at "mem"))
 have eb:=b4 (by omega) (by omega) (by omega) (by omega)
 rw [eb] at q
 walk_at "go"
 rw [e12]
 refine bW (fun c5=>?_) (fun c5=>?_)
 ·walk_at "go"
  exact q _ _ (by rw [if_pos (by omega)];exact L'.tup (by walk_at "mem")) L'.same
 rw [if_neg (by omega)] at q
 walk_at "go"
 refine bW (fun c6=>?_) (fun c6=>?_)
 rotate_left
 ·walk_at "go"
  exact q _ _ (by rw [if_pos (by rw [decide_eq_false (show ¬ 1≤room by omega)];rfl)];exact L'.tup (by walk_at "mem")) L'.same
 walk_at "go"
 rw [e12]
 refine nO (fun c7=>?_) (fun c7=>?_)
 rotate_left
 ·walk_at "go"
  exact q _ _ (by rw [if_pos (by rw [decide_eq_false (show ¬ room≤1000000000000 by omega),Bool.and_false])];exact L'.tup (by walk_at "mem")) L'.same
 rw [if_neg (by rw [decide_eq_true (show 1≤room by omega),decide_eq_true (show room≤1000000000000 by omega)];exact fun z=>nomatch z)] at q
 walk_at "go"
 refine bW (fun c8=>?_) (fun c8=>?_)
 rotate_left
 ·walk_at "go"
  exact q _ _ (by rw [if_pos (by rw [decide_eq_false (show ¬ 1≤term by omega)];rfl)];exact L'.tup (by walk_at "mem")) L'.same
 walk_at "go"
 rw [e12]
 refine nO (fun c9=>?_) (fun c9=>?_)
 rotate_left
 ·walk_at "go"
  exact q _ _ (by rw [if_pos (by rw [decide_eq_false (show ¬ term≤1000000000000 by omega),Bool.and_false])];exact L'.tup (by walk_at "mem")) L'.same
 rw [if_neg (by rw [decide_eq_true (show 1≤term by omega),decide_eq_true (show term≤1000000000000 by omega)];exact fun z=>nomatch z)] at q
 walk_at "go"
 exact q _ _ (L'.tup (by walk_at "mem")) L'.same
theorem vV:aB ["_law_way", "_law_thing", "e", "_law_flags"] ["_law_way", "_law_thing"] (aj (top 49)):=by walk_at "s"
def AG (K:PySem.W.Frag) (C CS:Addr) (o:mJ) (H:Hp) (Q:VK):Prop:=match o with
 | .told c s far room term rs=>aZ rs=true→∀ t x H',H' t=some (.tup [.str "told",.ref x])→StX K C CS H' x c s far room term rs→az H H'→Q (.ref t) H'
 | o=>∀ t H',H' t=some (.tup ((Al o).map V.str))→az H H'→Q (.ref t) H'
def Dv (o:Option Ln) (H:Hp) (Q:VK):Prop:=match o with
 | some l=>∀ t x H',H' t=some (.tup [.str "told",.ref x])→fT H' x l→az H H'→Q (.ref t) H'
 | none=>∀ t H',H' t=some (.tup [.str "text"])→az H H'→Q (.ref t) H'
def DL (K:PySem.W.Frag) (C CS:Addr) (vs:List V) (H:Hp) (Q:VK):Prop:=∃ v,vs=[.int 0,v]∧Knd H v∧(∀ z,v = .str z→z.length≤300∧∀ x∈e7 z,CP x)∧AG K C CS (fS v) H Q
def DM (vs:List V) (H:Hp) (Q:VK):Prop:=∃ v,vs=[.int 1,v]∧Knd H v∧(∀ z,v = .str z→z.length≤500)∧Dv (qS v) H Q
def j5 (K:PySem.W.Frag) (C CS:Addr):Sp:=fun vs H Q _=>DL K C CS vs H Q∨DM vs H Q
theorem rH {c s far room term c' s' tV room' term':Nat} {rs rs':List Str} (h:bounds c s far room term rs = .told c' s' tV room' term' rs'):rs'=rs:=by
 unfold bounds at h
 split at h
 ·cases h
 ·split at h
  ·cases h
  ·split at h
   ·cases h
   ·split at h
    ·cases h
    ·cases h;rfl
theorem vM {ws:List Str} {c s far room term:Nat} {rs:List Str} (h:ic ws = .told c s far room term rs):aZ rs=true:=by
 unfold ic at h
 split at h
 ·rename_i c' s' tV room' term' rs' ep
  obtain ⟨_,_,_,_,_,_,y,hy⟩:=nh ep
  rw [rH h]
  exact (m6 hy).1
 ·cases h
theorem vN {v:V} {c s far room term:Nat} {rs:List Str} (h:fS v = .told c s far room term rs):aZ rs=true:=by
 cases v with
 | str z=>
  by_cases e:("" : Str)∈e7 z
  ·rw [show fS (.str z) = .text from if_pos e] at h;cases h
  ·rw [show fS (.str z)=ic (e7 z) from if_neg e] at h
   exact vM h
 | _=>cases h
theorem wm (D:Dat K mg "_law_asked" "_law_asked" (top 49) ["_law_way", "_law_thing"]) (BT:Bt mg) (NE:bN (CX1 P w)) (ER:Fz K CR CN CH CB CL) (jb:mg "RiseError" = some (.ref CR)) (nI:mg "NoText" = some (.ref CN)) (j9:mg "BadShape" = some (.ref CH)) (cR:mg "BadSettings" = some (.ref CB)) (nJ:mg "NoLine" = some (.ref CL))
  (fP:Cal P w K mg base (CX1 P w) "read_settings" 7 ["text"] (uN K C CS CN CH CB)) (kh:Cal P w K mg base (CX1 P w) "read_line" 5 ["word"] (uO CN)):Cal P w K mg base (CX1 P w) "_law_asked" 9 ["_law_way", "_law_thing"] (j5 K C CS):=by
 have S:=vV
 walk_at "d"
 ·rcases h with ⟨v,rfl,_⟩ | ⟨v,rfl,_⟩
  ·rfl
  ·rfl
 rcases h with ⟨v,rfl,k,hv,te⟩ | ⟨v,rfl,k,hv,te⟩
 ·refine ⟨_,(@ak _ _ _ (@m9 _ _ _ _ _ _ _ _ _ _ _ _ 2 _ _ rfl rfl rfl jb S.nd rfl rfl (@zg _) (fun _ _=>(@ai _ _ _ _ _ (@br _ _ _ _ _ _ _ _ (@aJ _ _ _ _ _ _ _ _ (@cM _) (@pv _ 0 _ _ (by rfl) (by first | exact Or.inl rfl | exact Or.inr (Or.inl rfl) | exact Or.inr (Or.inr rfl)) (by decide) (by decide)) (@ah _ _ _ _) (@aH _ _ (by decide) (by decide))) (@ak _ _ _ (@av _ _ _ _ (@aP _ _ _ _ _ (@aa _ _ _ _ _ (@aq _ _ _ _) (@aa _ _ _ _ _ (@bf _ _ _ _ _ _ _ _ _ _ _ fP (hr.mono (by first | decide | omega)) (@aA _ _) (@aa _ _ _ _ _ (@pv _ 1 _ _ (by rfl) (by first | exact Or.inl rfl | exact Or.inr (Or.inl rfl) | exact Or.inr (Or.inr rfl)) (by decide) (by decide)) (@af _) (by rfl)) (by rfl) (by decide) (by rfl) (by rfl)) (@af _) (by rfl)) (by rfl))))) (@aF _)) (@ak _ _ _ (@av _ _ _ _ (@aP _ _ _ _ _ (@aa _ _ _ _ _ (@aq _ _ _ _) (@aa _ _ _ _ _ (@bf _ _ _ _ _ _ _ _ _ _ _ kh (hr.mono (by first | decide | omega)) (@aA _ _) (@aa _ _ _ _ _ (@pv _ 1 _ _ (by rfl) (by first | exact Or.inl rfl | exact Or.inr (Or.inl rfl) | exact Or.inr (Or.inr rfl)) (by decide) (by decide)) (@af _) (by rfl)) (by rfl) (by decide) (by rfl) (by rfl)) (@af _) (by rfl)) (by rfl))))))) (fun _=>(@ai _ _ _ _ _ (@aM _ _ 3 _ _ _ _ S.nd rfl (by first | exact Or.inl rfl | exact Or.inr rfl) (@bC _ _ _ _ (@aa _ _ _ _ _ (@cE _ _ _ _ _ _ _ _ _ rfl BT.isinstance nI (@pv _ 2 _ _ (by rfl) (by first | exact Or.inl rfl | exact Or.inr (Or.inl rfl) | exact Or.inr (Or.inr rfl)) (by decide) (by decide)) (by rfl) (by rfl) (by decide) (by rfl) (by rfl) (by rfl)) (@aa _ _ _ _ _ (@cE _ _ _ _ _ _ _ _ _ rfl BT.isinstance j9 (@pv _ 2 _ _ (by rfl) (by first | exact Or.inl rfl | exact Or.inr (Or.inl rfl) | exact Or.inr (Or.inr rfl)) (by decide) (by decide)) (by rfl) (by rfl) (by decide) (by rfl) (by rfl) (by rfl)) (@aa _ _ _ _ _ (@cE _ _ _ _ _ _ _ _ _ rfl BT.isinstance cR (@pv _ 2 _ _ (by rfl) (by first | exact Or.inl rfl | exact Or.inr (Or.inl rfl) | exact Or.inr (Or.inr rfl)) (by decide) (by decide)) (by rfl) (by rfl) (by decide) (by rfl) (by rfl) (by rfl)) (@aa _ _ _ _ _ (@cE _ _ _ _ _ _ _ _ _ rfl BT.isinstance nJ (@pv _ 2 _ _ (by rfl) (by first | exact Or.inl rfl | exact Or.inr (Or.inl rfl) | exact Or.inr (Or.inr rfl)) (by decide) (by decide)) (by rfl) (by rfl) (by decide) (by rfl) (by rfl) (by rfl)) (@af _) (by rfl)) (by rfl)) (by rfl)) (by rfl))) (by rfl) (by first | exact .inl rfl | exact .inr rfl | assumption)) (@ai _ _ _ _ _ (@br _ _ _ _ _ _ _ _ (@aJ _ _ _ _ _ _ _ _ (@j7 _) (o7 (K:=K) rfl PySem.F.plainAttrs_list PySem.F.slot_list_count PySem.F.type_list_count nq (@pv _ 3 _ _ (by rfl) (by first | exact Or.inl rfl | exact Or.inr (Or.inl rfl) | exact Or.inr (Or.inr rfl)) (by decide) (by decide)) (@aa _ _ _ _ _ (@cO _ _ _ _) (@af _) (by rfl))) (@ah _ _ _ _) (@aH _ _ (by decide) (by decide))) (@ak _ _ _ (@av _ _ _ _ (@aP _ _ _ _ _ (@aa _ _ _ _ _ (@aq _ _ _ _) (@af _) (by rfl))))) (@aF _)) (@ai _ _ _ _ _ (@br _ _ _ _ _ _ _ _ (@cH _ _ _ (@cE _ _ _ _ _ _ _ _ _ rfl BT.isinstance cR (@pv _ 2 _ _ (by rfl) (by first | exact Or.inl rfl | exact Or.inr (Or.inl rfl) | exact Or.inr (Or.inr rfl)) (by decide) (by decide)) (by rfl) (by rfl) (by decide) (by rfl) (by rfl) (by rfl)) (by intro _;rfl)) (@ak _ _ _ (@av _ _ _ _ (@aP _ _ _ _ _ (@aa _ _ _ _ _ (@aq _ _ _ _) (@aa _ _ _ _ _ (@qK _ _ _ _ _ _ rfl (@pv _ 2 _ _ (by rfl) (by first | exact Or.inl rfl | exact Or.inr (Or.inl rfl) | exact Or.inr (Or.inr rfl)) (by decide) (by decide)) rfl) (@af _) (by rfl)) (by rfl))))) (@aF _)) (@ak _ _ _ (@av _ _ _ _ (@aP _ _ _ _ _ (@aa _ _ _ _ _ (@aL _ _ _ _ _ _ _ (qW (K:=K) rfl) (@bC _ _ _ _ (@aa _ _ _ _ _ (@aq _ _ _ _) (@aa _ _ _ _ _ (@aq _ _ _ _) (@aa _ _ _ _ _ (@aq _ _ _ _) (@aa _ _ _ _ _ (@aq _ _ _ _) (@af _) (by rfl)) (by rfl)) (by rfl)) (by rfl))) (o7 (K:=K) rfl PySem.F.plainAttrs_list PySem.F.slot_list_index PySem.F.type_list_index nk (@pv _ 3 _ _ (by rfl) (by first | exact Or.inl rfl | exact Or.inr (Or.inl rfl) | exact Or.inr (Or.inr rfl)) (by decide) (by decide)) (@aa _ _ _ _ _ (@cO _ _ _ _) (@af _) (by rfl))) (fun _ _=>rfl)) (@af _) (by rfl))))))))) (by rfl) (by decide))),?_⟩
  try dsimp only [bM]
  walk_at "go"
  refine ⟨v,rfl,k,hv,?_⟩
  cases ho:fS v with
  | text=>
   rw [ho] at te
   intro H1 s1
   refine je ER.n.m fun x nx=>?_
   have L:=Led.start (upd H1 x (jX x (.ref CN) none)) (fun _=>False)
   have ex:ExA K (upd H1 x (jX x (.ref CN) none)) x CN none:=⟨ao,ER.n.g,trivial⟩
   walk_at "go"
   refine bJ ex ER.n.k1 ?_
   walk_at "go"
   refine bJ ex ER.n.k2 ?_
   walk_at "go"
   refine bJ ex ER.n.k3 ?_
   walk_at "go"
   refine bJ ex ER.n.k4 ?_
   have M:=L
   clear L
   walk_at "go"
   obtain ⟨lk,elk⟩:∃ z,z=l':=⟨_,rfl⟩
   subst elk
   have sL:=L'.same
   refine ⟨lk,[true,false,false,false],true,rfl,rfl,L'.eo .head,?_⟩
   rw [show ((List.countP (fun x=>x == true) [true,false,false,false]:Nat):Int)=1 from rfl]
   walk_at "go"
   have ex2:ExA K H' x CN none:=⟨sL _ _ ao,ER.n.g,trivial⟩
   refine bJ ex2 ER.n.k3 ?_
   have N:=L'
   clear M L'
   walk_at "go"
   refine ⟨lk,[true,false,false,false],true,0,rfl,rfl,L'.eo (p:=lk) (by walk_at "put"),by decide,rfl,?_,?_⟩
   ·intro m hm
    exact absurd hm (Nat.not_lt_zero m)
   refine qZ L' .head (i:=((0:Nat):Int)) rfl ?_
   have P:=L'
   clear N L'
   walk_at "go"
   exact te _ _ (L'.tup (by walk_at "mem")) ((s1.trans (bG nx _)).trans L'.same)
  | shape=>
   rw [ho] at te
   intro H1 s1
   refine je ER.h.m fun x nx=>?_
   have L:=Led.start (upd H1 x (jX x (.ref CH) none)) (fun _=>False)
   have ex:ExA K (upd H1 x (jX x (.ref CH) none)) x CH none:=⟨ao,ER.h.g,trivial⟩
   walk_at "go"
   refine bJ ex ER.h.k1 ?_
   walk_at "go"
   refine bJ ex ER.h.k2 ?_
   walk_at "go"
   refine bJ ex ER.h.k3 ?_
   walk_at "go"
   refine bJ ex ER.h.k4 ?_
   have M:=L
   clear L
   walk_at "go"
   obtain ⟨lk,elk⟩:∃ z,z=l':=⟨_,rfl⟩
   subst elk
   have sL:=L'.same
   refine ⟨lk,[false,true,false,false],true,rfl,rfl,L'.eo .head,?_⟩
   rw [show ((List.countP (fun x=>x == true) [false,true,false,false]:Nat):Int)=1 from rfl]
   walk_at "go"
   have ex2:ExA K H' x CH none:=⟨sL _ _ ao,ER.h.g,trivial⟩
   refine bJ ex2 ER.h.k3 ?_
   have N:=L'
   clear M L'
   walk_at "go"
   refine ⟨lk,[false,true,false,false],true,1,rfl,rfl,L'.eo (p:=lk) (by walk_at "put"),by decide,rfl,?_,?_⟩
   ·intro m hm
    obtain rfl:m=0:=by omega
    rfl
   refine qZ L' .head (i:=((1:Nat):Int)) rfl ?_
   have P:=L'
   clear N L'
   walk_at "go"
   exact te _ _ (L'.tup (by walk_at "mem")) ((s1.trans (bG nx _)).trans L'.same)
  | sett wd=>
   rw [ho] at te
   intro d' H1 s1 hd1
   refine je ER.b.m fun x nx=>?_
   have L:=Led.start (upd H1 x (jX x (.ref CB) (some d'))) (fun _=>False)
   have ex:ExA K (upd H1 x (jX x (.ref CB) (some d'))) x CB (some d'):=⟨ao,ER.b.g,⟨_,bG nx _ _ _ hd1⟩⟩
   walk_at "go"
   refine bJ ex ER.b.k1 ?_
   walk_at "go"
   refine bJ ex ER.b.k2 ?_
   walk_at "go"
   refine bJ ex ER.b.k3 ?_
   walk_at "go"
   refine bJ ex ER.b.k4 ?_
   have M:=L
   clear L
   walk_at "go"
   obtain ⟨lk,elk⟩:∃ z,z=l':=⟨_,rfl⟩
   subst elk
   have sL:=L'.same
   refine ⟨lk,[false,false,true,false],true,rfl,rfl,L'.eo .head,?_⟩
   rw [show ((List.countP (fun x=>x == true) [false,false,true,false]:Nat):Int)=1 from rfl]
   walk_at "go"
   have ex2:ExA K H' x CB (some d'):=⟨sL _ _ ao,ER.b.g,⟨_,sL _ _ (bG nx _ _ _ hd1)⟩⟩
   refine bJ ex2 ER.b.k3 ?_
   have N:=L'
   clear M L'
   walk_at "go"
   refine ⟨x,CB,d',_,_,rfl,ex2,sL _ _ (bG nx _ _ _ hd1),ER.hd,ER.fw,rfl,?_⟩
   walk_at "go"
   exact te _ _ (L'.tup (by walk_at "mem")) ((s1.trans (bG nx _)).trans L'.same)
  | told c s' far room term rs=>
   rw [ho] at te
   have hrb:=vN ho
   intro x sp H1 hst hsh s1
   have hx:=StX.of hst hsh hrb
   have L:=Led.start H1 (fun _=>False)
   walk_at "go"
   exact te hrb _ x _ (L'.tup (by walk_at "mem")) (hx.same L'.same) (s1.trans L'.same)
 ·refine ⟨_,(@ak _ _ _ (@m9 _ _ _ _ _ _ _ _ _ _ _ _ 2 _ _ rfl rfl rfl jb S.nd rfl rfl (@zg _) (fun _ _=>(@ai _ _ _ _ _ (@br _ _ _ _ _ _ _ _ (@aJ _ _ _ _ _ _ _ _ (@cM _) (@pv _ 0 _ _ (by rfl) (by first | exact Or.inl rfl | exact Or.inr (Or.inl rfl) | exact Or.inr (Or.inr rfl)) (by decide) (by decide)) (@ah _ _ _ _) (@aH _ _ (by decide) (by decide))) (@ak _ _ _ (@av _ _ _ _ (@aP _ _ _ _ _ (@aa _ _ _ _ _ (@aq _ _ _ _) (@aa _ _ _ _ _ (@bf _ _ _ _ _ _ _ _ _ _ _ fP (hr.mono (by first | decide | omega)) (@aA _ _) (@aa _ _ _ _ _ (@pv _ 1 _ _ (by rfl) (by first | exact Or.inl rfl | exact Or.inr (Or.inl rfl) | exact Or.inr (Or.inr rfl)) (by decide) (by decide)) (@af _) (by rfl)) (by rfl) (by decide) (by rfl) (by rfl)) (@af _) (by rfl)) (by rfl))))) (@aF _)) (@ak _ _ _ (@av _ _ _ _ (@aP _ _ _ _ _ (@aa _ _ _ _ _ (@aq _ _ _ _) (@aa _ _ _ _ _ (@bf _ _ _ _ _ _ _ _ _ _ _ kh (hr.mono (by first | decide | omega)) (@aA _ _) (@aa _ _ _ _ _ (@pv _ 1 _ _ (by rfl) (by first | exact Or.inl rfl | exact Or.inr (Or.inl rfl) | exact Or.inr (Or.inr rfl)) (by decide) (by decide)) (@af _) (by rfl)) (by rfl) (by decide) (by rfl) (by rfl)) (@af _) (by rfl)) (by rfl))))))) (fun _=>(@ai _ _ _ _ _ (@aM _ _ 3 _ _ _ _ S.nd rfl (by first | exact Or.inl rfl | exact Or.inr rfl) (@bC _ _ _ _ (@aa _ _ _ _ _ (@cE _ _ _ _ _ _ _ _ _ rfl BT.isinstance nI (@pv _ 2 _ _ (by rfl) (by first | exact Or.inl rfl | exact Or.inr (Or.inl rfl) | exact Or.inr (Or.inr rfl)) (by decide) (by decide)) (by rfl) (by rfl) (by decide) (by rfl) (by rfl) (by rfl)) (@aa _ _ _ _ _ (@cE _ _ _ _ _ _ _ _ _ rfl BT.isinstance j9 (@pv _ 2 _ _ (by rfl) (by first | exact Or.inl rfl | exact Or.inr (Or.inl rfl) | exact Or.inr (Or.inr rfl)) (by decide) (by decide)) (by rfl) (by rfl) (by decide) (by rfl) (by rfl) (by rfl)) (@aa _ _ _ _ _ (@cE _ _ _ _ _ _ _ _ _ rfl BT.isinstance cR (@pv _ 2 _ _ (by rfl) (by first | exact Or.inl rfl | exact Or.inr (Or.inl rfl) | exact Or.inr (Or.inr rfl)) (by decide) (by decide)) (by rfl) (by rfl) (by decide) (by rfl) (by rfl) (by rfl)) (@aa _ _ _ _ _ (@cE _ _ _ _ _ _ _ _ _ rfl BT.isinstance nJ (@pv _ 2 _ _ (by rfl) (by first | exact Or.inl rfl | exact Or.inr (Or.inl rfl) | exact Or.inr (Or.inr rfl)) (by decide) (by decide)) (by rfl) (by rfl) (by decide) (by rfl) (by rfl) (by rfl)) (@af _) (by rfl)) (by rfl)) (by rfl)) (by rfl))) (by rfl) (by first | exact .inl rfl | exact .inr rfl | assumption)) (@ai _ _ _ _ _ (@br _ _ _ _ _ _ _ _ (@aJ _ _ _ _ _ _ _ _ (@j7 _) (o7 (K:=K) rfl PySem.F.plainAttrs_list PySem.F.slot_list_count PySem.F.type_list_count nq (@pv _ 3 _ _ (by rfl) (by first | exact Or.inl rfl | exact Or.inr (Or.inl rfl) | exact Or.inr (Or.inr rfl)) (by decide) (by decide)) (@aa _ _ _ _ _ (@cO _ _ _ _) (@af _) (by rfl))) (@ah _ _ _ _) (@aH _ _ (by decide) (by decide))) (@ak _ _ _ (@av _ _ _ _ (@aP _ _ _ _ _ (@aa _ _ _ _ _ (@aq _ _ _ _) (@af _) (by rfl))))) (@aF _)) (@ai _ _ _ _ _ (@br _ _ _ _ _ _ _ _ (@cH _ _ _ (@cE _ _ _ _ _ _ _ _ _ rfl BT.isinstance cR (@pv _ 2 _ _ (by rfl) (by first | exact Or.inl rfl | exact Or.inr (Or.inl rfl) | exact Or.inr (Or.inr rfl)) (by decide) (by decide)) (by rfl) (by rfl) (by decide) (by rfl) (by rfl) (by rfl)) (by intro _;rfl)) (@ak _ _ _ (@av _ _ _ _ (@aP _ _ _ _ _ (@aa _ _ _ _ _ (@aq _ _ _ _) (@aa _ _ _ _ _ (@qK _ _ _ _ _ _ rfl (@pv _ 2 _ _ (by rfl) (by first | exact Or.inl rfl | exact Or.inr (Or.inl rfl) | exact Or.inr (Or.inr rfl)) (by decide) (by decide)) rfl) (@af _) (by rfl)) (by rfl))))) (@aF _)) (@ak _ _ _ (@av _ _ _ _ (@aP _ _ _ _ _ (@aa _ _ _ _ _ (@aL _ _ _ _ _ _ _ (qW (K:=K) rfl) (@bC _ _ _ _ (@aa _ _ _ _ _ (@aq _ _ _ _) (@aa _ _ _ _ _ (@aq _ _ _ _) (@aa _ _ _ _ _ (@aq _ _ _ _) (@aa _ _ _ _ _ (@aq _ _ _ _) (@af _) (by rfl)) (by rfl)) (by rfl)) (by rfl))) (o7 (K:=K) rfl PySem.F.plainAttrs_list PySem.F.slot_list_index PySem.F.type_list_index nk (@pv _ 3 _ _ (by rfl) (by first | exact Or.inl rfl | exact Or.inr (Or.inl rfl) | exact Or.inr (Or.inr rfl)) (by decide) (by decide)) (@aa _ _ _ _ _ (@cO _ _ _ _) (@af _) (by rfl))) (fun _ _=>rfl)) (@af _) (by rfl))))))))) (by rfl) (by decide))),?_⟩
  try dsimp only [bM]
  walk_at "go"
  refine ⟨v,rfl,k,hv,fun l hl x H1 hx s1=>?_,fun hl H1 s1=>?_⟩
  ·rw [hl] at te
   have L:=Led.start H1 (fun _=>False)
   walk_at "go"
   exact te _ x _ (L'.tup (by walk_at "mem")) (hx.same L'.same) (s1.trans L'.same)
  ·rw [hl] at te
   refine je ER.n.m fun x nx=>?_
   have L:=Led.start (upd H1 x (jX x (.ref CN) none)) (fun _=>False)
   have ex:ExA K (upd H1 x (jX x (.ref CN) none)) x CN none:=⟨ao,ER.n.g,trivial⟩
   walk_at "go"
   refine bJ ex ER.n.k1 ?_
   walk_at "go"
   refine bJ ex ER.n.k2 ?_
   walk_at "go"
   refine bJ ex ER.n.k3 ?_
   walk_at "go"
   refine bJ ex ER.n.k4 ?_
   have M:=L
   clear L
   walk_at "go"
   obtain ⟨lk,elk⟩:∃ z,z=l':=⟨_,rfl⟩
   subst elk
   have sL:=L'.same
   refine ⟨lk,[true,false,false,false],true,rfl,rfl,L'.eo .head,?_⟩
   rw [show ((List.countP (fun x=>x == true) [true,false,false,false]:Nat):Int)=1 from rfl]
   walk_at "go"
   have ex2:ExA K H' x CN none:=⟨sL _ _ ao,ER.n.g,trivial⟩
   refine bJ ex2 ER.n.k3 ?_
   have N:=L'
   clear M L'
   walk_at "go"
   refine ⟨lk,[true,false,false,false],true,0,rfl,rfl,L'.eo (p:=lk) (by walk_at "put"),by decide,rfl,?_,?_⟩
   ·intro m hm
    exact absurd hm (Nat.not_lt_zero m)
   refine qZ L' .head (i:=((0:Nat):Int)) rfl ?_
   have P:=L'
   clear N L'
   walk_at "go"
   exact te _ _ (L'.tup (by walk_at "mem")) ((s1.trans (bG nx _)).trans L'.same)
end
end Law

namespace L4
open PySem PySem.Spec PyProof.Rows L2 L3
def DZ (K:PySem.W.Frag):R2:=fun x y H Q=>D0 K x y H Q∨∃ a b v xs,x = .ref a∧y = .ref b∧SqT K H a (v::xs)∧SqT K H b []∧Q (.bl true) H
theorem zh {X:Cx} (hr:cy 0 X.A):OpR X (compareOp .NotEq) (DZ X.K):=by
 intro pins s σ H x y v u Q I rx ry h
 rcases h with h | ⟨a,b,v',xs,rfl,rfl,ha,hb,q⟩
 ·exact jG hr pins s σ H x y v u Q I rx ry h
 ·obtain ⟨its,rv,ht,_⟩:=I.tuple ha
  obtain ⟨its',rv',ht',_⟩:=I.tuple hb
  cases rx
  cases ry
  cases rv'
  have hu:X.A.units < cLine:=by have:=hr.un;omega
  have z:=SeqAt.RcNeAt.tuples (A:=X.A) (s:=s) (e:=fun _=>true) ht ht' hu (fun j hj hj'=>absurd hj' (by simp))
  cases rv with
  | cons r1 r2=>
   have z':SeqAt.RcNeAt X.A s (.ref a) (.ref b) true:=by simpa using z
   exact z' _ _ _ _ ⟨.bl _,H,I,rfl,q⟩
theorem tQ {K:PySem.W.Frag} {x y:V} {H:Hp} {Q:VK} {d:Dt} (hx:At K H x d) (hy:At K H y d) (hd:dep d≤100) (h:Q (.bl false) H):DZ K x y H Q:=.inl (jP hx hy hd h)
theorem EM {K:PySem.W.Frag} {a b:Addr} {v:V} {xs:List V} {H:Hp} {Q:VK} (ha:SqT K H a (v::xs)) (hb:SqT K H b []) (h:Q (.bl true) H):DZ K (.ref a) (.ref b) H Q:=.inr ⟨a,b,v,xs,rfl,rfl,ha,hb,h⟩
end L4
namespace Law
open PySem PySem.Spec PyProof.Rows L2 L3 L4
theorem aY {n:Nat} (h:n < 10 ^ 20):(aX n).length≤20:=by
 have hs:(aX n).cps.toList=(Nat.toDigits 10 n).map Char.toNat:=PySem.W.KIN.signs_num n
 rw [dZ,hs,List.length_map]
 exact digits10_le (k:=20) (by decide) h
def BH:List Str:=["", "-1", "01", "x", "ahead+", "1+1"]
theorem uZ:∀ o∈BH,(¬ 32∈o.cps.toList∧o.length≤20)∧bS o.cps.toList=none∧cA o=none:=by decide +kernel
def lsum (ws:List Str):Nat:=(ws.map (·.length)).sum
theorem dB (a b:List Str):lsum (a++b)=lsum a+lsum b:=by unfold lsum;rw [List.map_append,List.sum_append]
theorem wB (n:Nat) (ws:List Str):lsum (ws.take n)≤lsum ws:=by
 have h:=dB (ws.take n) (ws.drop n)
 rw [List.take_append_drop] at h
 omega
theorem wC (n:Nat) (ws:List Str):lsum (ws.drop n)≤lsum ws:=by
 have h:=dB (ws.take n) (ws.drop n)
 rw [List.take_append_drop] at h
 omega
theorem ny (i:Nat) (ws:List Str):lsum (ws.take i)+lsum (ws.drop (i+1))≤lsum ws:=by
 have h:=dB (ws.take i) (ws.drop i)
 rw [List.take_append_drop] at h
 have h2:=wC 1 (ws.drop i)
 rw [List.drop_drop] at h2
 omega
theorem lG (x:Str):lsum [x]=x.length:=by unfold lsum;simp
structure GoodW (c:Nat) (ws:List Str):Prop where
 f:∀ x∈ws,¬ c∈x.cps.toList
 l:∀ x∈ws,x.length≤130
 n:ws≠[]
 k:ws.length≤8
 s:lsum ws≤280
theorem GoodW.qV {c:Nat} {ws:List Str} (h:GoodW c ws) {sg:Str} (hs:sg.length=1):(Txt.join sg ws).length≤lsum ws+ws.length:=join_le hs ws
theorem gY {K:PySem.W.Frag} {p:Addr} {c:Nat} {ys:List Str} {sg:Str} {H:Hp} {Q:VK} (h1:H p=some (.lst (ys.map V.str))) (g:GoodW c ys) (hs:sg.length=1) (h:Q (.str (Txt.join sg ys)) H):rJoin K (.str sg) [.ref p] H Q:=by
 have hl:=g.s
 have hk:=g.k
 unfold lsum at hl
 exact tR (SqL.of h1) (by rw [hs];omega) h
theorem jB {ws:List Str} (h:GoodW 32 ws):fS (.str (Txt.join " " ws))=if ("" : Str)∈ws then .text else ic ws:=by
 have e:e7 (Txt.join " " ws)=ws:=gz FZ h.n h.f
 show (if ("" : Str)∈e7 (Txt.join " " ws) then mJ.text else ic (e7 (Txt.join " " ws)))=_
 rw [e]
theorem yp {ws:List Str} (h:ws.length≠6):ic ws = .text:=by
 have e:cZ ws=none:=by
  unfold cZ
  split
  ·exact absurd rfl h
  ·rfl
 unfold ic
 rw [e]
theorem mY {ws:List Str} (h:GoodW 32 ws) (h6:ws.length≠6):fS (.str (Txt.join " " ws)) = .text:=by
 rw [jB h]
 split
 ·rfl
 ·exact yp h6
theorem dR {w0 w1 w2 w3 w4 w5:Str} (h:cZ [w0,w1,w2,w3,w4,w5]=none):ic [w0,w1,w2,w3,w4,w5] = .text:=by
 unfold ic
 rw [h]
theorem m7:∀ z∈bq,¬ 32∈z.cps.toList∧¬ 43∈z.cps.toList:=by decide +kernel
theorem FY:("+" : Str)=⟨#[43]⟩:=by decide +kernel
theorem vI {ms:List Str} (h:∀ z∈ms,z∈bq):¬ 32∈(dN ms).cps.toList:=by
 unfold dN
 split
 ·decide +kernel
 ·intro hm
  unfold Txt.join at hm
  rw [FY,StrLaws.glued_eq_join,dF] at hm
  rcases jL hm with h1 | ⟨p,hp,h1⟩
  ·cases h1
  ·obtain ⟨z,hz,rfl⟩:=List.mem_map.mp hp
   exact (m7 z (h z hz)).1 h1
theorem mQ {ms:List Str} (h:aZ ms=true):cA (dN ms)=some ms:=by
 obtain ⟨hw,_⟩:=cY h
 by_cases e:ms=[]
 ·subst e
  decide +kernel
 ·have e1:dN ms=Txt.join "+" ms:=if_neg e
  have e2:eK (Txt.join "+" ms)=ms:=gz FY e fun x hx=>(m7 x (hw x hx)).2
  have e3:Txt.join "+" ms ≠ "none" := fun z=>by
   rw [z] at e2
   have:("none" : Str)∈ms:=by rw [← e2];decide +kernel
   exact absurd (hw _ this) (by decide +kernel)
  unfold cA
  rw [e1,if_neg e3,e2,if_pos h]
theorem N5.all {c s far room term n:Nat} (h:N5 c s far room term) (hn:n∈[c,s,far,room,term]):n < 10 ^ 40:=by
 simp only [List.mem_cons,List.not_mem_nil,or_false] at hn
 rcases hn with rfl | rfl | rfl | rfl | rfl
 ·exact dI h.c
 ·exact dI h.s
 ·exact dI h.f
 ·exact dI h.r
 ·exact dI h.t
structure M5 (c s far room term:Nat):Prop where
 c:c < 10 ^ 20
 s:s < 10 ^ 20
 f:far < 10 ^ 20
 r:room < 10 ^ 20
 t:term < 10 ^ 20
theorem kj {n:Nat} (h:n < 10 ^ 20):n < 10 ^ 34:=Nat.lt_trans h (by decide +kernel)
theorem M5.n5 {c s far room term:Nat} (h:M5 c s far room term):N5 c s far room term:=⟨kj h.c,kj h.s,kj h.f,kj h.r,kj h.t⟩
theorem cX {c s far room term:Nat} {ms:List Str} (h:M5 c s far room term) (hr:aZ ms=true):GoodW 32 (bK c s far room term ms):=by
 obtain ⟨hw,h5⟩:=cY hr
 have wl:=iP hw h5
 have l1:=aY h.c
 have l2:=aY h.s
 have l3:=aY h.f
 have l4:=aY h.r
 have l5:=aY h.t
 have fr:∀ n,n < 10 ^ 20→¬ 32∈(aX n).cps.toList:=fun n hn=>gU (dI (kj hn)) (.inl (by decide))
 refine ⟨fun x hx=>?_,fun x hx=>?_,by unfold bK;simp,by unfold bK;simp,?_⟩
 ·simp only [bK,List.mem_cons,List.not_mem_nil,or_false] at hx
  rcases hx with rfl | rfl | rfl | rfl | rfl | rfl
  ·exact fr _ h.c
  ·exact fr _ h.s
  ·exact fr _ h.f
  ·exact fr _ h.r
  ·exact fr _ h.t
  ·exact vI hw
 ·simp only [bK,List.mem_cons,List.not_mem_nil,or_false] at hx
  rcases hx with rfl | rfl | rfl | rfl | rfl | rfl <;> omega
 ·simp only [lsum,bK,List.map_cons,List.map_nil,List.sum_cons,List.sum_nil]
  omega
theorem lu {c s far room term:Nat} {ms:List Str} (h:M5 c s far room term) (hr:aZ ms=true):lsum (bK c s far room term ms)≤160:=by
 obtain ⟨hw,h5⟩:=cY hr
 have wl:=iP hw h5
 have l1:=aY h.c
 have l2:=aY h.s
 have l3:=aY h.f
 have l4:=aY h.r
 have l5:=aY h.t
 simp only [lsum,bK,List.map_cons,List.map_nil,List.sum_cons,List.sum_nil]
 omega
theorem vO {c s far room term:Nat} {ms:List Str} (h:M5 c s far room term) (hr:aZ ms=true):("" : Str)∉bK c s far room term ms:=by
 have ne:∀ n,n < 10 ^ 20→¬ ("" : Str)=aX n:=fun n hn e=>f9 (z:="") (dI (kj hn)) (by decide +kernel) e.symm
 intro hx
 simp only [bK,List.mem_cons,List.not_mem_nil,or_false] at hx
 rcases hx with e | e | e | e | e | e
 ·exact ne _ h.c e
 ·exact ne _ h.s e
 ·exact ne _ h.f e
 ·exact ne _ h.r e
 ·exact ne _ h.t e
 ·have:=mQ hr
  rw [← e] at this
  exact absurd this (by rw [show cA "" = none by decide +kernel];exact fun z=>nomatch z)
theorem mZ {c s far room term:Nat} {ms:List Str} (h:M5 c s far room term) (hr:aZ ms=true):fS (.str (Txt.join " " (bK c s far room term ms)))=bounds c s far room term ms:=by
 rw [jB (cX h hr),if_neg (vO h hr)]
 have e:cZ (bK c s far room term ms)=some ([c,s,far,room,term],ms):=by
  unfold bK
  rw [pe (a:=some [c,s,far,room,term]) (b:=some ms) (lD (ns:=[c,s,far,room,term]) fun n hn=>h.n5.all hn) (mQ hr)]
  rfl
 unfold ic
 rw [e]
theorem rQ.m5 {c s far room term:Nat} {ms:List Str} (h:rQ c s far room term ms):M5 c s far room term:=by
 have e:∀ n:Nat,n≤1000000000000→n < 10 ^ 20:=fun n hn=>Nat.lt_of_le_of_lt hn (by decide +kernel)
 exact ⟨e _ (Nat.le_trans h.c1 (by decide)),e _ (Nat.le_trans h.s1 (by decide)),e _ h.f1,e _ h.r1,e _ h.t1⟩
theorem rQ.told {c s far room term:Nat} {ms:List Str} (h:rQ c s far room term ms):bounds c s far room term ms = .told c s far room term ms:=by
 have:=h.f1
 unfold bounds
 rw [decide_eq_true h.c0,decide_eq_true h.c1,decide_eq_true h.s0,decide_eq_true h.s1,decide_eq_true h.r0,decide_eq_true h.r1,decide_eq_true h.t0,decide_eq_true h.t1,if_neg (fun z=>nomatch z),if_neg (by omega),if_neg (fun z=>nomatch z),if_neg (fun z=>nomatch z)]
theorem GoodW.less {c:Nat} {ws:List Str} {i:Nat} (h:GoodW c ws) (hn:ws.take i++ws.drop (i+1)≠[]):GoodW c (ws.take i++ws.drop (i+1)):=by
 have sb:∀ x∈ws.take i++ws.drop (i+1),x∈ws:=fun x hx=>by
  rcases List.mem_append.mp hx with hx | hx
  ·exact List.mem_of_mem_take hx
  ·exact List.mem_of_mem_drop hx
 have:=h.s
 have:=h.k
 have:=ny i ws
 exact ⟨fun x hx=>h.f x (sb x hx),fun x hx=>h.l x (sb x hx),hn,by rw [List.length_append,List.length_take,List.length_drop];omega,by rw [dB];omega⟩
theorem GoodW.odd {c:Nat} {ws:List Str} {i:Nat} {o:Str} (h:GoodW c ws) (ho:¬ c∈o.cps.toList) (hl:o.length≤20) (hs:lsum ws≤260) (hi:i < ws.length):GoodW c (ws.take i++[o]++ws.drop (i+1)):=by
 have sb:∀ x∈ws.take i++[o]++ws.drop (i+1),x∈ws∨x=o:=fun x hx=>by
  rcases List.mem_append.mp hx with hx | hx
  ·rcases List.mem_append.mp hx with hx | hx
   ·exact .inl (List.mem_of_mem_take hx)
   ·exact .inr (List.mem_singleton.mp hx)
  ·exact .inl (List.mem_of_mem_drop hx)
 have:=h.k
 have:=ny i ws
 refine ⟨fun x hx=>?_,fun x hx=>?_,by simp,by rw [List.length_append,List.length_append,List.length_take,List.length_drop,List.length_singleton];omega,by rw [dB,dB,lG];omega⟩
 ·rcases sb x hx with h1 | rfl
  ·exact h.f x h1
  ·exact ho
 ·rcases sb x hx with h1 | rfl
  ·exact h.l x h1
  ·omega
theorem AZ {c s far room term:Nat} {ms:List Str} (h:M5 c s far room term) (hr:aZ ms=true) {i:Nat} {o:Str} (hi:i < 6) (ho:o∈BH):fS (.str (Txt.join " " ((bK c s far room term ms).take i++[o]++(bK c s far room term ms).drop (i+1)))) = .text:=by
 obtain ⟨⟨o1,o2⟩,o3,o4⟩:=uZ o ho
 have hs:=lu h hr
 rw [jB ((cX h hr).odd o1 o2 (by omega) (by show i < 6;exact hi))]
 split
 ·rfl
 obtain rfl | rfl | rfl | rfl | rfl | rfl:i=0∨i=1∨i=2∨i=3∨i=4∨i=5:=by omega
 ·exact dR (gR (cI (w:=o) (by simp) o3))
 ·exact dR (gR (cI (w:=o) (by simp) o3))
 ·exact dR (gR (cI (w:=o) (by simp) o3))
 ·exact dR (gR (cI (w:=o) (by simp) o3))
 ·exact dR (gR (cI (w:=o) (by simp) o3))
 ·exact dR (uX o4)
theorem yo {c s far room term:Nat} {ms:List Str} (h:M5 c s far room term) (hr:aZ ms=true) {i:Nat} (hi:i < 6):GoodW 32 ((bK c s far room term ms).take i++(bK c s far room term ms).drop (i+1))∧fS (.str (Txt.join " " ((bK c s far room term ms).take i++(bK c s far room term ms).drop (i+1)))) = .text:=by
 have hl:((bK c s far room term ms).take i++(bK c s far room term ms).drop (i+1)).length=5:=by
  rw [List.length_append,List.length_take,List.length_drop,show (bK c s far room term ms).length=6 from rfl];omega
 have g:=(cX h hr).less (i:=i) (fun z=>by rw [z] at hl;cases hl)
 exact ⟨g,mY g (by omega)⟩
theorem yl {c s far room term:Nat} {ms:List Str} (h:M5 c s far room term) (hr:aZ ms=true):GoodW 32 (bK c s far room term ms++(bK c s far room term ms).take 1)∧fS (.str (Txt.join " " (bK c s far room term ms++(bK c s far room term ms).take 1))) = .text:=by
 have g:=cX h hr
 have hs:=lu h hr
 have ht:=wB 1 (bK c s far room term ms)
 have sb:∀ x∈bK c s far room term ms++(bK c s far room term ms).take 1,x∈bK c s far room term ms:=fun x hx=>by
  rcases List.mem_append.mp hx with hx | hx
  ·exact hx
  ·exact List.mem_of_mem_take hx
 have l1:=aY h.c
 have g7:GoodW 32 (bK c s far room term ms++(bK c s far room term ms).take 1):=⟨fun x hx=>g.f x (sb x hx),fun x hx=>g.l x (sb x hx),by simp [bK],by rw [List.length_append,List.length_take,show (bK c s far room term ms).length=6 from rfl];decide,by
  rw [dB,show (bK c s far room term ms).take 1=[aX c] from rfl,lG];omega⟩
 exact ⟨g7,mY g7 (by rw [List.length_append,List.length_take,show (bK c s far room term ms).length=6 from rfl];decide)⟩
theorem Ak (c s far room term:Nat) (rs ms:List Str):Al (bounds c s far room term rs)=Al (bounds c s far room term ms):=by
 unfold bounds
 split
 ·rfl
 ·split
  ·rfl
  ·split
   ·rfl
   ·split <;> rfl
theorem rJ {c s far room term:Nat} {rs:List Str}:bounds c s far room term rs≠.text:=by
 unfold bounds
 intro h
 split at h
 ·cases h
 ·split at h
  ·cases h
  ·split at h
   ·cases h
   ·split at h <;> cases h
theorem FE {ws:List Str} (h:GoodW 32 ws) (h60:∀ x∈ws,x.length≤60):(Txt.join " " ws).length≤300∧∀ x∈e7 (Txt.join " " ws),CP x:=by
 have e:e7 (Txt.join " " ws)=ws:=gz FZ h.n h.f
 have:=h.qV (sg:=" ") (by decide +kernel)
 have:=h.s
 have:=h.k
 refine ⟨by omega,fun x hx=>?_⟩
 rw [e] at hx
 have h6:=h60 x hx
 refine ⟨by omega,fun _=>?_⟩
 have:=dU 43 x.cps.toList
 unfold eK
 rw [List.length_map]
 rw [dZ] at h6
 omega
end Law

namespace Law
open PySem PySem.Spec PyProof.Rows L2 L3 L4
theorem BQ {H:Hp} {p:Addr} {xs:List V} (h:H p=some (.lst xs)):Led (·=p) H H [(p,Eo (.lst xs))] []:=
 ⟨fun x hx=>by rw [List.mem_singleton.mp hx];exact ⟨_,h,rfl⟩,by simp,fun x hx=>.inl (by rw [List.mem_singleton.mp hx]),fun _ _ h _=>h,fun _ h=>by simp at h⟩
theorem E3 {p r:Addr} {xs ys:List V} {H:Hp} {Q:VK} (h1:H p=some (.lst xs)) (h2:H r=some (.lst ys)) (hz:xs.length+ys.length≤sizeLine) (h:∀ b H',H b=none→H' b=some (.lst (xs++ys))→az H H'→Q (.ref b) H'):D5 (.ref p) (.ref r) H Q:=
 ⟨p,r,xs,ys,rfl,rfl,h1,h2,hz,fun b nb=>h b _ nb ao (aQ nb)⟩
theorem d7 {p r:Addr} {xs ys:List Str} {H:Hp} {Q:VK} (h1:H p=some (.lst (xs.map V.str))) (h2:H r=some (.lst (ys.map V.str))) (hz:xs.length+ys.length≤900) (h:∀ b H',H b=none→H' b=some (.lst ((xs++ys).map V.str))→az H H'→Q (.ref b) H'):D5 (.ref p) (.ref r) H Q:=
 E3 h1 h2 (by rw [List.length_map,List.length_map];exact Nat.le_of_lt (small1000 (by omega))) fun b H' nb hb s=>h b H' nb (by rw [List.map_append];exact hb) s
theorem Ff {ws:List Str} {i:Nat} (h:i≤ws.length):jh (ws.map V.str) none (some (i:Int))=(ws.take i).map V.str:=by
 unfold jh
 rw [HT.ly,HT.oQ,List.length_map,Nat.min_eq_left h,List.drop_zero,Nat.sub_zero,List.map_take]
theorem Ao {ws:List Str} {i:Nat} (h:i≤ws.length):jh (ws.map V.str) (some (i:Int)) none=(ws.drop i).map V.str:=by
 unfold jh
 rw [HT.oQ,HT.ly,List.length_map,Nat.min_eq_left h,List.map_drop,List.take_of_length_le (by rw [List.length_drop,List.length_map];omega)]
theorem lM {K:PySem.W.Frag} {p:Addr} {ws:List Str} {i:Nat} {k:Int} {H:Hp} {Q:VK} (s:H p=some (.lst (ws.map V.str))) (hk:k=(i:Nat)) (hi:i≤ws.length) (h:∀ b H',H b=none→H' b=some (.lst ((ws.take i).map V.str))→az H H'→Q (.ref b) H'):DY K (.ref p) none (some k) H Q:=by
 subst hk
 exact ⟨p,_,rfl,SqL.of s,fun b nb=>by rw [Ff hi];exact h b _ nb ao (aQ nb)⟩
theorem jO {K:PySem.W.Frag} {p:Addr} {ws:List Str} {i:Nat} {k:Int} {H:Hp} {Q:VK} (s:H p=some (.lst (ws.map V.str))) (hk:k=(i:Nat)) (hi:i≤ws.length) (h:∀ b H',H b=none→H' b=some (.lst ((ws.drop i).map V.str))→az H H'→Q (.ref b) H'):DY K (.ref p) (some k) none H Q:=by
 subst hk
 exact ⟨p,_,rfl,SqL.of s,fun b nb=>by rw [Ao hi];exact h b _ nb ao (aQ nb)⟩
theorem zZ {xs:List V} {H:Hp} {Q:VK} (hz:xs.length≤sizeLine) (h:∀ p H',H p=none→H' p=some (.lst xs)→az H H'→Q (.ref p) H'):Fx xs H Q:=⟨hz,fun p np=>h p _ np ao (aQ np)⟩
theorem BW {n j:Nat} (h:j < n):ixN n (j:Int)=some j:=by
 unfold ixN
 rw [if_pos (by omega),if_pos (by omega)];rfl
theorem jN {K:PySem.W.Frag} {p:Addr} {v:V} {xs:List V} {H:Hp} {Q:VK} (h:H p=some (.tup (v::xs))) (q:∀ b H',H' b=some (.tup xs)→az H H'→Q (.ref b) H'):DX K (.ref p) (some 1) none H Q:=by
 have e1:HT.sIx (v::xs).length 0 (some 1)=1:=by
  rw [show (1:Int)=((1:Nat):Int) from rfl,HT.oQ,List.length_cons,Nat.min_eq_left (by omega)]
 refine GO ((Led.start H (fun _=>False)).more (cz p (v::xs)) h) (by walk_at "mem") (fun z=>by rw [e1] at z;exact absurd z.1 (by decide)) fun b H' nb L s=>?_
 refine q b H' ?_ s
 have:=L.tup (r:=b) (by walk_at "mem")
 rw [this]
 unfold jh
 rw [e1,HT.ly,List.drop_one,List.tail_cons,List.length_cons,List.take_of_length_le (by omega)]
theorem Ad {c s far room term:Nat} {j:Nat} {n:Nat} (h:M5 c s far room term) (hn:n < 10 ^ 20) (hj:j < 5):∃ c' s' tV room' term',(nV [c,s,far,room,term]).set j (.int (n:Nat))=nV [c',s',tV,room',term']∧M5 c' s' tV room' term':=by
 obtain rfl | rfl | rfl | rfl | rfl:j=0∨j=1∨j=2∨j=3∨j=4:=by omega
 ·exact ⟨n,s,far,room,term,rfl,hn,h.s,h.f,h.r,h.t⟩
 ·exact ⟨c,n,far,room,term,rfl,h.c,hn,h.f,h.r,h.t⟩
 ·exact ⟨c,s,n,room,term,rfl,h.c,h.s,hn,h.r,h.t⟩
 ·exact ⟨c,s,far,n,term,rfl,h.c,h.s,h.f,hn,h.t⟩
 ·exact ⟨c,s,far,room,n,rfl,h.c,h.s,h.f,h.r,hn⟩
theorem M5.Du {c s far room term n:Nat} (h:M5 c s far room term) (hn:n∈[c,s,far,room,term]):n < 10 ^ 34:=by
 simp only [List.mem_cons,List.not_mem_nil,or_false] at hn
 rcases hn with rfl | rfl | rfl | rfl | rfl
 ·exact kj h.c
 ·exact kj h.s
 ·exact kj h.f
 ·exact kj h.r
 ·exact kj h.t
theorem uU {c s far room term:Nat} {ms:List Str} (h:M5 c s far room term) (hr:aZ ms=true):∀ x∈bK c s far room term ms,x.length≤60:=by
 obtain ⟨hw,h5⟩:=cY hr
 have wl:=iP hw h5
 have l1:=aY h.c
 have l2:=aY h.s
 have l3:=aY h.f
 have l4:=aY h.r
 have l5:=aY h.t
 intro x hx
 simp only [bK,List.mem_cons,List.not_mem_nil,or_false] at hx
 rcases hx with rfl | rfl | rfl | rfl | rfl | rfl <;> omega
section
variable {P:Program} {w:World} {K:PySem.W.Frag} {mg:Str→Option Value} {base:Heap} {CX:CXT} {CN CH CB C CS CR CL aR:Addr}
theorem kW {H:Hp} {Q:VK} {E:XK} {ws:List Str} (g:GoodW 32 ws) (h60:∀ x∈ws,x.length≤60) (te:AG K C CS (fS (.str (Txt.join " " ws))) H Q):j5 K C CS [.int 0,.str (Txt.join " " ws)] H Q E:=by
 refine .inl ⟨_,rfl,.str _,fun z e=>?_,te⟩
 cases e
 exact FE g h60
theorem xy {H:Hp} {Q:VK} {E:XK} {ws:List Str} (g:GoodW 32 ws) (h60:∀ x∈ws,x.length≤60) (e:fS (.str (Txt.join " " ws)) = .text) (h:∀ t H',H' t=some (.tup [.str "text"])→az H H'→Q (.ref t) H'):j5 K C CS [.int 0,.str (Txt.join " " ws)] H Q E:=
 kW g h60 (by rw [e];exact h)
def HW (K:PySem.W.Frag) (C CS:Addr) (H:Hp) (t:Addr) (o:mJ):Prop:=match o with
 | .told c s far room term rs=>∃ x,H t=some (.tup [.str "told",.ref x])∧StX K C CS H x c s far room term rs
 | o=>H t=some (.tup ((Al o).map V.str))
theorem xU {o:mJ} {H:Hp} {Q:VK} (h:∀ t H',HW K C CS H' t o→az H H'→Q (.ref t) H'):AG K C CS o H Q:=by
 cases o with
 | told c s far room term rs=>exact fun _ t x H' h1 h2 sm=>h t H' ⟨x,h1,h2⟩ sm
 | text=>exact fun t H' h1 sm=>h t H' h1 sm
 | shape=>exact fun t H' h1 sm=>h t H' h1 sm
 | sett wd=>exact fun t H' h1 sm=>h t H' h1 sm
theorem yw:aB ["_law_cell", "_law_settings_here", "_law_numbers", "_law_words", "_law_text", "_law_found", "_law_k", "_law_due", "_law_at", "_law_odd", "_law_other"] ["_law_cell"] (aj (top 51)):=by walk_at "s"
def uL:Sp:=fun vs H Q _=>∃ (p:Addr) (b:Int),vs=[.ref p]∧bw H p b∧b≤900000∧∀ H',bw H' p (b+25600)→Oth p H H'→Q (.bl true) H'
theorem zu (D:Dat K mg "_law_settings_good" "_law_settings_good" (top 51) ["_law_cell"]) (BT:Bt mg) (NE:bN (CX1 P w)) (SC:ShC K C) (SS:StC K CS) (au:Cal P w K mg base (CX1 P w) "_law_pick" 11 ["_law_hand_here", "_law_many"] iC) (kC:Cal P w K mg base (CX1 P w) "_law_settings" 12 ["_law_cell", "_law_sound"] (ye K C CS)) (jj:Cal P w K mg base (CX1 P w) "_law_rules_word" 1 ["_law_rules"] (iV K))
  (bE:Cal P w K mg base (CX1 P w) "_law_asked" 9 ["_law_way", "_law_thing"] (j5 K C CS)) (kB:Cal P w K mg base (CX1 P w) "settings_text" 2 ["settings"] (uK K C CS)) (rE:Cal P w K mg base (CX1 P w) "_law_same" 1 ["_law_settings_here", "_law_other"] (yf K C CS)) (mG:Cal P w K mg base (CX1 P w) "_law_bounds" 1 ["_law_numbers"] qz):Cal P w K mg base (CX1 P w) "_law_settings_good" 13 ["_law_cell"] uL:=by
 have S:=yw
 walk_at "d"
 ·obtain ⟨p,b,rfl,_⟩:=h
  rfl
 obtain ⟨p,b,rfl,hh,hb,q⟩:=h
 refine ⟨_,(@ai _ _ _ _ _ (@aM _ _ 1 _ _ _ _ S.nd rfl (by first | exact Or.inl rfl | exact Or.inr rfl) (@aI _ _ _ _ _ _ _ _ _ _ _ _ kC (hr.mono (by first | decide | omega)) NE.pass (@aa _ _ _ _ _ (@pv _ 0 _ _ (by rfl) (by first | exact Or.inl rfl | exact Or.inr (Or.inl rfl) | exact Or.inr (Or.inr rfl)) (by decide) (by decide)) (@aa _ _ _ _ _ (@bA _ _ _ _ _ _ _ _ (@cM _) (@aI _ _ _ _ _ _ _ _ _ _ _ _ au (hr.mono (by first | decide | omega)) NE.pass (@aa _ _ _ _ _ (@pv _ 0 _ _ (by rfl) (by first | exact Or.inl rfl | exact Or.inr (Or.inl rfl) | exact Or.inr (Or.inr rfl)) (by decide) (by decide)) (@aa _ _ _ _ _ (@ah _ _ _ _) (@af _) (by rfl)) (by rfl)) (by rfl) (by decide) (by rfl) (by rfl)) (@ah _ _ _ _) (@aH _ _ (by decide) (by decide))) (@af _) (by rfl)) (by rfl)) (by rfl) (by decide) (by rfl) (by rfl)) (by rfl) (by first | exact .inl rfl | exact .inr rfl | assumption)) (@ai _ _ _ _ _ (@aM _ _ 2 _ _ _ _ S.nd rfl (by first | exact Or.inl rfl | exact Or.inr rfl) (@bC _ _ _ _ (@aa _ _ _ _ _ (@bg _ _ _ _ _ (@bg _ _ _ _ _ (@pv _ 1 _ _ (by rfl) (by first | exact Or.inl rfl | exact Or.inr (Or.inl rfl) | exact Or.inr (Or.inr rfl)) (by decide) (by decide)) rfl) rfl) (@aa _ _ _ _ _ (@bg _ _ _ _ _ (@bg _ _ _ _ _ (@pv _ 1 _ _ (by rfl) (by first | exact Or.inl rfl | exact Or.inr (Or.inl rfl) | exact Or.inr (Or.inr rfl)) (by decide) (by decide)) rfl) rfl) (@aa _ _ _ _ _ (@bg _ _ _ _ _ (@pv _ 1 _ _ (by rfl) (by first | exact Or.inl rfl | exact Or.inr (Or.inl rfl) | exact Or.inr (Or.inr rfl)) (by decide) (by decide)) rfl) (@aa _ _ _ _ _ (@bg _ _ _ _ _ (@pv _ 1 _ _ (by rfl) (by first | exact Or.inl rfl | exact Or.inr (Or.inl rfl) | exact Or.inr (Or.inr rfl)) (by decide) (by decide)) rfl) (@aa _ _ _ _ _ (@bg _ _ _ _ _ (@pv _ 1 _ _ (by rfl) (by first | exact Or.inl rfl | exact Or.inr (Or.inl rfl) | exact Or.inr (Or.inr rfl)) (by decide) (by decide)) rfl) (@af _) (by rfl)) (by rfl)) (by rfl)) (by rfl)) (by rfl))) (by rfl) (by first | exact .inl rfl | exact .inr rfl | assumption)) (@ai _ _ _ _ _ (@aM _ _ 3 _ _ _ _ S.nd rfl (by first | exact Or.inl rfl | exact Or.inr rfl) (@aG _ _ _ _ _ _ _ _ (@dY _) (@eS _ _ _ _ _ _ _ _ _ _ (aS 0) _ _ rfl (@fE _ _ _ _ (@pv _ 2 _ _ (by rfl) (by first | exact Or.inl rfl | exact Or.inr (Or.inl rfl) | exact Or.inr (Or.inr rfl)) (by decide) (by decide))) (@eY _ _ ["_law_number"] [] (aj (top 51)).names ["_law_cell", "_law_settings_here", "_law_numbers", "_law_words", "_law_text", "_law_found", "_law_k", "_law_due", "_law_at", "_law_odd", "_law_other"] rfl rfl rfl (by decide +kernel)) (fun _ _ _ _=>(@bL _ _ 0 _ (show (jW ["_law_cell", "_law_settings_here", "_law_numbers", "_law_words", "_law_text", "_law_found", "_law_k", "_law_due", "_law_at", "_law_odd", "_law_other"] ["_law_number"] []).Nodup by decide +kernel) rfl (by first | exact Or.inl rfl | exact Or.inr rfl) (by first | exact .inl rfl | exact .inr rfl | assumption))) (fun _ _ _ _=>(@cN _)) (fun _ _ _ _=>(@b9 _ _ _ _ _ _ _ _ _ jT rfl BT.str_ L3.ee (@aa _ _ _ _ _ (@pv _ 0 _ _ (by rfl) (by first | exact Or.inl rfl | exact Or.inr (Or.inl rfl) | exact Or.inr (Or.inr rfl)) (by decide) (by decide)) (@af _) (by rfl)) (by decide) (by decide) (by rfl) (by rfl))) (by intro _;rfl)) (@bC _ _ _ _ (@aa _ _ _ _ _ (@aI _ _ _ _ _ _ _ _ _ _ _ _ jj (hr.mono (by first | decide | omega)) NE.pass (@aa _ _ _ _ _ (@bg _ _ _ _ _ (@pv _ 1 _ _ (by rfl) (by first | exact Or.inl rfl | exact Or.inr (Or.inl rfl) | exact Or.inr (Or.inr rfl)) (by decide) (by decide)) rfl) (@af _) (by rfl)) (by rfl) (by decide) (by rfl) (by rfl)) (@af _) (by rfl)))) (by rfl) (by first | exact .inl rfl | exact .inr rfl | assumption)) (@ai _ _ _ _ _ (@aM _ _ 4 _ _ _ _ S.nd rfl (by first | exact Or.inl rfl | exact Or.inr rfl) (@dX _ _ _ _ _ _ _ _ _ _ _ _ PySem.F.plainAttrs_str PySem.F.slot_str_join PySem.F.type_str_join (@gg _) (@aq _ _ _ _) (@aa _ _ _ _ _ (@pv _ 3 _ _ (by rfl) (by first | exact Or.inl rfl | exact Or.inr (Or.inl rfl) | exact Or.inr (Or.inr rfl)) (by decide) (by decide)) (@af _) (by rfl)) (by rfl) (by rfl) (by rfl) (by rfl) (by rfl)) (by rfl) (by first | exact .inl rfl | exact .inr rfl | assumption)) (@ai _ _ _ _ _ (@aM _ _ 5 _ _ _ _ S.nd rfl (by first | exact Or.inl rfl | exact Or.inr rfl) (@aI _ _ _ _ _ _ _ _ _ _ _ _ bE (hr.mono (by first | decide | omega)) NE.pass (@aa _ _ _ _ _ (@ah _ _ _ _) (@aa _ _ _ _ _ (@pv _ 4 _ _ (by rfl) (by first | exact Or.inl rfl | exact Or.inr (Or.inl rfl) | exact Or.inr (Or.inr rfl)) (by decide) (by decide)) (@af _) (by rfl)) (by rfl)) (by rfl) (by decide) (by rfl) (by rfl)) (by rfl) (by first | exact .inl rfl | exact .inr rfl | assumption)) (@ai _ _ _ _ _ (@br _ _ _ _ _ _ _ _ (@PW.pt _ _ _ (@j6 _ _ _ _ _ _ _ (@aJ _ _ _ _ _ _ _ _ (@j7 _) (@aI _ _ _ _ _ _ _ _ _ _ _ _ kB (hr.mono (by first | decide | omega)) NE.pass (@aa _ _ _ _ _ (@pv _ 1 _ _ (by rfl) (by first | exact Or.inl rfl | exact Or.inr (Or.inl rfl) | exact Or.inr (Or.inr rfl)) (by decide) (by decide)) (@af _) (by rfl)) (by rfl) (by decide) (by rfl) (by rfl)) (@pv _ 4 _ _ (by rfl) (by first | exact Or.inl rfl | exact Or.inr (Or.inl rfl) | exact Or.inr (Or.inr rfl)) (by decide) (by decide)) (@aH _ _ (by decide) (by decide))) (@j6 _ _ _ _ _ _ _ (@aJ _ _ _ _ _ _ _ _ (@j7 _) (@aL _ _ _ _ _ _ _ (@bU _) (@pv _ 5 _ _ (by rfl) (by first | exact Or.inl rfl | exact Or.inr (Or.inl rfl) | exact Or.inr (Or.inr rfl)) (by decide) (by decide)) (@ah _ _ _ _) (fun _ _=>rfl)) (@aq _ _ _ _) (@aH _ _ (by decide) (by decide))) (@iD _ _ _ _ (@cB _ _ _ _ (@cH _ _ _ (@aI _ _ _ _ _ _ _ _ _ _ _ _ rE (hr.mono (by first | decide | omega)) NE.pass (@aa _ _ _ _ _ (@pv _ 1 _ _ (by rfl) (by first | exact Or.inl rfl | exact Or.inr (Or.inl rfl) | exact Or.inr (Or.inr rfl)) (by decide) (by decide)) (@aa _ _ _ _ _ (@aL _ _ _ _ _ _ _ (@bU _) (@pv _ 5 _ _ (by rfl) (by first | exact Or.inl rfl | exact Or.inr (Or.inl rfl) | exact Or.inr (Or.inr rfl)) (by decide) (by decide)) (@ah _ _ _ _) (fun _ _=>rfl)) (@af _) (by rfl)) (by rfl)) (by rfl) (by decide) (by rfl) (by rfl)) (by intro _;rfl))))))) (@ak _ _ _ (@av _ _ _ _ (@cO _ _ _ _))) (@aF _)) (@ai _ _ _ _ _ (@oY _ _ _ _ _ _ _ _ PassesOwn.never rfl (@ng _ _ _ _ _ _ rfl BT.range (@aa _ _ _ _ _ (@aG _ _ _ _ _ _ _ _ (@cu _) (@ah _ _ _ _) (@aI _ _ _ _ _ _ _ _ _ _ _ _ au (hr.mono (by first | decide | omega)) NE.pass (@aa _ _ _ _ _ (@pv _ 0 _ _ (by rfl) (by first | exact Or.inl rfl | exact Or.inr (Or.inl rfl) | exact Or.inr (Or.inr rfl)) (by decide) (by decide)) (@aa _ _ _ _ _ (@ah _ _ _ _) (@af _) (by rfl)) (by rfl)) (by rfl) (by decide) (by rfl) (by rfl))) (@af _) (by rfl)) (by rfl)) (@bL _ _ 6 _ S.nd rfl (by first | exact Or.inl rfl | exact Or.inr rfl) (by first | exact .inl rfl | exact .inr rfl | assumption)) (@ak _ _ _ (@iF _ _ _ _ _ _ (@aL _ _ _ _ _ _ _ (@aK _) (@bC _ _ _ _ (@aa _ _ _ _ _ (@ah _ _ _ _) (@aa _ _ _ _ _ (@ah _ _ _ _) (@aa _ _ _ _ _ (@ah _ _ _ _) (@aa _ _ _ _ _ (@aG _ _ _ _ _ _ _ _ (@dc _) (@ah _ _ _ _) (@ah _ _ _ _)) (@aa _ _ _ _ _ (@aG _ _ _ _ _ _ _ _ (@cu _) (@aG _ _ _ _ _ _ _ _ (@dc _) (@ah _ _ _ _) (@ah _ _ _ _)) (@ah _ _ _ _)) (@aa _ _ _ _ _ (@ah _ _ _ _) (@af _) (by rfl)) (by rfl)) (by rfl)) (by rfl)) (by rfl)) (by rfl))) (@aI _ _ _ _ _ _ _ _ _ _ _ _ au (hr.mono (by first | decide | omega)) NE.pass (@aa _ _ _ _ _ (@pv _ 0 _ _ (by rfl) (by first | exact Or.inl rfl | exact Or.inr (Or.inl rfl) | exact Or.inr (Or.inr rfl)) (by decide) (by decide)) (@aa _ _ _ _ _ (@ah _ _ _ _) (@af _) (by rfl)) (by rfl)) (by rfl) (by decide) (by rfl) (by rfl)) (fun _ _=>rfl)) (@jE _ _ _ _ _ _ _ (@pv _ 2 _ _ (by rfl) (by first | exact Or.inl rfl | exact Or.inr (Or.inl rfl) | exact Or.inr (Or.inr rfl)) (by decide) (by decide)) (@aI _ _ _ _ _ _ _ _ _ _ _ _ au (hr.mono (by first | decide | omega)) NE.pass (@aa _ _ _ _ _ (@pv _ 0 _ _ (by rfl) (by first | exact Or.inl rfl | exact Or.inr (Or.inl rfl) | exact Or.inr (Or.inr rfl)) (by decide) (by decide)) (@aa _ _ _ _ _ (@ah _ _ _ _) (@af _) (by rfl)) (by rfl)) (by rfl) (by decide) (by rfl) (by rfl)) (@set_list _) (by intro _;rfl)) (by rfl) (by rfl) (by rfl))) (by intro _;rfl)) (@ai _ _ _ _ _ (@aM _ _ 7 _ _ _ _ S.nd rfl (by first | exact Or.inl rfl | exact Or.inr rfl) (@aI _ _ _ _ _ _ _ _ _ _ _ _ mG (hr.mono (by first | decide | omega)) NE.pass (@aa _ _ _ _ _ (@pv _ 2 _ _ (by rfl) (by first | exact Or.inl rfl | exact Or.inr (Or.inl rfl) | exact Or.inr (Or.inr rfl)) (by decide) (by decide)) (@af _) (by rfl)) (by rfl) (by decide) (by rfl) (by rfl)) (by rfl) (by first | exact .inl rfl | exact .inr rfl | assumption)) (@ai _ _ _ _ _ (@aM _ _ 5 _ _ _ _ S.nd rfl (by first | exact Or.inl rfl | exact Or.inr rfl) (@aI _ _ _ _ _ _ _ _ _ _ _ _ bE (hr.mono (by first | decide | omega)) NE.pass (@aa _ _ _ _ _ (@ah _ _ _ _) (@aa _ _ _ _ _ (@dX _ _ _ _ _ _ _ _ _ _ _ _ PySem.F.plainAttrs_str PySem.F.slot_str_join PySem.F.type_str_join (@gg _) (@aq _ _ _ _) (@aa _ _ _ _ _ (@aG _ _ _ _ _ _ _ _ (@dY _) (@eS _ _ _ _ _ _ _ _ _ _ (aS 0) _ _ rfl (@fE _ _ _ _ (@pv _ 2 _ _ (by rfl) (by first | exact Or.inl rfl | exact Or.inr (Or.inl rfl) | exact Or.inr (Or.inr rfl)) (by decide) (by decide))) (@eY _ _ ["_law_number"] [] (aj (top 51)).names ["_law_cell", "_law_settings_here", "_law_numbers", "_law_words", "_law_text", "_law_found", "_law_k", "_law_due", "_law_at", "_law_odd", "_law_other"] rfl rfl rfl (by decide +kernel)) (fun _ _ _ _=>(@bL _ _ 0 _ (show (jW ["_law_cell", "_law_settings_here", "_law_numbers", "_law_words", "_law_text", "_law_found", "_law_k", "_law_due", "_law_at", "_law_odd", "_law_other"] ["_law_number"] []).Nodup by decide +kernel) rfl (by first | exact Or.inl rfl | exact Or.inr rfl) (by first | exact .inl rfl | exact .inr rfl | assumption))) (fun _ _ _ _=>(@cN _)) (fun _ _ _ _=>(@b9 _ _ _ _ _ _ _ _ _ jT rfl BT.str_ L3.ee (@aa _ _ _ _ _ (@pv _ 0 _ _ (by rfl) (by first | exact Or.inl rfl | exact Or.inr (Or.inl rfl) | exact Or.inr (Or.inr rfl)) (by decide) (by decide)) (@af _) (by rfl)) (by decide) (by decide) (by rfl) (by rfl))) (by intro _;rfl)) (@bO _ _ _ _ _ _ _ _ _ _ (@cC _) (@pv _ 3 _ _ (by rfl) (by first | exact Or.inl rfl | exact Or.inr (Or.inl rfl) | exact Or.inr (Or.inr rfl)) (by decide) (by decide)) (@b5 _ _ _ (@ah _ _ _ _)) (@b6 _))) (@af _) (by rfl)) (by rfl) (by rfl) (by rfl) (by rfl) (by rfl)) (@af _) (by rfl)) (by rfl)) (by rfl) (by decide) (by rfl) (by rfl)) (by rfl) (by first | exact .inl rfl | exact .inr rfl | assumption)) (@ai _ _ _ _ _ (@br _ _ _ _ _ _ _ _ (@PW.pt _ _ _ (@j6 _ _ _ _ _ _ _ (@aJ _ _ _ _ _ _ _ _ (@j7 _) (@aL _ _ _ _ _ _ _ (@bU _) (@pv _ 5 _ _ (by rfl) (by first | exact Or.inl rfl | exact Or.inr (Or.inl rfl) | exact Or.inr (Or.inr rfl)) (by decide) (by decide)) (@ah _ _ _ _) (fun _ _=>rfl)) (@aL _ _ _ _ _ _ _ (@bU _) (@pv _ 7 _ _ (by rfl) (by first | exact Or.inl rfl | exact Or.inr (Or.inl rfl) | exact Or.inr (Or.inr rfl)) (by decide) (by decide)) (@ah _ _ _ _) (fun _ _=>rfl)) (@aH _ _ (by decide) (by decide))) (@iD _ _ _ _ (@PW.pt _ _ _ (@sV _ _ _ _ _ _ _ (@aJ _ _ _ _ _ _ _ _ (zh (hr.mono (Nat.zero_le _))) (@bO _ _ _ _ _ _ _ _ _ _ (@yk _) (@pv _ 5 _ _ (by rfl) (by first | exact Or.inl rfl | exact Or.inr (Or.inl rfl) | exact Or.inr (Or.inr rfl)) (by decide) (by decide)) (@b5 _ _ _ (@ah _ _ _ _)) (@b6 _)) (@bO _ _ _ _ _ _ _ _ _ _ (@yk _) (@pv _ 7 _ _ (by rfl) (by first | exact Or.inl rfl | exact Or.inr (Or.inl rfl) | exact Or.inr (Or.inr rfl)) (by decide) (by decide)) (@b5 _ _ _ (@ah _ _ _ _)) (@b6 _)) (@aH _ _ (by decide) (by decide))) (@oX _ _ _ _ (@aJ _ _ _ _ _ _ _ _ (@j7 _) (@aL _ _ _ _ _ _ _ (@bU _) (@pv _ 7 _ _ (by rfl) (by first | exact Or.inl rfl | exact Or.inr (Or.inl rfl) | exact Or.inr (Or.inr rfl)) (by decide) (by decide)) (@ah _ _ _ _) (fun _ _=>rfl)) (@aq _ _ _ _) (@aH _ _ (by decide) (by decide))))))))) (@ak _ _ _ (@av _ _ _ _ (@cO _ _ _ _))) (@aF _)) (@ai _ _ _ _ _ (@aM _ _ 8 _ _ _ _ S.nd rfl (by first | exact Or.inl rfl | exact Or.inr rfl) (@aI _ _ _ _ _ _ _ _ _ _ _ _ au (hr.mono (by first | decide | omega)) NE.pass (@aa _ _ _ _ _ (@pv _ 0 _ _ (by rfl) (by first | exact Or.inl rfl | exact Or.inr (Or.inl rfl) | exact Or.inr (Or.inr rfl)) (by decide) (by decide)) (@aa _ _ _ _ _ (@ah _ _ _ _) (@af _) (by rfl)) (by rfl)) (by rfl) (by decide) (by rfl) (by rfl)) (by rfl) (by first | exact .inl rfl | exact .inr rfl | assumption)) (@ai _ _ _ _ _ (@aM _ _ 9 _ _ _ _ S.nd rfl (by first | exact Or.inl rfl | exact Or.inr rfl) (@aL _ _ _ _ _ _ _ (@aK _) (@bC _ _ _ _ (@aa _ _ _ _ _ (@aq _ _ _ _) (@aa _ _ _ _ _ (@aq _ _ _ _) (@aa _ _ _ _ _ (@aq _ _ _ _) (@aa _ _ _ _ _ (@aq _ _ _ _) (@aa _ _ _ _ _ (@aq _ _ _ _) (@aa _ _ _ _ _ (@aq _ _ _ _) (@af _) (by rfl)) (by rfl)) (by rfl)) (by rfl)) (by rfl)) (by rfl))) (@aI _ _ _ _ _ _ _ _ _ _ _ _ au (hr.mono (by first | decide | omega)) NE.pass (@aa _ _ _ _ _ (@pv _ 0 _ _ (by rfl) (by first | exact Or.inl rfl | exact Or.inr (Or.inl rfl) | exact Or.inr (Or.inr rfl)) (by decide) (by decide)) (@aa _ _ _ _ _ (@ah _ _ _ _) (@af _) (by rfl)) (by rfl)) (by rfl) (by decide) (by rfl) (by rfl)) (fun _ _=>rfl)) (by rfl) (by first | exact .inl rfl | exact .inr rfl | assumption)) (@ai _ _ _ _ _ (@oY _ _ _ _ _ _ _ _ PassesOwn.never rfl (@fE _ _ _ _ (@bC _ _ _ _ (@aa _ _ _ _ _ (@aG _ _ _ _ _ _ _ _ (@dY _) (@bO _ _ _ _ _ _ _ _ _ _ (@cC _) (@pv _ 3 _ _ (by rfl) (by first | exact Or.inl rfl | exact Or.inr (Or.inl rfl) | exact Or.inr (Or.inr rfl)) (by decide) (by decide)) (@b6 _) (@b5 _ _ _ (@pv _ 8 _ _ (by rfl) (by first | exact Or.inl rfl | exact Or.inr (Or.inl rfl) | exact Or.inr (Or.inr rfl)) (by decide) (by decide)))) (@bO _ _ _ _ _ _ _ _ _ _ (@cC _) (@pv _ 3 _ _ (by rfl) (by first | exact Or.inl rfl | exact Or.inr (Or.inl rfl) | exact Or.inr (Or.inr rfl)) (by decide) (by decide)) (@b5 _ _ _ (@aG _ _ _ _ _ _ _ _ (@cu _) (@pv _ 8 _ _ (by rfl) (by first | exact Or.inl rfl | exact Or.inr (Or.inl rfl) | exact Or.inr (Or.inr rfl)) (by decide) (by decide)) (@ah _ _ _ _))) (@b6 _))) (@aa _ _ _ _ _ (@aG _ _ _ _ _ _ _ _ (@dY _) (@aG _ _ _ _ _ _ _ _ (@dY _) (@bO _ _ _ _ _ _ _ _ _ _ (@cC _) (@pv _ 3 _ _ (by rfl) (by first | exact Or.inl rfl | exact Or.inr (Or.inl rfl) | exact Or.inr (Or.inr rfl)) (by decide) (by decide)) (@b6 _) (@b5 _ _ _ (@pv _ 8 _ _ (by rfl) (by first | exact Or.inl rfl | exact Or.inr (Or.inl rfl) | exact Or.inr (Or.inr rfl)) (by decide) (by decide)))) (@bC _ _ _ _ (@aa _ _ _ _ _ (@pv _ 9 _ _ (by rfl) (by first | exact Or.inl rfl | exact Or.inr (Or.inl rfl) | exact Or.inr (Or.inr rfl)) (by decide) (by decide)) (@af _) (by rfl)))) (@bO _ _ _ _ _ _ _ _ _ _ (@cC _) (@pv _ 3 _ _ (by rfl) (by first | exact Or.inl rfl | exact Or.inr (Or.inl rfl) | exact Or.inr (Or.inr rfl)) (by decide) (by decide)) (@b5 _ _ _ (@aG _ _ _ _ _ _ _ _ (@cu _) (@pv _ 8 _ _ (by rfl) (by first | exact Or.inl rfl | exact Or.inr (Or.inl rfl) | exact Or.inr (Or.inr rfl)) (by decide) (by decide)) (@ah _ _ _ _))) (@b6 _))) (@aa _ _ _ _ _ (@aG _ _ _ _ _ _ _ _ (@dY _) (@pv _ 3 _ _ (by rfl) (by first | exact Or.inl rfl | exact Or.inr (Or.inl rfl) | exact Or.inr (Or.inr rfl)) (by decide) (by decide)) (@bO _ _ _ _ _ _ _ _ _ _ (@cC _) (@pv _ 3 _ _ (by rfl) (by first | exact Or.inl rfl | exact Or.inr (Or.inl rfl) | exact Or.inr (Or.inr rfl)) (by decide) (by decide)) (@b6 _) (@b5 _ _ _ (@ah _ _ _ _)))) (@af _) (by rfl)) (by rfl)) (by rfl)))) (@bL _ _ 10 _ S.nd rfl (by first | exact Or.inl rfl | exact Or.inr rfl) (by first | exact .inl rfl | exact .inr rfl | assumption)) (@ak _ _ _ (@br _ _ _ _ _ _ _ _ (@aJ _ _ _ _ _ _ _ _ (zh (hr.mono (Nat.zero_le _))) (@aI _ _ _ _ _ _ _ _ _ _ _ _ bE (hr.mono (by first | decide | omega)) NE.pass (@aa _ _ _ _ _ (@ah _ _ _ _) (@aa _ _ _ _ _ (@dX _ _ _ _ _ _ _ _ _ _ _ _ PySem.F.plainAttrs_str PySem.F.slot_str_join PySem.F.type_str_join (@gg _) (@aq _ _ _ _) (@aa _ _ _ _ _ (@pv _ 10 _ _ (by rfl) (by first | exact Or.inl rfl | exact Or.inr (Or.inl rfl) | exact Or.inr (Or.inr rfl)) (by decide) (by decide)) (@af _) (by rfl)) (by rfl) (by rfl) (by rfl) (by rfl) (by rfl)) (@af _) (by rfl)) (by rfl)) (by rfl) (by decide) (by rfl) (by rfl)) (@aP _ _ _ _ _ (@aa _ _ _ _ _ (@aq _ _ _ _) (@af _) (by rfl))) (@aH _ _ (by decide) (by decide))) (@ak _ _ _ (@av _ _ _ _ (@cO _ _ _ _))) (@aF _))) (by intro _;rfl)) (@ak _ _ _ (@av _ _ _ _ (@cO _ _ _ _)))))))))))))))),?_⟩
 try dsimp only [bM]
 have L:=bB hh
 walk_at "go"
 refine aT L .head (by decide) (by decide) (by omega) fun r1 H1 a0 a1 L _=>?_
 have o1:Oth p H H1:=L.fr
 have h1:=aO.at (L.at_ (p,aO _) (by walk_at "mem"))
 clear L
 walk_at "go"
 refine ⟨p,b+1024,_,rfl,h1,by omega,fun x c s' far room term ms H2 hx ok h2 o2=>?_⟩
 have oH2:=o1.trans o2
 have m5:=ok.m5
 obtain ⟨hw,h5⟩:=cY ok.rb
 obtain ⟨dx,tr,sp,dsp,hx2,zO,hsp2⟩:=id hx
 have L:=Led.start H2 (fun _=>False)
 try dsimp only [aS]
 walk_at "go"
 refine ⟨x,CS,dx,_,_,rfl,hx2,SS.cl,SS.n1,cW _ _ _ _ _,?_⟩
 refine ⟨sp,C,dsp,_,_,rfl,hsp2,SC.cl,SC.nc,uS _ _,?_⟩
 walk_at "go"
 refine ⟨x,CS,dx,_,_,rfl,hx2,SS.cl,SS.n1,cW _ _ _ _ _,?_⟩
 refine ⟨sp,C,dsp,_,_,rfl,hsp2,SC.cl,SC.ns,uR _ _,?_⟩
 walk_at "go"
 refine ⟨x,CS,dx,_,_,rfl,hx2,SS.cl,SS.n2,kI _ _ _ _ _,?_⟩
 walk_at "go"
 refine ⟨x,CS,dx,_,_,rfl,hx2,SS.cl,SS.n3,iT _ _ _ _ _,?_⟩
 walk_at "go"
 refine ⟨x,CS,dx,_,_,rfl,hx2,SS.cl,SS.n4,iS _ _ _ _ _,?_⟩
 walk_at "go"
 obtain ⟨ln,eln⟩:∃ z,z=l':=⟨_,rfl⟩
 subst eln
 obtain ⟨H3,eH3⟩:∃ z,z=H':=⟨_,rfl⟩
 subst eH3
 have hln:H3 ln=some (.lst (nV [c,s',far,room,term])):=L'.eo (p:=ln) .head
 have s3:=L'.same
 have n2:H2 ln=none:=n'
 have nlp:ln≠p:=fun z=>by obtain ⟨u,v,y,e,_⟩:=h2;rw [← z,n'] at e;cases e
 clear L L'
 refine g9 (nV [c,s',far,room,term]) (fun i ys Hx=>ys=(([c,s',far,room,term].take i).map aX).map V.str∧Hx=H3) ⟨rfl,rfl⟩ (fun i ys Hx hi ⟨e,e2⟩=>⟨e2▸SqL.of hln,by rw [e,List.length_map,List.length_map,List.length_take];exact Nat.le_of_lt (small1000 (by simp only [List.length_cons,List.length_nil];omega))⟩) ?_ ?_
 ·rintro i y ys Hx hy ⟨rfl,rfl⟩
  unfold nV at hy
  rw [List.getElem?_map] at hy
  cases en:([c,s',far,room,term]:List Nat)[i]? with
  | none=>rw [en] at hy;cases hy
  | some n=>
   rw [en] at hy
   cases hy
   try dsimp only [aS]
   walk_at "go"
   refine gI (bI (m5.Du (List.mem_of_getElem? en))) ?_
   walk_at "go"
   exact ⟨by rw [List.take_add_one,en,Option.toList,List.map_append,List.map_append];rfl,rfl⟩
 rintro ys Hx ⟨rfl,rfl⟩ lc nlc
 have s4:=bG nlc (.lst (([c,s',far,room,term].map aX).map V.str))
 have hlc:(upd Hx lc (.lst (([c,s',far,room,term].map aX).map V.str))) lc=_:=ao
 rw [show (List.take (nV [c,s',far,room,term]).length [c,s',far,room,term])=[c,s',far,room,term] from rfl]
 generalize upd Hx lc (.lst (([c,s',far,room,term].map aX).map V.str))=H4 at *
 have L:=Led.start H4 (fun _=>False)
 walk_at "go"
 refine ⟨x,CS,dx,_,_,rfl,s4 _ _ (s3 _ _ hx2),SS.cl,SS.n5,gJ _ _ _ _ _,?_⟩
 walk_at "go"
 refine ⟨tr,ms,rfl,dS (s3.trans s4) zO,hw,h5,?_⟩
 walk_at "go"
 have s5:=L'.same
 refine d7 (xs:=[c,s',far,room,term].map aX) (ys:=[dN ms]) (s5 _ _ hlc) (L'.eo .head) (by simp) fun lw H6 nlw hlw s6=>?_
 have hlw:H6 lw=some (.lst ((bK c s' far room term ms).map V.str)):=hlw
 have s26:az H2 H6:=((s3.trans s4).trans s5).trans s6
 have s36:az Hx H6:=(s4.trans s5).trans s6
 have gw:=cX m5 ok.rb
 have g60:=uU m5 ok.rb
 have hb1:(Str.ofString " ").length=1:=by decide +kernel
 clear L L'
 try dsimp only [aS]
 walk_at "go"
 refine gY hlw gw hb1 ?_
 walk_at "go"
 refine kW gw g60 ?_
 rw [mZ m5 ok.rb,ok.told]
 intro _ tf y H7 htf hy s7
 have s27:=s26.trans s7
 walk_at "go"
 refine ⟨x,c,s',far,room,term,ms,rfl,hx.same s27,m5.n5,ok.rb,fun H8 s8=>?_⟩
 walk_at "go"
 refine cJ (SqT.of (s8 _ _ htf)) rfl ?_
 walk_at "go"
 refine cJ (SqT.of (s8 _ _ htf)) rfl ?_
 walk_at "go"
 refine ⟨x,y,c,s',far,room,term,ms,rfl,hx.same (s27.trans s8),hy.same s8,fun H9 s9=>?_⟩
 have s29:=(s27.trans s8).trans s9
 have h9:=h2.same s29
 have oH9:Oth p H H9:=fun q o e z=>s29 _ _ (oH2 q o e z)
 have Gy:=s9 _ _ (s8 _ _ (s7 _ _ (s36 _ _ hln)))
 have Ey:=s9 _ _ (s8 _ _ (s7 _ _ hlw))
 have nwp:lw≠p:=fun z=>by obtain ⟨u,v,y,e,_⟩:=h2;rw [← z] at e;have e6:=s26 _ _ e;rw [hlw] at e6;cases e6
 have nwl:lw≠ln:=fun z=>by rw [z,Gy] at Ey;cases Ey
 have hnl:H ln=none:=by
  cases e:H ln with
  | none=>rfl
  | some o=>rw [oH2 _ _ e nlp] at n2;cases n2
 have L:=bB h9
 walk_at "go"
 refine aT L .head (by decide) (by decide) (by omega) fun r2 H10 b0 b1 L _=>?_
 have o10:Oth p H9 H10:=L.fr
 have h10:=(aO.at (L.at_ (p,aO _) (by walk_at "mem"))).mono (show _≤b+19456 by omega)
 have GB:=o10 _ _ Gy nlp
 have Gw:=o10 _ _ Ey nwp
 have Ig:=oH9.trans o10
 clear L
 walk_at "go"
 refine z7 (fun i σ Hx=>∃ (u6:Option V) (c1 s1 f1 r1 t1:Nat),σ=[some (.ref p),some (.ref x),some (.ref ln),some (.ref lw),some (.str (Txt.join " " (bK c s' far room term ms))),some (.ref tf),u6,none,none,none,none]∧bw Hx p (b+19456+2048 * (i:Int))∧Hx ln=some (.lst (nV [c1,s1,f1,r1,t1]))∧M5 c1 s1 f1 r1 t1∧Hx lw=some (.lst ((bK c s' far room term ms).map V.str))∧Oth p H Hx) ⟨_,c,s',far,room,term,rfl,h10.mono (by omega),GB,m5,Gw,Ig⟩ ?_ ?_
 ·rintro i σ HG hi ⟨u6,c1,s1,f1,r1',t1,rfl,hG,hlnG,m5G,hlwG,oG⟩
  have hi2:(i:Int) < 2:=by omega
  have L:=bB hG
  try dsimp only [aS]
  walk_at "go"
  refine aT L' (by walk_at "put") (by decide) (by decide) (by omega) fun r3 H11 c0 c1' L _=>?_
  walk_at "go"
  refine gk L .head c0 (by simp only [List.length_cons,List.length_nil];omega) fun v hv=>?_
  obtain ⟨n,rfl,hn⟩:∃ n:Nat,v = .int (n:Nat)∧n < 10 ^ 20:=by
   simp only [List.mem_cons,List.not_mem_nil,or_false] at hv
   rcases hv with rfl | rfl | rfl | rfl | rfl | rfl
   ·exact ⟨0,rfl,by decide +kernel⟩
   ·exact ⟨1000,rfl,by decide +kernel⟩
   ·exact ⟨1001,rfl,by decide +kernel⟩
   ·exact ⟨1000000000000,rfl,by decide +kernel⟩
   ·exact ⟨1000000000001,rfl,by decide +kernel⟩
   ·exact ⟨1,rfl,by decide +kernel⟩
  have o11:Oth p HG H11:=L.fr
  have h11:=aO.at (L.at_ (p,aO _) (by walk_at "mem"))
  have GA:=o11 _ _ hlnG nlp
  have Gv:=o11 _ _ hlwG nwp
  clear L L'
  have L:=bB h11
  walk_at "go"
  refine aT L .head (by decide) (by decide) (by omega) fun r4 H12 d0 d1 L _=>?_
  have o12:Oth p H11 H12:=L.fr
  have h12:=aO.at (L.at_ (p,aO _) (by walk_at "mem"))
  have Gz:=o12 _ _ GA nlp
  have Gu:=o12 _ _ Gv nwp
  clear L
  obtain ⟨j,rfl⟩:=Int.eq_ofNat_of_zero_le d0
  have hj:j < 5:=by omega
  refine GP (j:=j) (BQ Gz) .head (BW (by show j < 5;exact hj)) fun HA LA ch=>?_
  obtain ⟨c2,s2,f2,r2',t2,e5,m2⟩:=Ad (j:=j) m5G hn hj
  have Gx:=LA.eo (p:=ln) .head
  rw [e5] at Gx
  have fA:∀ q o,H12 q=some o→q≠ln→HA q=some o:=fun q o e z=>LA.fr q o e z
  refine ⟨_,c2,s2,f2,r2',t2,rfl,?_,Gx,m2,fA _ _ Gu nwl,fun q o e z=>fA _ _ (o12 _ _ (o11 _ _ (oG q o e z) z) z) (fun z2=>by rw [z2,hnl] at e;cases e)⟩
  obtain ⟨u,v,y,e,hre⟩:=h12
  exact ⟨u,v,y,fA _ _ e (fun z=>nlp z.symm),by omega⟩
 rintro σ HG ⟨u6,c1,s1,f1,r1',t1,rfl,hG,hlnG,m5G,hlwG,oG⟩
 have hG:=hG.mono (show _≤b+23552 by omega)
 walk_at "go"
 refine ⟨ln,c1,s1,f1,r1',t1,rfl,hlnG,fun td H13 htd s13=>?_⟩
 have Dq:=s13 _ _ hlnG
 have Gs:=s13 _ _ hlwG
 rw [Ak _ _ _ _ _ [] ms] at htd
 try dsimp only [aS]
 walk_at "go"
 refine jM (SqL.of Dq) ?_
 refine g9 (nV [c1,s1,f1,r1',t1]) (fun i ys Hx=>ys=(([c1,s1,f1,r1',t1].take i).map aX).map V.str∧Hx=H13) ⟨rfl,rfl⟩ (fun i ys Hx hi ⟨e,e2⟩=>⟨e2▸SqL.of Dq,by rw [e,List.length_map,List.length_map,List.length_take];exact Nat.le_of_lt (small1000 (by simp only [List.length_cons,List.length_nil];omega))⟩) ?_ ?_
 ·rintro i y ys Hx hy ⟨rfl,rfl⟩
  unfold nV at hy
  rw [List.getElem?_map] at hy
  cases en:([c1,s1,f1,r1',t1]:List Nat)[i]? with
  | none=>rw [en] at hy;cases hy
  | some n=>
   rw [en] at hy
   cases hy
   try dsimp only [aS]
   walk_at "go"
   refine gI (bI (m5G.Du (List.mem_of_getElem? en))) ?_
   walk_at "go"
   exact ⟨by rw [List.take_add_one,en,Option.toList,List.map_append,List.map_append];rfl,rfl⟩
 rintro ys Hx ⟨rfl,rfl⟩ lc nlc
 have s14:=bG nlc (.lst (([c1,s1,f1,r1',t1].map aX).map V.str))
 have hlc:(upd Hx lc (.lst (([c1,s1,f1,r1',t1].map aX).map V.str))) lc=_:=ao
 rw [show (List.take (nV [c1,s1,f1,r1',t1]).length [c1,s1,f1,r1',t1])=[c1,s1,f1,r1',t1] from rfl]
 generalize upd Hx lc (.lst (([c1,s1,f1,r1',t1].map aX).map V.str))=H14 at *
 walk_at "go"
 refine jO (i:=5) (s14 _ _ Gs) rfl (show 5≤6 by decide) fun l5 H15 nl5 hl5 s15=>?_
 refine d7 (xs:=[c1,s1,f1,r1',t1].map aX) (ys:=[dN ms]) (s15 _ _ hlc) hl5 (by simp) fun lv H16 nlv hlv s16=>?_
 have hlv:H16 lv=some (.lst ((bK c1 s1 f1 r1' t1 ms).map V.str)):=hlv
 have F1:az HG H16:=((s13.trans s14).trans s15).trans s16
 have Gn:=s16 _ _ (s15 _ _ (s14 _ _ htd))
 have IP:=F1 _ _ hlwG
 walk_at "go"
 refine gY hlv (cX m5G ok.rb) hb1 ?_
 walk_at "go"
 refine kW (cX m5G ok.rb) (uU m5G ok.rb) ?_
 rw [mZ m5G ok.rb]
 refine xU fun t2 H17 ht2 s17=>?_
 have iu:=s17 _ _ Gn
 have HY:=F1.trans s17
 try dsimp only [aS]
 refine gO (fun σ Hx=>σ=[some (.ref p),some (.ref x),some (.ref ln),some (.ref lw),some (.str (Txt.join " " (bK c s' far room term ms))),some (.ref t2),u6,some (.ref td),none,none,none]∧az H17 Hx) (fun nx kk=>?_) ?_
 ·cases ho:bounds c1 s1 f1 r1' t1 ms with
  | text=>exact absurd ho rJ
  | shape=>
   rw [ho] at iu ht2
   walk_at "go"
   refine cJ (SqT.of ht2) rfl ?_
   walk_at "go"
   refine cJ (SqT.of iu) rfl ?_
   walk_at "go"
   refine jN ht2 fun u1 H18 hu1 s18=>?_
   walk_at "go"
   refine jN (s18 _ _ iu) fun u2 H19 hu2 s19=>?_
   refine tQ (d:=.tup []) (.tup (SqT.of (s19 _ _ hu1)) .nil) (.tup (SqT.of hu2) .nil) (by decide) ?_
   walk_at "go"
   exact kk _ _ ⟨rfl,s18.trans s19⟩
  | sett wd=>
   rw [ho] at iu ht2
   walk_at "go"
   refine cJ (SqT.of ht2) rfl ?_
   walk_at "go"
   refine cJ (SqT.of iu) rfl ?_
   walk_at "go"
   refine jN ht2 fun u1 H18 hu1 s18=>?_
   walk_at "go"
   refine jN (s18 _ _ iu) fun u2 H19 hu2 s19=>?_
   refine tQ (d:=.tup [.str wd]) (.tup (SqT.of (s19 _ _ hu1)) (.cons (.str _) .nil)) (.tup (SqT.of hu2) (.cons (.str _) .nil)) (by simp [dep,deps]) ?_
   walk_at "go"
   exact kk _ _ ⟨rfl,s18.trans s19⟩
  | told c2 s2 f2 r2' t3 rs=>
   rw [ho] at iu ht2
   obtain ⟨y2,ht2,_⟩:=ht2
   walk_at "go"
   refine cJ (SqT.of ht2) rfl ?_
   walk_at "go"
   refine cJ (SqT.of iu) rfl ?_
   walk_at "go"
   refine jN ht2 fun u1 H18 hu1 s18=>?_
   walk_at "go"
   refine jN (s18 _ _ iu) fun u2 H19 hu2 s19=>?_
   refine EM (SqT.of (s19 _ _ hu1)) (SqT.of hu2) ?_
   walk_at "go"
   refine cJ (SqT.of (s19 _ _ (s18 _ _ iu))) rfl ?_
   walk_at "go"
   exact kk _ _ ⟨rfl,s18.trans s19⟩
 rintro σ H20 ⟨rfl,s20⟩
 have DS:=HY.trans s20
 have h20:=hG.same DS
 have Gr:=DS _ _ hlwG
 have Ie:Oth p H H20:=fun q o e z=>DS _ _ (oG q o e z)
 have L:=bB h20
 walk_at "go"
 refine aT L .head (by decide) (by decide) (by omega) fun r5 H21 c0 c1' L _=>?_
 walk_at "go"
 refine aT L' (by walk_at "put") (by decide) (by decide) (by omega) fun r6 H22 d0 d1 L _=>?_
 walk_at "go"
 refine gk L .head d0 (by simp only [List.length_cons,List.length_nil];omega) fun v hv=>?_
 obtain ⟨od,rfl,hod⟩:∃ od:Str,v = .str od∧od∈BH:=by
  obtain ⟨od,ho,e⟩:=List.mem_map.mp (show v∈BH.map V.str from hv)
  exact ⟨od,e.symm,ho⟩
 have o22:Oth p H20 H22:=L.fr
 have h22:=(aO.at (L.at_ (p,aO _) (by walk_at "mem"))).mono (show _≤b+25600 by omega)
 have zQ:=o22 _ _ Gr nwp
 have Ic:=Ie.trans o22
 clear L L'
 obtain ⟨i,rfl⟩:=Int.eq_ofNat_of_zero_le c0
 have hi:i < 6:=by omega
 obtain ⟨⟨od1,od2⟩,od3,od4⟩:=uZ od hod
 have s6:(bK c s' far room term ms).length=6:=rfl
 have hsum:=lu m5 ok.rb
 try dsimp only [aS]
 walk_at "go"
 refine lM (i:=i) zQ rfl (by omega) fun la1 G1 na1 ha1 t1=>?_
 walk_at "go"
 refine jO (i:=i+1) (t1 _ _ zQ) (by omega) (by omega) fun la2 G2 na2 ha2 t2'=>?_
 refine d7 (t2' _ _ ha1) ha2 (by rw [List.length_take,List.length_drop];omega) fun la G3 na ha t3=>?_
 have g3:=(t1.trans t2').trans t3
 have tM:=g3 _ _ zQ
 walk_at "go"
 refine lM (i:=i) tM rfl (by omega) fun lb1 G4 nb1 hb1' t4=>?_
 have L:=Led.start G4 (fun _=>False)
 walk_at "go"
 have t5:=L'.same
 refine d7 (ys:=[od]) (t5 _ _ hb1') (L'.eo .head) (by rw [List.length_take,List.length_singleton];omega) fun lb2 G6 nb2 hb2 t6=>?_
 have g6:=(t4.trans t5).trans t6
 clear L L'
 walk_at "go"
 refine jO (i:=i+1) (g6 _ _ tM) (by omega) (by omega) fun lb3 G7 nb3 hb3 t7=>?_
 refine d7 (t7 _ _ hb2) hb3 (by rw [List.length_append,List.length_take,List.length_drop,List.length_singleton];omega) fun lb G8 nb hb' t8=>?_
 have g8:=(g6.trans t7).trans t8
 have qY:=g8 _ _ tM
 walk_at "go"
 refine lM (i:=1) qY rfl (show 1≤6 by decide) fun lc1 G9 nc1 hc1 t9=>?_
 refine d7 (t9 _ _ qY) hc1 (by rw [List.length_take];omega) fun lcc G10 nc hc t10=>?_
 have g10:=t9.trans t10
 walk_at "go"
 refine zZ (by walk_at "sz") fun lo G11 no ho t11=>?_
 have hA:=t11 _ _ (g10 _ _ (g8 _ _ ha))
 have hB:=t11 _ _ (g10 _ _ hb')
 have hC:=t11 _ _ hc
 have gA:=yo m5 ok.rb hi
 have gB:GoodW 32 ((bK c s' far room term ms).take i++[od]++(bK c s' far room term ms).drop (i+1)):=gw.odd od1 od2 (by omega) (by omega)
 have eB:=AZ m5 ok.rb hi hod
 have gC:=yl m5 ok.rb
 have DT:az H22 G11:=((g3.trans g8).trans g10).trans t11
 have hlen:∀ zs:List Str,(∀ z∈zs,z∈bK c s' far room term ms∨z=od)→∀ z∈zs,z.length≤60:=fun zs hz z hm=>by
  rcases hz z hm with h | h
  ·exact g60 z h
  ·rw [h];omega
 have three:∀ v∈[V.ref la,.ref lb,.ref lcc],∃ (l:Addr) (ws:List Str),v = .ref l∧G11 l=some (.lst (ws.map V.str))∧GoodW 32 ws∧(∀ x∈ws,x.length≤60)∧fS (.str (Txt.join " " ws)) = .text:=by
  intro v hv
  simp only [List.mem_cons,List.not_mem_nil,or_false] at hv
  rcases hv with rfl | rfl | rfl
  ·refine ⟨la,_,rfl,hA,gA.1,hlen _ fun z hz=>?_,gA.2⟩
   rcases List.mem_append.mp hz with h | h
   ·exact .inl (List.mem_of_mem_take h)
   ·exact .inl (List.mem_of_mem_drop h)
  ·refine ⟨lb,_,rfl,hB,gB,hlen _ fun z hz=>?_,eB⟩
   rcases List.mem_append.mp hz with h | h
   ·rcases List.mem_append.mp h with h | h
    ·exact .inl (List.mem_of_mem_take h)
    ·exact .inr (List.mem_singleton.mp h)
   ·exact .inl (List.mem_of_mem_drop h)
  ·refine ⟨lcc,_,rfl,hC,gC.1,hlen _ fun z hz=>?_,gC.2⟩
   rcases List.mem_append.mp hz with h | h
   ·exact .inl h
   ·exact .inl (List.mem_of_mem_take h)
 walk_at "go"
 refine jM (SqL.of ho) ?_
 refine z8 [V.ref la,.ref lb,.ref lcc] (fun j σ HJ=>∃ u10:Option V,σ=[some (.ref p),some (.ref x),some (.ref ln),some (.ref lw),some (.str (Txt.join " " (bK c s' far room term ms))),some (.ref t2),u6,some (.ref td),some (.int (i:Int)),some (.str od),u10]∧az G11 HJ) ⟨_,rfl,az.refl _⟩ (fun j σ HJ _ ⟨_,_,sJ⟩=>SqL.of (sJ _ _ ho)) ?_ ?_
 ·rintro j y σ HJ hy ⟨u10,rfl,sJ⟩
  obtain ⟨l,ws,rfl,hl,g,g6',et⟩:=three y (List.mem_of_getElem? hy)
  try dsimp only [aS]
  walk_at "go"
  refine gY (sJ _ _ hl) g hb1 ?_
  walk_at "go"
  refine xy g g6' et fun t H30 ht s30=>?_
  have L:=Led.start H30 (fun _=>False)
  walk_at "go"
  refine tQ (d:=.tup [.str "text"]) (.tup (SqT.of (L'.same _ _ ht)) (.cons (.str _) .nil)) (.tup (SqT.of (L'.tup (by walk_at "mem"))) (.cons (.str _) .nil)) (by simp [dep,deps]) ?_
  walk_at "go"
  exact ⟨_,rfl,(sJ.trans s30).trans L'.same⟩
 ·rintro σ HJ ⟨u10,rfl,sJ⟩
  walk_at "go"
  have sF:=DT.trans sJ
  exact q _ (h22.same sF) fun q o e z=>sF _ _ (Ic q o e z)
end
end Law

namespace Law
open PySem PySem.Spec PyProof.Rows L2 L3 L4
theorem bP {n:Nat} (h:n < 10 ^ 34):(aX n).length≤34:=by
 have hs:(aX n).cps.toList=(Nat.toDigits 10 n).map Char.toNat:=PySem.W.KIN.signs_num n
 rw [dZ,hs,List.length_map]
 exact digits10_le (k:=34) (by decide) h
theorem rN {a b c:Nat} (h:Ln3 a b c):(fQ a b c).length≤105:=by
 have:=join_le (sg:=",") (by decide +kernel) [aX a,aX b,aX c]
 have:=bP h.a
 have:=bP h.b
 have:=bP h.c
 simp only [List.map_cons,List.map_nil,List.sum_cons,List.sum_nil,List.length_cons,List.length_nil] at *
 unfold fQ
 omega
theorem u9 {l:Ln} (h:p6 l):lsum (lnW l)≤143∧∀ x∈lnW l,x.length≤105:=by
 have k1:("held" : Str).length=4:=by decide +kernel
 have k2:("heard" : Str).length=5:=by decide +kernel
 have k3:("took" : Str).length=4:=by decide +kernel
 have k4:("ends" : Str).length=4:=by decide +kernel
 cases l with
 | held n=>
  have:=bP (show n < 10 ^ 34 from h)
  refine ⟨?_,fun x hx=>?_⟩
  ·simp only [lsum,lnW,List.map_cons,List.map_nil,List.sum_cons,List.sum_nil];omega
  ·simp only [lnW,List.mem_cons,List.not_mem_nil,or_false] at hx
   rcases hx with rfl | rfl <;> omega
 | heard n=>
  have:=bP (show n < 10 ^ 34 from h)
  refine ⟨?_,fun x hx=>?_⟩
  ·simp only [lsum,lnW,List.map_cons,List.map_nil,List.sum_cons,List.sum_nil];omega
  ·simp only [lnW,List.mem_cons,List.not_mem_nil,or_false] at hx
   rcases hx with rfl | rfl <;> omega
 | took g a b c=>
  have:=bP h.2.1
  have:=rN h.2.2.1
  refine ⟨?_,fun x hx=>?_⟩
  ·simp only [lsum,lnW,List.map_cons,List.map_nil,List.sum_cons,List.sum_nil];omega
  ·simp only [lnW,List.mem_cons,List.not_mem_nil,or_false] at hx
   rcases hx with rfl | rfl | rfl <;> omega
 | ends g n=>
  have:=bP h.2.1
  have:=bP h.2.2
  refine ⟨?_,fun x hx=>?_⟩
  ·simp only [lsum,lnW,List.map_cons,List.map_nil,List.sum_cons,List.sum_nil];omega
  ·simp only [lnW,List.mem_cons,List.not_mem_nil,or_false] at hx
   rcases hx with rfl | rfl | rfl <;> omega
theorem zF:∀ o∈wA,o.length≤20:=by decide +kernel
theorem fT.oth {H H':Hp} {t p:Addr} {b:Int} {l:Ln} (h:fT H t l) (hh:bw H p b) (o:Oth p H H'):fT H' t l:=by
 obtain ⟨u,v,y,e,_⟩:=hh
 have ne:∀ (q:Addr) (xs:List V),H q=some (.tup xs)→H' q=some (.tup xs):=fun q xs hq=>o q _ hq fun z=>by rw [z,e] at hq;cases hq
 cases l with
 | took g a b c=>
  obtain ⟨ta,h1,h2⟩:=h
  exact ⟨ta,ne _ _ h1,ne _ _ h2⟩
 | _=>exact ne _ _ h
theorem vc (l:Ln) : 2≤(lnW l).length∧(lnW l).length≤3:=by cases l <;> simp [lnW]
theorem zJ {l:Ln} (h:p6 l):GoodW 58 (lnW l):=by
 have hk:=Ep h
 have hl:=vc l
 have hs:=u9 h
 exact ⟨fun x hx=>(hk x hx).f,fun x hx=>(hk x hx).l,fun z=>by rw [z] at hl;exact absurd hl.1 (by decide),by omega,by omega⟩
theorem tL {ws:List Str} (h:GoodW 58 ws):qS (.str (Txt.join ":" ws))=bZ ws:=by
 show bZ (cut 58 (Txt.join ":" ws))=_
 rw [gz HX h.n h.f]
section
variable {P:Program} {w:World} {K:PySem.W.Frag} {mg:Str→Option Value} {base:Heap} {CX:CXT} {CN CH CB C CS CR CL aR:Addr}
theorem qh {H:Hp} {Q:VK} {E:XK} {ws:List Str} (g:GoodW 58 ws) (te:Dv (bZ ws) H Q):j5 K C CS [.int 1,.str (Txt.join ":" ws)] H Q E:=by
 refine .inr ⟨_,rfl,.str _,fun z e=>?_,by rw [tL g];exact te⟩
 cases e
 have:=g.qV (sg:=":") (by decide +kernel)
 have:=g.s
 have:=g.k
 omega
theorem n9 {H:Hp} {Q:VK} {E:XK} {ws:List Str} (g:GoodW 58 ws) (e:bZ ws=none) (h:∀ t H',H' t=some (.tup [.str "text"])→az H H'→Q (.ref t) H'):j5 K C CS [.int 1,.str (Txt.join ":" ws)] H Q E:=
 qh g (by rw [e];exact h)
theorem yH:aB ["_law_cell", "_law_way", "_law_number", "_law_grant"] ["_law_cell"] (aj (top 52)):=by walk_at "s"
def yh:Sp:=fun vs H Q _=>∃ (p:Addr) (b:Int),vs=[.ref p]∧bw H p b∧b≤10000000∧∀ t l H',fT H' t l→p6 l→bw H' p (b+7168)→Oth p H H'→Q (.ref t) H'
theorem zD (D:Dat K mg "_law_line" "_law_line" (top 52) ["_law_cell"]) (BT:Bt mg) (NE:bN CX) (au:Cal P w K mg base CX "_law_pick" 11 ["_law_hand_here", "_law_many"] iC):Cal P w K mg base CX "_law_line" 12 ["_law_cell"] yh:=by
 have S:=yH
 walk_at "d"
 ·obtain ⟨p,b,rfl,_⟩:=h
  rfl
 obtain ⟨p,b,rfl,hh,hb,q⟩:=h
 refine ⟨_,(@ai _ _ _ _ _ (@aM _ _ 1 _ _ _ _ S.nd rfl (by first | exact Or.inl rfl | exact Or.inr rfl) (@aI _ _ _ _ _ _ _ _ _ _ _ _ au (hr.mono (by first | decide | omega)) NE.pass (@aa _ _ _ _ _ (@pv _ 0 _ _ (by rfl) (by first | exact Or.inl rfl | exact Or.inr (Or.inl rfl) | exact Or.inr (Or.inr rfl)) (by decide) (by decide)) (@aa _ _ _ _ _ (@ah _ _ _ _) (@af _) (by rfl)) (by rfl)) (by rfl) (by decide) (by rfl) (by rfl)) (by rfl) (by first | exact .inl rfl | exact .inr rfl | assumption)) (@ai _ _ _ _ _ (@aM _ _ 2 _ _ _ _ S.nd rfl (by first | exact Or.inl rfl | exact Or.inr rfl) (@aI _ _ _ _ _ _ _ _ _ _ _ _ au (hr.mono (by first | decide | omega)) NE.pass (@aa _ _ _ _ _ (@pv _ 0 _ _ (by rfl) (by first | exact Or.inl rfl | exact Or.inr (Or.inl rfl) | exact Or.inr (Or.inr rfl)) (by decide) (by decide)) (@aa _ _ _ _ _ (@aL _ _ _ _ _ _ _ (@aK _) (@bC _ _ _ _ (@aa _ _ _ _ _ (@ah _ _ _ _) (@aa _ _ _ _ _ (@ah _ _ _ _) (@aa _ _ _ _ _ (@aG _ _ _ _ _ _ _ _ (@dc _) (@ah _ _ _ _) (@ah _ _ _ _)) (@af _) (by rfl)) (by rfl)) (by rfl))) (@aI _ _ _ _ _ _ _ _ _ _ _ _ au (hr.mono (by first | decide | omega)) NE.pass (@aa _ _ _ _ _ (@pv _ 0 _ _ (by rfl) (by first | exact Or.inl rfl | exact Or.inr (Or.inl rfl) | exact Or.inr (Or.inr rfl)) (by decide) (by decide)) (@aa _ _ _ _ _ (@ah _ _ _ _) (@af _) (by rfl)) (by rfl)) (by rfl) (by decide) (by rfl) (by rfl)) (fun _ _=>rfl)) (@af _) (by rfl)) (by rfl)) (by rfl) (by decide) (by rfl) (by rfl)) (by rfl) (by first | exact .inl rfl | exact .inr rfl | assumption)) (@ai _ _ _ _ _ (@aM _ _ 3 _ _ _ _ S.nd rfl (by first | exact Or.inl rfl | exact Or.inr rfl) (@aG _ _ _ _ _ _ _ _ (@cu _) (@ah _ _ _ _) (@aI _ _ _ _ _ _ _ _ _ _ _ _ au (hr.mono (by first | decide | omega)) NE.pass (@aa _ _ _ _ _ (@pv _ 0 _ _ (by rfl) (by first | exact Or.inl rfl | exact Or.inr (Or.inl rfl) | exact Or.inr (Or.inr rfl)) (by decide) (by decide)) (@aa _ _ _ _ _ (@aL _ _ _ _ _ _ _ (@aK _) (@bC _ _ _ _ (@aa _ _ _ _ _ (@ah _ _ _ _) (@aa _ _ _ _ _ (@aG _ _ _ _ _ _ _ _ (@dc _) (@ah _ _ _ _) (@ah _ _ _ _)) (@af _) (by rfl)) (by rfl))) (@aI _ _ _ _ _ _ _ _ _ _ _ _ au (hr.mono (by first | decide | omega)) NE.pass (@aa _ _ _ _ _ (@pv _ 0 _ _ (by rfl) (by first | exact Or.inl rfl | exact Or.inr (Or.inl rfl) | exact Or.inr (Or.inr rfl)) (by decide) (by decide)) (@aa _ _ _ _ _ (@ah _ _ _ _) (@af _) (by rfl)) (by rfl)) (by rfl) (by decide) (by rfl) (by rfl)) (fun _ _=>rfl)) (@af _) (by rfl)) (by rfl)) (by rfl) (by decide) (by rfl) (by rfl))) (by rfl) (by first | exact .inl rfl | exact .inr rfl | assumption)) (@ai _ _ _ _ _ (@br _ _ _ _ _ _ _ _ (@aJ _ _ _ _ _ _ _ _ (@cM _) (@pv _ 1 _ _ (by rfl) (by first | exact Or.inl rfl | exact Or.inr (Or.inl rfl) | exact Or.inr (Or.inr rfl)) (by decide) (by decide)) (@ah _ _ _ _) (@aH _ _ (by decide) (by decide))) (@ak _ _ _ (@av _ _ _ _ (@aP _ _ _ _ _ (@aa _ _ _ _ _ (@aq _ _ _ _) (@aa _ _ _ _ _ (@pv _ 3 _ _ (by rfl) (by first | exact Or.inl rfl | exact Or.inr (Or.inl rfl) | exact Or.inr (Or.inr rfl)) (by decide) (by decide)) (@aa _ _ _ _ _ (@aP _ _ _ _ _ (@aa _ _ _ _ _ (@aI _ _ _ _ _ _ _ _ _ _ _ _ au (hr.mono (by first | decide | omega)) NE.pass (@aa _ _ _ _ _ (@pv _ 0 _ _ (by rfl) (by first | exact Or.inl rfl | exact Or.inr (Or.inl rfl) | exact Or.inr (Or.inr rfl)) (by decide) (by decide)) (@aa _ _ _ _ _ (@ah _ _ _ _) (@af _) (by rfl)) (by rfl)) (by rfl) (by decide) (by rfl) (by rfl)) (@aa _ _ _ _ _ (@pv _ 2 _ _ (by rfl) (by first | exact Or.inl rfl | exact Or.inr (Or.inl rfl) | exact Or.inr (Or.inr rfl)) (by decide) (by decide)) (@aa _ _ _ _ _ (@aG _ _ _ _ _ _ _ _ (@cu _) (@pv _ 2 _ _ (by rfl) (by first | exact Or.inl rfl | exact Or.inr (Or.inl rfl) | exact Or.inr (Or.inr rfl)) (by decide) (by decide)) (@aI _ _ _ _ _ _ _ _ _ _ _ _ au (hr.mono (by first | decide | omega)) NE.pass (@aa _ _ _ _ _ (@pv _ 0 _ _ (by rfl) (by first | exact Or.inl rfl | exact Or.inr (Or.inl rfl) | exact Or.inr (Or.inr rfl)) (by decide) (by decide)) (@aa _ _ _ _ _ (@ah _ _ _ _) (@af _) (by rfl)) (by rfl)) (by rfl) (by decide) (by rfl) (by rfl))) (@af _) (by rfl)) (by rfl)) (by rfl))) (@af _) (by rfl)) (by rfl)) (by rfl))))) (@aF _)) (@ai _ _ _ _ _ (@br _ _ _ _ _ _ _ _ (@aJ _ _ _ _ _ _ _ _ (@cM _) (@pv _ 1 _ _ (by rfl) (by first | exact Or.inl rfl | exact Or.inr (Or.inl rfl) | exact Or.inr (Or.inr rfl)) (by decide) (by decide)) (@ah _ _ _ _) (@aH _ _ (by decide) (by decide))) (@ak _ _ _ (@av _ _ _ _ (@aP _ _ _ _ _ (@aa _ _ _ _ _ (@aq _ _ _ _) (@aa _ _ _ _ _ (@pv _ 3 _ _ (by rfl) (by first | exact Or.inl rfl | exact Or.inr (Or.inl rfl) | exact Or.inr (Or.inr rfl)) (by decide) (by decide)) (@aa _ _ _ _ _ (@pv _ 2 _ _ (by rfl) (by first | exact Or.inl rfl | exact Or.inr (Or.inl rfl) | exact Or.inr (Or.inr rfl)) (by decide) (by decide)) (@af _) (by rfl)) (by rfl)) (by rfl))))) (@aF _)) (@ak _ _ _ (@av _ _ _ _ (@aP _ _ _ _ _ (@aa _ _ _ _ _ (@aL _ _ _ _ _ _ _ (@aK _) (@bC _ _ _ _ (@aa _ _ _ _ _ (@aq _ _ _ _) (@aa _ _ _ _ _ (@aq _ _ _ _) (@af _) (by rfl)) (by rfl))) (@aG _ _ _ _ _ _ _ _ (@Eb _) (@pv _ 1 _ _ (by rfl) (by first | exact Or.inl rfl | exact Or.inr (Or.inl rfl) | exact Or.inr (Or.inr rfl)) (by decide) (by decide)) (@ah _ _ _ _)) (fun _ _=>rfl)) (@aa _ _ _ _ _ (@pv _ 2 _ _ (by rfl) (by first | exact Or.inl rfl | exact Or.inr (Or.inl rfl) | exact Or.inr (Or.inr rfl)) (by decide) (by decide)) (@af _) (by rfl)) (by rfl)))))))))),?_⟩
 try dsimp only [bM]
 have L:=bB hh
 walk_at "go"
 refine aT L .head (by decide) (by decide) (by omega) fun r1 H1 a0 a1 L _=>?_
 walk_at "go"
 refine aT L' (by walk_at "put") (by decide) (by decide) (by omega) fun r2 H2 b0 b1 L _=>?_
 walk_at "go"
 refine gk L .head b0 (by simp only [List.length_cons,List.length_nil];omega) fun v hv=>?_
 obtain ⟨m,rfl,m0,m1⟩:∃ m:Int,v = .int m∧0 < m∧m≤10000000000000000000000000000000:=by
  simp only [List.mem_cons,List.not_mem_nil,or_false] at hv
  rcases hv with rfl | rfl | rfl
  ·exact ⟨_,rfl,by decide +kernel,by decide +kernel⟩
  ·exact ⟨_,rfl,by decide +kernel,by decide +kernel⟩
  ·exact ⟨_,rfl,by decide +kernel,by decide +kernel⟩
 have h2:=(aO.at (L.at_ (p,aO _) (by walk_at "mem"))).mono (show _≤b+2048 by omega)
 have o2:Oth p H H2:=L.fr
 clear L L'
 have L:=bB h2
 walk_at "go"
 refine aT L .head m0 (by omega) (by omega) fun nu H3 c0 c1 L _=>?_
 walk_at "go"
 refine aT L' (by walk_at "put") (by decide) (by decide) (by omega) fun r3 H4 d0 d1 L _=>?_
 walk_at "go"
 refine gk L .head d0 (by simp only [List.length_cons,List.length_nil];omega) fun v hv=>?_
 obtain ⟨m',rfl,m0',m1'⟩:∃ m:Int,v = .int m∧0 < m∧m≤1000000000:=by
  simp only [List.mem_cons,List.not_mem_nil,or_false] at hv
  rcases hv with rfl | rfl
  ·exact ⟨_,rfl,by decide +kernel,by decide +kernel⟩
  ·exact ⟨_,rfl,by decide +kernel,by decide +kernel⟩
 have h4:=(aO.at (L.at_ (p,aO _) (by walk_at "mem"))).mono (show _≤b+4096 by omega)
 have o4:Oth p H H4:=o2.trans L.fr
 clear L L'
 have L:=bB h4
 walk_at "go"
 refine aT L .head m0' (by omega) (by omega) fun gr H5 e0 e1 L _=>?_
 have h5:=(aO.at (L.at_ (p,aO _) (by walk_at "mem"))).mono (show _≤b+5120 by omega)
 have o5:Oth p H H5:=o4.trans L.fr
 clear L
 have L:=bB h5
 have p34:(10000000000000000000000000000000:Int)+40 < 10 ^ 34:=by decide +kernel
 have p9:(1000000000:Int)+1 < 10 ^ 34:=by decide +kernel
 obtain ⟨n,rfl⟩:=Int.eq_ofNat_of_zero_le c0
 obtain ⟨g,rfl⟩:=Int.eq_ofNat_of_zero_le e0
 have IS:n+40 < 10 ^ 34:=by
  have:(n:Int)+40 < 10 ^ 34:=by omega
  exact_mod_cast this
 have GC:g+1 < 10 ^ 34:=by
  have:(g:Int)+1 < 10 ^ 34:=by omega
  exact_mod_cast this
 have eg:(1:Int)+(g:Int)=((g+1:Nat):Int):=by omega
 walk_at "go"
 rw [eg]
 refine bW (fun w0=>?_) (fun w0=>?_)
 ·walk_at "go"
  refine aT L .head (by decide) (by decide) (by omega) fun sl H6 f0 f1 L _=>?_
  walk_at "go"
  refine aT L .head (by decide) (by decide) (by omega) fun mo H7 g0 g1 L _=>?_
  obtain ⟨sl,rfl⟩:=Int.eq_ofNat_of_zero_le f0
  obtain ⟨mo,rfl⟩:=Int.eq_ofNat_of_zero_le g0
  have em:(n:Int)+(mo:Int)=((n+mo:Nat):Int):=by omega
  walk_at "go"
  rw [em] at *
  have hto:=L'.tup (r:=t') (by walk_at "mem")
  have hti:=L'.tup (List.mem_cons_of_mem _ List.mem_cons_self)
  have IM:(1000:Nat) < 10 ^ 34:=by decide +kernel
  exact q t' (.took (g+1) sl n (n+mo)) _ ⟨_,hto,hti⟩ ⟨by omega,GC,⟨by omega,by omega,by omega⟩,by omega⟩ ((aO.at (L'.at_ (p,aO _) (by walk_at "mem"))).mono (by omega)) (o5.trans L'.fr)
 walk_at "go"
 refine bW (fun w3=>?_) (fun w3=>?_)
 ·walk_at "go"
  have hto:=L'.tup (r:=t') (by walk_at "mem")
  exact q t' (.ends (g+1) n) _ hto ⟨by omega,GC,by omega⟩ ((aO.at (L'.at_ (p,aO _) (by walk_at "mem"))).mono (by omega)) (o5.trans L'.fr)
 obtain rfl | rfl:r1=1∨r1=2:=by omega
 ·walk_at "go"
  have hto:=L'.tup (r:=t') (by walk_at "mem")
  exact q t' (.held n) _ hto (show n < 10 ^ 34 by omega) ((aO.at (L'.at_ (p,aO _) (by walk_at "mem"))).mono (by omega)) (o5.trans L'.fr)
 ·walk_at "go"
  have hto:=L'.tup (r:=t') (by walk_at "mem")
  exact q t' (.heard n) _ hto (show n < 10 ^ 34 by omega) ((aO.at (L'.at_ (p,aO _) (by walk_at "mem"))).mono (by omega)) (o5.trans L'.fr)
theorem DP:aB ["_law_line_here"] ["_law_line_here"] (aj (top 53)):=by walk_at "s"
def qy:Sp:=fun vs H Q _=>∃ (t:Addr) (l:Ln),vs=[.ref t]∧fT H t l∧p6 l∧∀ lw H',H' lw=some (.lst ((lnW l).map V.str))→az H H'→Q (.ref lw) H'
theorem wY {H:Hp} {t:Addr} {l:Ln} (h:fT H t l) (ho:p6 l) (hn:∀ g a b c,l≠.took g a b c):∃ xs:List V,H t=some (.tup xs)∧xs.map su=lnW l∧(∀ v∈xs,PrV v)∧xs.length≤3∧∃ k,xs.head?=some (.str k)∧k ≠ "took" := by
 cases l with
 | took g a b c=>exact absurd rfl (hn g a b c)
 | held n=>
  refine ⟨_,h,rfl,fun v hv=>?_,by simp,_,rfl,by decide +kernel⟩
  simp only [List.mem_cons,List.not_mem_nil,or_false] at hv
  rcases hv with rfl | rfl
  ·show ("held" : Str).length≤150
   decide +kernel
  ·exact bI ho
 | heard n=>
  refine ⟨_,h,rfl,fun v hv=>?_,by simp,_,rfl,by decide +kernel⟩
  simp only [List.mem_cons,List.not_mem_nil,or_false] at hv
  rcases hv with rfl | rfl
  ·show ("heard" : Str).length≤150
   decide +kernel
  ·exact bI ho
 | ends g n=>
  refine ⟨_,h,rfl,fun v hv=>?_,by simp,_,rfl,by decide +kernel⟩
  simp only [List.mem_cons,List.not_mem_nil,or_false] at hv
  rcases hv with rfl | rfl | rfl
  ·show ("ends" : Str).length≤150
   decide +kernel
  ·exact bI ho.2.1
  ·exact bI ho.2.2
theorem Ei (D:Dat K mg "_law_line_words" "_law_line_words" (top 53) ["_law_line_here"]) (BT:Bt mg) (NE:bN CX):Cal P w K mg base CX "_law_line_words" 1 ["_law_line_here"] qy:=by
 have S:=DP
 walk_at "d"
 ·obtain ⟨t,l,rfl,_⟩:=h
  rfl
 obtain ⟨t,l,rfl,hl,ho,q⟩:=h
 refine ⟨_,(@ai _ _ _ _ _ (@br _ _ _ _ _ _ _ _ (@aJ _ _ _ _ _ _ _ _ (@cM _) (@aL _ _ _ _ _ _ _ (@bU _) (@pv _ 0 _ _ (by rfl) (by first | exact Or.inl rfl | exact Or.inr (Or.inl rfl) | exact Or.inr (Or.inr rfl)) (by decide) (by decide)) (@ah _ _ _ _) (fun _ _=>rfl)) (@aq _ _ _ _) (@aH _ _ (by decide) (by decide))) (@ak _ _ _ (@av _ _ _ _ (@bC _ _ _ _ (@aa _ _ _ _ _ (@aq _ _ _ _) (@aa _ _ _ _ _ (@b9 _ _ _ _ _ _ _ _ _ jT rfl BT.str_ L3.ee (@aa _ _ _ _ _ (@aL _ _ _ _ _ _ _ (@bU _) (@pv _ 0 _ _ (by rfl) (by first | exact Or.inl rfl | exact Or.inr (Or.inl rfl) | exact Or.inr (Or.inr rfl)) (by decide) (by decide)) (@ah _ _ _ _) (fun _ _=>rfl)) (@af _) (by rfl)) (by decide) (by decide) (by rfl) (by rfl)) (@aa _ _ _ _ _ (@dX _ _ _ _ _ _ _ _ _ _ _ _ PySem.F.plainAttrs_str PySem.F.slot_str_join PySem.F.type_str_join (@gg _) (@aq _ _ _ _) (@aa _ _ _ _ _ (@eS _ _ _ _ _ _ _ _ _ _ (aS 0) _ _ rfl (@sX _ _ _ _ (@aL _ _ _ _ _ _ _ (@bU _) (@pv _ 0 _ _ (by rfl) (by first | exact Or.inl rfl | exact Or.inr (Or.inl rfl) | exact Or.inr (Or.inr rfl)) (by decide) (by decide)) (@ah _ _ _ _) (fun _ _=>rfl))) (@eY _ _ ["_law_number"] [] (aj (top 53)).names ["_law_line_here"] rfl rfl rfl (by decide +kernel)) (fun _ _ _ _=>(@bL _ _ 0 _ (show (jW ["_law_line_here"] ["_law_number"] []).Nodup by decide +kernel) rfl (by first | exact Or.inl rfl | exact Or.inr rfl) (by first | exact .inl rfl | exact .inr rfl | assumption))) (fun _ _ _ _=>(@cN _)) (fun _ _ _ _=>(@b9 _ _ _ _ _ _ _ _ _ jT rfl BT.str_ L3.ee (@aa _ _ _ _ _ (@pv _ 0 _ _ (by rfl) (by first | exact Or.inl rfl | exact Or.inr (Or.inl rfl) | exact Or.inr (Or.inr rfl)) (by decide) (by decide)) (@af _) (by rfl)) (by decide) (by decide) (by rfl) (by rfl))) (by intro _;rfl)) (@af _) (by rfl)) (by rfl) (by rfl) (by rfl) (by rfl) (by rfl)) (@af _) (by rfl)) (by rfl)) (by rfl))))) (@aF _)) (@ak _ _ _ (@av _ _ _ _ (@eS _ _ _ _ _ _ _ _ _ _ (aS 0) _ _ rfl (@sX _ _ _ _ (@pv _ 0 _ _ (by rfl) (by first | exact Or.inl rfl | exact Or.inr (Or.inl rfl) | exact Or.inr (Or.inr rfl)) (by decide) (by decide))) (@eY _ _ ["_law_thing"] [] (aj (top 53)).names ["_law_line_here"] rfl rfl rfl (by decide +kernel)) (fun _ _ _ _=>(@bL _ _ 0 _ (show (jW ["_law_line_here"] ["_law_thing"] []).Nodup by decide +kernel) rfl (by first | exact Or.inl rfl | exact Or.inr rfl) (by first | exact .inl rfl | exact .inr rfl | assumption))) (fun _ _ _ _=>(@cN _)) (fun _ _ _ _=>(@b9 _ _ _ _ _ _ _ _ _ jT rfl BT.str_ L3.ee (@aa _ _ _ _ _ (@pv _ 0 _ _ (by rfl) (by first | exact Or.inl rfl | exact Or.inr (Or.inl rfl) | exact Or.inr (Or.inr rfl)) (by decide) (by decide)) (@af _) (by rfl)) (by decide) (by decide) (by rfl) (by rfl))) (by intro _;rfl))))),?_⟩
 try dsimp only [bM]
 by_cases hk:∃ g a b c,l = .took g a b c
 ·obtain ⟨g,a,b,c,rfl⟩:=hk
  obtain ⟨ta,ht,hta⟩:=hl
  have L:=Led.start H (fun _=>False)
  walk_at "go"
  refine cJ (SqT.of ht) rfl ?_
  walk_at "go"
  refine cJ (SqT.of ht) rfl ?_
  walk_at "go"
  refine gI (bI ho.2.1) ?_
  walk_at "go"
  refine cJ (SqT.of ht) rfl ?_
  walk_at "go"
  refine pH (SqT.of hta) ?_
  refine kO (nV [a,b,c]) (fun i ys Hx=>ys=(([a,b,c].take i).map aX).map V.str∧Hx=H) ⟨rfl,rfl⟩ (fun i ys Hx hi ⟨e,e2⟩=>⟨e2▸SqT.of hta,by rw [e,List.length_map,List.length_map,List.length_take];exact Nat.le_of_lt (small1000 (by simp only [List.length_cons,List.length_nil];omega))⟩) ?_ ?_
  ·rintro i y ys Hx hy ⟨rfl,rfl⟩
   unfold nV at hy
   rw [List.getElem?_map] at hy
   cases en:([a,b,c]:List Nat)[i]? with
   | none=>rw [en] at hy;cases hy
   | some n=>
    rw [en] at hy
    cases hy
    have hn:n < 10 ^ 34:=by
     have:=List.mem_of_getElem? en
     simp only [List.mem_cons,List.not_mem_nil,or_false] at this
     rcases this with rfl | rfl | rfl
     ·exact ho.2.2.1.a
     ·exact ho.2.2.1.b
     ·exact ho.2.2.1.c
    try dsimp only [aS]
    walk_at "go"
    refine gI (bI hn) ?_
    walk_at "go"
    exact ⟨by rw [List.take_add_one,en,Option.toList,List.map_append,List.map_append];rfl,rfl⟩
  rintro ys Hx ⟨rfl,rfl⟩ lc nlc
  rw [show (List.take (nV [a,b,c]).length [a,b,c])=[a,b,c] from rfl]
  have l1:=bP ho.2.2.1.a
  have l2:=bP ho.2.2.1.b
  have l3:=bP ho.2.2.1.c
  have cm:(Str.ofString ",").length=1:=by decide +kernel
  walk_at "go"
  refine tR (ys:=[a,b,c].map aX) (SqL.of ao) (by rw [cm];simp only [List.map_cons,List.map_nil,List.sum_cons,List.sum_nil,List.length_cons,List.length_nil];omega) ?_
  have s1:=bG nlc (.lst (([a,b,c].map aX).map V.str))
  generalize upd Hx lc (.lst (([a,b,c].map aX).map V.str))=H2 at *
  clear L
  have L:=Led.start H2 (fun _=>False)
  walk_at "go"
  exact q _ _ (L'.eo .head) (s1.trans L'.same)
 ·obtain ⟨xs,ht,ew,hp,h3,k,hk0,hkt⟩:=wY hl ho fun g a b c e=>hk ⟨g,a,b,c,e⟩
  obtain ⟨r,rfl⟩:∃ r,xs = .str k::r:=by
   cases xs with
   | nil=>cases hk0
   | cons y r=>cases hk0;exact ⟨r,rfl⟩
  have L:=Led.start H (fun _=>False)
  walk_at "go"
  refine cJ (SqT.of ht) (fN (j:=0) rfl) ?_
  walk_at "go"
  refine pH (SqT.of ht) ?_
  refine kO (.str k::r) (fun i ys Hx=>ys=(((V.str k::r).take i).map su).map V.str∧Hx=H) ⟨rfl,rfl⟩ (fun i ys Hx hi ⟨e,e2⟩=>⟨e2▸SqT.of ht,by rw [e,List.length_map,List.length_map,List.length_take];exact Nat.le_of_lt (small1000 (by omega))⟩) ?_ ?_
  ·rintro i y ys Hx hy ⟨rfl,rfl⟩
   try dsimp only [aS]
   walk_at "go"
   refine gI (hp y (List.mem_of_getElem? hy)) ?_
   walk_at "go"
   exact ⟨by rw [List.take_add_one,hy,Option.toList,List.map_append,List.map_append];rfl,rfl⟩
  rintro ys Hx ⟨rfl,rfl⟩ lc nlc
  rw [List.take_length,ew]
  walk_at "go"
  exact q _ _ ao (bG nlc _)
theorem yI:aB ["_law_cell", "_law_line_here", "_law_words", "_law_text", "_law_odd", "_law_at", "_law_other"] ["_law_cell"] (aj (top 54)):=by walk_at "s"
def uQ:Sp:=fun vs H Q _=>∃ (p:Addr) (b:Int),vs=[.ref p]∧bw H p b∧b≤9000000∧∀ H',bw H' p (b+9216)→Oth p H H'→Q (.bl true) H'
theorem zI (l:Ln):∃ x,x∈lnW l∧jh ((lnW l).map V.str) (some (-1)) none=[x].map V.str:=by
 cases l with
 | held n=>exact ⟨aX n,by simp [lnW],by with_unfolding_all rfl⟩
 | heard n=>exact ⟨aX n,by simp [lnW],by with_unfolding_all rfl⟩
 | took g a b c=>exact ⟨fQ a b c,by simp [lnW],by with_unfolding_all rfl⟩
 | ends g n=>exact ⟨aX n,by simp [lnW],by with_unfolding_all rfl⟩
theorem fT.head {H:Hp} {t:Addr} {l:Ln} (h:fT H t l):∃ (k:Str) (r:List V),H t=some (.tup (.str k::r))∧(k∈[("took" : Str), "ends"]→∃ x y,lnW l=[k,x,y]∧bZ [k, "0",y]=none):=by
 cases l with
 | held n=>exact ⟨_,_,h,fun z=>absurd z (by decide +kernel)⟩
 | heard n=>exact ⟨_,_,h,fun z=>absurd z (by decide +kernel)⟩
 | took g a b c=>
  obtain ⟨ta,h1,h2⟩:=h
  exact ⟨_,_,h1,fun _=>⟨aX g,fQ a b c,rfl,(nE _).1⟩⟩
 | ends g n=>exact ⟨_,_,h,fun _=>⟨aX g,aX n,rfl,(nE _).2⟩⟩
theorem zE (D:Dat K mg "_law_line_good" "_law_line_good" (top 54) ["_law_cell"]) (BT:Bt mg) (NE:bN (CX1 P w)) (au:Cal P w K mg base (CX1 P w) "_law_pick" 11 ["_law_hand_here", "_law_many"] iC) (rF:Cal P w K mg base (CX1 P w) "_law_line" 12 ["_law_cell"] yh) (jk:Cal P w K mg base (CX1 P w) "_law_line_words" 1 ["_law_line_here"] qy) (rC:Cal P w K mg base (CX1 P w) "line_text" 2 ["line"] qw) (bE:Cal P w K mg base (CX1 P w) "_law_asked" 9 ["_law_way", "_law_thing"] (j5 K C CS)):Cal P w K mg base (CX1 P w) "_law_line_good" 13 ["_law_cell"] uQ:=by
 have S:=yI
 walk_at "d"
 ·obtain ⟨p,b,rfl,_⟩:=h
  rfl
 obtain ⟨p,b,rfl,hh,hb,q⟩:=h
 refine ⟨_,(@ai _ _ _ _ _ (@aM _ _ 1 _ _ _ _ S.nd rfl (by first | exact Or.inl rfl | exact Or.inr rfl) (@aI _ _ _ _ _ _ _ _ _ _ _ _ rF (hr.mono (by first | decide | omega)) NE.pass (@aa _ _ _ _ _ (@pv _ 0 _ _ (by rfl) (by first | exact Or.inl rfl | exact Or.inr (Or.inl rfl) | exact Or.inr (Or.inr rfl)) (by decide) (by decide)) (@af _) (by rfl)) (by rfl) (by decide) (by rfl) (by rfl)) (by rfl) (by first | exact .inl rfl | exact .inr rfl | assumption)) (@ai _ _ _ _ _ (@aM _ _ 2 _ _ _ _ S.nd rfl (by first | exact Or.inl rfl | exact Or.inr rfl) (@aI _ _ _ _ _ _ _ _ _ _ _ _ jk (hr.mono (by first | decide | omega)) NE.pass (@aa _ _ _ _ _ (@pv _ 1 _ _ (by rfl) (by first | exact Or.inl rfl | exact Or.inr (Or.inl rfl) | exact Or.inr (Or.inr rfl)) (by decide) (by decide)) (@af _) (by rfl)) (by rfl) (by decide) (by rfl) (by rfl)) (by rfl) (by first | exact .inl rfl | exact .inr rfl | assumption)) (@ai _ _ _ _ _ (@aM _ _ 3 _ _ _ _ S.nd rfl (by first | exact Or.inl rfl | exact Or.inr rfl) (@dX _ _ _ _ _ _ _ _ _ _ _ _ PySem.F.plainAttrs_str PySem.F.slot_str_join PySem.F.type_str_join (@gg _) (@aq _ _ _ _) (@aa _ _ _ _ _ (@pv _ 2 _ _ (by rfl) (by first | exact Or.inl rfl | exact Or.inr (Or.inl rfl) | exact Or.inr (Or.inr rfl)) (by decide) (by decide)) (@af _) (by rfl)) (by rfl) (by rfl) (by rfl) (by rfl) (by rfl)) (by rfl) (by first | exact .inl rfl | exact .inr rfl | assumption)) (@ai _ _ _ _ _ (@br _ _ _ _ _ _ _ _ (@PW.pt _ _ _ (@j6 _ _ _ _ _ _ _ (@aJ _ _ _ _ _ _ _ _ (@j7 _) (@aI _ _ _ _ _ _ _ _ _ _ _ _ rC (hr.mono (by first | decide | omega)) NE.pass (@aa _ _ _ _ _ (@pv _ 1 _ _ (by rfl) (by first | exact Or.inl rfl | exact Or.inr (Or.inl rfl) | exact Or.inr (Or.inr rfl)) (by decide) (by decide)) (@af _) (by rfl)) (by rfl) (by decide) (by rfl) (by rfl)) (@pv _ 3 _ _ (by rfl) (by first | exact Or.inl rfl | exact Or.inr (Or.inl rfl) | exact Or.inr (Or.inr rfl)) (by decide) (by decide)) (@aH _ _ (by decide) (by decide))) (@iD _ _ _ _ (@aJ _ _ _ _ _ _ _ _ (@jG _ (hr.mono (Nat.zero_le _))) (@aI _ _ _ _ _ _ _ _ _ _ _ _ bE (hr.mono (by first | decide | omega)) NE.pass (@aa _ _ _ _ _ (@ah _ _ _ _) (@aa _ _ _ _ _ (@pv _ 3 _ _ (by rfl) (by first | exact Or.inl rfl | exact Or.inr (Or.inl rfl) | exact Or.inr (Or.inr rfl)) (by decide) (by decide)) (@af _) (by rfl)) (by rfl)) (by rfl) (by decide) (by rfl) (by rfl)) (@aP _ _ _ _ _ (@aa _ _ _ _ _ (@aq _ _ _ _) (@aa _ _ _ _ _ (@pv _ 1 _ _ (by rfl) (by first | exact Or.inl rfl | exact Or.inr (Or.inl rfl) | exact Or.inr (Or.inr rfl)) (by decide) (by decide)) (@af _) (by rfl)) (by rfl))) (@aH _ _ (by decide) (by decide)))))) (@ak _ _ _ (@av _ _ _ _ (@cO _ _ _ _))) (@aF _)) (@ai _ _ _ _ _ (@aM _ _ 4 _ _ _ _ S.nd rfl (by first | exact Or.inl rfl | exact Or.inr rfl) (@aL _ _ _ _ _ _ _ (@aK _) (@bC _ _ _ _ (@aa _ _ _ _ _ (@aq _ _ _ _) (@aa _ _ _ _ _ (@aq _ _ _ _) (@aa _ _ _ _ _ (@aq _ _ _ _) (@aa _ _ _ _ _ (@aq _ _ _ _) (@aa _ _ _ _ _ (@aq _ _ _ _) (@aa _ _ _ _ _ (@aq _ _ _ _) (@af _) (by rfl)) (by rfl)) (by rfl)) (by rfl)) (by rfl)) (by rfl))) (@aI _ _ _ _ _ _ _ _ _ _ _ _ au (hr.mono (by first | decide | omega)) NE.pass (@aa _ _ _ _ _ (@pv _ 0 _ _ (by rfl) (by first | exact Or.inl rfl | exact Or.inr (Or.inl rfl) | exact Or.inr (Or.inr rfl)) (by decide) (by decide)) (@aa _ _ _ _ _ (@ah _ _ _ _) (@af _) (by rfl)) (by rfl)) (by rfl) (by decide) (by rfl) (by rfl)) (fun _ _=>rfl)) (by rfl) (by first | exact .inl rfl | exact .inr rfl | assumption)) (@ai _ _ _ _ _ (@aM _ _ 5 _ _ _ _ S.nd rfl (by first | exact Or.inl rfl | exact Or.inr rfl) (@aI _ _ _ _ _ _ _ _ _ _ _ _ au (hr.mono (by first | decide | omega)) NE.pass (@aa _ _ _ _ _ (@pv _ 0 _ _ (by rfl) (by first | exact Or.inl rfl | exact Or.inr (Or.inl rfl) | exact Or.inr (Or.inr rfl)) (by decide) (by decide)) (@aa _ _ _ _ _ (@aW _ _ _ _ _ _ _ _ _ (@iA _) rfl BT.len L3.cT (@aa _ _ _ _ _ (@pv _ 2 _ _ (by rfl) (by first | exact Or.inl rfl | exact Or.inr (Or.inl rfl) | exact Or.inr (Or.inr rfl)) (by decide) (by decide)) (@af _) (by rfl)) (by decide) (by decide) (by rfl) (by rfl)) (@af _) (by rfl)) (by rfl)) (by rfl) (by decide) (by rfl) (by rfl)) (by rfl) (by first | exact .inl rfl | exact .inr rfl | assumption)) (@ai _ _ _ _ _ (@oY _ _ _ _ _ _ _ _ PassesOwn.never rfl (@fE _ _ _ _ (@bC _ _ _ _ (@aa _ _ _ _ _ (@aG _ _ _ _ _ _ _ _ (@dY _) (@bO _ _ _ _ _ _ _ _ _ _ (@cC _) (@pv _ 2 _ _ (by rfl) (by first | exact Or.inl rfl | exact Or.inr (Or.inl rfl) | exact Or.inr (Or.inr rfl)) (by decide) (by decide)) (@b6 _) (@b5 _ _ _ (@pv _ 5 _ _ (by rfl) (by first | exact Or.inl rfl | exact Or.inr (Or.inl rfl) | exact Or.inr (Or.inr rfl)) (by decide) (by decide)))) (@bO _ _ _ _ _ _ _ _ _ _ (@cC _) (@pv _ 2 _ _ (by rfl) (by first | exact Or.inl rfl | exact Or.inr (Or.inl rfl) | exact Or.inr (Or.inr rfl)) (by decide) (by decide)) (@b5 _ _ _ (@aG _ _ _ _ _ _ _ _ (@cu _) (@pv _ 5 _ _ (by rfl) (by first | exact Or.inl rfl | exact Or.inr (Or.inl rfl) | exact Or.inr (Or.inr rfl)) (by decide) (by decide)) (@ah _ _ _ _))) (@b6 _))) (@aa _ _ _ _ _ (@aG _ _ _ _ _ _ _ _ (@dY _) (@aG _ _ _ _ _ _ _ _ (@dY _) (@bO _ _ _ _ _ _ _ _ _ _ (@cC _) (@pv _ 2 _ _ (by rfl) (by first | exact Or.inl rfl | exact Or.inr (Or.inl rfl) | exact Or.inr (Or.inr rfl)) (by decide) (by decide)) (@b6 _) (@b5 _ _ _ (@pv _ 5 _ _ (by rfl) (by first | exact Or.inl rfl | exact Or.inr (Or.inl rfl) | exact Or.inr (Or.inr rfl)) (by decide) (by decide)))) (@bC _ _ _ _ (@aa _ _ _ _ _ (@pv _ 4 _ _ (by rfl) (by first | exact Or.inl rfl | exact Or.inr (Or.inl rfl) | exact Or.inr (Or.inr rfl)) (by decide) (by decide)) (@af _) (by rfl)))) (@bO _ _ _ _ _ _ _ _ _ _ (@cC _) (@pv _ 2 _ _ (by rfl) (by first | exact Or.inl rfl | exact Or.inr (Or.inl rfl) | exact Or.inr (Or.inr rfl)) (by decide) (by decide)) (@b5 _ _ _ (@aG _ _ _ _ _ _ _ _ (@cu _) (@pv _ 5 _ _ (by rfl) (by first | exact Or.inl rfl | exact Or.inr (Or.inl rfl) | exact Or.inr (Or.inr rfl)) (by decide) (by decide)) (@ah _ _ _ _))) (@b6 _))) (@aa _ _ _ _ _ (@aG _ _ _ _ _ _ _ _ (@dY _) (@pv _ 2 _ _ (by rfl) (by first | exact Or.inl rfl | exact Or.inr (Or.inl rfl) | exact Or.inr (Or.inr rfl)) (by decide) (by decide)) (@bO _ _ _ _ _ _ _ _ _ _ (@cC _) (@pv _ 2 _ _ (by rfl) (by first | exact Or.inl rfl | exact Or.inr (Or.inl rfl) | exact Or.inr (Or.inr rfl)) (by decide) (by decide)) (@b5 _ _ _ (@F9 _ _ _ _ _ _ (@DA _) (@ah _ _ _ _))) (@b6 _))) (@af _) (by rfl)) (by rfl)) (by rfl)))) (@bL _ _ 6 _ S.nd rfl (by first | exact Or.inl rfl | exact Or.inr rfl) (by first | exact .inl rfl | exact .inr rfl | assumption)) (@ak _ _ _ (@br _ _ _ _ _ _ _ _ (@aJ _ _ _ _ _ _ _ _ (@jG _ (hr.mono (Nat.zero_le _))) (@aI _ _ _ _ _ _ _ _ _ _ _ _ bE (hr.mono (by first | decide | omega)) NE.pass (@aa _ _ _ _ _ (@ah _ _ _ _) (@aa _ _ _ _ _ (@dX _ _ _ _ _ _ _ _ _ _ _ _ PySem.F.plainAttrs_str PySem.F.slot_str_join PySem.F.type_str_join (@gg _) (@aq _ _ _ _) (@aa _ _ _ _ _ (@pv _ 6 _ _ (by rfl) (by first | exact Or.inl rfl | exact Or.inr (Or.inl rfl) | exact Or.inr (Or.inr rfl)) (by decide) (by decide)) (@af _) (by rfl)) (by rfl) (by rfl) (by rfl) (by rfl) (by rfl)) (@af _) (by rfl)) (by rfl)) (by rfl) (by decide) (by rfl) (by rfl)) (@aP _ _ _ _ _ (@aa _ _ _ _ _ (@aq _ _ _ _) (@af _) (by rfl))) (@aH _ _ (by decide) (by decide))) (@ak _ _ _ (@av _ _ _ _ (@cO _ _ _ _))) (@aF _))) (by intro _;rfl)) (@ai _ _ _ _ _ (@br _ _ _ _ _ _ _ _ (@PW.pt _ _ _ (@sV _ _ _ _ _ _ _ (@aJ _ _ _ _ _ _ _ _ (@fh _) (@aL _ _ _ _ _ _ _ (@bU _) (@pv _ 1 _ _ (by rfl) (by first | exact Or.inl rfl | exact Or.inr (Or.inl rfl) | exact Or.inr (Or.inr rfl)) (by decide) (by decide)) (@ah _ _ _ _) (fun _ _=>rfl)) (@aP _ _ _ _ _ (@aa _ _ _ _ _ (@aq _ _ _ _) (@aa _ _ _ _ _ (@aq _ _ _ _) (@af _) (by rfl)) (by rfl))) (by with_unfolding_all rfl)) (@oX _ _ _ _ (@aJ _ _ _ _ _ _ _ _ (@jG _ (hr.mono (Nat.zero_le _))) (@aI _ _ _ _ _ _ _ _ _ _ _ _ bE (hr.mono (by first | decide | omega)) NE.pass (@aa _ _ _ _ _ (@ah _ _ _ _) (@aa _ _ _ _ _ (@dX _ _ _ _ _ _ _ _ _ _ _ _ PySem.F.plainAttrs_str PySem.F.slot_str_join PySem.F.type_str_join (@gg _) (@aq _ _ _ _) (@aa _ _ _ _ _ (@aG _ _ _ _ _ _ _ _ (@dY _) (@bC _ _ _ _ (@aa _ _ _ _ _ (@aL _ _ _ _ _ _ _ (@aK _) (@pv _ 2 _ _ (by rfl) (by first | exact Or.inl rfl | exact Or.inr (Or.inl rfl) | exact Or.inr (Or.inr rfl)) (by decide) (by decide)) (@ah _ _ _ _) (fun _ _=>rfl)) (@aa _ _ _ _ _ (@aq _ _ _ _) (@af _) (by rfl)) (by rfl))) (@bO _ _ _ _ _ _ _ _ _ _ (@cC _) (@pv _ 2 _ _ (by rfl) (by first | exact Or.inl rfl | exact Or.inr (Or.inl rfl) | exact Or.inr (Or.inr rfl)) (by decide) (by decide)) (@b5 _ _ _ (@ah _ _ _ _)) (@b6 _))) (@af _) (by rfl)) (by rfl) (by rfl) (by rfl) (by rfl) (by rfl)) (@af _) (by rfl)) (by rfl)) (by rfl) (by decide) (by rfl) (by rfl)) (@aP _ _ _ _ _ (@aa _ _ _ _ _ (@aq _ _ _ _) (@af _) (by rfl))) (@aH _ _ (by decide) (by decide)))))) (@ak _ _ _ (@av _ _ _ _ (@cO _ _ _ _))) (@aF _)) (@ak _ _ _ (@av _ _ _ _ (@cO _ _ _ _))))))))))),?_⟩
 try dsimp only [bM]
 walk_at "go"
 refine ⟨p,b,rfl,hh,by omega,fun t l H1 hl ho h1 o1=>?_⟩
 try dsimp only [aS]
 walk_at "go"
 refine ⟨t,l,rfl,hl,ho,fun lw H2 hlw s2=>?_⟩
 have gw:=zJ ho
 have hsum:=u9 ho
 have hlen:=vc l
 have hb1:(Str.ofString ":").length=1:=by decide +kernel
 try dsimp only [aS]
 walk_at "go"
 refine gY hlw gw hb1 ?_
 walk_at "go"
 refine ⟨t,l,rfl,hl.same s2,ho,fun H3 s3=>?_⟩
 walk_at "go"
 refine nO (fun _=>?_) (fun z=>absurd rfl z)
 walk_at "go"
 refine qh gw ?_
 rw [wH ho]
 intro ta y H4 hta hy s4
 have L:=Led.start H4 (fun _=>False)
 walk_at "go"
 have s5:=L'.same
 refine jP (d:=.tup [.str "told",lnD l]) (.tup (SqT.of (s5 _ _ hta)) (.cons (.str _) (.cons (hy.same s5).at .nil))) (.tup (SqT.of (L'.tup (by walk_at "mem"))) (.cons (.str _) (.cons ((hl.same (((s2.trans s3).trans s4).trans s5)).at) .nil))) (by have:=BO l;simp only [dep,deps];omega) ?_
 have s15:=((s2.trans s3).trans s4).trans s5
 obtain ⟨H5,eH5⟩:∃ z,z=H':=⟨_,rfl⟩
 subst eH5
 have h5:=h1.same s15
 have o5:Oth p H H5:=fun q o e z=>s15 _ _ (o1 q o e z)
 have hl5:=hl.same s15
 have EA:=s5 _ _ (s4 _ _ (s3 _ _ hlw))
 have nwp:lw≠p:=fun z=>by obtain ⟨u,v,y,e,_⟩:=h1;rw [← z] at e;have e6:=s2 _ _ e;rw [hlw] at e6;have:=hlen.1;generalize lnW l=ww at *;match ww,this,e6 with | a::r,_,e6=>cases e6
 clear L L'
 have L:=bB h5
 walk_at "go"
 refine aT L' (by walk_at "put") (by decide) (by decide) (by omega) fun r1 H6 a0 a1 L _=>?_
 walk_at "go"
 refine gk L .head a0 (by simp only [List.length_cons,List.length_nil];omega) fun v hv=>?_
 obtain ⟨od,rfl,hod⟩:∃ od:Str,v = .str od∧od∈wA:=by
  obtain ⟨od,ho,e⟩:=List.mem_map.mp (show v∈wA.map V.str from hv)
  exact ⟨od,e.symm,ho⟩
 have h6:=(aO.at (L.at_ (p,aO _) (by walk_at "mem"))).mono (show _≤b+8192 by omega)
 have o56:Oth p H5 H6:=L.fr
 have BZ:=o56 _ _ EA nwp
 clear L L'
 have L:=bB h6
 try dsimp only [aS]
 walk_at "go"
 refine jd (SqL.of BZ) ?_
 rw [List.length_map]
 walk_at "go"
 refine aT (many:=((lnW l).length:Int)) L .head (by omega) (by omega) (by omega) fun r2 H7 b0 b1 L _=>?_
 have h7:=(aO.at (L.at_ (p,aO _) (by walk_at "mem"))).mono (show _≤b+9216 by omega)
 have o67:Oth p H6 H7:=L.fr
 have BY:=o67 _ _ BZ nwp
 have oH7:Oth p H H7:=(o5.trans o56).trans o67
 have hl7:fT H7 t l:=hl5.oth h5 (o56.trans o67)
 clear L
 obtain ⟨i,rfl⟩:=Int.eq_ofNat_of_zero_le b0
 have hi:i < (lnW l).length:=by omega
 obtain ⟨⟨od1,od2⟩,od3,_⟩:=tw od hod
 have Ib:od.length≤20:=zF od hod
 try dsimp only [aS]
 walk_at "go"
 refine lM (i:=i) BY rfl (by omega) fun la1 G1 na1 ha1 t1=>?_
 walk_at "go"
 refine jO (i:=i+1) (t1 _ _ BY) (by omega) (by omega) fun la2 G2 na2 ha2 t2'=>?_
 refine d7 (t2' _ _ ha1) ha2 (by rw [List.length_take,List.length_drop];omega) fun la G3 na ha t3=>?_
 have g3:=(t1.trans t2').trans t3
 have tM:=g3 _ _ BY
 walk_at "go"
 refine lM (i:=i) tM rfl (by omega) fun lb1 G4 nb1 hb1' t4=>?_
 have L:=Led.start G4 (fun _=>False)
 walk_at "go"
 have t5:=L'.same
 refine d7 (ys:=[od]) (t5 _ _ hb1') (L'.eo .head) (by rw [List.length_take,List.length_singleton];omega) fun lb2 G6 nb2 hb2 t6=>?_
 have g6:=(t4.trans t5).trans t6
 clear L L'
 walk_at "go"
 refine jO (i:=i+1) (g6 _ _ tM) (by omega) (by omega) fun lb3 G7 nb3 hb3 t7=>?_
 refine d7 (t7 _ _ hb2) hb3 (by rw [List.length_append,List.length_take,List.length_drop,List.length_singleton];omega) fun lb G8 nb hb' t8=>?_
 have g8:=(g6.trans t7).trans t8
 have qY:=g8 _ _ tM
 obtain ⟨lx,hlx,ecut⟩:=zI l
 walk_at "go"
 refine ⟨lw,_,rfl,SqL.of qY,fun lc1 nc1=>?_⟩
 rw [ecut]
 refine d7 (ys:=[lx]) (aQ nc1 _ _ qY) ao (by rw [List.length_singleton];omega) fun lcc G10 nc hc t10=>?_
 have g10:=(aQ nc1).trans t10
 walk_at "go"
 refine zZ (by walk_at "sz") fun lo G11 no hlo t11=>?_
 have hA:=t11 _ _ (g10 _ _ (g8 _ _ ha))
 have hB:=t11 _ _ (g10 _ _ hb')
 have hC:=t11 _ _ hc
 have eA:=wG ho hi
 have gA:GoodW 58 ((lnW l).take i++(lnW l).drop (i+1)):=gw.less fun z=>by have:=congrArg List.length z;rw [List.length_append,List.length_take,List.length_drop,List.length_nil] at this;omega
 have gB:GoodW 58 ((lnW l).take i++[od]++(lnW l).drop (i+1)):=gw.odd od1 Ib (by omega) hi
 have eB:=zK (l:=l) hi hod
 have lxl:=hsum.2 lx hlx
 have gC:GoodW 58 (lnW l++[lx]):=by
  have sb:∀ z∈lnW l++[lx],z∈lnW l:=fun z hz=>by
   rcases List.mem_append.mp hz with h | h
   ·exact h
   ·rw [List.mem_singleton.mp h];exact hlx
  exact ⟨fun z hz=>gw.f z (sb z hz),fun z hz=>gw.l z (sb z hz),by simp,by rw [List.length_append,List.length_singleton];omega,by rw [dB,lG];omega⟩
 have eC:=wF (l:=l) lx
 have DT:az H7 G11:=((g3.trans g8).trans g10).trans t11
 have three:∀ v∈[V.ref la,.ref lb,.ref lcc],∃ (l:Addr) (ws:List Str),v = .ref l∧G11 l=some (.lst (ws.map V.str))∧GoodW 58 ws∧bZ ws=none:=by
  intro v hv
  simp only [List.mem_cons,List.not_mem_nil,or_false] at hv
  rcases hv with rfl | rfl | rfl
  ·exact ⟨la,_,rfl,hA,gA,eA⟩
  ·exact ⟨lb,_,rfl,hB,gB,eB⟩
  ·exact ⟨lcc,_,rfl,hC,gC,eC⟩
 walk_at "go"
 refine jM (SqL.of hlo) ?_
 refine z8 [V.ref la,.ref lb,.ref lcc] (fun j σ HJ=>∃ u6:Option V,σ=[some (.ref p),some (.ref t),some (.ref lw),some (.str (Txt.join ":" (lnW l))),some (.str od),some (.int (i:Int)),u6]∧az G11 HJ) ⟨_,rfl,az.refl _⟩ (fun j σ HJ _ ⟨_,_,sJ⟩=>SqL.of (sJ _ _ hlo)) ?_ ?_
 ·rintro j y σ HJ hy ⟨u6,rfl,sJ⟩
  obtain ⟨l',ws,rfl,hl',g,et⟩:=three y (List.mem_of_getElem? hy)
  try dsimp only [aS]
  walk_at "go"
  refine gY (sJ _ _ hl') g hb1 ?_
  walk_at "go"
  refine n9 g et fun t' H30 ht s30=>?_
  have L:=Led.start H30 (fun _=>False)
  walk_at "go"
  refine jP (d:=.tup [.str "text"]) (.tup (SqT.of (L'.same _ _ ht)) (.cons (.str _) .nil)) (.tup (SqT.of (L'.tup (by walk_at "mem"))) (.cons (.str _) .nil)) (by simp [dep,deps]) ?_
  walk_at "go"
  exact ⟨_,rfl,(sJ.trans s30).trans L'.same⟩
 rintro σ HJ ⟨u6,rfl,sJ⟩
 have sF:=DT.trans sJ
 have hJ:=h7.same sF
 have oJ:Oth p H HJ:=fun q o e z=>sF _ _ (oH7 q o e z)
 have Iq:=sF _ _ BY
 obtain ⟨k,r,hk,hkk⟩:=(hl7.same sF).head
 walk_at "go"
 refine cJ (SqT.of hk) (fN (j:=0) rfl) ?_
 have L:=Led.start HJ (fun _=>False)
 walk_at "go"
 refine q9 (ws:=[("took" : Str), "ends"]) (SqT.of (L'.tup (by walk_at "mem"))) ?_
 have s8:=L'.same
 obtain ⟨H8,eH8⟩:∃ z,z=H':=⟨_,rfl⟩
 subst eH8
 clear L L'
 walk_at "go"
 refine bW (fun c1=>?_) (fun c1=>?_)
 rotate_left
 ·walk_at "go"
  exact q _ (hJ.same s8) fun q o e z=>s8 _ _ (oJ q o e z)
 obtain ⟨x,y',ew,e0⟩:=hkk c1
 have zP:=s8 _ _ Iq
 rw [ew] at zP gw hsum
 walk_at "go"
 refine cS (SqL.of zP) (by with_unfolding_all exact rfl) ?_
 have L:=Led.start H8 (fun _=>False)
 walk_at "go"
 have s9:=L'.same
 refine jO (ws:=[k,x,y']) (i:=2) (s9 _ _ zP) rfl (by simp) fun l2 G12 n2 hl2 t12=>?_
 refine d7 (xs:=[k, "0"]) (ys:=[y']) (t12 _ _ (L'.eo .head)) hl2 (by simp) fun l3 G13 n3 hl3 t13=>?_
 have g0:GoodW 58 [k, "0",y']:=by
  refine ⟨fun z hz=>?_,fun z hz=>?_,by simp,by simp,?_⟩
  ·simp only [List.mem_cons,List.not_mem_nil,or_false] at hz
   rcases hz with rfl | rfl | rfl
   ·exact gw.f _ (by simp)
   ·decide +kernel
   ·exact gw.f _ (by simp)
  ·simp only [List.mem_cons,List.not_mem_nil,or_false] at hz
   rcases hz with rfl | rfl | rfl
   ·exact gw.l _ (by simp)
   ·decide +kernel
   ·exact gw.l _ (by simp)
  ·have h0:("0" : Str).length=1:=by decide +kernel
   have h1:=hsum.1
   simp only [lsum,List.map_cons,List.map_nil,List.sum_cons,List.sum_nil] at h1 ⊢
   omega
 clear L L'
 walk_at "go"
 refine gY (ys:=[k, "0",y']) hl3 g0 hb1 ?_
 walk_at "go"
 refine n9 g0 e0 fun t9 H30 ht s30=>?_
 have L:=Led.start H30 (fun _=>False)
 walk_at "go"
 refine jP (d:=.tup [.str "text"]) (.tup (SqT.of (L'.same _ _ ht)) (.cons (.str _) .nil)) (.tup (SqT.of (L'.tup (by walk_at "mem"))) (.cons (.str _) .nil)) (by simp [dep,deps]) ?_
 walk_at "go"
 have sE:=((((s8.trans s9).trans t12).trans t13).trans s30).trans L'.same
 exact q _ (hJ.same sE) fun q o e z=>sE _ _ (oJ q o e z)
end
end Law

namespace Law
open PySem PySem.Spec PyProof.Rows L2 L3 L4
theorem Cd {σ : St} {H:Hp} {Q:VK} (h:∀ p,H p=none→Q (.ref p) (upd H p (.dK []))):x8 σ H Q:=h
section
variable {P:Program} {w:World} {K:PySem.W.Frag} {mg:Str→Option Value} {base:Heap} {C CS:Addr}
theorem DQ:aB ["_law_script", "_law_k", "_law_cell", "_law_thing"] ["_law_script"] (aj (top 55)):=by walk_at "s"
def C7 (K:PySem.W.Frag):Sp:=fun vs H Q _=>∃ (a:Addr) (ns:List Int),vs=[.ref a]∧SqL K H a (ns.map V.int)∧ns.length≤63∧∀ H',Q (.bl true) H'
theorem Ej {f:Addr} {fd:FuncData} (F:Fun K "law" "law" (top 55) f fd) (BT:Bt mg) (NE:bN (CX1 P w)) (rG:Cal P w K mg base (CX1 P w) "_law_hand" 1 ["_law_script", "_law_k"] (sI K)) (au:Cal P w K mg base (CX1 P w) "_law_pick" 11 ["_law_hand_here", "_law_many"] iC)
  (gD:Cal P w K mg base (CX1 P w) "_law_settings_good" 13 ["_law_cell"] uL) (jV:Cal P w K mg base (CX1 P w) "_law_line_good" 13 ["_law_cell"] uQ) (bE:Cal P w K mg base (CX1 P w) "_law_asked" 9 ["_law_way", "_law_thing"] (j5 K C CS)):fz P w K mg base (CX1 P w) 15 f fd ["_law_script"] (C7 K):=by
 have S:=DQ
 refine tT F S (fun vs H Q E h=>?_) (fun f cdv A outer s H vs Q E hr h=>?_)
 ·obtain ⟨a,ns,rfl,_⟩:=h
  rfl
 obtain ⟨a,ns,rfl,hS,h63,q⟩:=h
 refine ⟨_,(@ai _ _ _ _ _ (@oY _ _ _ _ _ _ _ _ PassesOwn.never rfl (@ng _ _ _ _ _ _ rfl BT.range (@aa _ _ _ _ _ (@aW _ _ _ _ _ _ _ _ _ (@HC _ rfl) rfl BT.max L3.Ft (@aa _ _ _ _ _ (@ah _ _ _ _) (@aa _ _ _ _ _ (@aW _ _ _ _ _ _ _ _ _ (@HB _ rfl) rfl BT.min L3.Fq (@aa _ _ _ _ _ (@ah _ _ _ _) (@aa _ _ _ _ _ (@aW _ _ _ _ _ _ _ _ _ (@iA _) rfl BT.len L3.cT (@aa _ _ _ _ _ (@pv _ 0 _ _ (by rfl) (by first | exact Or.inl rfl | exact Or.inr (Or.inl rfl) | exact Or.inr (Or.inr rfl)) (by decide) (by decide)) (@af _) (by rfl)) (by decide) (by decide) (by rfl) (by rfl)) (@af _) (by rfl)) (by rfl)) (by decide) (by decide) (by rfl) (by rfl)) (@af _) (by rfl)) (by rfl)) (by decide) (by decide) (by rfl) (by rfl)) (@af _) (by rfl)) (by rfl)) (@bL _ _ 1 _ S.nd rfl (by first | exact Or.inl rfl | exact Or.inr rfl) (by first | exact .inl rfl | exact .inr rfl | assumption)) (@ai _ _ _ _ _ (@aM _ _ 2 _ _ _ _ S.nd rfl (by first | exact Or.inl rfl | exact Or.inr rfl) (@aI _ _ _ _ _ _ _ _ _ _ _ _ rG (hr.mono (by first | decide | omega)) NE.pass (@aa _ _ _ _ _ (@pv _ 0 _ _ (by rfl) (by first | exact Or.inl rfl | exact Or.inr (Or.inl rfl) | exact Or.inr (Or.inr rfl)) (by decide) (by decide)) (@aa _ _ _ _ _ (@pv _ 1 _ _ (by rfl) (by first | exact Or.inl rfl | exact Or.inr (Or.inl rfl) | exact Or.inr (Or.inr rfl)) (by decide) (by decide)) (@af _) (by rfl)) (by rfl)) (by rfl) (by decide) (by rfl) (by rfl)) (by rfl) (by first | exact .inl rfl | exact .inr rfl | assumption)) (@ai _ _ _ _ _ (@br _ _ _ _ _ _ _ _ (@PW.pt _ _ _ (@j6 _ _ _ _ _ _ _ (@cB _ _ _ _ (@cH _ _ _ (@aI _ _ _ _ _ _ _ _ _ _ _ _ gD (hr.mono (by first | decide | omega)) NE.pass (@aa _ _ _ _ _ (@pv _ 2 _ _ (by rfl) (by first | exact Or.inl rfl | exact Or.inr (Or.inl rfl) | exact Or.inr (Or.inr rfl)) (by decide) (by decide)) (@af _) (by rfl)) (by rfl) (by decide) (by rfl) (by rfl)) (by intro _;rfl))) (@iD _ _ _ _ (@cB _ _ _ _ (@cH _ _ _ (@aI _ _ _ _ _ _ _ _ _ _ _ _ jV (hr.mono (by first | decide | omega)) NE.pass (@aa _ _ _ _ _ (@pv _ 2 _ _ (by rfl) (by first | exact Or.inl rfl | exact Or.inr (Or.inl rfl) | exact Or.inr (Or.inr rfl)) (by decide) (by decide)) (@af _) (by rfl)) (by rfl) (by decide) (by rfl) (by rfl)) (by intro _;rfl)))))) (@ak _ _ _ (@av _ _ _ _ (@cO _ _ _ _))) (@aF _)) (@ai _ _ _ _ _ (@aM _ _ 3 _ _ _ _ S.nd rfl (by first | exact Or.inl rfl | exact Or.inr rfl) (@aL _ _ _ _ _ _ _ (@aK _) (@bC _ _ _ _ (@aa _ _ _ _ _ (@D9 _ _ _) (@aa _ _ _ _ _ (@ah _ _ _ _) (@aa _ _ _ _ _ (@cO _ _ _ _) (@aa _ _ _ _ _ (@bC _ _ _ _ (@aa _ _ _ _ _ (@aq _ _ _ _) (@af _) (by rfl))) (@aa _ _ _ _ _ (@aP _ _ _ _ _ (@aa _ _ _ _ _ (@aq _ _ _ _) (@aa _ _ _ _ _ (@ah _ _ _ _) (@af _) (by rfl)) (by rfl))) (@aa _ _ _ _ _ (@za _ _) (@af _) (by rfl)) (by rfl)) (by rfl)) (by rfl)) (by rfl)) (by rfl))) (@aI _ _ _ _ _ _ _ _ _ _ _ _ au (hr.mono (by first | decide | omega)) NE.pass (@aa _ _ _ _ _ (@pv _ 2 _ _ (by rfl) (by first | exact Or.inl rfl | exact Or.inr (Or.inl rfl) | exact Or.inr (Or.inr rfl)) (by decide) (by decide)) (@aa _ _ _ _ _ (@ah _ _ _ _) (@af _) (by rfl)) (by rfl)) (by rfl) (by decide) (by rfl) (by rfl)) (fun _ _=>rfl)) (by rfl) (by first | exact .inl rfl | exact .inr rfl | assumption)) (@ak _ _ _ (@br _ _ _ _ _ _ _ _ (@PW.pt _ _ _ (@j6 _ _ _ _ _ _ _ (@aJ _ _ _ _ _ _ _ _ (@jG _ (hr.mono (Nat.zero_le _))) (@aI _ _ _ _ _ _ _ _ _ _ _ _ bE (hr.mono (by first | decide | omega)) NE.pass (@aa _ _ _ _ _ (@ah _ _ _ _) (@aa _ _ _ _ _ (@pv _ 3 _ _ (by rfl) (by first | exact Or.inl rfl | exact Or.inr (Or.inl rfl) | exact Or.inr (Or.inr rfl)) (by decide) (by decide)) (@af _) (by rfl)) (by rfl)) (by rfl) (by decide) (by rfl) (by rfl)) (@aP _ _ _ _ _ (@aa _ _ _ _ _ (@aq _ _ _ _) (@af _) (by rfl))) (@aH _ _ (by decide) (by decide))) (@iD _ _ _ _ (@aJ _ _ _ _ _ _ _ _ (@jG _ (hr.mono (Nat.zero_le _))) (@aI _ _ _ _ _ _ _ _ _ _ _ _ bE (hr.mono (by first | decide | omega)) NE.pass (@aa _ _ _ _ _ (@ah _ _ _ _) (@aa _ _ _ _ _ (@pv _ 3 _ _ (by rfl) (by first | exact Or.inl rfl | exact Or.inr (Or.inl rfl) | exact Or.inr (Or.inr rfl)) (by decide) (by decide)) (@af _) (by rfl)) (by rfl)) (by rfl) (by decide) (by rfl) (by rfl)) (@aP _ _ _ _ _ (@aa _ _ _ _ _ (@aq _ _ _ _) (@af _) (by rfl))) (@aH _ _ (by decide) (by decide)))))) (@ak _ _ _ (@av _ _ _ _ (@cO _ _ _ _))) (@aF _)))))) (by intro _;rfl)) (@ak _ _ _ (@av _ _ _ _ (@cO _ _ _ _)))),?_⟩
 have L:=Led.start H (fun _=>False)
 dsimp only [bM]
 walk_at "go"
 refine z7 (fun i σ Hx=>∃ (u1 u2 u3:Option V),σ=[some (.ref a),u1,u2,u3]∧az H Hx) ⟨_,_,_,rfl,az.refl _⟩ ?_ ?_
 ·rintro i σ HG hi ⟨u1,u2,u3,rfl,sG⟩
  have IT:i < 41:=by omega
  clear L
  have L:=Led.start HG (fun _=>False)
  try dsimp only [aS]
  walk_at "go"
  refine xQ L (sG.seq hS) h63 (by omega) fun p H1 np L s1=>?_
  have h1:=aO.at (L.at_ (p,aO _) (by walk_at "mem"))
  clear L
  try dsimp only [aS]
  walk_at "go"
  refine ⟨p,_,rfl,h1,by decide,fun H2 h2 o2=>?_⟩
  walk_at "go"
  refine ⟨p,_,rfl,h2,by decide,fun H3 h3 o3=>?_⟩
  have s3:az HG H3:=(o2.trans o3).same s1 np
  walk_at "go"
  have L:=bB h3
  walk_at "go"
  refine Cd fun d nd=>?_
  have LD:=L'.BL (a:=Eo (.dK [])) nd rfl
  generalize upd H' d (.dK [])=HD at *
  clear L L'
  walk_at "go"
  refine aT L' (by walk_at "put") (by decide) (by decide) (by decide) fun r8 H15 e0 e1 L _=>?_
  have h8l:=L.eo (by walk_at "put")
  have s15:az HG H15:=by
   have o:Oth p H3 H15:=L.fr
   exact (o2.trans (o3.trans o)).same s1 np
  obtain ⟨xs8,hx8,hn8,hk8⟩:∃ xs:List V,H15 l'=some (.lst xs)∧xs.length=6∧∀ v∈xs,Knd H15 v∧(∀ z,v≠.str z):=by
   refine ⟨_,h8l,rfl,fun v hm=>?_⟩
   simp only [List.mem_cons,List.not_mem_nil,or_false] at hm
   rcases hm with rfl | rfl | rfl | rfl | rfl | rfl
   ·exact ⟨.non,(fun _ z=>nomatch z)⟩
   ·exact ⟨.int _,(fun _ z=>nomatch z)⟩
   ·exact ⟨.bl _,(fun _ z=>nomatch z)⟩
   ·exact ⟨.lst (L.eo (by walk_at "put")),(fun _ z=>nomatch z)⟩
   ·exact ⟨.tup (L.tup (by walk_at "mem")),(fun _ z=>nomatch z)⟩
   ·exact ⟨.dK (L.eo (by walk_at "put")),(fun _ z=>nomatch z)⟩
  obtain ⟨v,hv,hvm⟩:=rL (xs:=xs8) e0 (by rw [hn8];exact e1)
  obtain ⟨kv,nv⟩:=hk8 v hvm
  have sv:fS v = .text:=by
   cases v with
   | str z=>exact absurd rfl (nv z)
   | _=>rfl
  have lv:qS v=none:=by
   cases v with
   | str z=>exact absurd rfl (nv z)
   | _=>rfl
  refine cS (SqL.of hx8) hv ?_
  clear L L'
  try dsimp only [aS]
  walk_at "go"
  refine .inl ⟨v,rfl,kv,fun z e=>absurd e (nv z),?_⟩
  rw [sv]
  intro t1 H16 ht1 s16
  have L:=Led.start H16 (fun _=>False)
  walk_at "go"
  refine jP (d:=.tup [.str "text"]) (.tup (SqT.of (L'.same _ _ ht1)) (.cons (.str _) .nil)) (.tup (SqT.of (L'.tup (by walk_at "mem"))) (.cons (.str _) .nil)) (by simp [dep,deps]) ?_
  have s17:=s16.trans L'.same
  clear L
  obtain ⟨H17,eH⟩:∃ z,z=H':=⟨_,rfl⟩
  subst eH
  clear L'
  walk_at "go"
  refine .inr ⟨v,rfl,kv.same s17,fun z e=>absurd e (nv z),?_⟩
  rw [lv]
  intro t2 H18 ht2 s18
  have L:=Led.start H18 (fun _=>False)
  walk_at "go"
  refine jP (d:=.tup [.str "text"]) (.tup (SqT.of (L'.same _ _ ht2)) (.cons (.str _) .nil)) (.tup (SqT.of (L'.tup (by walk_at "mem"))) (.cons (.str _) .nil)) (by simp [dep,deps]) ?_
  walk_at "go"
  exact ⟨_,_,_,rfl,sG.trans (s15.trans (s17.trans (s18.trans L'.same)))⟩
 ·rintro σ HG ⟨u1,u2,u3,rfl,sG⟩
  walk_at "go"
  exact q _
end
end Law

namespace Law
open PySem PySem.Spec PyProof.Rows L2 L3 L4
open PySem.W in
structure ExW (K:Frag) (mg:Str→Option Value) (x qual:Str) (C:Addr) (st:Stmt) (ps:List Str):Prop where
 dat:uw K mg x qual C st ps
 get:jY K C
 hd:hasDictIn K C=true
 ov:∃ cd,clsIn K C=some cd∧cG cd.mro∧cd.hasDict=true
 sa:findIn K (.ref C) "__setattr__" = some (some (.builtin "object.__setattr__"))
open PySem.W in
theorem ExW.put {K:Frag} {mg:Str→Option Value} {x qual f:Str} {C:Addr} {st:Stmt} {ps:List Str} (W:ExW K mg x qual C st ps) (t:takerIn K C f=some none):xG K C f:=⟨W.get,W.sa,W.ov,t⟩
open PySem.W in
theorem Fc {K:Frag} {h:Heap} {mg:Str→Option Value} {x qual:Str} {CW CR f:Addr} {st:Stmt} {ps:List Str} {cbW:ClassData} {dd od an:Option Addr} {k0 k1 k2 k3 k5:Option Value} {oc kV doc pm cdv ct:Value} {osl:Array (Option Value)} (X:K.In h) (G:h.Ns mainGlobals mg)
  (a1:nsIn K mainGlobals x=some (some (.ref CW))) (g6:specialIn K (.builtin "object.__class__") "__get__" = some (some (.builtin "getset_descriptor.__get__"))) (g7:takesIn K (.builtin "object.__class__")=some true)
  (v1:findIn K (.ref CW) "__getattribute__" = some (some (.builtin "BaseException.__getattribute__"))) (v2:findIn K (.ref CW) "__getattr__" = some none) (v3:mroIn K CW (.type "BaseException")=some true) (v4:mroIn K CW (.type "object")=some true)
  (v5:findIn K (.ref CW) "__class__" = some (some (.builtin "object.__class__"))) (v8:clsIn K CW=some cbW) (r0:excIn K CR eL "ValueError.__new__" = true)
  (u1:findIn K (.ref CW) "__setattr__" = some (some (.builtin "object.__setattr__"))) (u3:K.lookup CW=some ⟨.type "type",dd,.cls cbW,#[k0,k1,k2,k3,some (.builtin "ValueError.__new__"),k5]⟩) (u4:cbW.mro = .ref CW::.ref CR::eL) (u5:cbW.hasDel=false) (u6:cbW.hasDict=true)
  (i1:findIn K (.ref CW) "__init__" = some (some (.ref f))) (i2:typeIn K (.ref f)=some (.type "function")) (i3:K.lookup f=some ⟨oc,od,.func (fnOf "__init__" qual (bD st) (aU st) (aj st) .none kV doc pm an cdv ct),osl⟩) (i4:codeIn K cdv qual=true) (i5:keepIn K (.ref f)=true) (i6:keepIn K (.ref CW)=true)
  (b:∀ (kV doc pm:Value) (an:Option Addr) (cdv ct:Value) (us:List Value),us.length=ps.length→bindArgs (fnOf "__init__" qual (bD st) (aU st) (aj st) .none kV doc pm an cdv ct) ⟨us,[]⟩=pure (ps.zip us)) (x1:hasDictIn K CW=true):ExW K mg x qual CW st ps:=
 ⟨Co X G a1 (Ai u3 u4 u5 r0) i1 i2 i3 i4 i5 i6 b,⟨v1,v2,v3,v4,v5,g6,g7,oN v8⟩,x1,⟨cbW,v8,u4▸cG.two,u6⟩,u1⟩
end Law

namespace Law
open PySem PySem.Spec PyProof.Rows L2 L3 L4
open PySem.W in
theorem DF {K:Frag} {h:Heap} {mg:Str→Option Value} {x:Str} {a:Addr} {dd:Option Addr} {its:Array Value} {n:Nat} {sl:Array (Option Value)} {xs:List V} (X:K.In h) (G:h.Ns mainGlobals mg)
  (n1:nsIn K mainGlobals x=some (some (.ref a))) (n2:K.lookup a=some ⟨.type "tuple",dd,.seq its n,sl⟩) (n3:Vals xs its.toList) (hz:its.size≤sizeLine):∃ aN,GlV mg x (.ref aN)∧∀ H,SqT K H aN xs:=
 ⟨a,⟨_,mg_of X G n1,rfl⟩,fun _=>.inr ⟨_,its,n,n2,rfl,rfl,hz,n3⟩⟩
end Law

namespace Law
open PySem PySem.Spec PyProof.Rows L2 L3 L4
open PySem.W in
theorem Cn {K:Frag} {h:Heap} {mg:Str→Option Value} {nb hb:_} {CR CN CH CB CL:Addr} (X:K.In h) (G:h.Ns mainGlobals mg) (WB:ExW K mg "BadSettings" "BadSettings.__init__" CB (inClass (top 5) 0) ["self", "word"]) (tk:takerIn K CB "word" = some none) (fw:findIn K (.ref CB) "word" = some none)
  (a0:nsIn K mainGlobals "RiseError" = some (some (.ref CR))) (a1:nsIn K mainGlobals "NoText" = some (some (.ref CN))) (a2:nsIn K mainGlobals "BadShape" = some (some (.ref CH))) (a3:nsIn K mainGlobals "BadSettings" = some (some (.ref CB))) (a4:nsIn K mainGlobals "NoLine" = some (some (.ref CL)))
  (r1:specialIn K (.ref CR) "__getattribute__" = some (some (.builtin "type.__getattribute__"))) (r2:readsIn K CR (.type "type")=true) (r3:findCls K (.ref CR) (.type "type") "__init__" = some (.val (.builtin "ValueError.__init__")))
  (g6:specialIn K (.builtin "object.__class__") "__get__" = some (some (.builtin "getset_descriptor.__get__"))) (g7:takesIn K (.builtin "object.__class__")=some true)
  (n1:findIn K (.ref CN) "__getattribute__" = some (some (.builtin "BaseException.__getattribute__"))) (n2:findIn K (.ref CN) "__getattr__" = some none) (n3:mroIn K CN (.type "BaseException")=some true) (n4:mroIn K CN (.type "object")=some true) (n5:findIn K (.ref CN) "__class__" = some (some (.builtin "object.__class__"))) (n8:clsIn K CN=some nb)
  (h1:findIn K (.ref CH) "__getattribute__" = some (some (.builtin "BaseException.__getattribute__"))) (h2:findIn K (.ref CH) "__getattr__" = some none) (h3:mroIn K CH (.type "BaseException")=some true) (h4:mroIn K CH (.type "object")=some true) (h5:findIn K (.ref CH) "__class__" = some (some (.builtin "object.__class__"))) (h8:clsIn K CH=some hb)
  (p1:excIn K CN eL "ValueError.__new__" = true) (p2:findIn K (.ref CN) "__init__" = some (some (.builtin "ValueError.__init__"))) (p3:keepIn K (.ref CN)=true) (q1:excIn K CH eL "ValueError.__new__" = true) (q2:findIn K (.ref CH) "__init__" = some (some (.builtin "ValueError.__init__"))) (q3:keepIn K (.ref CH)=true)
  (xm:exmOne K (.ref CN) (.ref CR)=some true) (x1:kitOne K (.ref CN) (.ref CN)=some true) (x2:kitOne K (.ref CN) (.ref CH)=some false) (x3:kitOne K (.ref CN) (.ref CB)=some false) (x4:kitOne K (.ref CN) (.ref CL)=some false) (ym:exmOne K (.ref CH) (.ref CR)=some true) (y1:kitOne K (.ref CH) (.ref CN)=some false) (y2:kitOne K (.ref CH) (.ref CH)=some true) (y3:kitOne K (.ref CH) (.ref CB)=some false) (y4:kitOne K (.ref CH) (.ref CL)=some false) (zm:exmOne K (.ref CB) (.ref CR)=some true) (z1:kitOne K (.ref CB) (.ref CN)=some false) (z2:kitOne K (.ref CB) (.ref CH)=some false) (z3:kitOne K (.ref CB) (.ref CB)=some true) (z4:kitOne K (.ref CB) (.ref CL)=some false) :
  ∃ CR CN CH CB CL:Addr,uw K mg "BadSettings" "BadSettings.__init__" CB (inClass (top 5) 0) ["self", "word"]∧xG K CB "word" ∧ vG K mg "RiseError" CR∧mg "RiseError" = some (.ref CR)∧mg "NoText" = some (.ref CN)∧mg "BadShape" = some (.ref CH)∧mg "BadSettings" = some (.ref CB)∧mg "NoLine" = some (.ref CL)∧ux K mg "NoText" CN∧ux K mg "BadShape" CH∧Fz K CR CN CH CB CL:=
 ⟨CR,CN,CH,CB,CL,WB.dat,WB.put tk,⟨mg_of X G a0,r1,r2,r3⟩,mg_of X G a0,mg_of X G a1,mg_of X G a2,mg_of X G a3,mg_of X G a4,⟨nP p1,p2,p3,mg_of X G a1⟩,⟨nP q1,q2,q3,mg_of X G a2⟩,⟨⟨⟨n1,n2,n3,n4,n5,g6,g7,oN n8⟩,xm,x1,x2,x3,x4⟩,⟨⟨h1,h2,h3,h4,h5,g6,g7,oN h8⟩,ym,y1,y2,y3,y4⟩,⟨WB.get,zm,z1,z2,z3,z4⟩,WB.hd,fw⟩⟩
end Law
open PySem PySem.W PyProof.Rows
local macro_rules | `(tactic| walk_at "dat")=>`(tactic| (dsimp only [L2.KOf];refine' L3.dat_mk KX G ?a ?l ?c ?k ?b;(case a=>k_is);(case l=>k_is);(case c=>k_is);(case k=>k_is);(case b=>first | exact (fun _ _ _ _ _ _ us hl=>match us,hl with | [_],_=>rfl) | exact (fun _ _ _ _ _ _ us hl=>match us,hl with | [_,_],_=>rfl) | exact (fun _ _ _ _ _ _ us hl=>match us,hl with | [_,_,_],_=>rfl) | exact (fun _ _ _ _ _ _ us hl=>match us,hl with | [_,_,_,_],_=>rfl) | exact (fun _ _ _ _ _ _ us hl=>match us,hl with | [_,_,_,_,_],_=>rfl))))
namespace PySem.W.Fast
def tw17800225334275962391 : Unit := ()
def tw18419530877567276247 : Unit := ()
def tw13073545732707735713 : Unit := ()
def tw16788128537193982034 : Unit := ()
def tw14191645642891918236 : Unit := ()
def tw16430318531866298638 : Unit := ()
def tw10487245512174986036 : Unit := ()
def tw160557672380528437 : Unit := ()
def tw1681082416164226086 : Unit := ()
def tw7714560859871336281 : Unit := ()
def tw9285803674954325591 : Unit := ()
def tw10317027662481873915 : Unit := ()
def tw6134896749202844700 : Unit := ()
def tw10169758445341784960 : Unit := ()
def tw11399390624561436472 : Unit := ()
def tw10540187830565121935 : Unit := ()
def tw7974500738689331063 : Unit := ()
def tw14439295014510362882 : Unit := ()
def tw8555642999484425072 : Unit := ()
def tw1560660550390395774 : Unit := ()
def tw5417143006341571180 : Unit := ()
def tw8043512647052571986 : Unit := ()
def tw17269442246518571855 : Unit := ()
def tw1024564437957647503 : Unit := ()
def tw173641714458959455 : Unit := ()
def tw13835482267820295573 : Unit := ()
def tw14549203343457253143 : Unit := ()
def tw7945241629174854303 : Unit := ()
def tw15885632340436219898 : Unit := ()
def tw3481423486981371280 : Unit := ()
def tw4750215112659039323 : Unit := ()
def tw12615302054339491234 : Unit := ()
def tw6327573010651420263 : Unit := ()
def tw17575112732912767626 : Unit := ()
def tw17062597851595559011 : Unit := ()
def tw12416030377861719873 : Unit := ()
def tw7822682665740929078 : Unit := ()
def tw14731247279094403696 : Unit := ()
def tw7694064748766020604 : Unit := ()
def tw10702784968823520578 : Unit := ()
def tw17669980313274377035 : Unit := ()
def tw6206317554950843082 : Unit := ()
def tw12251823608937541177 : Unit := ()
def tw14293451089551166926 : Unit := ()
def tw9540563010439772960 : Unit := ()
def tw5985021755653501892 : Unit := ()
def tw4243717205126650238 : Unit := ()
def tw14751813391421110657 : Unit := ()
def tw3838261114334187061 : Unit := ()
def tw13206661798041405687 : Unit := ()
def tw15940507346502550589 : Unit := ()
def tw9807208126271747330 : Unit := ()
def tw2326061946204074134 : Unit := ()
def tw1765714475284194460 : Unit := ()
def tw17676772061532189014 : Unit := ()
def tw16089075038846577878 : Unit := ()
def tw12829069094166985498 : Unit := ()
def tw16053462697472191492 : Unit := ()
def tw17832067191243230300 : Unit := ()
def tw10062769217556798556 : Unit := ()
def tw1877432781189935297 : Unit := ()
def tw3515493586471691139 : Unit := ()
def tw1258520877425765309 : Unit := ()
def tw8643813749347823511 : Unit := ()
def tw16012187982919279324 : Unit := ()
def tw7153411518887244504 : Unit := ()
def tw6420749657330874911 : Unit := ()
def tw14566755203047419341 : Unit := ()
end PySem.W.Fast
set_option maxHeartbeats 0 in
theorem PySem.Challenge.cw_risemarks_k93_settings_and_lines_written_holds : PySem.Challenge.rw_risemarks_k93_settings_and_lines_written.Holds := by
 w_on;o_law;k_head;(case hw=>w_witness2)
 k_fill
 refine L4.xN (l:=PySem.Challenge.rw_risemarks_k93_settings_and_lines_written) (n:=63) (k:=15) (x:="_law_script") (CX:=L4.CX1) (sp:=Law.C7) rfl (by decide) rfl ⟨rfl,by decide,by decide⟩ (fun w h Y=>PySem.W.kIn_of Y) ?F ?S ?C
 case S=>exact fun K H a ns hl hO hS=>⟨a,ns,rfl,hS,hl,fun _=>rfl⟩
 case C=>exact fun P w H s e s' z=>L4.tE _ _ _ _ _ z
 case F=>
  intro w mg fa h KX G hmg
  have BT:L3.Bt mg:=by
   refine' ⟨?_,?_,?_,?_,?_,?_,?_,?_,?_,?_,?_,?_,?_,?_,?_,?_,?_,?_⟩ <;> refine' PySem.W.mg_none_of KX G ?_ <;> k_is
  have uz:L3.Dat (L2.KOf KX) mg "is_whole" "is_whole" (Law.top 8) ["thing"]:=by walk_at "dat"
  have kG:L3.Dat (L2.KOf KX) mg "is_whole_from" "is_whole_from" (Law.top 9) ["thing", "least"]:=by walk_at "dat"
  have xK:L3.Dat (L2.KOf KX) mg "is_side" "is_side" (Law.top 10) ["thing"]:=by walk_at "dat"
  have xJ:L3.Dat (L2.KOf KX) mg "is_span" "is_span" (Law.top 19) ["thing", "least"]:=by walk_at "dat"
  have xM:L3.Dat (L2.KOf KX) mg "is_rule" "is_rule" (Law.top 20) ["thing"]:=by walk_at "dat"
  have rW:L3.Dat (L2.KOf KX) mg "are_rules" "are_rules" (Law.top 21) ["thing"]:=by walk_at "dat"
  have xH:L3.Dat (L2.KOf KX) mg "pair_of" "pair_of" (Law.top 12) ["shape"]:=by walk_at "dat"
  have uA:L3.Dat (L2.KOf KX) mg "first_of" "first_of" (Law.top 14) ["area"]:=by walk_at "dat"
  have AJ:L3.Dat (L2.KOf KX) mg "end_of" "end_of" (Law.top 15) ["area"]:=by walk_at "dat"
  have FD:L3.Dat (L2.KOf KX) mg "need" "need" (Law.top 27) ["is_right"]:=by walk_at "dat"
  have uy:L3.Dat (L2.KOf KX) mg "words_of" "words_of" (Law.top 28) ["text"]:=by walk_at "dat"
  have mO:L3.Dat (L2.KOf KX) mg "read_number" "read_number" (Law.top 29) ["word"]:=by walk_at "dat"
  have l0:L3.Dat (L2.KOf KX) mg "read_numbers" "read_numbers" (Law.top 30) ["words"]:=by walk_at "dat"
  have p7:L3.Dat (L2.KOf KX) mg "rules_text" "rules_text" (Law.top 31) ["rules"]:=by walk_at "dat"
  have p8:L3.Dat (L2.KOf KX) mg "read_rules" "read_rules" (Law.top 32) ["word"]:=by walk_at "dat"
  have mK:L3.Dat (L2.KOf KX) mg "things_text" "things_text" (Law.top 33) ["things", "sign"]:=by walk_at "dat"
  have kE:L3.Dat (L2.KOf KX) mg "settings_text" "settings_text" (Law.top 34) ["settings"]:=by walk_at "dat"
  have qa:L3.Dat (L2.KOf KX) mg "read_parts" "read_parts" (Law.top 35) ["words"]:=by walk_at "dat"
  have mL:L3.Dat (L2.KOf KX) mg "settings_of" "settings_of" (Law.top 36) ["parts"]:=by walk_at "dat"
  have kF:L3.Dat (L2.KOf KX) mg "read_settings" "read_settings" (Law.top 37) ["text"]:=by walk_at "dat"
  have rV:L3.Dat (L2.KOf KX) mg "line_text" "line_text" (Law.top 38) ["line"]:=by walk_at "dat"
  have rT:L3.Dat (L2.KOf KX) mg "read_area" "read_area" (Law.top 39) ["word"]:=by walk_at "dat"
  have qb:L3.Dat (L2.KOf KX) mg "read_grant" "read_grant" (Law.top 40) ["word"]:=by walk_at "dat"
  have rS:L3.Dat (L2.KOf KX) mg "read_line" "read_line" (Law.top 41) ["word"]:=by walk_at "dat"
  have se:L3.Dat (L2.KOf KX) mg "_law_hand" "_law_hand" (Law.top 43) ["_law_script", "_law_k"]:=by walk_at "dat"
  have rY:L3.Dat (L2.KOf KX) mg "_law_pick" "_law_pick" (Law.top 44) ["_law_hand_here", "_law_many"]:=by walk_at "dat"
  have kH:L3.Dat (L2.KOf KX) mg "_law_settings" "_law_settings" (Law.top 46) ["_law_cell", "_law_sound"]:=by walk_at "dat"
  have jt:L3.Dat (L2.KOf KX) mg "_law_rules_word" "_law_rules_word" (Law.top 47) ["_law_rules"]:=by walk_at "dat"
  have rX:L3.Dat (L2.KOf KX) mg "_law_same" "_law_same" (Law.top 48) ["_law_settings_here", "_law_other"]:=by walk_at "dat"
  have qc:L3.Dat (L2.KOf KX) mg "_law_asked" "_law_asked" (Law.top 49) ["_law_way", "_law_thing"]:=by walk_at "dat"
  have mP:L3.Dat (L2.KOf KX) mg "_law_bounds" "_law_bounds" (Law.top 50) ["_law_numbers"]:=by walk_at "dat"
  have gE:L3.Dat (L2.KOf KX) mg "_law_settings_good" "_law_settings_good" (Law.top 51) ["_law_cell"]:=by walk_at "dat"
  have rZ:L3.Dat (L2.KOf KX) mg "_law_line" "_law_line" (Law.top 52) ["_law_cell"]:=by walk_at "dat"
  have ju:L3.Dat (L2.KOf KX) mg "_law_line_words" "_law_line_words" (Law.top 53) ["_law_line_here"]:=by walk_at "dat"
  have jZ:L3.Dat (L2.KOf KX) mg "_law_line_good" "_law_line_good" (Law.top 54) ["_law_cell"]:=by walk_at "dat"
  have HS:L3.Dat (L2.KOf KX) mg "law" "law" (Law.top 55) ["_law_script"]:=by walk_at "dat"
  obtain ⟨C,D_Shape,nc,ns⟩:∃ C,L3.uB (L2.KOf KX) mg "Shape" "Shape.__init__" C (L2.inClass (Law.top 11) 0) ["self", "counts", "slots"]∧L2.bz (L2.KOf KX) C "counts" ∧ L2.bz (L2.KOf KX) C "slots" := by
   dsimp only [L2.KOf]
   refine' ⟨_,L3.Cr KX G ?aC ?a ?i ?l ?c ?k ?pg ?hd ?po ?sa ?mk ?kc ?b,?n1,?n2⟩
   (case aC=>k_is);(case a=>k_is);(case i=>k_is);(case l=>k_is);(case c=>k_is);(case k=>k_is);(case pg=>k_is);(case hd=>k_is);(case po=>k_is);(case sa=>k_is);(case mk=>k_is);(case kc=>k_is)
   (case n1=>unfold L2.bz;k_is);(case n2=>unfold L2.bz;k_is)
   (case b=>exact fun _ _ _ _ _ _ us hl=>match us,hl with | [_,_,_],_=>rfl)
  have SC:Law.ShC (L2.KOf KX) C:=⟨D_Shape.cls,nc,ns⟩
  have E7:L3.GlV mg "GREATEST_SIDE" (.int 1000):=by
   refine' ⟨_,PySem.W.mg_of KX G ?_,?_⟩
   rotate_left
   ·k_is
   ·exact ⟨_,rfl⟩
  have E6:L3.GlV mg "GREATEST_SPAN" (.int 1000000000000):=by
   refine' ⟨_,PySem.W.mg_of KX G ?_,?_⟩
   rotate_left
   ·k_is
   ·exact ⟨_,rfl⟩
  have Hu:L3.GlV mg "FIGURES" (.str Law.pJ):=by
   refine' ⟨_,PySem.W.mg_of KX G ?_,?_⟩
   rotate_left
   ·k_is
   ·exact ⟨_,rfl⟩
  have E8:L3.GlV mg "MOST_FIGURES" (.int 40):=by
   refine' ⟨_,PySem.W.mg_of KX G ?_,?_⟩
   rotate_left
   ·k_is
   ·exact ⟨_,rfl⟩
  have Ht:L3.GlV mg "NO_RULES" (.str "none"):=by
   refine' ⟨_,PySem.W.mg_of KX G ?_,?_⟩
   rotate_left
   ·k_is
   ·exact ⟨_,rfl⟩
  obtain ⟨CS,D_Settings,n1,n2,n3,n4,n5⟩:∃ C,L4.sf (L2.KOf KX) mg "Settings" "Settings.__init__" C (L2.inClass (Law.top 22) 0) ["self", "shape", "far", "room", "term", "rules"]∧L2.bz (L2.KOf KX) C "shape" ∧ L2.bz (L2.KOf KX) C "far" ∧ L2.bz (L2.KOf KX) C "room" ∧ L2.bz (L2.KOf KX) C "term" ∧ L2.bz (L2.KOf KX) C "rules" := by
   dsimp only [L2.KOf]
   refine' ⟨_,L4.Ar KX G ?aC ?a ?i ?l ?tl ?c ?pg ?hd ?po ?sa ?mk ?kc ?b ?b1,?n1,?n2,?n3,?n4,?n5⟩
   (case aC=>k_is);(case a=>k_is);(case i=>k_is);(case l=>k_is);(case tl=>k_is);(case c=>k_is);(case pg=>k_is);(case hd=>k_is);(case po=>k_is);(case sa=>k_is);(case mk=>k_is);(case kc=>k_is)
   (case n1=>unfold L2.bz;k_is);(case n2=>unfold L2.bz;k_is);(case n3=>unfold L2.bz;k_is);(case n4=>unfold L2.bz;k_is);(case n5=>unfold L2.bz;k_is)
   (case b=>exact fun _ _ _ _ _ _ _ us hl=>match us,hl with | [_,_,_,_,_,_],_=>⟨_,rfl,rfl⟩)
   (case b1=>exact fun _ _ _ _ _ _ _ us hl=>match us,hl with | [_,_,_,_,_],_=>⟨_,rfl,rfl⟩)
  have SS:Law.StC (L2.KOf KX) CS:=⟨D_Settings.cl,n1,n2,n3,n4,n5⟩
  obtain ⟨aR,dO,hR⟩:∃ aR,L3.GlV mg "RULES" (.ref aR)∧∀ H,L2.SqT (L2.KOf KX) H aR (Law.bq.map L2.V.str):=by
   dsimp only [L2.KOf]
   refine' Law.DF KX G ?n1 ?n2 ?n3 ?n4
   (case n1=>k_is);(case n2=>k_is);(case n3=>exact .cons ⟨_,rfl⟩ (.cons ⟨_,rfl⟩ (.cons ⟨_,rfl⟩ (.cons ⟨_,rfl⟩ (.cons ⟨_,rfl⟩ .nil)))));(case n4=>exact Nat.le_of_lt (L2.small1000 (by decide)))
  obtain ⟨CR,CN,CH,CB,CL,DB,EPW,BR,h_RiseError,h_NoText,h_BadShape,h_BadSettings,h_NoLine,ON,OB,ER⟩:∃ CR CN CH CB CL:PySem.Addr,L4.uw (L2.KOf KX) mg "BadSettings" "BadSettings.__init__" CB (L2.inClass (Law.top 5) 0) ["self", "word"]∧L4.xG (L2.KOf KX) CB "word" ∧ L4.vG (L2.KOf KX) mg "RiseError" CR∧mg "RiseError" = some (.ref CR)∧mg "NoText" = some (.ref CN)∧mg "BadShape" = some (.ref CH)∧mg "BadSettings" = some (.ref CB)∧mg "NoLine" = some (.ref CL)∧L4.ux (L2.KOf KX) mg "NoText" CN∧L4.ux (L2.KOf KX) mg "BadShape" CH∧Law.Fz (L2.KOf KX) CR CN CH CB CL:=by
   dsimp only [L2.KOf]
   refine' Law.Cn KX G (Law.Fc KX G ?a3 ?g6 ?g7 ?v1 ?v2 ?v3 ?v4 ?v5 ?v8 ?r0 ?u1 ?u3 ?u4 ?u5 ?u6 ?i1 ?i2 ?i3 ?i4 ?i5 ?i6 ?b ?w1) ?u2 ?fw ?a0 ?a1 ?a2 ?a3 ?a4 ?r1 ?r2 ?r3 ?g6 ?g7 ?n1 ?n2 ?n3 ?n4 ?n5 ?n8 ?h1 ?h2 ?h3 ?h4 ?h5 ?h8 ?p1 ?p2 ?p3 ?q1 ?q2 ?q3 ?xm ?x1 ?x2 ?x3 ?x4 ?ym ?y1 ?y2 ?y3 ?y4 ?zm ?z1 ?z2 ?z3 ?z4
   (case a0=>k_is);(case a1=>k_is);(case a2=>k_is);(case a3=>k_is);(case a4=>k_is);(case g6=>k_is);(case g7=>k_is);(case v1=>k_is);(case v2=>k_is);(case v3=>k_is);(case v4=>k_is);(case v5=>k_is);(case v8=>k_is);(case u1=>k_is);(case u3=>k_is)
   (case u4=>rfl);(case u5=>rfl);(case u6=>rfl);(case r0=>k_exc)
   (case i1=>k_is);(case i2=>k_is);(case i3=>k_is);(case i4=>k_is);(case i5=>k_is);(case i6=>k_is)
   (case b=>exact fun _ _ _ _ _ _ us hl=>match us,hl with | [_,_],_=>rfl)
   (case w1=>k_is);(case u2=>k_is);(case fw=>k_is);(case r1=>k_is);(case r2=>k_is);(case r3=>k_is);(case n1=>k_is);(case n2=>k_is);(case n3=>k_is);(case n4=>k_is);(case n5=>k_is);(case n8=>k_is);(case h1=>k_is);(case h2=>k_is);(case h3=>k_is);(case h4=>k_is);(case h5=>k_is);(case h8=>k_is);(case p2=>k_is);(case p3=>k_is);(case q2=>k_is);(case q3=>k_is)
   (case p1=>k_exc);(case q1=>k_exc);(case xm=>kts_exm);(case ym=>kts_exm);(case zm=>kts_exm)
   (case x1=>kit_is);(case x2=>kit_is);(case x3=>kit_is);(case x4=>kit_is);(case y1=>kit_is);(case y2=>kit_is);(case y3=>kit_is);(case y4=>kit_is);(case z1=>kit_is);(case z2=>kit_is);(case z3=>kit_is);(case z4=>kit_is)
  obtain ⟨f,fd,F,b,m⟩:=HS.ex
  have e:=hmg.symm.trans m
  cases e
  obtain ⟨oc,od,kV,doc,pm,an,cdv,ct,osl,rfl,lk,hcd⟩:=id F.ex
  refine ⟨PySem.W.fnOf "law" "law" (L2.bD (Law.top 55)) (L2.aU (Law.top 55)) (L2.aj (Law.top 55)) .none kV doc pm an cdv ct,fun s u=>.of_eq rfl,fun base kb nb=>?_⟩
  have NE:=@L4.tE PySem.Challenge.rw_risemarks_k93_settings_and_lines_written.prog w
  have lX:=Law.BB (P:=PySem.Challenge.rw_risemarks_k93_settings_and_lines_written.prog) (w:=w) (base:=base) rY NE
  have Ct:=Law.zk (P:=PySem.Challenge.rw_risemarks_k93_settings_and_lines_written.prog) (w:=w) (base:=base) (CX:=L4.CX1 PySem.Challenge.rw_risemarks_k93_settings_and_lines_written.prog w) uz BT
  have Ay:=Law.BF kG NE Ct
  have Fi:=Law.Bx xK NE E7 Ay
  have gW:=Law.zq D_Shape SC NE OB Fi
  have Fg:=Law.Bw xJ NE E6 Ay
  have Fj:=Law.By (P:=PySem.Challenge.rw_risemarks_k93_settings_and_lines_written.prog) (w:=w) (base:=base) (CX:=L4.CX1 PySem.Challenge.rw_risemarks_k93_settings_and_lines_written.prog w) xM BT dO hR
  obtain ⟨dg,m1_Settings⟩:=Law.qM D_Settings SS BT NE dO hR (Law.wz DB BR EPW) Fg (Law.zv rW BT NE Fj)
  have bu:=Law.BD (P:=PySem.Challenge.rw_risemarks_k93_settings_and_lines_written.prog) (w:=w) (base:=base) FD ON
  have Ax:=Law.BA mO BT NE Hu E8 bu
  have Hz:=Law.wg p8 BT NE Ht dO hR bu
  have Aw:=Law.zx l0 BT NE Ax
  have Cs:=Law.wc uy BT NE bu
  have CD:=Law.wj qa BT NE bu Aw Hz
  have Hy:=Law.Ef (CN:=CN) mL BT NE gW dg
  have Cz:=Law.zw kF BT NE Cs CD Hy
  have Cy:=Law.we (P:=PySem.Challenge.rw_risemarks_k93_settings_and_lines_written.prog) (w:=w) (base:=base) (CX:=L4.CX1 PySem.Challenge.rw_risemarks_k93_settings_and_lines_written.prog w) p7 BT Ht
  have vC:=Law.zo (P:=PySem.Challenge.rw_risemarks_k93_settings_and_lines_written.prog) (w:=w) (base:=base) (CX:=L4.CX1 PySem.Challenge.rw_risemarks_k93_settings_and_lines_written.prog w) mK BT
  have Fl:=Law.BC (P:=PySem.Challenge.rw_risemarks_k93_settings_and_lines_written.prog) (w:=w) (base:=base) (CX:=L4.CX1 PySem.Challenge.rw_risemarks_k93_settings_and_lines_written.prog w) xH SC
  have Cu:=Law.zp kE SC SS NE Fl Cy vC
  have CF:=Law.zA rV NE vC
  have CC:=Law.zz rT BT NE bu Aw (Law.qO uA) (Law.wu AJ)
  have Av:=Law.wk qb BT NE bu Ax
  have CA:=Law.zy rS BT NE bu Ax Av CC
  have pX:=Law.wm qc BT NE ER h_RiseError h_NoText h_BadShape h_BadSettings h_NoLine Cz CA
  have Fo:=Law.zB kH BT NE lX gW dg
  have HE:=Law.Eh (P:=PySem.Challenge.rw_risemarks_k93_settings_and_lines_written.prog) (w:=w) (base:=base) (CX:=L4.CX1 PySem.Challenge.rw_risemarks_k93_settings_and_lines_written.prog w) jt BT
  have CG:=Law.zC (P:=PySem.Challenge.rw_risemarks_k93_settings_and_lines_written.prog) (w:=w) (base:=base) (CX:=L4.CX1 PySem.Challenge.rw_risemarks_k93_settings_and_lines_written.prog w) rX BT SC SS NE
  have xu:=Law.tu (P:=PySem.Challenge.rw_risemarks_k93_settings_and_lines_written.prog) (w:=w) (base:=base) (CX:=L4.CX1 PySem.Challenge.rw_risemarks_k93_settings_and_lines_written.prog w) mP BT NE
  have Cw:=Law.zu gE BT NE SC SS lX Fo HE pX Cu CG xu
  have CI:=Law.zE jZ BT NE lX (Law.zD rZ BT NE lX) (Law.Ei ju BT NE) CF pX
  exact Law.Ej F BT NE (Law.BE se BT) lX Cw CI pX
end

