import PyProof.Rows.All
import Wide.All
import OpenK.AllK
import Wide.FinOn
import PyProof.EqAt
import PyProof.EqKinds
import PyProof.TupleCall
import Lean
import PySem.Challenge.RW_risemarks_k56_readings_refused
section
set_option Elab.async false
set_option linter.all false
set_option maxRecDepth 100000
set_option maxHeartbeats 4000000
namespace L2
open PySem PySem.Spec PyProof.Rows
abbrev Key:=Sum Int Str
def ED:Key→Value→Bool
  | .inl k,v=>Value.isInt k v
  | .inr x,v=>Value.isStrOf x v
def JY (w:World):Key→Int
  | .inl k=>hashInt k
  | .inr x=>hashStr w x
theorem bU:∀ {k:Key} {v:Value},ED k v=true→(∃ i t,k=Sum.inl i∧v=Value.int i t)∨(∃ x t,k=Sum.inr x∧v=Value.str x t)
  | .inl i,v,h=>by
    obtain ⟨t,e⟩:=Value.isInt_shape (k:=i) (v:=v) h
    exact .inl ⟨i,t,rfl,e⟩
  | .inr x,v,h=>by
    obtain ⟨t,e⟩:=Value.isStrOf_shape (x:=x) (v:=v) h
    exact .inr ⟨x,t,rfl,e⟩
theorem FT (a b:Int):decide ((Sum.inl a:Key)=Sum.inl b)=(a == b):=by
  by_cases e:a=b
  · subst e;simp
  · have h:¬ (Sum.inl a:Key)=Sum.inl b:=fun q=>e (Sum.inl.inj q)
    rw [decide_eq_false h]
    exact (beq_eq_false_iff_ne.mpr e).symm
theorem FO (a b:Str):decide ((Sum.inr a:Key)=Sum.inr b)=decide (a=b):=by
  by_cases e:a=b
  · subst e;simp
  · have h:¬ (Sum.inr a:Key)=Sum.inr b:=fun q=>e (Sum.inr.inj q)
    rw [decide_eq_false h,decide_eq_false e]
theorem FQ (a:Int) (b:Str):decide ((Sum.inl a:Key)=Sum.inr b)=false:=decide_eq_false (fun q=>nomatch q)
theorem FP (a:Str) (b:Int):decide ((Sum.inr a:Key)=Sum.inl b)=false:=decide_eq_false (fun q=>nomatch q)
def vt (prog:Program) (w:World):PySem.KeyKind prog w Key where
  is:=ED
  hash:=JY w
  inj:=fun v a b ha hb=>by
    rcases bU ha with ⟨i,t,rfl,rfl⟩ | ⟨x,t,rfl,rfl⟩
    · rcases bU hb with ⟨j,u,rfl,e⟩ | ⟨y,u,rfl,e⟩
      · injection e with e1 _;rw [e1]
      · exact nomatch e
    · rcases bU hb with ⟨j,u,rfl,e⟩ | ⟨y,u,rfl,e⟩
      · exact nomatch e
      · injection e with e1 _;rw [e1]
  byValue:=fun k v h=>by
    rcases bU h with ⟨i,t,rfl,rfl⟩ | ⟨x,t,rfl,rfl⟩ <;> rfl
  pyHash:=fun hv h=>by
    rcases bU hv with ⟨i,t,rfl,rfl⟩ | ⟨x,t,rfl,rfl⟩
    · exact wpAny_pyHash_int h
    · exact wpAny_pyHash_str h
  eqBool:=fun hu hv h=>by
    rcases bU hu with ⟨i,t,rfl,rfl⟩ | ⟨x,t,rfl,rfl⟩
    · rcases bU hv with ⟨j,u,rfl,rfl⟩ | ⟨y,u,rfl,rfl⟩
      · rw [FT] at h;exact wpAny_eqBool_int h
      · rw [FQ] at h;exact SeqAt.EqAt.int_str i t y u _ _ _ _ h
    · rcases bU hv with ⟨j,u,rfl,rfl⟩ | ⟨y,u,rfl,rfl⟩
      · rw [FP] at h;exact SeqAt.EqAt.str_int x t j u _ _ _ _ h
      · rw [FO] at h;exact wpAny_eqBool_str h
  «strs»:=fun k x t v h=>by
    rcases bU h with ⟨i,u,rfl,e⟩ | ⟨y,u,rfl,e⟩
    · exact nomatch e
    · injection e with e1 _
      subst e1
      cases v <;> rfl
inductive V where
  | non | bl (b:Bool) | int (i:Int) | str (x:Str) | byt (b:Array UInt8) | flt (b:UInt64) | ref (a:Addr) | ty (n:String)
  deriving DecidableEq
def RelV:V→Value→Prop
  | .non,u=>u=Value.none
  | .bl b,u=>u=Value.bool b
  | .int i,u=>∃ t,u=Value.int i t
  | .str x,u=>∃ t,u=Value.str x t
  | .byt b,u=>∃ t,u=Value.bytes b t
  | .flt b,u=>∃ t,u=Value.float b t
  | .ref a,u=>u=Value.ref a
  | .ty n,u=>u=Value.type n
abbrev Vals:List V→List Value→Prop:=Paired RelV
theorem Vals.length {xs:List V} {us:List Value} (r:Vals xs us):xs.length=us.length:=Paired.length r
theorem Vals.get:∀ {xs:List V} {us:List Value} {i:Nat} {x:V},Vals xs us→xs[i]?=some x→∃ u,us[i]?=some u∧RelV x u
  | _,_,_,_,.nil,e=>by simp at e
  | _,_,0,_,.cons r _,e=>by simp at e;subst e;exact ⟨_,rfl,r⟩
  | _,_,i+1,x,.cons _ t,e=>by
    obtain ⟨u,h1,h2⟩:=Vals.get (i:=i) (x:=x) t (by simpa using e)
    exact ⟨u,by simpa using h1,h2⟩
theorem Vals.set {x:V} {u:Value} (r:RelV x u):∀ {xs:List V} {us:List Value} (i:Nat),Vals xs us→Vals (xs.set i x) (us.set i u)
  | _,_,_,.nil=>.nil
  | _,_,0,.cons _ t=>.cons r t
  | _,_,i+1,.cons q t=>.cons q (Vals.set r i t)
theorem Vals.append:∀ {xs ys:List V} {us ws:List Value},Vals xs us→Vals ys ws→Vals (xs++ys) (us++ws)
  | _,_,_,_,.nil,s=>s
  | _,_,_,_,.cons r t,s=>.cons r (Vals.append t s)
theorem Vals.take:∀ {xs:List V} {us:List Value} (n:Nat),Vals xs us→Vals (xs.take n) (us.take n)
  | _,_,0,_=>.nil
  | _,_,_+1,.nil=>.nil
  | _,_,n+1,.cons r t=>.cons r (Vals.take n t)
theorem Vals.drop:∀ {xs:List V} {us:List Value} (n:Nat),Vals xs us→Vals (xs.drop n) (us.drop n)
  | _,_,0,r=>r
  | _,_,_+1,.nil=>.nil
  | _,_,n+1,.cons _ t=>Vals.drop n t
def gG:Option V→Option Value→Prop
  | some v,some u=>RelV v u
  | none,none=>True
  | _,_=>False
def KV {κ : Type}:List (κ×V)→List (κ×Value)→Prop:=Paired fun (p : κ×V) (q : κ×Value)=>p.1=q.1∧RelV p.2 q.2
def kV:Key→V
  | .inl i=>.int i
  | .inr x=>.str x
inductive HO where
    | lst (xs:List V)
    | tup (xs:List V)
    | dK (kvs:List (Key×V)) | dT (kvs:List (List Key×V))
    | set (S:Int→Bool) (n:Nat)
    | ins (C dx:Addr) (fs:List (Str×V))
    | own (x:Addr)
    | xd (fs:List (Str×V))
    | met (f x:Addr)
    | rng (lo hi:Int)
    | frz (o:Obj) (u:HO)
    | tbl (ps:Array Value)
    | ext (φ : Heap→Prop)
abbrev Hp:=Addr→Option HO
def upd (H:Hp) (a:Addr) (o:HO):Hp:=fun b=>if b=a then some o else H b
theorem ay {H:Hp} {a:Addr} {o:HO}:upd H a o a=some o:=by unfold upd;rw [if_pos rfl]
theorem aB {H:Hp} {a b:Addr} {o:HO} (h:b≠a):upd H a o b=H b:=by unfold upd;rw [if_neg h]
theorem eF {H:Hp} {a:Addr} {o u:HO}:upd (upd H a o) a u=upd H a u:=by
  funext b;unfold upd;split <;> rfl
theorem aG {H:Hp} {a b:Addr} {o:HO} (h:H a=some o) (h':H b=none):a≠b:=by
  intro e;subst e;rw [h] at h';cases h'
section
variable (P:Program) (w:World)
def bL (H:Hp) (h:Heap) (a:Addr):HO→Prop
  | .lst xs=>xs.length≤sizeLine∧∃ (its:List Value) (n:Nat),Vals xs its∧h.get? a=some { cls:=.type "list",data:=.seq its.toArray n }
  | .tup xs=>xs.length≤sizeLine∧∃ its:List Value,Vals xs its∧IsTup h a its.toArray
  | .dK kvs=>kvs.length≤sizeLine∧(a == sysModules)=false∧∃ vs,KV kvs vs∧h.DictOf (vt P w) a vs
  | .dT kvs=>kvs.length≤sizeLine∧(a == sysModules)=false∧∃ xs:List (List Key×Addr×Value),
      Paired (fun (p:List Key×V) (q:List Key×Addr×Value)=>p.1=q.1∧H q.2.1=some (.tup (p.1.map kV))∧RelV p.2 q.2.2) kvs xs ∧
      ∃ o es ep,h.get? a=some o∧o.ExactDict∧o.data = .dict es ep∧es.toList=xs.map (entryOfKey (tupleKind (vt P w)))∧(xs.map (·.1)).Nodup
  | .set S n=>h.SetOf (intKind P w) a S n
  | .ins C dx fs=>H dx=some (.own a)∧fs.length≤1000∧dx≠a∧h.get? a=some (PySem.W.instObj C dx) ∧
      ∃ mA,h.Ns1 dx mA∧(∀ f,gG (fs.lookup f) (mA f))∧PySem.Within mA (fs.map (·.1))
  | .own _=>∃ o,h.get? a=some o
  | .xd fs=>∃ mA,h.Ns1 a mA∧∀ f,gG (fs.lookup f) (mA f)
  | .rng lo hi=>∃ t u v,h.get? a=some { cls:=.type "range",data:=.fields #[.int lo t,.int hi u,.int 1 v] }
  | .frz o u=>h.get? a=some o∧bL H h a u
  | .tbl ps=>h.get? a=some { cls:=.none,data:=.fields ps }
  | .met f x=>h.get? a=some (PySem.W.methodObj (.ref f) (.ref x))
  | .ext φ=>φ h∧(∃ o,h.get? a=some o)∧∀ h1 h2:Heap,φ h1→(∀ o,h1.get? a=some o→h2.get? a=some o)→φ h2
def HOk (H:Hp) (h:Heap):Prop:=∀ a o,H a=some o→bL P w H h a o
end
section
variable {P:Program} {w:World} {H H':Hp} {h h':Heap} {a:Addr} {o:HO}
theorem bL.lt (x:bL P w H h a o):a < h.objs.size:=by
  cases o with
  | lst xs=>obtain ⟨_,_,_,_,e⟩:=x;exact Heap.lt_size e
  | tup xs=>obtain ⟨_,_,_,p⟩:=x;exact p.lt
  | dK kvs=>obtain ⟨_,_,_,_,o,_,_,e,_⟩:=x;exact Heap.lt_size e
  | dT kvs=>obtain ⟨_,_,_,_,o,_,_,e,_⟩:=x;exact Heap.lt_size e
  | set S n=>obtain ⟨o,_,_,_,e,_⟩:=x;exact Heap.lt_size e
  | ins C dx fs=>obtain ⟨_,_,_,e,_⟩:=x;exact Heap.lt_size e
  | own y=>obtain ⟨_,e⟩:=x;exact Heap.lt_size e
  | xd fs=>obtain ⟨_,⟨_,_,_,e,_⟩,_⟩:=x;exact Heap.lt_size e
  | rng lo hi=>obtain ⟨_,_,_,e⟩:=x;exact Heap.lt_size e
  | frz ob u=>obtain ⟨e,_⟩:=x;exact Heap.lt_size e
  | tbl ps=>exact Heap.lt_size (show h.get? a=some _ from x)
  | met f y=>exact Heap.lt_size (show h.get? a=some _ from x)
  | ext φ=>obtain ⟨_,⟨_,e⟩,_⟩:=x;exact Heap.lt_size e
theorem Paired.ID {α β : Type} {F G : α→β→Prop}:∀ {l₁ : List α} {l₂ : List β},Paired F l₁ l₂→(∀ a b,F a b→G a b)→Paired G l₁ l₂
  | _,_,.nil,_=>.nil
  | _,_,.cons r t,f=>.cons (f _ _ r) (Paired.ID t f)
theorem bL.stay (x:bL P w H h a o) (k:∀ b u,(b=a∨H b=some (.own a))→h.get? b=some u→h'.get? b=some u)
    (ho:∀ b,H b=some (.own a)→H' b=some (.own a)) (ht:∀ b xs,H b=some (.tup xs)→H' b=some (.tup xs)):bL P w H' h' a o:=by
  induction o with
  | lst xs=>obtain ⟨z,its,n,r,e⟩:=x;exact ⟨z,its,n,r,k _ _ (.inl rfl) e⟩
  | tup xs=>obtain ⟨z,its,r,ob,e,c⟩:=x;exact ⟨z,its,r,ob,k _ _ (.inl rfl) e,c⟩
  | dK kvs=>obtain ⟨z,y,vs,r,ob,es,ep,e,c⟩:=x;exact ⟨z,y,vs,r,ob,es,ep,k _ _ (.inl rfl) e,c⟩
  | dT kvs=>
    obtain ⟨z,y,xs,r,ob,es,ep,e,c⟩:=x
    exact ⟨z,y,xs,Paired.ID r fun p q z=>⟨z.1,ht _ _ z.2.1,z.2.2⟩,ob,es,ep,k _ _ (.inl rfl) e,c⟩
  | set S n=>obtain ⟨ob,es,ep,t,e,c⟩:=x;exact ⟨ob,es,ep,t,k _ _ (.inl rfl) e,c⟩
  | ins C dx fs=>
    obtain ⟨d,z,ne,e,mA,⟨od,es,ep,e2,c⟩,r⟩:=x
    exact ⟨ho _ d,z,ne,k _ _ (.inl rfl) e,mA,⟨od,es,ep,k _ _ (.inr d) e2,c⟩,r⟩
  | own y=>obtain ⟨ob,e⟩:=x;exact ⟨ob,k _ _ (.inl rfl) e⟩
  | xd fs=>obtain ⟨mA,⟨od,es,ep,e,c⟩,r⟩:=x;exact ⟨mA,⟨od,es,ep,k _ _ (.inl rfl) e,c⟩,r⟩
  | rng lo hi=>obtain ⟨t,u,v,e⟩:=x;exact ⟨t,u,v,k _ _ (.inl rfl) e⟩
  | frz ob u ih=>obtain ⟨e,q⟩:=x;exact ⟨k _ _ (.inl rfl) e,ih q⟩
  | tbl ps=>
    have e:h.get? a=some { cls:=.none,data:=.fields ps }:=x
    show h'.get? a=some { cls:=.none,data:=.fields ps }
    exact k a _ (.inl rfl) e
  | met f y=>
    have e:h.get? a=some (PySem.W.methodObj (.ref f) (.ref y)):=x
    show h'.get? a=some (PySem.W.methodObj (.ref f) (.ref y))
    exact k a _ (.inl rfl) e
  | ext φ=>obtain ⟨p,⟨o,e⟩,st⟩:=x;exact ⟨st _ _ p fun o q=>k _ _ (.inl rfl) q,⟨o,k _ _ (.inl rfl) e⟩,st⟩
theorem HOk.lt (x:HOk P w H h) (e:H a=some o):a < h.objs.size:=(x a o e).lt
theorem HOk.fresh (x:HOk P w H h) (e:h.objs.size≤a):H a=none:=by
  cases q:H a with
  | none=>rfl
  | some u=>exact absurd (Nat.lt_of_lt_of_le (x.lt q) e) (Nat.lt_irrefl _)
theorem HOk.kept (x:HOk P w H h) (k:∀ b u,h.get? b=some u→h'.get? b=some u):HOk P w H h':=fun a o e=>
  (x a o e).stay (fun b u _ q=>k b u q) (fun _ q=>q) fun _ _ q=>q
theorem HOk.laid (x:HOk P w H h) (k:∀ b u,h.get? b=some u→h'.get? b=some u) (hp:h.objs.size≤a) (new:bL P w (upd H a o) h' a o):HOk P w (upd H a o) h':=fun b u e=>by
  have hn:=x.fresh hp
  by_cases hb:b=a
  · subst hb;rw [ay] at e;cases e;exact new
  · rw [aB hb] at e
    exact (x b u e).stay (fun c v _ q=>k c v q) (fun c q=>by rw [aB (aG q hn)];exact q) fun c xs q=>by rw [aB (aG q hn)];exact q
end
def Rd (H:Hp) (a:Addr) (u:HO):Prop:=H a=some u∨∃ o,H a=some (.frz o u)
theorem Rd.ok {P:Program} {w:World} {H:Hp} {h:Heap} {a:Addr} {u:HO} (r:Rd H a u) (x:HOk P w H h):bL P w H h a u:=by
  rcases r with r | ⟨o,r⟩
  · exact x a u r
  · obtain ⟨_,q⟩:=x a _ r
    exact q
def Mut:Option HO→Prop
  | some (.lst _)=>True
  | some (.dK _)=>True
  | some (.dT _)=>True
  | some (.set _ _)=>True
  | some (.ins _ _ _)=>True
  | some (.ext _)=>True
  | _=>False
section
variable {P:Program} {w:World} {H:Hp} {h h':Heap} {x e:Addr} {o':HO}
theorem HOk.write (ok:HOk P w H h) (mu:Mut (H x)) (he:e=x∨H e=some (.own x)) (k:∀ b u,b≠e→h.get? b=some u→h'.get? b=some u) (heo:∃ u,h'.get? e=some u)
    (new:bL P w (upd H x o') h' x o'):HOk P w (upd H x o') h':=fun b u q=>by
  have IA:∀ c y,H c=some (.own y)→c≠x:=fun c y r z=>by subst z;rw [r] at mu;exact mu
  have JR:∀ c xs,H c=some (.tup xs)→c≠x:=fun c xs r z=>by subst z;rw [r] at mu;exact mu
  by_cases hb:b=x
  · subst hb;rw [ay] at q;cases q;exact new
  · rw [aB hb] at q
    by_cases hbe:b=e
    · have q':H b=some (.own x):=by
        rcases he with z | z
        · exact absurd (hbe.trans z) hb
        · rw [hbe];exact z
      rw [q] at q';cases q'
      obtain ⟨v,hv⟩:=heo
      exact ⟨v,by rw [hbe];exact hv⟩
    · refine (ok b u q).stay (fun c v hc r=>k c v ?_ r) (fun c r=>by rw [aB (IA c b r)];exact r) fun c xs r=>by rw [aB (JR c xs r)];exact r
      rcases hc with rfl | hc
      · exact hbe
      · rintro rfl
        rcases he with z | z
        · exact IA c b hc z
        · rw [hc] at z;cases z;exact hb rfl
end
structure Un (fs ex:List Addr) (H H':Hp) (h h':Heap):Prop where
  keep:∀ b o,h.get? b=some o→H b=none→b∉fs→b∉ex→h'.get? b=some o
  slot:∀ b o,h.get? b=some o→H b=none→b∈fs→b∉ex→∃ sl,h'.get? b=some { o with slots:=sl }
  free:∀ b o,h.get? b=some o→H b=none→b∉ex→H' b=none
  there:∀ b o,h.get? b=some o→b∉ex→∃ o',h'.get? b=some o'
  tups:∀ b xs,H b=some (.tup xs)→H' b=some (.tup xs)
  gE:∀ b o u,H b=some (.frz o u)→H' b=some (.frz o u)
  gM:∀ b ps,H b=some (.tbl ps)→∃ more,H' b=some (.tbl (ps++more))
section
variable {fs fs' ex ex':List Addr} {H H1 H2:Hp} {h h1 h2 h':Heap} {a x e:Addr} {o:HO}
theorem Un.any (u:Un fs ex H H1 h h1) {b:Addr} {ob:Obj} (q:h.get? b=some ob) (n:H b=none) (hx:b∉ex):∃ sl,h1.get? b=some { ob with slots:=sl }:=by
  by_cases hb:b∈fs
  · exact u.slot b ob q n hb hx
  · exact ⟨ob.slots,u.keep b ob q n hb hx⟩
theorem Un.trans (a:Un fs ex H H1 h h1) (b:Un fs ex H1 H2 h1 h2):Un fs ex H H2 h h2 where
  keep:=fun c ob q n hc hx=>b.keep c ob (a.keep c ob q n hc hx) (a.free c ob q n hx) hc hx
  slot:=fun c ob q n hc hx=>by
    obtain ⟨sl,e1⟩:=a.slot c ob q n hc hx
    obtain ⟨sl',e2⟩:=b.slot c _ e1 (a.free c ob q n hx) hc hx
    exact ⟨sl',e2⟩
  free:=fun c ob q n hx=>by
    obtain ⟨o',e1⟩:=a.there c ob q hx
    exact b.free c o' e1 (a.free c ob q n hx) hx
  there:=fun c ob q hx=>by
    obtain ⟨o',e1⟩:=a.there c ob q hx
    exact b.there c o' e1 hx
  tups:=fun c xs q=>b.tups c xs (a.tups c xs q)
  gE:=fun c ob xs q=>b.gE c ob xs (a.gE c ob xs q)
  gM:=fun c ps q=>by
    obtain ⟨m1,e1⟩:=a.gM c ps q
    obtain ⟨m2,e2⟩:=b.gM c _ e1
    exact ⟨m1++m2,by rw [e2,Array.append_assoc]⟩
theorem Un.kept (k:∀ b u,h.get? b=some u→h'.get? b=some u):Un fs ex H H h h':=
  ⟨fun b ob q _ _ _=>k b ob q,fun b ob q _ _ _=>⟨ob.slots,k b ob q⟩,fun _ _ _ n _=>n,fun b ob q _=>⟨ob,k b ob q⟩,fun _ _ q=>q,fun _ _ _ q=>q,fun _ ps q=>⟨#[],by rw [q];simp⟩⟩
theorem Un.refl:Un fs ex H H h h:=Un.kept fun _ _ q=>q
theorem Un.laid (k:∀ b u,h.get? b=some u→h'.get? b=some u) (hp:h.objs.size≤a) (hn:H a=none):Un fs ex H (upd H a o) h h' where
  keep:=fun b u q _ _ _=>k b u q
  slot:=fun b u q _ _ _=>⟨u.slots,k b u q⟩
  free:=fun b u q n _=>by rw [aB (Nat.ne_of_lt (Nat.lt_of_lt_of_le (Heap.lt_size q) hp))];exact n
  there:=fun b u q _=>⟨u,k b u q⟩
  tups:=fun b xs q=>by rw [aB (aG q hn)];exact q
  gE:=fun b u xs q=>by rw [aB (aG q hn)];exact q
  gM:=fun b ps q=>⟨#[],by rw [aB (aG q hn),q];simp⟩
theorem Un.write (mu:Mut (H x)) (he:e=x∨H e=some (.own x)) (k:∀ b u,b≠e→h.get? b=some u→h'.get? b=some u) (heo:∃ u,h'.get? e=some u):Un fs ex H (upd H x o) h h':=by
  have hx:∀ b,H b=none→b≠x:=fun b n z=>by subst z;rw [n] at mu;exact mu
  have hb:∀ b,H b=none→b≠e:=fun b n z=>by
    subst z
    rcases he with r | r
    · exact hx b n r
    · rw [n] at r;cases r
  have hm:∀ b u,H b=some u→¬ Mut (some u)→b≠x:=fun b u q nm z=>by subst z;rw [q] at mu;exact nm mu
  refine ⟨fun b u q n _ _=>k b u (hb b n) q,fun b u q n _ _=>⟨u.slots,k b u (hb b n) q⟩,fun b u q n _=>by rw [aB (hx b n)];exact n,fun b u q _=>?_,
    fun b xs q=>by rw [aB (hm b _ q fun z=>z)];exact q,fun b u xs q=>by rw [aB (hm b _ q fun z=>z)];exact q,fun b ps q=>⟨#[],by rw [aB (hm b _ q fun z=>z),q];simp⟩⟩
  by_cases hbe:b=e
  · subst hbe;exact heo
  · exact ⟨u,k b u hbe q⟩
end
def trk (h:Heap) (H:Hp):List Addr:=(List.range h.objs.size).filter fun a=>(H a).isSome
def oE (h:Heap) (H:Hp):Heap:=PySem.W.hideAll h (trk h H)
theorem xy (h:Heap) (H:Hp):(oE h H).objs.size=h.objs.size:=PySem.W.hideAll_size _ _
theorem Aq {h:Heap} {H:Hp} {b:Addr} {o:Obj} (e:h.get? b=some o) (n:H b=none):(oE h H).get? b=some o:=
  PySem.W.hideAll_get _ e fun hm=>by
    have q:(H b).isSome=true:=(List.mem_filter.mp hm).2
    rw [n] at q;simp at q
theorem CZ {h:Heap} {H:Hp} {b:Addr} {o:Obj} (e:(oE h H).get? b=some o):h.get? b=some o∧H b=none:=by
  have e':h.get? b=some o:=PySem.W.of_hideAll (trk h H) e
  refine ⟨e',?_⟩
  cases q:H b with
  | none=>rfl
  | some x=>
    have hm:b∈trk h H:=List.mem_filter.mpr ⟨List.mem_range.mpr (Heap.lt_size e'),by simp [q]⟩
    have z:(oE h H).get? b=none:=PySem.W.hideAll_none (trk h H) hm
    rw [z] at e;cases e
structure Mod (K:PySem.W.Frag) (mg:Str→Option Value) (base:Heap):Prop where
  kin:K.In base
  glob:base.Ns mainGlobals mg
  blt:∃ mb,base.Ns builtinsNs mb∧∀ x:Str,x ≠ "__name__" → mb x=bootBuiltins x
  nolimit:base.NoLimit
structure Cx where
  prog:Program
  w:World
  K:PySem.W.Frag
  mg:Str→Option Value
  base:Heap
  A:Around
  N:List Str
  s₀ : Shared
  H₀ : Hp
  env:Env
  outer:List Env
  stack:List Env
  ex:List Addr
  fn:Str→Bool
  calm:Bool
  pn:List (Addr×Obj)
  xe:Value→Shared→Prop
def frs (l:List Env):List Addr:=l.filterMap (·.frame)
abbrev Cx.fs (X:Cx):List Addr:=frs X.outer
def Vis (sc:Scope) (x:Str):Prop:=sc.names.lookup x=some .local∨sc.names.lookup x=some .cell∨sc.names.lookup x=some .free
def Loc (sc:Scope) (x:Str):Prop:=sc.names.lookup x=some .local∨sc.names.lookup x=some .cell
def Look (env:Env) (h:Heap) (m:Str→Option Value) (x:Str) (u:Value):Prop:=
  (env.kindOf x=some .local∧m x=some u)∨((env.kindOf x=some .cell∨env.kindOf x=some .free)∧∃ c,env.cells.lookup x=some c∧h.IsCell c (some u))
structure Cx.Ok (X:Cx):Prop where
  mod:Mod X.K X.mg X.base
  kind:X.env.scope.kind = .function
  glob:X.env.globals=mainGlobals
  blt:X.env.builtins=builtinsNs
  above:X.s₀.heap.objs.size≤X.env.locals
  inj:∀ x y c,X.env.cells.lookup x=some c→X.env.cells.lookup y=some c→x=y
  has:∀ x,(X.env.kindOf x=some .cell∨X.env.kindOf x=some .free)→∃ c,X.env.cells.lookup x=some c
  cab:∀ x c,X.fn x=true→X.env.cells.lookup x=some c→X.s₀.heap.objs.size≤c
  hd:X.calm=true→X.A.handled=none
  frames:X.A.frames=some X.stack
  stk:X.stack=X.outer∨(X.stack=X.env::X.outer∧X.env.frame=some X.env.locals)
  exf:∀ b∈X.ex,b≠X.env.locals∧∀ x c,X.env.cells.lookup x=some c→c≠b
  bs:∀ b o,X.base.get? b=some o→X.s₀.heap.get? b=some o∧X.H₀ b=none
  bsz:X.base.objs.size≤X.s₀.heap.objs.size
  noex:∀ b o,X.base.get? b=some o→b∉X.ex
  exfs:∀ b∈X.ex,b∉X.fs
  fV:X.s₀.heap.FunFrames X.base X.outer
  frf:∀ b∈X.fs,X.H₀ b=none
structure Inv (X:Cx) (pins:List (Addr×Obj)) (σ : List (Option V)) (H:Hp) (s:Shared):Prop where
  ok:X.Ok
  os:s.os=X.s₀.os
  bare:AllBare s.gens
  base:Un X.fs X.ex X.H₀ H X.s₀.heap s.heap
  loc:∃ m,s.heap.Ns X.env.locals m∧∀ (i:Nat) (x:Str) (v:V),X.N[i]?=some x→σ[i]?=some (some v)→Vis X.env.scope x→∃ u,RelV v u∧Look X.env s.heap m x u
  cell:∀ x c,X.env.cells.lookup x=some c→∃ v,s.heap.IsCell c v
  free:H X.env.locals=none
  freeC:∀ x c,X.env.cells.lookup x=some c→H c=none
  pin:∀ p∈X.pn++pins,s.heap.get? p.1=some p.2∧H p.1=none∧p.1≠X.env.locals∧p.1∉X.fs∧∀ v,p.2.data≠.cell v
  hok:HOk X.prog X.w H s.heap
  len : σ.length=X.N.length
section
variable {X:Cx} {pins:List (Addr×Obj)} {σ : List (Option V)} {H H':Hp} {s:Shared} {h':Heap}
theorem Cx.Ok.JV (ok:X.Ok) {b:Addr} {o:Obj} (e:X.base.get? b=some o):b∉X.fs:=fun hb=>by
  have:=(ok.fV.mem hb).1
  rw [e] at this;cases this
theorem Inv.bs (I:Inv X pins σ H s):∀ b o,X.base.get? b=some o→s.heap.get? b=some o∧H b=none:=fun b o e=>
  ⟨I.base.keep b o (I.ok.bs b o e).1 (I.ok.bs b o e).2 (I.ok.JV e) (I.ok.noex b o e),I.base.free b o (I.ok.bs b o e).1 (I.ok.bs b o e).2 (I.ok.noex b o e)⟩
theorem Inv.bk (I:Inv X pins σ H s):∀ b o,X.base.get? b=some o→s.heap.get? b=some o:=fun b o e=>(I.bs b o e).1
theorem Inv.mod (I:Inv X pins σ H s):Mod X.K X.mg X.base:=I.ok.mod
theorem Inv.kIn (I:Inv X pins σ H s):X.K.In s.heap:=I.ok.mod.kin.keeps I.bk
theorem Inv.lt (I:Inv X pins σ H s):X.env.locals < s.heap.objs.size:=let ⟨_,hn,_⟩:=I.loc;hn.lt
theorem Inv.sz (I:Inv X pins σ H s):X.s₀.heap.objs.size≤s.heap.objs.size:=Nat.le_trans I.ok.above (Nat.le_of_lt I.lt)
theorem Inv.IB (I:Inv X pins σ H s) {a:Addr} (h:s.heap.objs.size≤a):a∉X.fs:=fun hb=>by
  obtain ⟨_,o,ho,_⟩:=I.ok.fV.mem hb
  exact absurd (Nat.lt_of_lt_of_le (Heap.lt_size ho) (Nat.le_trans I.sz h)) (Nat.lt_irrefl _)
theorem Inv.cne (I:Inv X pins σ H s):∀ x c,X.env.cells.lookup x=some c→c≠X.env.locals:=fun x c e z=>by
  obtain ⟨v,o,ho,hd⟩:=I.cell x c e
  obtain ⟨m,⟨o',es,ep,ho',hd',_⟩,_⟩:=I.loc
  rw [z,ho'] at ho;cases ho;rw [hd'] at hd;cases hd
theorem Inv.fV (I:Inv X pins σ H s):s.heap.FunFrames X.base X.outer:=by
  have all:∀ (l:List Env),(∀ b∈frs l,b∈X.fs)→X.s₀.heap.FunFrames X.base l→s.heap.FunFrames X.base l:=by
    intro l
    induction l with
    | nil=>intro _ _;trivial
    | cons env r ih=>
      intro hs hl
      obtain ⟨hk,⟨L,o,hf,hn,ho,hd⟩,hr⟩:=hl
      have hL:L∈X.fs:=hs L (by unfold frs;rw [List.filterMap_cons,hf];exact List.mem_cons_self)
      obtain ⟨sl,e⟩:=I.base.slot L o ho (I.ok.frf L hL) hL fun z=>I.ok.exfs L z hL
      exact ⟨hk,⟨L,_,hf,hn,e,hd⟩,ih (fun b hb=>hs b (by unfold frs;rw [List.filterMap_cons,hf];exact List.mem_cons_of_mem _ hb)) hr⟩
  exact all X.outer (fun _ hb=>hb) I.ok.fV
theorem Inv.stack (I:Inv X pins σ H s):s.heap.FunFrames X.base X.stack:=by
  rcases I.ok.stk with e | ⟨e,hf⟩
  · rw [e];exact I.fV
  · rw [e]
    obtain ⟨m,hn,_⟩:=I.loc
    refine .cons (by rw [I.ok.kind];decide) hf hn ?_ I.fV
    exact Heap.get?_none_of_le (Nat.le_trans I.ok.bsz I.ok.above)
theorem Inv.nB (I:Inv X pins σ H s):∀ b∈frs X.stack,b∈X.env.locals::X.fs:=fun b hb=>by
  rcases I.ok.stk with e | ⟨e,hf⟩
  · rw [e] at hb;exact List.mem_cons_of_mem _ hb
  · rw [e] at hb
    unfold frs at hb
    rw [List.filterMap_cons,hf] at hb
    exact hb
theorem Inv.nE (I:Inv X pins σ H s):∀ b∈frs X.stack,H b=none:=fun b hb=>by
  rcases List.mem_cons.mp (I.nB b hb) with e | hb
  · rw [e];exact I.free
  · obtain ⟨_,o,ho,_⟩:=I.ok.fV.mem hb
    exact I.base.free b o ho (I.ok.frf b hb) fun z=>I.ok.exfs b z hb
theorem Inv.step {g':Array GenState} {t':Nat} {d':Drawn} {ch:List Addr} (I:Inv X pins σ H s)
    (hch:∀ b∈ch,(b∈X.ex∨X.s₀.heap.objs.size≤b)∧b≠X.env.locals∧(∀ x c,X.env.cells.lookup x=some c→c≠b)∧∀ p∈X.pn++pins,p.1≠b)
    (keep:∀ b o,b≠X.env.locals→b∉X.fs→b∉ch→s.heap.get? b=some o→H b=none→h'.get? b=some o)
    (slot:∀ b o,b≠X.env.locals→b∈X.fs→b∉ch→s.heap.get? b=some o→H b=none→∃ sl,h'.get? b=some { o with slots:=sl }) (free:∀ b o,b∉ch→s.heap.get? b=some o→H b=none→H' b=none)
    (there:∀ b o,b∉ch→s.heap.get? b=some o→∃ o',h'.get? b=some o')
    (tups:∀ b xs,H b=some (.tup xs)→H' b=some (.tup xs)) (gE:∀ b o u,H b=some (.frz o u)→H' b=some (.frz o u)) (gM:∀ b ps,H b=some (.tbl ps)→∃ more,H' b=some (.tbl (ps++more)))
    (ns:∀ m,s.heap.Ns X.env.locals m→h'.Ns X.env.locals m) (hok:HOk X.prog X.w H' h') (hg:AllBare g') :
    Inv X pins σ H' { s with heap:=h',gens:=g',drawn:=d',toks:=t' }:=by
  have neL:∀ b o,X.s₀.heap.get? b=some o→b≠X.env.locals:=fun b o e=>Nat.ne_of_lt (Nat.lt_of_lt_of_le (Heap.lt_size e) I.ok.above)
  have neC:∀ b o,X.s₀.heap.get? b=some o→b∉X.ex→b∉ch:=fun b o e hx hb=>by
    rcases (hch b hb).1 with z | z
    · exact hx z
    · exact absurd (Nat.lt_of_lt_of_le (Heap.lt_size e) z) (Nat.lt_irrefl _)
  have cellK:∀ x c,X.env.cells.lookup x=some c→∀ v,s.heap.IsCell c v→h'.IsCell c v:=fun x c e v ⟨o,ho,hd⟩=>by
    have nch:c∉ch:=fun z=>(hch c z).2.2.1 x c e rfl
    by_cases hc:c∈X.fs
    · obtain ⟨sl,q⟩:=slot c o (I.cne x c e) hc nch ho (I.freeC x c e)
      exact ⟨_,q,hd⟩
    · exact ⟨o,keep c o (I.cne x c e) hc nch ho (I.freeC x c e),hd⟩
  refine ⟨I.ok,I.os,hg,⟨fun b o e n hb hx=>?_,fun b o e n hb hx=>?_,fun b o e n hx=>?_,fun b o e hx=>?_,fun b xs e=>tups b xs (I.base.tups b xs e),fun b o xs e=>gE b o xs (I.base.gE b o xs e),fun b ps e=>?_⟩,?_,fun x c e=>?_,?_,fun x c e=>?_,fun p hp=>?_,hok,I.len⟩
  · exact keep b o (neL b o e) hb (neC b o e hx) (I.base.keep b o e n hb hx) (I.base.free b o e n hx)
  · obtain ⟨sl,e1⟩:=I.base.slot b o e n hb hx
    obtain ⟨sl',e2⟩:=slot b _ (neL b o e) hb (neC b o e hx) e1 (I.base.free b o e n hx)
    exact ⟨sl',e2⟩
  · obtain ⟨o',e1⟩:=I.base.there b o e hx
    exact free b o' (neC b o e hx) e1 (I.base.free b o e n hx)
  · obtain ⟨o',e1⟩:=I.base.there b o e hx
    exact there b o' (neC b o e hx) e1
  · obtain ⟨m1,e1⟩:=I.base.gM b ps e
    obtain ⟨m2,e2⟩:=gM b _ e1
    exact ⟨m1++m2,by rw [e2,Array.append_assoc]⟩
  · obtain ⟨m,hn,hl⟩:=I.loc
    refine ⟨m,ns m hn,fun i x v e1 e2 e3=>?_⟩
    obtain ⟨u,r,l⟩:=hl i x v e1 e2 e3
    refine ⟨u,r,?_⟩
    rcases l with l | ⟨k,c,e,z⟩
    · exact .inl l
    · exact .inr ⟨k,c,e,cellK x c e _ z⟩
  · obtain ⟨v,z⟩:=I.cell x c e
    exact ⟨v,cellK x c e v z⟩
  · obtain ⟨m,⟨o,_,_,ho,_⟩,_⟩:=I.loc
    exact free _ o (fun z=>(hch _ z).2.1 rfl) ho I.free
  · obtain ⟨v,o,ho,hd⟩:=I.cell x c e
    exact free c o (fun z=>(hch c z).2.2.1 x c e rfl) ho (I.freeC x c e)
  · obtain ⟨e,n,ne,nf,d⟩:=I.pin p hp
    have nch:p.1∉ch:=fun z=>(hch p.1 z).2.2.2 p hp rfl
    exact ⟨keep p.1 p.2 ne nf nch e n,free p.1 p.2 nch e n,ne,nf,d⟩
theorem Inv.un {t':Nat} (I:Inv X pins σ H s) (u:Un X.fs [] H H' s.heap h') (hok:HOk X.prog X.w H' h'):Inv X pins σ H' { s with heap:=h',toks:=t' }:=by
  obtain ⟨m,⟨o,es,ep,ho,r⟩,_⟩:=id I.loc
  obtain ⟨sl,hL⟩:=u.any ho I.free (by simp)
  exact I.step (g':=s.gens) (d':=s.drawn) (ch:=[]) (fun _ z=>nomatch z) (fun b o _ hb _ e n=>u.keep b o e n hb (by simp)) (fun b o _ hb _ e n=>u.slot b o e n hb (by simp)) (fun b o _ e n=>u.free b o e n (by simp)) (fun b o _ e=>u.there b o e (by simp)) u.tups u.gE u.gM (fun m' hm=>by
    obtain ⟨o',es',ep',ho',r'⟩:=hm
    rw [ho] at ho';cases ho'
    exact ⟨_,es',ep',hL,r'⟩) hok I.bare
theorem Inv.call {g':Array GenState} {t':Nat} {d':Drawn} {ch:List Addr} (I:Inv X pins σ H s) (u:Un (frs X.stack) ch H H' s.heap h') (hok:HOk X.prog X.w H' h') (hg:AllBare g')
    (hch:∀ b∈ch,(b∈X.ex∨X.s₀.heap.objs.size≤b)∧b≠X.env.locals∧(∀ x c,X.env.cells.lookup x=some c→c≠b)∧∀ p∈X.pn++pins,p.1≠b) :
    Inv X pins σ H' { s with heap:=h',gens:=g',drawn:=d',toks:=t' }:=by
  obtain ⟨m,⟨o,es,ep,ho,r⟩,_⟩:=id I.loc
  obtain ⟨sl,hL⟩:=u.any ho I.free fun z=>(hch _ z).2.1 rfl
  exact I.step (ch:=ch) hch (fun b o hL hb hc e n=>u.keep b o e n (fun z=>(List.mem_cons.mp (I.nB b z)).elim hL hb) hc) (fun b o _ _ hc e n=>u.any e n hc) (fun b o hc e n=>u.free b o e n hc) (fun b o hc e=>u.there b o e hc) u.tups u.gE u.gM (fun m' hm=>by
    obtain ⟨o',es',ep',ho',r'⟩:=hm
    rw [ho] at ho';cases ho'
    exact ⟨_,es',ep',hL,r'⟩) hok hg
theorem Inv.turned {t':Nat} {it:Addr} (I:Inv X pins σ H s) (k:∀ b o,b≠it→s.heap.get? b=some o→h'.get? b=some o) (hn:H it=none) (hL:it≠X.env.locals)
    (h1:it∈X.ex∨X.s₀.heap.objs.size≤it) (h2:∀ x c,X.env.cells.lookup x=some c→c≠it) (h3:∀ p∈X.pn++pins,p.1≠it):Inv X pins σ H { s with heap:=h',toks:=t' }:=by
  have nit:∀ b u,H b=some u→b≠it:=fun b u e z=>by rw [z,hn] at e;cases e
  refine I.step (g':=s.gens) (d':=s.drawn) (ch:=[it]) (fun b hb=>?_) (fun b o _ _ hc e _=>k b o (fun z=>hc (by simp [z])) e) (fun b o _ _ hc e _=>⟨o.slots,k b o (fun z=>hc (by simp [z])) e⟩) (fun _ _ _ _ n=>n)
    (fun b o hc e=>⟨o,k b o (fun z=>hc (by simp [z])) e⟩) (fun _ _ e=>e) (fun _ _ _ e=>e) (fun b ps e=>⟨#[],by rw [e];simp⟩) (fun m hm=>?_) (fun b u e=>?_) I.bare
  · have e:b=it:=by simpa using hb
    subst e
    exact ⟨h1,hL,h2,h3⟩
  · obtain ⟨o,es,ep,ho,r⟩:=hm
    exact ⟨o,es,ep,k _ o (Ne.symm hL) ho,r⟩
  · refine (I.hok b u e).stay (fun c v hc q=>k c v ?_ q) (fun _ q=>q) fun _ _ q=>q
    rcases hc with z | z
    · rw [z];exact nit b u e
    · exact nit c _ z
theorem Inv.tok (I:Inv X pins σ H s) (t:Nat):Inv X pins σ H { s with toks:=t }:=I.un (h':=s.heap) (t':=t) Un.refl I.hok
theorem Inv.kept {t':Nat} (I:Inv X pins σ H s) (k:∀ b u,s.heap.get? b=some u→h'.get? b=some u):Inv X pins σ H { s with heap:=h',toks:=t' }:=I.un (Un.kept k) (I.hok.kept k)
theorem Inv.laid {a:Addr} {o:HO} {t':Nat} (I:Inv X pins σ H s) (k:∀ b u,s.heap.get? b=some u→h'.get? b=some u) (hp:s.heap.objs.size≤a) (new:bL X.prog X.w (upd H a o) h' a o) :
    Inv X pins σ (upd H a o) { s with heap:=h',toks:=t' }:=I.un (Un.laid k hp (I.hok.fresh hp)) (I.hok.laid k hp new)
theorem Inv.write {x e:Addr} {o:HO} {t':Nat} (I:Inv X pins σ H s) (mu:Mut (H x)) (he:e=x∨H e=some (.own x)) (k:∀ b u,b≠e→s.heap.get? b=some u→h'.get? b=some u) (heo:∃ u,h'.get? e=some u)
    (new:bL X.prog X.w (upd H x o) h' x o):Inv X pins σ (upd H x o) { s with heap:=h',toks:=t' }:=I.un (Un.write mu he k heo) (I.hok.write mu he k heo new)
theorem Inv.jN {j7:List (Addr×Obj)} (I:Inv X pins σ H s) (h:∀ p∈j7,s.heap.get? p.1=some p.2∧H p.1=none∧p.1≠X.env.locals∧p.1∉X.fs∧∀ v,p.2.data≠.cell v):Inv X j7 σ H s:=
  ⟨I.ok,I.os,I.bare,I.base,I.loc,I.cell,I.free,I.freeC,fun p hp=>(List.mem_append.mp hp).elim (fun z=>I.pin p (List.mem_append_left _ z)) (h p),I.hok,I.len⟩
theorem qK {N:List Str} (hN:N.Nodup) {i j:Nat} {x:Str} (a:N[i]?=some x) (b:N[j]?=some x):i=j:=by
  obtain ⟨h1,e1⟩:=List.getElem?_eq_some_iff.mp a
  obtain ⟨h2,e2⟩:=List.getElem?_eq_some_iff.mp b
  exact (List.getElem_inj hN).mp (e1.trans e2.symm)
theorem l0 {M:Model} {A:Around} {E:Value→Shared→Prop} {i:Nat} {x:Str} {v:V} {u:Value} {Q:Unit→Shared→Prop} (I:Inv X pins σ H s) (hN:X.N.Nodup) (hi:X.N[i]?=some x) (hx:Loc X.env.scope x) (r:RelV v u)
    (h:∀ s',Inv X pins (σ.set i (some v)) H s'→(∃ a,Heap.SameBut a s.heap s'.heap∧(a=X.env.locals∨X.env.cells.lookup x=some a))→Q () s') (hf:X.fn x=true∨X.env.scope.names.lookup x=some .local:=by first | exact .inl rfl | exact .inr rfl | assumption):wpAny M A (storeName X.env x u) Q E s:=by
  obtain ⟨m,hn,hl⟩:=id I.loc
  have hcls:(X.env.scope.kind == .class || (X.env.scope.kind == .module && X.env.locals != X.env.globals))=false:=by rw [I.ok.kind];rfl
  have hiσ : i < σ.length:=by rw [I.len];exact (List.getElem?_eq_some_iff.mp hi).1
  have cne:=I.cne
  have tracked:∀ {a:Addr} {h':Heap},(∃ o,s.heap.get? a=some o∧H a=none)→Heap.SameBut a s.heap h'→HOk X.prog X.w H h':=fun {a h'} ha hs b ob e=>by
    obtain ⟨_,_,hfree⟩:=ha
    refine (I.hok b ob e).stay (fun c w' hc q=>(hs.2 c ?_).trans q) (fun _ q=>q) fun _ _ q=>q
    rintro rfl
    rcases hc with rfl | hc
    · rw [hfree] at e;cases e
    · rw [hfree] at hc;cases hc
  rcases hx with hk | hk
  · refine wpAny_storeName_local hk hn (fun h' hn' hs=>?_) hcls
    obtain ⟨oL,_,_,hoL,_⟩:=id hn
    refine h _ ⟨I.ok,I.os,I.bare,⟨fun b o e n hb hx=>?_,fun b o e n hb hx=>?_,I.base.free,fun b o e hx=>?_,I.base.tups,I.base.gE,I.base.gM⟩,⟨_,hn',fun j y v' e1 e2 e3=>?_⟩,fun y c e=>?_,I.free,I.freeC,fun p hp=>?_,tracked ⟨oL,hoL,I.free⟩ hs,by simpa using I.len⟩ ⟨_,hs,.inl rfl⟩
    · exact (hs.2 b (Nat.ne_of_lt (Nat.lt_of_lt_of_le (Heap.lt_size e) I.ok.above))).trans (I.base.keep b o e n hb hx)
    · obtain ⟨sl,e1⟩:=I.base.slot b o e n hb hx
      exact ⟨sl,(hs.2 b (Nat.ne_of_lt (Nat.lt_of_lt_of_le (Heap.lt_size e) I.ok.above))).trans e1⟩
    · obtain ⟨o',e1⟩:=I.base.there b o e hx
      exact ⟨o',(hs.2 b (Nat.ne_of_lt (Nat.lt_of_lt_of_le (Heap.lt_size e) I.ok.above))).trans e1⟩
    · by_cases hj:j=i
      · subst hj
        rw [hi] at e1;cases e1
        rw [List.getElem?_set_self hiσ] at e2
        cases e2
        exact ⟨u,r,.inl ⟨hk,by simp⟩⟩
      · rw [List.getElem?_set_ne (Ne.symm hj)] at e2
        obtain ⟨u',r',q⟩:=hl j y v' e1 e2 e3
        refine ⟨u',r',?_⟩
        rcases q with ⟨k,e⟩ | ⟨k,c,e,z⟩
        · refine .inl ⟨k,?_⟩
          have:y≠x:=fun e=>hj (qK hN e1 (e▸hi))
          simp [this,e]
        · exact .inr ⟨k,c,e,z.sameBut hs (cne y c e)⟩
    · obtain ⟨w',z⟩:=I.cell y c e
      exact ⟨w',z.sameBut hs (cne y c e)⟩
    · obtain ⟨e,n,ne,nf,d⟩:=I.pin p hp
      exact ⟨(hs.2 p.1 ne).trans e,n,ne,nf,d⟩
  · have hfn:X.fn x=true:=by
      rcases hf with z | z
      · exact z
      · rw [z] at hk;cases hk
    obtain ⟨c,hc⟩:=I.ok.has x (.inl hk)
    obtain ⟨w',z⟩:=I.cell x c hc
    refine wpAny_storeName_cell I.ok.kind hk hc z (fun h' hc' hs=>?_)
    obtain ⟨oc,hoc,hocd⟩:=id z
    refine h { s with heap:=h' } ⟨I.ok,I.os,I.bare,⟨fun b o e n hb hx=>?_,fun b o e n hb hx=>?_,I.base.free,fun b o e hx=>?_,I.base.tups,I.base.gE,I.base.gM⟩,⟨m,hn.sameBut hs (Ne.symm (cne x c hc)),fun j y v' e1 e2 e3=>?_⟩,fun y c' e=>?_,I.free,I.freeC,fun p hp=>?_,tracked ⟨oc,hoc,I.freeC x c hc⟩ hs,by simpa using I.len⟩ ⟨c,hs,.inr hc⟩
    · exact (hs.2 b (Nat.ne_of_lt (Nat.lt_of_lt_of_le (Heap.lt_size e) (I.ok.cab x c hfn hc)))).trans (I.base.keep b o e n hb hx)
    · obtain ⟨sl,e1⟩:=I.base.slot b o e n hb hx
      exact ⟨sl,(hs.2 b (Nat.ne_of_lt (Nat.lt_of_lt_of_le (Heap.lt_size e) (I.ok.cab x c hfn hc)))).trans e1⟩
    · obtain ⟨o',e1⟩:=I.base.there b o e hx
      exact ⟨o',(hs.2 b (Nat.ne_of_lt (Nat.lt_of_lt_of_le (Heap.lt_size e) (I.ok.cab x c hfn hc)))).trans e1⟩
    · by_cases hj:j=i
      · subst hj
        rw [hi] at e1;cases e1
        rw [List.getElem?_set_self hiσ] at e2
        cases e2
        exact ⟨u,r,.inr ⟨.inl hk,c,hc,hc'⟩⟩
      · rw [List.getElem?_set_ne (Ne.symm hj)] at e2
        obtain ⟨u',r',q⟩:=hl j y v' e1 e2 e3
        refine ⟨u',r',?_⟩
        rcases q with q | ⟨k,c',e,z'⟩
        · exact .inl q
        · refine .inr ⟨k,c',e,z'.sameBut hs ?_⟩
          rintro rfl
          exact hj (qK hN e1 (I.ok.inj _ _ _ e hc▸hi))
    · by_cases hcc:c'=c
      · subst hcc;exact ⟨_,hc'⟩
      · obtain ⟨w2,z2⟩:=I.cell y c' e
        exact ⟨w2,z2.sameBut hs hcc⟩
    · obtain ⟨e,n,ne,nf,d⟩:=I.pin p hp
      refine ⟨(hs.2 p.1 ?_).trans e,n,ne,nf,d⟩
      intro q
      rw [q,hoc] at e
      have q':oc=p.2:=Option.some.inj e
      exact d w' (by rw [← q'];exact hocd)
theorem fH {M:Model} {A:Around} {E:Value→Shared→Prop} {i:Nat} {x:Str} {v:V} {u:Value} {Q:Unit→Shared→Prop} (I:Inv X pins σ H s) (hN:X.N.Nodup) (hi:X.N[i]?=some x) (hx:Loc X.env.scope x) (r:RelV v u)
    (h:∀ s',Inv X pins (σ.set i (some v)) H s'→Q () s') (hf:X.fn x=true∨X.env.scope.names.lookup x=some .local:=by first | exact .inl rfl | exact .inr rfl | assumption):wpAny M A (storeName X.env x u) Q E s:=
  l0 I hN hi hx r (fun s' I' _=>h s' I') hf
theorem Inv.ES {s':Shared} {ch:List Addr} (I:Inv X pins σ H s) (ho:s'.os=s.os) (u:Un (frs X.stack) ch H H' s.heap s'.heap) (hok:HOk X.prog X.w H' s'.heap) (hg:AllBare s'.gens)
    (hch:∀ b∈ch,(b∈X.ex∨X.s₀.heap.objs.size≤b)∧b≠X.env.locals∧(∀ x c,X.env.cells.lookup x=some c→c≠b)∧∀ p∈X.pn++pins,p.1≠b):Inv X pins σ H' s':=by
  obtain ⟨h',g',d',t',o'⟩:=s'
  have e:o'=s.os:=ho
  subst e
  exact I.call (g':=g') (t':=t') (d':=d') u hok hg hch
end
abbrev XK:=Value→Option Addr→Hp→Prop
abbrev St:=List (Option V)
abbrev VK:=V→Hp→Prop
abbrev TE:=St→Hp→VK→Prop
abbrev TT:=St→Hp→(Bool→Hp→Prop)→Prop
abbrev TA:=St→Hp→(List V→Hp→Prop)→Prop
structure Ends where
  nx:St→Hp→Prop
  rt:VK
  bk:St→Hp→Prop:=fun _ _=>False
  ct:St→Hp→Prop:=fun _ _=>False
abbrev TS:=Ends→St→Hp→Prop
def EP (X:Cx) (pins:List (Addr×Obj)) (σ : St) (Q:VK) (u:Value) (s':Shared):Prop:=∃ v H',Inv X pins σ H' s'∧RelV v u∧Q v H'
def TP (X:Cx) (pins:List (Addr×Obj)) (σ : St) (Q:Bool→Hp→Prop) (b:Bool) (s':Shared):Prop:=∃ H',Inv X pins σ H' s'∧Q b H'
def AP (X:Cx) (pins:List (Addr×Obj)) (σ : St) (Q:List V→Hp→Prop) (us:List Value) (s':Shared):Prop:=∃ vs H',Inv X pins σ H' s'∧Vals vs us∧Q vs H'
def SP (X:Cx) (pins:List (Addr×Obj)) (D:Ends) (f:Flow) (s':Shared):Prop:=
  match f with
  | .next=>∃ σ' H',Inv X pins σ' H' s'∧D.nx σ' H'
  | .brk=>∃ σ' H',Inv X pins σ' H' s'∧D.bk σ' H'
  | .cont=>∃ σ' H',Inv X pins σ' H' s'∧D.ct σ' H'
  | .ret u=>∃ v σ' H',Inv X pins σ' H' s'∧RelV v u∧D.rt v H'
def PE (X:Cx) (e:Expr) (t:TE):Prop:=
  ∀ (pins:List (Addr×Obj)) (s:Shared) (σ : St) (H:Hp) (Q:VK),Inv X pins σ H s→t σ H Q→wpAny (model X.prog X.w) X.A (eval e X.env) (EP X pins σ Q) X.xe s
def PT (X:Cx) (e:Expr) (t:TT):Prop:=
  ∀ (pins:List (Addr×Obj)) (s:Shared) (σ : St) (H:Hp) (Q:Bool→Hp→Prop),Inv X pins σ H s→t σ H Q→wpAny (model X.prog X.w) X.A (isTrue e X.env (eval e X.env)) (TP X pins σ Q) X.xe s
def PW (X:Cx) (e:Expr) (t:TT):Prop:=
  ∀ (whole:Sem Value) (pins:List (Addr×Obj)) (s:Shared) (σ : St) (H:Hp) (Q:Bool→Hp→Prop),Inv X pins σ H s→t σ H Q→wpAny (model X.prog X.w) X.A (isTrue e X.env whole) (TP X pins σ Q) X.xe s
theorem PW.pt {X:Cx} {e:Expr} {t:TT} (h:PW X e t):PT X e t:=h _
def PA (X:Cx) (es:List Expr) (t:TA):Prop:=
  ∀ (pos:Pos) (pins:List (Addr×Obj)) (s:Shared) (σ : St) (H:Hp) (Q:List V→Hp→Prop),Inv X pins σ H s→t σ H Q→wpAny (model X.prog X.w) X.A (spliced (backTo pos (starEach es X.env))) (AP X pins σ Q) X.xe s
def PS (X:Cx) (st:Stmt) (t:TS):Prop:=
  ∀ (pins:List (Addr×Obj)) (s:Shared) (σ : St) (H:Hp) (D:Ends),Inv X pins σ H s→t D σ H→wpAny (model X.prog X.w) X.A (exec st X.env) (SP X pins D) X.xe s
def PSs (X:Cx) (st:List Stmt) (t:TS):Prop:=
  ∀ (pins:List (Addr×Obj)) (s:Shared) (σ : St) (H:Hp) (D:Ends),Inv X pins σ H s→t D σ H→wpAny (model X.prog X.w) X.A (execs st X.env) (SP X pins D) X.xe s
theorem thn {α : Type} {t:Sem α} {Q Q' : α→Shared→Prop} {M:Model} {A:Around} {E:Value→Shared→Prop} {s:Shared} (h:wpAny M A t Q E s) (hQ:∀ a s,Q a s→Q' a s):wpAny M A t Q' E s:=wpAny_mono h hQ fun _ _ x=>x
section
variable {X:Cx}
def E1 (i:Nat):TE:=fun σ H Q=>∃ v,σ[i]?=some (some v)∧Q v H
def tC (v:V):TE:=fun _ H Q=>Q v H
theorem Fc {i:Nat} {x:Str} {pos:Pos} (hN:X.N[i]?=some x) (hv:Vis X.env.scope x) (hd:(x == ("__debug__" : Str))=false:=by decide) (hcd:(x == ("__classdict__" : Str))=false:=by decide):PE X (.Name x pos) (E1 i):=by
  intro pins s σ H Q I h
  obtain ⟨v,e,h⟩:=h
  obtain ⟨m,hn,hl⟩:=I.loc
  obtain ⟨u,r,l⟩:=hl i x v hN e hv
  have fin:EP X pins σ Q u s:=⟨v,H,I,r,h⟩
  rcases l with ⟨hk,hm⟩ | ⟨hk,c,hc,hcell⟩
  · exact wpAny_Name (wpAny_loadName_local I.ok.kind hk hn hm fin) hd
  · rcases hk with hk | hk
    · exact wpAny_Name (wpAny_loadName_cell I.ok.kind hk hc hcell fin) hd
    · exact wpAny_Name (wpAny_loadName_free I.ok.kind hk hc hcell fin hcd) hd
theorem ai {i j pos}:PE X (.Constant (.int i) j pos) (tC (.int i)):=fun _ _ _ H _ I h=>wpAny_Constant_int ⟨.int i,H,I.tok _,⟨_,rfl⟩,h⟩
theorem dS {b j pos}:PE X (.Constant (.bool b) j pos) (tC (.bl b)):=fun _ _ _ H _ I h=>Constant_bool ⟨.bl b,H,I,rfl,h⟩
theorem j8 {j pos}:PE X (.Constant .none j pos) (tC .non):=fun _ _ _ H _ I h=>Constant_none ⟨.non,H,I,rfl,h⟩
theorem aV {x j pos}:PE X (.Constant (.str x) j pos) (tC (.str x)):=fun _ _ _ H _ I h=>Calls.Constant_str ⟨.str x,H,I.tok _,⟨_,rfl⟩,h⟩
def Gl (X:Cx) (x:Str):Prop:=X.env.kindOf x=some .globalImplicit
theorem cN {E:Value→Shared→Prop} {pins:List (Addr×Obj)} {s:Shared} {σ : St} {H:Hp} {x:Str} {u:Value} {pos:Pos} {Q:Value→Shared→Prop} (I:Inv X pins σ H s) (hg:Gl X x) (hm:X.mg x=some u) (h:Q u s)
    (hd:(x == ("__debug__" : Str))=false:=by decide):wpAny (model X.prog X.w) X.A (eval (.Name x pos) X.env) Q E s:=
  Calls.Name_function_global I.ok.kind hg (Calls.loadGlobal_global (by rw [I.ok.glob];exact I.mod.glob.keeps I.bk) hm h) hd
theorem fT {E:Value→Shared→Prop} {pins:List (Addr×Obj)} {s:Shared} {σ : St} {H:Hp} {x:Str} {u:Value} {pos:Pos} {Q:Value→Shared→Prop} (I:Inv X pins σ H s) (hg:Gl X x) (hm:X.mg x=none) (hv:bootBuiltins x=some u) (h:Q u s)
    (hn:x ≠ "__name__" := by decide) (hd:(x == ("__debug__" : Str))=false:=by decide):wpAny (model X.prog X.w) X.A (eval (.Name x pos) X.env) Q E s:=by
  obtain ⟨mb,h1,h2⟩:=I.mod.blt
  exact Calls.Name_function_global I.ok.kind hg (Calls.loadGlobal_builtin (by rw [I.ok.glob];exact I.mod.glob.keeps I.bk) hm (by rw [I.ok.blt];exact h1.keeps I.bk) ((h2 x hn).trans hv) h) hd
theorem Cj {x:Str} {v:V} {u:Value} {pos:Pos} (hg:Gl X x) (hm:X.mg x=some u) (r:RelV v u) (hd:(x == ("__debug__" : Str))=false:=by decide):PE X (.Name x pos) (tC v):=
  fun _ _ _ H _ I h=>cN I hg hm ⟨v,H,I,r,h⟩ hd
theorem nZ {x:Str} {v:V} {u:Value} {pos:Pos} (hg:Gl X x) (hm:X.mg x=none) (hv:bootBuiltins x=some u) (r:RelV v u) (hn:x ≠ "__name__" := by decide) (hd:(x == ("__debug__" : Str))=false:=by decide):PE X (.Name x pos) (tC v):=
  fun _ _ _ H _ I h=>fT I hg hm hv ⟨v,H,I,r,h⟩ hn hd
variable {a b:Expr} {ta tb:TE} {pos:Pos}
def PC (X:Cx) (op:CmpOp) (a b:Expr) (t:TE):Prop:=
  ∀ (pins:List (Addr×Obj)) (s:Shared) (σ : St) (H:Hp) (Q:VK),Inv X pins σ H s→t σ H Q →
    wpAny (model X.prog X.w) X.A (eval a X.env) (fun v s₁=>wpAny (model X.prog X.w) X.A (eval b X.env) (fun u s₂=>wpAny (model X.prog X.w) X.A (compareOp op v u) (EP X pins σ Q) X.xe s₂) X.xe s₁) X.xe s
theorem qL (b:Expr) {op:CmpOp} (h:op≠.In) (h2:op≠.NotIn):behindInMarks op b=false:=by
  have e1:(op == CmpOp.In)=false:=by cases op <;> first | rfl | exact absurd rfl h
  have e2:(op == CmpOp.NotIn)=false:=by cases op <;> first | rfl | exact absurd rfl h2
  cases b <;> simp [behindInMarks,e1,e2]
def HR (ta:TE):TE:=fun σ H Q=>ta σ H fun x H1=>Q (.bl (decide (x = .non))) H1
def Ed (ta:TE):TE:=fun σ H Q=>ta σ H fun x H1=>Q (.bl (!decide (x = .non))) H1
theorem RelV.qJ {x:V} {v:Value} (r:RelV x v):(v == Value.none)=decide (x = .non):=by
  cases x with
  | non=>cases r;rfl
  | bl _=>cases r;rfl
  | int _=>obtain ⟨t,rfl⟩:=r;rfl
  | str _=>obtain ⟨t,rfl⟩:=r;rfl
  | byt _=>obtain ⟨t,rfl⟩:=r;rfl
  | flt _=>obtain ⟨t,rfl⟩:=r;rfl
  | ref _=>cases r;rfl
  | ty _=>cases r;rfl
theorem i7 {j pos'} (ha:PE X a ta):PC X .Is a (.Constant .none j pos') (HR ta):=by
  intro pins s σ H Q I h
  refine thn (ha pins s σ H _ I h) fun v s1 ⟨x,H1,I1,r1,q1⟩=>?_
  exact Constant_none (is_none_gen ⟨.bl _,H1,I1,by rw [r1.qJ];rfl,q1⟩)
theorem vq {j pos'} (ha:PE X a ta):PC X .IsNot a (.Constant .none j pos') (Ed ta):=by
  intro pins s σ H Q I h
  refine thn (ha pins s σ H _ I h) fun v s1 ⟨x,H1,I1,r1,q1⟩=>?_
  exact Constant_none (isnot_none_gen ⟨.bl _,H1,I1,by rw [r1.qJ];rfl,q1⟩)
def tB (t:TE):TT:=fun σ H Q=>t σ H fun x H1=>∃ c,x = .bl c∧Q c H1
theorem Ff {op:CmpOp} {t:TE} (h:PC X op a b t) (h1:behindInMarks op b=false:=by first | exact qL _ (by decide) (by decide) | rfl):PE X (.Compare a [op] [b] pos) t:=fun pins s σ H Q I hw=>wpAny_Compare1 (h pins s σ H Q I hw) h1
theorem gO {op:CmpOp} {t:TE} (h:PC X op a b t) (h1:behindInMarks op b=false:=by first | exact qL _ (by decide) (by decide) | rfl):PT X (.Compare a [op] [b] pos) (tB t):=by
  intro pins s σ H Q I hw
  refine wpAny_isTrue_Compare1 (thn (h pins s σ H _ I hw) fun v s1 h1=>thn h1 fun u s2 h2=>thn h2 fun c s3 ⟨x,H1,I1,r1,q1⟩=>?_) h1
  obtain ⟨d,rfl,q⟩:=q1
  cases r1
  exact wpAny_truthy_bool ⟨H1,I1,q⟩
theorem bZ {e:Expr} {t:TE} (h:PE X e t) (he:∀ whole,isTrue e X.env whole=(do let v ← whole;standAt e.pos;holding [v] (truthy v)):=by intro _;rfl):PT X e (tB t):=by
  intro pins s σ H Q I hw
  refine isTrue_plain (thn (h pins s σ H _ I hw) fun v s1 ⟨x,H1,I1,r1,q1⟩=>?_) (he _)
  obtain ⟨d,rfl,q⟩:=q1
  cases r1
  exact wpAny_truthy_bool ⟨H1,I1,q⟩
variable {tA tB':TT} {rest:List Expr}
def HX (t u:TT):TT:=fun σ H Q=>t σ H fun c H1=>if c=true then u σ H1 Q else Q false H1
def tOr (t u:TT):TT:=fun σ H Q=>t σ H fun c H1=>if c=true then Q true H1 else u σ H1 Q
def HP (t:TT):TT:=fun σ H Q=>t σ H fun c H1=>Q (!c) H1
theorem jM (ha:PT X a tA):PW X (.BoolOp .And [a] pos) tA:=by
  intro wh pins s σ H Q I h
  refine isTrue_and (thn (ha pins s σ H Q I h) fun c s1 e=>?_)
  cases c with
  | true=>exact isTrue_and_nil e
  | false=>exact e
theorem j5 (ha:PT X a tA):PW X (.BoolOp .Or [a] pos) tA:=by
  intro wh pins s σ H Q I h
  refine isTrue_or (thn (ha pins s σ H Q I h) fun c s1 e=>?_)
  cases c with
  | false=>exact isTrue_or_nil e
  | true=>exact e
theorem nY (ha:PT X a tA) (hb:PW X (.BoolOp .And (b::rest) pos) tB'):PW X (.BoolOp .And (a::b::rest) pos) (HX tA tB'):=by
  intro wh pins s σ H Q I h
  refine isTrue_and (thn (ha pins s σ H _ I h) fun c s1 ⟨H1,I1,q1⟩=>?_)
  cases c with
  | true=>exact hb wh pins s1 σ H1 Q I1 q1
  | false=>exact ⟨H1,I1,q1⟩
theorem qk (ha:PT X a tA) (hb:PW X (.BoolOp .Or (b::rest) pos) tB'):PW X (.BoolOp .Or (a::b::rest) pos) (tOr tA tB'):=by
  intro wh pins s σ H Q I h
  refine isTrue_or (thn (ha pins s σ H _ I h) fun c s1 ⟨H1,I1,q1⟩=>?_)
  cases c with
  | true=>exact ⟨H1,I1,q1⟩
  | false=>exact hb wh pins s1 σ H1 Q I1 q1
theorem cY (ha:PT X a tA):PT X (.UnaryOp .Not a pos) (HP tA):=by
  intro pins s σ H Q I h
  exact isTrue_not (ha pins s σ H (fun c H1=>Q (!c) H1) I h)
def Ei (ta tb:TE):TE:=fun σ H Q=>ta σ H fun x H1=>∃ c,x = .bl c∧if c=true then tb σ H1 Q else Q (.bl false) H1
def Ec (ta:TE):TE:=fun σ H Q=>ta σ H fun x H1=>∃ c,x = .bl c∧Q (.bl (!c)) H1
theorem fP {op} {t:TE} (h:PE X a t):PE X (.BoolOp op [a] pos) t:=fun pins s σ H Q I hw=>BoolOp_one (h pins s σ H Q I hw)
theorem fQ (ha:PE X a ta) (hb:PE X (.BoolOp .And (b::rest) pos) tb):PE X (.BoolOp .And (a::b::rest) pos) (Ei ta tb):=by
  intro pins s σ H Q I h
  refine BoolOp_and (thn (ha pins s σ H _ I h) fun v s1 ⟨x,H1,I1,r1,q1⟩=>?_)
  obtain ⟨c,rfl,q1⟩:=q1
  cases r1
  refine wpAny_truthy_bool ?_
  cases c with
  | true=>exact hb pins s1 σ H1 Q I1 q1
  | false=>exact ⟨.bl false,H1,I1,rfl,q1⟩
theorem zE (ha:PE X a ta):PE X (.UnaryOp .Not a pos) (Ec ta):=by
  intro pins s σ H Q I h
  refine UnaryOp_ (thn (ha pins s σ H _ I h) fun v s1 ⟨x,H1,I1,r1,q1⟩=>?_)
  obtain ⟨c,rfl,q1⟩:=q1
  cases r1
  exact not_of (wpAny_truthy_bool ⟨.bl (!c),H1,I1,rfl,q1⟩)
def tIf (t:TT) (ta tb:TE):TE:=fun σ H Q=>t σ H fun c H1=>if c=true then ta σ H1 Q else tb σ H1 Q
theorem eU {c:Expr} (hc:PT X c tA) (ha:PE X a ta) (hb:PE X b tb):PE X (.IfExp c a b pos) (tIf tA ta tb):=by
  intro pins s σ H Q I h
  refine wpAny_IfExp (thn (hc pins s σ H _ I h) fun d s1 ⟨H1,I1,q1⟩=>?_)
  cases d with
  | true=>exact ha pins s1 σ H1 Q I1 q1
  | false=>exact hb pins s1 σ H1 Q I1 q1
end
def SqL (K:PySem.W.Frag) (H:Hp) (a:Addr) (xs:List V):Prop:=
  Rd H a (.lst xs) ∨
    ∃ (o:Obj) (its:Array Value) (n:Nat),K.lookup a=some o∧o.cls = .type "list" ∧ o.dict=none∧o.data = .seq its n∧its.size≤sizeLine∧Vals xs its.toList
def SqT (K:PySem.W.Frag) (H:Hp) (a:Addr) (xs:List V):Prop:=
  Rd H a (.tup xs) ∨
    ∃ (o:Obj) (its:Array Value) (n:Nat),K.lookup a=some o∧o.cls = .type "tuple" ∧ o.data = .seq its n∧its.size≤sizeLine∧Vals xs its.toList
def Kr:Value→Option V
  | .none=>some .non
  | .bool b=>some (.bl b)
  | .int i _=>some (.int i)
  | .str x _=>some (.str x)
  | .bytes b _=>some (.byt b)
  | .float b _=>some (.flt b)
  | .ref a=>some (.ref a)
  | .type n=>some (.ty n)
  | _=>none
theorem RelV.abs {x:V} {u:Value} (r:RelV x u):Kr u=some x:=by
  cases x with
  | non=>cases r;rfl
  | bl _=>cases r;rfl
  | int _=>obtain ⟨t,rfl⟩:=r;rfl
  | str _=>obtain ⟨t,rfl⟩:=r;rfl
  | byt _=>obtain ⟨t,rfl⟩:=r;rfl
  | flt _=>obtain ⟨t,rfl⟩:=r;rfl
  | ref _=>cases r;rfl
  | ty _=>cases r;rfl
theorem RelV.inj {x y:V} {u:Value} (r:RelV x u) (q:RelV y u):x=y:=Option.some.inj (r.abs.symm.trans q.abs)
theorem Vals.inj:∀ {xs ys:List V} {us:List Value},Vals xs us→Vals ys us→xs=ys
  | _,_,_,.nil,.nil=>rfl
  | _,_,_,.cons r t,.cons r' t'=>by rw [r.inj r',Vals.inj t t']
section
variable {X:Cx} {pins:List (Addr×Obj)} {σ : St} {H:Hp} {s:Shared} {a:Addr} {xs ys:List V}
theorem SqL.of {K:PySem.W.Frag} (h:H a=some (.lst xs)):SqL K H a xs:=.inl (.inl h)
theorem SqT.of {K:PySem.W.Frag} (h:H a=some (.tup xs)):SqT K H a xs:=.inl (.inl h)
theorem Inv.list (I:Inv X pins σ H s) (h:SqL X.K H a xs):∃ its:List Value,Vals xs its∧PlainL s.heap a its.toArray∧xs.length≤sizeLine:=by
  rcases h with h | ⟨o,its,n,hk,hc,hd,hs,hz,r⟩
  · obtain ⟨z,its,n,r,e⟩:=h.ok I.hok
    exact ⟨its,r,⟨_,n,e,rfl,rfl,rfl⟩,z⟩
  · refine ⟨its.toList,r,⟨o,n,I.kIn a o hk,hc,hd,by simpa using hs⟩,?_⟩
    have e:=r.length
    simp only [Array.length_toList] at e
    omega
theorem Inv.tuple (I:Inv X pins σ H s) (h:SqT X.K H a xs):∃ its:List Value,Vals xs its∧IsTup s.heap a its.toArray∧xs.length≤sizeLine:=by
  rcases h with h | ⟨o,its,n,hk,hc,hs,hz,r⟩
  · obtain ⟨z,its,r,p⟩:=h.ok I.hok
    exact ⟨its,r,p,z⟩
  · refine ⟨its.toList,r,⟨o,I.kIn a o hk,hc,n,by simpa using hs⟩,?_⟩
    have e:=r.length
    simp only [Array.length_toList] at e
    omega
theorem Inv.ku (I:Inv X pins σ H s) (h:SqL X.K H a xs) (h':SqL X.K H a ys):xs=ys:=by
  obtain ⟨its,r,⟨o,n,e,_,_,d⟩,_⟩:=I.list h
  obtain ⟨its',r',⟨o',n',e',_,_,d'⟩,_⟩:=I.list h'
  rw [e] at e';cases e'
  rw [d] at d'
  injection d' with d1 _
  have:its=its':=by simpa using congrArg Array.toList d1
  subst this
  exact r.inj r'
theorem Inv.lZ (I:Inv X pins σ H s) (h:SqT X.K H a xs) (h':SqT X.K H a ys):xs=ys:=by
  obtain ⟨its,r,⟨o,e,_,n,d⟩,_⟩:=I.tuple h
  obtain ⟨its',r',⟨o',e',_,n',d'⟩,_⟩:=I.tuple h'
  rw [e] at e';cases e'
  rw [d] at d'
  injection d' with d1 _
  have:its=its':=by simpa using congrArg Array.toList d1
  subst this
  exact r.inj r'
end
abbrev Cx.gK (X:Cx) (E:Value→Shared→Prop):Cx:={ X with xe:=E }
abbrev Cx.nox (X:Cx):Cx:=X.gK fun _ _=>False
theorem Cx.Ok.gK {X:Cx} (ok:X.Ok) (E:Value→Shared→Prop):(X.gK E).Ok:=
  ⟨ok.mod,ok.kind,ok.glob,ok.blt,ok.above,ok.inj,ok.has,ok.cab,ok.hd,ok.frames,ok.stk,ok.exf,ok.bs,ok.bsz,ok.noex,ok.exfs,ok.fV,ok.frf⟩
theorem Cx.Ok.cW {X:Cx} {E:Value→Shared→Prop} (ok:(X.gK E).Ok):X.Ok:=
  ⟨ok.mod,ok.kind,ok.glob,ok.blt,ok.above,ok.inj,ok.has,ok.cab,ok.hd,ok.frames,ok.stk,ok.exf,ok.bs,ok.bsz,ok.noex,ok.exfs,ok.fV,ok.frf⟩
section
variable {X:Cx} {pins:List (Addr×Obj)} {σ : St} {H:Hp} {s:Shared} {E:Value→Shared→Prop}
theorem Inv.gK (I:Inv X pins σ H s) (E:Value→Shared→Prop):Inv (X.gK E) pins σ H s:=⟨I.ok.gK E,I.os,I.bare,I.base,I.loc,I.cell,I.free,I.freeC,I.pin,I.hok,I.len⟩
theorem Inv.cW (I:Inv (X.gK E) pins σ H s):Inv X pins σ H s:=⟨I.ok.cW,I.os,I.bare,I.base,I.loc,I.cell,I.free,I.freeC,I.pin,I.hok,I.len⟩
theorem SP.cW {D:Ends} {f:Flow} {s':Shared} (h:SP (X.gK E) pins D f s'):SP X pins D f s':=by
  cases f with
  | next=>obtain ⟨σ',H',I,q⟩:=h;exact ⟨σ',H',I.cW,q⟩
  | brk=>obtain ⟨σ',H',I,q⟩:=h;exact ⟨σ',H',I.cW,q⟩
  | cont=>obtain ⟨σ',H',I,q⟩:=h;exact ⟨σ',H',I.cW,q⟩
  | ret u=>obtain ⟨v,σ',H',I,r,q⟩:=h;exact ⟨v,σ',H',I.cW,r,q⟩
theorem PSs.nox {st:List Stmt} {t:TS} (h:PSs X.nox st t):PSs X st t:=fun pins s σ H D I hw=>
  wpAny_mono (h pins s σ H D (I.gK _) hw) (fun _ _ q=>q.cW) fun _ _ z=>False.elim z
end
section
variable {X:Cx} {st:Stmt} {rest:List Stmt} {t u:TS} {e:Expr} {te:TE} {pos:Pos}
def Ef:TS:=fun D σ H=>D.nx σ H
def E2 (t u:TS):TS:=fun D σ H=>t { D with nx:=u D } σ H
theorem aJ:PSs X [] Ef:=fun _ _ σ H _ I h=>wpAny_execs_nil ⟨σ,H,I,h⟩
theorem ak (h1:PS X st t) (h2:PSs X rest u):PSs X (st::rest) (E2 t u):=by
  intro pins s σ H D I h
  refine wpAny_execs_cons (thn (h1 pins s σ H { D with nx:=u D } I h) fun f s1 q=>?_)
  cases f with
  | next=>
    obtain ⟨σ',H',I',q⟩:=q
    exact h2 pins s1 σ' H' D I' q
  | ret v=>exact q
  | brk=>exact q
  | cont=>exact q
theorem ao (h1:PS X st t):PSs X [st] t:=by
  intro pins s σ H D I h
  refine wpAny_execs_cons (thn (h1 pins s σ H D I h) fun f s1 q=>?_)
  cases f with
  | next=>exact wpAny_execs_nil q
  | ret v=>exact q
  | brk=>exact q
  | cont=>exact q
theorem Inv.quiet {pins:List (Addr×Obj)} {σ : St} {H:Hp} {s:Shared} (I:Inv X pins σ H s):interactive X.env=false:=by simp [interactive,I.ok.kind]
def Eh (te:TE):TS:=fun D σ H=>te σ H fun _ H1=>D.nx σ H1
theorem bE (he:PE X e te) (hs:swapsWith e none pos.line X.env=pure false:=by rfl):PS X (.Expr e pos) (Eh te):=by
  intro pins s σ H D I h
  exact wpAny_Expr_any (thn (he pins s σ H _ I h) fun v s1 ⟨x,H1,I1,r1,q1⟩=>⟨σ,H1,I1,q1⟩) I.quiet hs
def HN (te:TE):TS:=fun D σ H=>te σ H D.rt
theorem au (he:PE X e te):PS X (.Return (some e) pos) (HN te):=by
  intro pins s σ H D I h
  exact wpAny_Return_some (thn (he pins s σ H _ I h) fun v s1 ⟨x,H1,I1,r1,q1⟩=>⟨x,σ,H1,I1,r1,q1⟩)
def HS (c:TT) (t u:TS):TS:=fun D σ H=>c σ H fun b H1=>if b=true then t D σ H1 else u D σ H1
theorem bq {c:Expr} {a b:List Stmt} {tc:TT} (hc:PT X c tc) (ha:PSs X a t) (hb:PSs X b u):PS X (.If c a b pos) (HS tc t u):=by
  intro pins s σ H D I h
  refine wpAny_If (thn (hc pins s σ H _ I h) fun d s1 ⟨H1,I1,q1⟩=>?_)
  cases d with
  | true=>exact ha pins s1 σ H1 D I1 q1
  | false=>exact hb pins s1 σ H1 D I1 q1
def E3:TS:=fun _ _ _=>False
theorem fM:PS X st E3:=fun _ _ _ _ _ _ h=>h.elim
end
abbrev TG:=V→St→Hp→(St→Hp→Prop)→Prop
def PG (X:Cx) (target:Expr) (t:TG):Prop:=
  ∀ (pins:List (Addr×Obj)) (s:Shared) (σ : St) (H:Hp) (v:V) (u:Value) (Q:St→Hp→Prop),Inv X pins σ H s→RelV v u→t v σ H Q →
    wpAny (model X.prog X.w) X.A (assign target X.env u) (fun _ s'=>∃ σ' H',Inv X pins σ' H' s'∧Q σ' H') X.xe s
abbrev DZ:=V→V→V→Hp→(Hp→Prop)→Prop
def JC (X:Cx) (t:DZ):Prop:=
  ∀ (pins:List (Addr×Obj)) (s:Shared) (σ : St) (H:Hp) (o i v:V) (ov iv u:Value) (Q:Hp→Prop),Inv X pins σ H s→RelV o ov→RelV i iv→RelV v u→t o i v H Q →
    wpAny (model X.prog X.w) X.A (setItem ov iv u) (fun _ s'=>∃ H',Inv X pins σ H' s'∧Q H') X.xe s
section
variable {X:Cx} {pos:Pos}
abbrev bK (i:Nat):TG:=fun v σ H Q=>Q (σ.set i (some v)) H
theorem bV {i:Nat} {x:Str} (hN:X.N.Nodup) (hi:X.N[i]?=some x) (hx:Loc X.env.scope x) (hf:X.fn x=true∨X.env.scope.names.lookup x=some .local:=by first | exact .inl rfl | exact .inr rfl | assumption):PG X (.Name x pos) (bK i):=by
  intro pins s σ H v u Q I r h
  exact wpAny_assign_Name (fH I hN hi hx r (fun s' I'=>⟨_,H,I',h⟩) hf)
def Jr (to ti:TE) (t:DZ):TG:=fun v σ H Q=>to σ H fun o H1=>ti σ H1 fun i H2=>t o i v H2 fun H3=>Q σ H3
theorem gQ {o i:Expr} {to ti:TE} {t:DZ} (ho:PE X o to) (hi:PE X i ti) (hs:JC X t)
    (ha:∀ v,assign (.Subscript o i pos) X.env v=(do
      let ov ← holding [v] (eval o X.env)
      let iv ← holding [v,ov] (eval i X.env)
      standAt pos
      holding [v,ov,iv] (setItem ov iv v)
      release [v,ov,iv] []):=by intro _;rfl):PG X (.Subscript o i pos) (Jr to ti t):=by
  intro pins s σ H v u Q I r h
  rw [ha]
  refine wpAny_bind (wpAny_holding (thn (ho pins s σ H _ I h) fun ov s1 ⟨x,H1,I1,r1,q1⟩=>?_))
  refine wpAny_bind (wpAny_holding (thn (hi pins s1 σ H1 _ I1 q1) fun iv s2 ⟨y,H2,I2,r2,q2⟩=>?_))
  refine wpAny_bind (wpAny_standAt (wpAny_bind (wpAny_holding (thn (hs pins s2 σ H2 x y v ov iv u _ I2 r1 r2 r q2) fun _ s3 ⟨H3,I3,q3⟩=>?_))))
  exact wpAny_release ⟨σ,H3,I3,q3⟩
def E4 (te:TE) (g:TG):TS:=fun D σ H=>te σ H fun x H1=>g x σ H1 D.nx
theorem gP {tg e:Expr} {te:TE} {g:TG} (he:PE X e te) (hg:PG X tg g) (hs:swapsWithSole [tg] e pos.line X.env=pure false:=by rfl) (hw:swappedStores [tg] e X.env=pure none:=by rfl)
    (h1:(assignEach [tg] X.env).map (·.2)=[assign tg X.env]:=by rfl):PS X (.Assign [tg] e pos) (E4 te g):=by
  intro pins s σ H D I h
  refine wpAny_Assign_stores (thn (he pins s σ H _ I h) fun v s1 ⟨x,H1,I1,r1,q1⟩=>?_) hs hw
  rw [h1]
  exact thn (hg pins s1 σ H1 x v _ I1 r1 q1) fun _ s2 q=>q
theorem aM {i:Nat} {x:Str} {e:Expr} {te:TE} {pos':Pos} (hN:X.N.Nodup) (hi:X.N[i]?=some x) (hx:Loc X.env.scope x) (he:PE X e te) (hs:swapsWith e (some (.Name x pos')) pos.line X.env=pure false:=by rfl) (hf:X.fn x=true∨X.env.scope.names.lookup x=some .local:=by first | exact .inl rfl | exact .inr rfl | assumption) :
    PS X (.Assign [.Name x pos'] e pos) (E4 te (bK i)):=by
  intro pins s σ H D I h
  refine wpAny_Assign_Name (thn (he pins s σ H _ I h) fun v s1 ⟨y,H1,I1,r1,q1⟩=>?_) hs
  exact fH I1 hN hi hx r1 (fun s2 I2=>⟨_,H1,I2,q1⟩) hf
end
structure It where
  go:Nat→Hp→Prop
  yld:Nat→Hp→V→Hp→Prop
  stop:Nat→Hp→Prop
def ly (X:Cx) (pins:List (Addr×Obj)) (H:Hp) (b:Addr):Prop:=
  H b=none∧b≠X.env.locals∧b∉X.fs∧(b∈X.ex∨X.s₀.heap.objs.size≤b)∧(∀ x c,X.env.cells.lookup x=some c→c≠b)∧∀ p∈X.pn++pins,p.1≠b
theorem Inv.Jt {X:Cx} {pins:List (Addr×Obj)} {σ : St} {H H':Hp} {s:Shared} {b:Addr} (I:Inv X pins σ H s) (hb:s.heap.objs.size≤b) (hn:H' b=none):ly X pins H' b:=by
  refine ⟨hn,Nat.ne_of_gt (Nat.lt_of_lt_of_le I.lt hb),I.IB hb,.inr (Nat.le_trans I.sz hb),fun x c e z=>?_,fun p hp z=>?_⟩
  · obtain ⟨v,q⟩:=I.cell x c e
    exact absurd (Nat.lt_of_lt_of_le q.lt (by rw [z];exact hb)) (Nat.lt_irrefl _)
  · exact absurd (Nat.lt_of_lt_of_le (Heap.lt_size (I.pin p hp).1) (by rw [z];exact hb)) (Nat.lt_irrefl _)
structure Turn (P:Program) (w:World) (K:PySem.W.Frag) (tg:Expr) (J:It) (fp:List Addr) (it:Addr) (tn:Nat→Heap→Prop):Prop where
  mem:it∈fp
  obj:∀ i h,tn i h→∀ b∈fp,∃ o,h.get? b=some o∧∀ v,o.data≠.cell v
  keep:∀ i h h',tn i h→(∀ b∈fp,∀ o,h.get? b=some o→h'.get? b=some o)→tn i h'
  item:∀ (X:Cx),X.prog=P→X.w=w→X.K=K→X.calm=true→∀ (i:Nat) (pins:List (Addr×Obj)) (s:Shared) (σ : St) (H:Hp) (E:Value→Shared→Prop),Inv X pins σ H s→(∀ b∈fp,ly X pins H b)→tn i s.heap→J.go i H →
    wpAny (model P w) X.A (pyNext (.ref it)) (fun r s1=>∃ u,r=some u ∧
      wpAny (model P w) X.A (letOwnedTupleGo tg (.ref it) u) (fun _ s2=>∃ x H',Inv X pins σ H' s2∧RelV x u∧J.yld i H x H'∧tn (i+1) s2.heap∧∀ b∈fp,H' b=none) E s1) E s
  done:∀ (X:Cx),X.prog=P→X.w=w→X.K=K→X.calm=true→∀ (i:Nat) (pins:List (Addr×Obj)) (s:Shared) (σ : St) (H:Hp) (E:Value→Shared→Prop),Inv X pins σ H s→(∀ b∈fp,ly X pins H b)→tn i s.heap→J.stop i H →
    wpAny (model P w) X.A (pyNext (.ref it)) (fun r s1=>r=none∧Inv X pins σ H s1) E s
  self:∀ (A:Around) (i:Nat) (s:Shared) (Q:Value→Shared→Prop) (E:Value→Shared→Prop),tn i s.heap→Q (.ref it) s→wpAny (model P w) A (pyIter (.ref it)) Q E s
abbrev TI:=St→Hp→(It→Hp→Prop)→Prop
def PIE (X:Cx) (pins:List (Addr×Obj)) (σ : St) (tg:Expr) (R:It→Hp→Prop) (itv:Value) (s2:Shared):Prop:=
  ∃ (it:Addr) (fp:List Addr) (tn:Nat→Heap→Prop) (J:It) (H':Hp),itv = .ref it∧Inv X pins σ H' s2∧Turn X.prog X.w X.K tg J fp it tn∧tn 0 s2.heap∧(∀ b∈fp,ly X pins H' b)∧R J H'
def PI (X:Cx) (tg iter:Expr) (wi:TI):Prop:=
  ∀ (pins:List (Addr×Obj)) (s:Shared) (σ : St) (H:Hp) (R:It→Hp→Prop),Inv X pins σ H s→wi σ H R →
    wpAny (model X.prog X.w) X.A (eval iter X.env) (fun v s1=>wpAny (model X.prog X.w) X.A (pyIter v) (PIE X pins σ tg R) X.xe s1) X.xe s
theorem EK {M:Model} {A:Around} {E:Value→Shared→Prop} {s:Shared} {tg:Expr} {it:Addr} {u:Value} {o:Obj} {n:String} {vs:Array Value} {Q:Unit→Shared→Prop} (ho:s.heap.get? it=some o) (hc:o.cls = .type n) (hd:o.data = .fields vs)
    (hn:["enumerate", "zip", "dict_itemiterator", "dict_reverseitemiterator", "odict_iterator", "itertools.zip_longest", "itertools.pairwise"].contains n=false) (hQ:Q () s):wpAny M A (letOwnedTupleGo tg (.ref it) u) Q E s:=by
  unfold letOwnedTupleGo
  cases tg <;> first
    | exact wpAny_pure hQ
    | (cases u <;> first
        | exact wpAny_pure hQ
        | (refine wpAny_bind (wpAny_load ho ?_)
           rw [hc,hd]
           show wpAny M A (if (["enumerate", "zip", "dict_itemiterator", "dict_reverseitemiterator", "odict_iterator", "itertools.zip_longest", "itertools.pairwise"].contains n && vs[0]? == some (rawInt _))=true then _ else _) Q E s
           rw [if_neg (by intro h;rw [hn,Bool.false_and] at h;cases h)]
           exact wpAny_pure hQ))
def Itl (K:PySem.W.Frag) (a:Addr):It:=
  ⟨fun i H=>∃ xs x,SqL K H a xs∧xs[i]?=some x,fun i H x H'=>H'=H∧∀ xs,SqL K H a xs→xs[i]?=some x,fun i H=>∃ xs,SqL K H a xs∧xs.length≤i⟩
def Itr (lo:Int) (n:Nat):It:=⟨fun i _=>i < n,fun i H x H'=>H'=H∧x = .int (lo+i),fun i _=>n≤i⟩
theorem wk {P:Program} {w:World} {K:PySem.W.Frag} {tg:Expr} (a it:Addr):Turn P w K tg (Itl K a) [it] it (fun i h=>h.IsListIter it a i) where
  mem:=by simp
  obj:=fun i h st b hb=>by
    have e:b=it:=by simpa using hb
    subst e
    obtain ⟨o,e,c,d⟩:=st
    exact ⟨o,e,fun v z=>by rw [d] at z;cases z⟩
  keep:=fun i h h' st k=>st.at fun o e=>k it (by simp) o e
  item:=by
    intro X hP hw hK hc i pins s σ H E I hf st hg
    subst hP hw hK
    obtain ⟨xs,x,hq,hx⟩:=hg
    obtain ⟨its,rv,p,hz⟩:=I.list hq
    obtain ⟨u,hu,ru⟩:=rv.get hx
    obtain ⟨f0,f1,f2,f3,f4,f5⟩:=hf it (by simp)
    refine wpAny_pyNext_list_item st p.isList (x:=u) (by simpa using hu) fun h' st' sb=>?_
    have I1:Inv X pins σ H { s with heap:=h' }:=I.turned (t':=s.toks) (fun b o hb e=>(sb.2 b hb).trans e) f0 f1 f3 f4 f5
    obtain ⟨o,e,c,d⟩:=id st'
    exact ⟨u,rfl,EK (s:={ s with heap:=h' }) e c d (by decide) ⟨x,H,I1,ru,⟨rfl,fun ys hy=>by rw [I.ku hy hq];exact hx⟩,st',fun b hb=>(hf b hb).1⟩⟩
  done:=by
    intro X hP hw hK hc i pins s σ H E I hf st hg
    subst hP hw hK
    obtain ⟨xs,hq,hx⟩:=hg
    obtain ⟨its,rv,p,hz⟩:=I.list hq
    obtain ⟨f0,f1,f2,f3,f4,f5⟩:=hf it (by simp)
    have hl:=rv.length
    exact wpAny_pyNext_list_end (I.ok.hd hc) st p.isList (by simp;omega) fun h' eb=>⟨rfl,I.turned (t':=s.toks) (fun b o hb e=>eb b o hb e) f0 f1 f3 f4 f5⟩
  self:=fun _ _ _ _ _ st h=>wpAny_pyIter_listiter st h
theorem rU {P:Program} {w:World} {K:PySem.W.Frag} {tg:Expr} (it:Addr) (lo:Int) (n:Nat):Turn P w K tg (Itr lo n) [it] it (fun i h=>IsRangeIter h it (lo+(i:Nat) * 1) ((n:Int) - (i:Nat)) 1) where
  mem:=by simp
  obj:=fun i h st b hb=>by
    have e:b=it:=by simpa using hb
    subst e
    exact ⟨_,st,fun v z=>by
      have z':Data.fields _=Data.cell v:=z
      cases z'⟩
  keep:=fun i h h' st k=>k it (by simp) _ st
  item:=by
    intro X hP hw hK hc i pins s σ H E I hf st hg
    subst hP hw hK
    obtain ⟨f0,f1,f2,f3,f4,f5⟩:=hf it (by simp)
    have W:=Walks.range (prog:=X.prog) (w:=X.w) (I.ok.hd hc) it lo 1 n
    refine W.item i s _ _ hg st fun v h' tk hv st' kk=>?_
    obtain ⟨t,rfl⟩:=hv
    have I1:Inv X pins σ H { s with heap:=h',toks:=tk }:=I.turned (fun b o hb e=>kk b o (by simpa using hb) e) f0 f1 f3 f4 f5
    refine ⟨_,rfl,EK (s:={ s with heap:=h',toks:=tk }) (n:="range_iterator") st' rfl rfl (by decide) ⟨.int (lo+i),H,I1,⟨t,?_⟩,⟨rfl,rfl⟩,st',fun b hb=>(hf b hb).1⟩⟩
    rw [Int.mul_one]
  done:=by
    intro X hP hw hK hc i pins s σ H E I hf st hg
    subst hP hw hK
    obtain ⟨f0,f1,f2,f3,f4,f5⟩:=hf it (by simp)
    exact wpAny_pyNext_range_end (I.ok.hd hc) st (by have:n≤i:=hg;omega) fun h' eb=>⟨rfl,I.turned (t':=s.toks) (fun b o hb e=>eb b o hb e) f0 f1 f3 f4 f5⟩
  self:=fun _ _ _ _ _ st h=>wpAny_pyIter_rangeiter st h
section
variable {X:Cx} {tg:Expr}
def EH (K:PySem.W.Frag) (tl:TE):TI:=fun σ H R=>tl σ H fun x H1=>∃ a,x = .ref a∧(∃ xs,SqL K H1 a xs)∧R (Itl K a) H1
theorem cA {l:Expr} {tl:TE} (hl:PE X l tl):PI X tg l (EH X.K tl):=by
  intro pins s σ H R I h
  refine thn (hl pins s σ H _ I h) fun v s1 ⟨x,H1,I1,r1,q1⟩=>?_
  obtain ⟨a,e,⟨xs,hq⟩,q⟩:=q1
  subst e
  cases r1
  obtain ⟨its,rv,p,hz⟩:=I1.list hq
  refine wpAny_pyIter_list p.isList ?_
  refine ⟨s1.heap.objs.size,[s1.heap.objs.size],_,_,H1,rfl,I1.kept (t':=s1.toks) fun b o e=>Heap.get?_push_of_some _ e,wk a _,⟨_,Heap.get?_push_size _ rfl,rfl,rfl⟩,fun b hb=>?_,q⟩
  have e:b=s1.heap.objs.size:=by simpa using hb
  subst e
  exact I1.Jt (Nat.le_refl _) (I1.hok.fresh (Nat.le_refl _))
theorem qj {pins:List (Addr×Obj)} {σ : St} {H:Hp} {s:Shared} {R:It→Hp→Prop} {E:Value→Shared→Prop} {lo hi:Int} {t u v:Tok} {tk:Nat} (I:Inv X pins σ H s) (h1 : -(2 ^ 62)≤lo) (h2:lo < 2 ^ 62) (h3 : -(2 ^ 62)≤hi) (h4:hi < 2 ^ 62)
    (q:R (Itr lo (hi - lo).toNat) H):wpAny (model X.prog X.w) X.A (pyIter (.ref s.heap.objs.size)) (PIE X pins σ tg R) E { s with heap:=s.heap.push { cls:=.type "range",data:=.fields #[.int lo t,.int hi u,.int 1 v] },toks:=tk }:=by
  refine wpAny_pyIter_range (IsRange.new ..) (small_one h1 h2 h3 h4) ?_
  have I1:Inv X pins σ H { s with heap:=s.heap.push { cls:=.type "range",data:=.fields #[.int lo t,.int hi u,.int 1 v] },toks:=tk }:=I.kept fun b o e=>Heap.get?_push_of_some _ e
  refine ⟨(s.heap.push { cls:=.type "range",data:=.fields #[.int lo t,.int hi u,.int 1 v] }).objs.size,[(s.heap.push { cls:=.type "range",data:=.fields #[.int lo t,.int hi u,.int 1 v] }).objs.size],_,_,H,rfl,
    I1.kept (t':=tk) fun b o e=>Heap.get?_push_of_some _ e,rU _ lo (hi - lo).toNat,?_,fun b hb=>?_,q⟩
  · have e1:lo+((0:Nat):Int) * 1=lo:=by simp
    have e2:(((hi - lo).toNat:Nat):Int) - ((0:Nat):Int)=Builtin.Range.rangeSize lo hi 1:=by rw [rangeSize_one];split <;> omega
    show IsRangeIter _ _ (lo+((0:Nat):Int) * 1) ((((hi - lo).toNat:Nat):Int) - ((0:Nat):Int)) 1
    rw [e1,e2]
    exact Heap.get?_push_size _ rfl
  · have e:b=(s.heap.push { cls:=.type "range",data:=.fields #[.int lo t,.int hi u,.int 1 v] }).objs.size:=by simpa using hb
    subst e
    exact I1.Jt (Nat.le_refl _) (I1.hok.fresh (Nat.le_refl _))
def EG (ta:TA):TI:=fun σ H R=>ta σ H fun vs H1=>∃ j:Int,vs=[.int j]∧-(2 ^ 62)≤j∧j < 2 ^ 62∧R (Itr 0 j.toNat) H1
def EF (ta:TA):TI:=fun σ H R=>ta σ H fun vs H1=>∃ i j:Int,vs=[.int i,.int j]∧(-(2 ^ 62)≤i∧i < 2 ^ 62∧-(2 ^ 62)≤j∧j < 2 ^ 62)∧R (Itr i (j - i).toNat) H1
theorem mF {a:Expr} {ta:TA} {p pos:Pos} (hg:Gl X "range") (hm:X.mg "range" = none) (ha:PA X [a] ta) (hs:starEach [a] X.env=[(false,eval a X.env)]:=by rfl):PI X tg (.Call (.Name "range" p) [a] [] pos) (EG ta):=by
  intro pins s σ H R I h
  refine Call_ (fT I hg hm boot_range (PyProof.Rows.callWith_type1 (thn (ha pos pins s σ H _ I h) fun us s1 ⟨vs,H1,I1,r1,q1⟩=>?_) hs rfl))
  obtain ⟨j,e,q1,q2,q⟩:=q1
  subst e
  cases r1 with
  | cons r rr=>
    cases rr
    obtain ⟨t,rfl⟩:=r
    exact call_range_1 (qj I1 (by omega) (by omega) q1 q2 (by simpa using q))
theorem wM {a b:Expr} {ta:TA} {p pos:Pos} (hg:Gl X "range") (hm:X.mg "range" = none) (ha:PA X [a,b] ta) (hs:starEach [a,b] X.env=[(false,eval a X.env),(false,eval b X.env)]:=by rfl) (hs2:starEach [b] X.env=[(false,eval b X.env)]:=by rfl) :
    PI X tg (.Call (.Name "range" p) [a,b] [] pos) (EF ta):=by
  intro pins s σ H R I h
  refine Call_ (fT I hg hm boot_range (PyProof.Rows.callWith_type1 (thn (ha pos pins s σ H _ I h) fun us s1 ⟨vs,H1,I1,r1,q1⟩=>?_) (by rw [hs,hs2]) (by rw [hs2];rfl)))
  obtain ⟨i,j,e,⟨q1,q2,q3,q4⟩,q⟩:=q1
  subst e
  cases r1 with
  | cons r rr=>
    cases rr with
    | cons r' rr=>
      cases rr
      obtain ⟨t,rfl⟩:=r
      obtain ⟨t',rfl⟩:=r'
      exact call_range_2 (qj I1 q1 q2 q3 q4 q)
def HU (wi:TI) (g:TG) (tb:TS):TS:=fun D σ H=>wi σ H fun J H1=>∃ W:Nat→Nat→St→Hp→Prop,(∃ m,W 0 m σ H1)∧∀ i m σ H,W i m σ H →
  (J.stop i H∧D.nx σ H)∨(J.go i H∧∃ N:St→Hp→Prop,(∀ σ' H',N σ' H'→∃ m',m' < m∧W (i+1) m' σ' H')∧∀ x H',J.yld i H x H'→g x σ H' fun σ2 H2=>tb { D with nx:=N,ct:=N,bk:=D.nx } σ2 H2)
def fO (fp:List Addr) (h:Heap):List (Addr×Obj):=fp.filterMap fun b=>(h.get? b).map fun o=>(b,o)
theorem gR {fp:List Addr} {h:Heap} {b:Addr} {o:Obj} (hb:b∈fp) (e:h.get? b=some o):(b,o)∈fO fp h:=List.mem_filterMap.mpr ⟨b,hb,by rw [e];rfl⟩
theorem mH {fp:List Addr} {h:Heap} {p:Addr×Obj} (hp:p∈fO fp h):p.1∈fp∧h.get? p.1=some p.2:=by
  obtain ⟨b,hb,e⟩:=List.mem_filterMap.mp hp
  cases q:h.get? b with
  | none=>rw [q] at e;cases e
  | some o=>
    rw [q] at e
    have e':(b,o)=p:=Option.some.inj e
    subst e'
    exact ⟨hb,q⟩
theorem Inv.pinned {pins:List (Addr×Obj)} {σ : St} {H:Hp} {s:Shared} {fp:List Addr} (I:Inv X pins σ H s) (hf:∀ b∈fp,ly X pins H b) (ho:∀ b∈fp,∃ o,s.heap.get? b=some o∧∀ v,o.data≠.cell v):Inv X (pins++fO fp s.heap) σ H s:=
  I.jN fun p hp=>(List.mem_append.mp hp).elim (fun z=>I.pin p (List.mem_append_right _ z)) fun z=>by
    obtain ⟨hb,e⟩:=mH z
    obtain ⟨f0,f1,f2,_⟩:=hf p.1 hb
    obtain ⟨o,e',d⟩:=ho p.1 hb
    rw [e] at e';cases e'
    exact ⟨e,f0,f1,f2,d⟩
theorem Inv.ig {pins pl:List (Addr×Obj)} {σ : St} {H:Hp} {s:Shared} (I:Inv X (pins++pl) σ H s):Inv X pins σ H s:=I.jN fun p hp=>I.pin p (List.mem_append_right _ (List.mem_append_left _ hp))
theorem fN {iter:Expr} {body:List Stmt} {wi:TI} {g:TG} {tb:TS} {pos:Pos} (hp:PassesOwn (model X.prog X.w) X.A X.env X.xe) (hc:X.calm=true) (hi:PI X tg iter wi) (hg:PG X tg g) (hb:PSs X body tb)
    (hs:∀ x,foldedSetIterable iter X.env x=pure x:=by intro _;rfl):PS X (.For tg iter body [] pos) (HU wi g tb):=by
  intro pins s σ H D I h
  refine wpAny_For (thn (hi pins s σ H _ I h) fun v s1 h1=>thn h1 fun itv s2 h2=>?_) hs
  obtain ⟨it,fp,tn,J,H2,e,I2,T,st2,f2,W,⟨m0,w0⟩,turn⟩:=h2
  subst e
  -- what stays true of the iterator's objects through the loop
  have E5:∀ {H':Hp},(∀ b∈fp,H' b=none)→∀ b∈fp,ly X pins H' b:=fun hn b hb=>⟨hn b hb,(f2 b hb).2⟩
  refine codeAny_forLoop_any (fun n s'=>∃ i σ' H',Inv X pins σ' H' s'∧tn i s'.heap∧(∀ b∈fp,H' b=none)∧W i n σ' H') ?_ m0 ⟨0,σ,H2,I2,st2,fun b hb=>(f2 b hb).1,w0⟩
  rintro n s3 ⟨i,σ3,H3,I3,st3,fr3,w3⟩
  rcases turn i n σ3 H3 w3 with ⟨stop,qn⟩ | ⟨go,N,hN,step⟩
  · refine wpAny_passesOwn hp (thn (T.done X rfl rfl rfl hc i pins s3 σ3 H3 X.xe I3 (E5 fr3) st3 stop) fun r s4 ⟨hr,I4⟩=>?_)
    subst hr
    exact wpAny_execs_nil ⟨σ3,H3,I4,qn⟩
  · refine wpAny_passesOwn hp (thn (T.item X rfl rfl rfl hc i pins s3 σ3 H3 X.xe I3 (E5 fr3) st3 go) fun r s4 ⟨u,hr,h4⟩=>?_)
    subst hr
    refine wpAny_passesOwn hp (thn h4 fun _ s5 ⟨x,H5,I5,r5,y5,st5,fr5⟩=>?_)
    have I5':=I5.pinned (E5 fr5) (T.obj _ _ st5)
    refine wpAny_passesOwn hp (thn (hg _ s5 σ3 H5 x u _ I5' r5 (step x H5 y5)) fun _ s6 ⟨σ6,H6,I6,q6⟩=>?_)
    refine wpAny_passesOwn hp (thn (hb _ s6 σ6 H6 _ I6 q6) fun f s7 q7=>?_)
    have again:∀ {σ7:St} {H7:Hp},Inv X (pins++fO fp s5.heap) σ7 H7 s7→N σ7 H7→∃ m,m < n∧∃ i σ' H',Inv X pins σ' H' s7∧tn i s7.heap∧(∀ b∈fp,H' b=none)∧W i m σ' H':=fun {σ7 H7} I7 n7=>by
      obtain ⟨m',hm,w7⟩:=hN σ7 H7 n7
      refine ⟨m',hm,i+1,σ7,H7,I7.ig,T.keep _ _ _ st5 fun b hb o e=>(I7.pin (b,o) (List.mem_append_right _ (List.mem_append_right _ (gR hb e)))).1,fun b hb=>?_,w7⟩
      obtain ⟨o,e,d⟩:=T.obj _ _ st5 b hb
      exact (I7.pin (b,o) (List.mem_append_right _ (List.mem_append_right _ (gR hb e)))).2.1
    cases f with
    | next=>obtain ⟨σ7,H7,I7,n7⟩:=q7;exact again I7 n7
    | cont=>obtain ⟨σ7,H7,I7,n7⟩:=q7;exact again I7 n7
    | brk=>obtain ⟨σ7,H7,I7,q7⟩:=q7;exact ⟨σ7,H7,I7.ig,q7⟩
    | ret v=>obtain ⟨x7,σ7,H7,I7,r7,q7⟩:=q7;exact ⟨x7,σ7,H7,I7.ig,r7,q7⟩
end
theorem AS {K:PySem.W.Frag} {a:Addr} {xs:List V} {g:TG} {tb:TS} {D:Ends} {σ : St} {H:Hp} (Pv:Nat→St→Hp→Prop) (h0:Pv 0 σ H) (hl:∀ i σ H,i≤xs.length→Pv i σ H→SqL K H a xs)
    (hs:∀ i x σ H,xs[i]?=some x→Pv i σ H→g x σ H fun σ2 H2=>tb { D with nx:=Pv (i+1),ct:=Pv (i+1),bk:=D.nx } σ2 H2) (hd:∀ σ H,Pv xs.length σ H→D.nx σ H) :
    ∃ W:Nat→Nat→St→Hp→Prop,(∃ m,W 0 m σ H)∧∀ i m σ H,W i m σ H →
      ((Itl K a).stop i H∧D.nx σ H)∨((Itl K a).go i H∧∃ N:St→Hp→Prop,(∀ σ' H',N σ' H'→∃ m',m' < m∧W (i+1) m' σ' H')∧∀ x H',(Itl K a).yld i H x H'→g x σ H' fun σ2 H2=>tb { D with nx:=N,ct:=N,bk:=D.nx } σ2 H2):=by
  refine ⟨fun i m σ H=>m=xs.length - i∧i≤xs.length∧Pv i σ H,⟨xs.length,by simp,Nat.zero_le _,h0⟩,?_⟩
  rintro i m σ H ⟨rfl,hi,p⟩
  have q:=hl i σ H hi p
  by_cases hlt:i < xs.length
  · refine .inr ⟨⟨xs,xs[i],q,by simp [hlt]⟩,Pv (i+1),fun σ' H' p'=>⟨xs.length - (i+1),by omega,rfl,hlt,p'⟩,fun x H' y=>?_⟩
    obtain ⟨e,y⟩:=y
    subst e
    exact hs i x σ _ (y xs q) p
  · have e:i=xs.length:=by omega
    subst e
    exact .inl ⟨⟨xs,q,Nat.le_refl _⟩,hd σ H p⟩
theorem xC {lo:Int} {n:Nat} {g:TG} {tb:TS} {D:Ends} {σ : St} {H:Hp} (Pv:Nat→St→Hp→Prop) (h0:Pv 0 σ H)
    (hs:∀ i σ H,i < n→Pv i σ H→g (.int (lo+i)) σ H fun σ2 H2=>tb { D with nx:=Pv (i+1),ct:=Pv (i+1),bk:=D.nx } σ2 H2) (hd:∀ σ H,Pv n σ H→D.nx σ H) :
    ∃ W:Nat→Nat→St→Hp→Prop,(∃ m,W 0 m σ H)∧∀ i m σ H,W i m σ H →
      ((Itr lo n).stop i H∧D.nx σ H)∨((Itr lo n).go i H∧∃ N:St→Hp→Prop,(∀ σ' H',N σ' H'→∃ m',m' < m∧W (i+1) m' σ' H')∧∀ x H',(Itr lo n).yld i H x H'→g x σ H' fun σ2 H2=>tb { D with nx:=N,ct:=N,bk:=D.nx } σ2 H2):=by
  refine ⟨fun i m σ H=>m=n - i∧i≤n∧Pv i σ H,⟨n,by simp,Nat.zero_le _,h0⟩,?_⟩
  rintro i m σ H ⟨rfl,hi,p⟩
  by_cases hlt:i < n
  · refine .inr ⟨hlt,Pv (i+1),fun σ' H' p'=>⟨n - (i+1),by omega,rfl,hlt,p'⟩,fun x H' y=>?_⟩
    obtain ⟨e,y⟩:=y
    subst e y
    exact hs i σ _ hlt p
  · have e:i=n:=by omega
    subst e
    exact .inl ⟨Nat.le_refl _,hd σ H p⟩
abbrev R2:=V→V→Hp→VK→Prop
def OpR (X:Cx) (f:Value→Value→Sem Value) (r:R2):Prop:=
  ∀ (pins:List (Addr×Obj)) (s:Shared) (σ : St) (H:Hp) (x y:V) (v u:Value) (Q:VK),Inv X pins σ H s→RelV x v→RelV y u→r x y H Q →
    wpAny (model X.prog X.w) X.A (f v u) (EP X pins σ Q) X.xe s
def b5 (X:Cx) (f:Value) (r:List V→Hp→VK→Prop):Prop:=
  ∀ (pins:List (Addr×Obj)) (s:Shared) (σ : St) (H:Hp) (xs:List V) (us:List Value) (Q:VK),Inv X pins σ H s→Vals xs us→r xs H Q →
    wpAny (model X.prog X.w) X.A (call f us) (EP X pins σ Q) X.xe s
def tOp (r:R2) (ta tb:TE):TE:=fun σ H Q=>ta σ H fun x H1=>tb σ H1 fun y H2=>r x y H2 Q
def rI (C:Int→Int→Prop) (g:Int→Int→V):R2:=fun x y H Q=>∃ i j,x = .int i∧y = .int j∧C i j∧Q (g i j) H
def rI0 (g:Int→Int→V):R2:=fun x y H Q=>∃ i j,x = .int i∧y = .int j∧Q (g i j) H
section
variable {X:Cx} {a b c:Expr} {ta tb tc:TE} {pos:Pos}
theorem G5 (ha:PE X a ta) (hb:PE X b tb) {pins:List (Addr×Obj)} {s:Shared} {σ : St} {H:Hp} {R:V→V→Hp→Prop} (I:Inv X pins σ H s)
    (h:ta σ H fun x H1=>tb σ H1 fun y H2=>R x y H2) {Q:Value→Shared→Prop} {f:Value→Value→Sem Value}
    (hf:∀ v u s2 x y H2,Inv X pins σ H2 s2→RelV x v→RelV y u→R x y H2→wpAny (model X.prog X.w) X.A (f v u) Q X.xe s2) :
    wpAny (model X.prog X.w) X.A (eval a X.env) (fun v s₁=>wpAny (model X.prog X.w) X.A (eval b X.env) (fun u s₂=>wpAny (model X.prog X.w) X.A (f v u) Q X.xe s₂) X.xe s₁) X.xe s:=by
  refine thn (ha pins s σ H _ I h) fun v s1 ⟨x,H1,I1,r1,q1⟩=>?_
  refine thn (hb pins s1 σ H1 _ I1 q1) fun u s2 ⟨y,H2,I2,r2,q2⟩=>?_
  exact hf v u s2 x y H2 I2 r1 r2 q2
theorem aL {op:Operator} {r:R2} (ho:OpR X (binaryOp op) r) (ha:PE X a ta) (hb:PE X b tb):PE X (.BinOp a op b pos) (tOp r ta tb):=by
  intro pins s σ H Q I h
  exact wpAny_BinOp (G5 ha hb I h fun v u s2 x y H2 I2 rx ry q=>ho pins s2 σ H2 x y v u Q I2 rx ry q)
theorem opI {f:Value→Value→Sem Value} {C:Int→Int→Prop} {g:Int→Int→Int}
    (rule:∀ (i j:Int) (t u:Tok) (s:Shared) (Q:Value→Shared→Prop) (E:Value→Shared→Prop),C i j→Q (.int (g i j) s.toks) { s with toks:=s.toks+1 }→wpAny (model X.prog X.w) X.A (f (.int i t) (.int j u)) Q E s) :
    OpR X f (rI C fun i j=>.int (g i j)):=by
  intro pins s σ H x y v u Q I rx ry h
  obtain ⟨i,j,rfl,rfl,hc,q⟩:=h
  obtain ⟨t,rfl⟩:=rx
  obtain ⟨t',rfl⟩:=ry
  exact rule i j t t' s _ _ hc ⟨.int (g i j),H,I.tok _,⟨_,rfl⟩,q⟩
theorem Iw {f:Value→Value→Sem Value} {g:Int→Int→Int}
    (rule:∀ (i j:Int) (t u:Tok) (s:Shared) (Q:Value→Shared→Prop) (E:Value→Shared→Prop),Q (.int (g i j) s.toks) { s with toks:=s.toks+1 }→wpAny (model X.prog X.w) X.A (f (.int i t) (.int j u)) Q E s) :
    OpR X f (rI0 fun i j=>.int (g i j)):=by
  intro pins s σ H x y v u Q I rx ry h
  obtain ⟨i,j,rfl,rfl,q⟩:=h
  obtain ⟨t,rfl⟩:=rx
  obtain ⟨t',rfl⟩:=ry
  exact rule i j t t' s _ _ ⟨.int (g i j),H,I.tok _,⟨_,rfl⟩,q⟩
theorem Cp {f:Value→Value→Sem Value} {g:Int→Int→Bool}
    (rule:∀ (i j:Int) (t u:Tok) (s:Shared) (Q:Value→Shared→Prop) (E:Value→Shared→Prop),Q (.bool (g i j)) s→wpAny (model X.prog X.w) X.A (f (.int i t) (.int j u)) Q E s) :
    OpR X f (rI0 fun i j=>.bl (g i j)):=by
  intro pins s σ H x y v u Q I rx ry h
  obtain ⟨i,j,rfl,rfl,q⟩:=h
  obtain ⟨t,rfl⟩:=rx
  obtain ⟨t',rfl⟩:=ry
  exact rule i j t t' s _ _ ⟨.bl (g i j),H,I,rfl,q⟩
def Kx (i j:Int):Prop:=0≤j∧j≤1000000∧i.natAbs < 2 ^ 64
def Br (i j:Int):Prop:=(-(2 ^ 64) < i∧i < 2 ^ 64)∨(-(2 ^ 64) < j∧j < 2 ^ 64)
theorem Br.ok {i j:Int} (h:Br i j):IntMulOk i j:=by
  rcases h with ⟨h1,h2⟩ | ⟨h1,h2⟩
  · exact .of_left (intBits_le_64 h1 h2)
  · exact .of_right (intBits_le_64 h1 h2)
theorem bB:OpR X (binaryOp .Add) (rI0 fun i j=>.int (i+j)):=Iw fun _ _ _ _ _ _ _ q=>add_int q
theorem i9:OpR X (binaryOp .Sub) (rI0 fun i j=>.int (i - j)):=Iw fun _ _ _ _ _ _ _ q=>sub_int q
theorem zK:OpR X (binaryOp .Mult) (rI Br fun i j=>.int (i * j)):=opI fun _ _ _ _ _ _ _ hc q=>mul_int q hc.ok
theorem dZ:OpR X (binaryOp .Mod) (rI (fun _ j=>0 < j) fun i j=>.int (i % j)):=opI fun i j _ _ _ _ _ hc q=>by
  have h1:(0:Int) < j:=hc
  exact mod_int' (by omega) (by rw [Int.fmod_eq_emod_of_nonneg i (by omega)];exact q)
theorem fR:OpR X (binaryOp .Pow) (rI Kx fun i j=>.int (i ^ j.toNat)):=opI fun _ _ _ _ _ _ _ hc q=>pow_int_small hc.1 hc.2.1 hc.2.2 q
end
def Ib:V→V→Bool
  | .non,.non=>true | .non,.int _=>true | .int _,.non=>true | .non,.bl _=>true | .bl _,.non=>true | .non,.str _=>true | .str _,.non=>true
  | .int _,.int _=>true | .bl _,.bl _=>true | .str _,.str _=>true | .byt _,.byt _=>true
  | .int _,.str _=>true | .str _,.int _=>true | .bl _,.str _=>true | .str _,.bl _=>true
  | _,_=>false
def rEq:R2:=fun x y H Q=>Ib x y=true∧Q (.bl (decide (x=y))) H
def rNe:R2:=fun x y H Q=>Ib x y=true∧Q (.bl (!decide (x=y))) H
theorem vR {i j:Int}:decide (V.int i=V.int j)=(i == j):=by
  rw [Bool.eq_iff_iff]
  simp
theorem A7 {i j:Bool}:decide (V.bl i=V.bl j)=(i == j):=by
  rw [Bool.eq_iff_iff]
  simp
theorem vQ {i j:Str}:decide (V.str i=V.str j)=(i == j):=by
  rw [Bool.eq_iff_iff]
  simp
theorem vS {i j:Array UInt8}:decide (V.byt i=V.byt j)=(i.toList == j.toList):=by
  rw [Bool.eq_iff_iff]
  cases i
  cases j
  simp
section
variable {X:Cx} {a b c:Expr} {ta tb tc:TE} {pos:Pos}
theorem bD {pins:List (Addr×Obj)} {σ : St} {H:Hp} {s:Shared} {Q:VK} {k k':Bool} (I:Inv X pins σ H s) (q:Q (.bl k) H) (e:k=k'):EP X pins σ Q (.bool k') s:=by
  subst e
  exact ⟨.bl k,H,I,rfl,q⟩
theorem bX:OpR X (compareOp .Eq) rEq:=by
  intro pins s σ H x y v u Q I rx ry h
  obtain ⟨hs,q⟩:=h
  cases x with
  | non=>
    cases rx
    cases y with
    | non=>cases ry;exact PySem.EqNone.eq_none_none (bD I q (by simp))
    | bl j=>cases ry;exact PySem.EqNone.eq_none_bool (bD I q (by simp))
    | int j=>obtain ⟨t',rfl⟩:=ry;exact PySem.EqNone.eq_none_int (bD I q (by simp))
    | str j=>obtain ⟨t',rfl⟩:=ry;exact PySem.EqNone.eq_none_str (bD I q (by simp))
    | _=>exact absurd (show false=true from hs) Bool.false_ne_true
  | bl i=>
    cases rx
    cases y with
    | non=>cases ry;exact PySem.EqNone.eq_bool_none (bD I q (by simp))
    | bl j=>cases ry;exact eq_bool (bD I q A7)
    | str j=>obtain ⟨t',rfl⟩:=ry;exact PySem.EqMixed.eq_bool_str (bD I q (by simp))
    | _=>exact absurd (show false=true from hs) Bool.false_ne_true
  | int i=>
    obtain ⟨t,rfl⟩:=rx
    cases y with
    | non=>cases ry;exact PySem.EqNone.eq_int_none (bD I q (by simp))
    | int j=>obtain ⟨t',rfl⟩:=ry;exact eq_int (bD I q vR)
    | str j=>obtain ⟨t',rfl⟩:=ry;exact PySem.EqMixed.eq_int_str (bD I q (by simp))
    | _=>exact absurd (show false=true from hs) Bool.false_ne_true
  | str i=>
    obtain ⟨t,rfl⟩:=rx
    cases y with
    | non=>cases ry;exact PySem.EqNone.eq_str_none (bD I q (by simp))
    | bl j=>cases ry;exact PySem.EqMixed.eq_str_bool (bD I q (by simp))
    | int j=>obtain ⟨t',rfl⟩:=ry;exact PySem.EqMixed.eq_str_int (bD I q (by simp))
    | str j=>obtain ⟨t',rfl⟩:=ry;exact eq_str (bD I q vQ)
    | _=>exact absurd (show false=true from hs) Bool.false_ne_true
  | byt i=>
    obtain ⟨t,rfl⟩:=rx
    cases y with
    | byt j=>obtain ⟨t',rfl⟩:=ry;exact PySem.W.eq_bytes (bD I q vS)
    | _=>exact absurd (show false=true from hs) Bool.false_ne_true
  | _=>cases y <;> exact absurd (show false=true from hs) Bool.false_ne_true
theorem qu:OpR X (compareOp .NotEq) rNe:=by
  intro pins s σ H x y v u Q I rx ry h
  obtain ⟨hs,q⟩:=h
  cases x with
  | non=>
    cases rx
    cases y with
    | non=>cases ry;exact PySem.EqNone.ne_none_none (bD I q (by simp))
    | bl j=>cases ry;exact PySem.EqNone.ne_none_bool (bD I q (by simp))
    | int j=>obtain ⟨t',rfl⟩:=ry;exact PySem.EqNone.ne_none_int (bD I q (by simp))
    | str j=>obtain ⟨t',rfl⟩:=ry;exact PySem.EqNone.ne_none_str (bD I q (by simp))
    | _=>exact absurd (show false=true from hs) Bool.false_ne_true
  | bl i=>
    cases rx
    cases y with
    | non=>cases ry;exact PySem.EqNone.ne_bool_none (bD I q (by simp))
    | bl j=>cases ry;exact ne_bool (bD I q (congrArg not A7))
    | str j=>obtain ⟨t',rfl⟩:=ry;exact PySem.EqMixed.ne_bool_str (bD I q (by simp))
    | _=>exact absurd (show false=true from hs) Bool.false_ne_true
  | int i=>
    obtain ⟨t,rfl⟩:=rx
    cases y with
    | non=>cases ry;exact PySem.EqNone.ne_int_none (bD I q (by simp))
    | int j=>obtain ⟨t',rfl⟩:=ry;exact ne_int (bD I q (congrArg not vR))
    | str j=>obtain ⟨t',rfl⟩:=ry;exact PySem.EqMixed.ne_int_str (bD I q (by simp))
    | _=>exact absurd (show false=true from hs) Bool.false_ne_true
  | str i=>
    obtain ⟨t,rfl⟩:=rx
    cases y with
    | non=>cases ry;exact PySem.EqNone.ne_str_none (bD I q (by simp))
    | bl j=>cases ry;exact PySem.EqMixed.ne_str_bool (bD I q (by simp))
    | int j=>obtain ⟨t',rfl⟩:=ry;exact PySem.EqMixed.ne_str_int (bD I q (by simp))
    | str j=>obtain ⟨t',rfl⟩:=ry;exact ne_str (bD I q (congrArg not vQ))
    | _=>exact absurd (show false=true from hs) Bool.false_ne_true
  | byt i=>
    obtain ⟨t,rfl⟩:=rx
    cases y with
    | byt j=>obtain ⟨t',rfl⟩:=ry;exact PySem.W.ne_bytes (bD I q (congrArg not vS))
    | _=>exact absurd (show false=true from hs) Bool.false_ne_true
  | _=>cases y <;> exact absurd (show false=true from hs) Bool.false_ne_true
theorem qv:OpR X (compareOp .Lt) (rI0 fun i j=>.bl (decide (i < j))):=Cp fun _ _ _ _ _ _ _ q=>lt_int q
theorem ki:OpR X (compareOp .LtE) (rI0 fun i j=>.bl (decide (i≤j))):=Cp fun _ _ _ _ _ _ _ q=>le_int q
theorem iB:OpR X (compareOp .Gt) (rI0 fun i j=>.bl (decide (j < i))):=Cp fun _ _ _ _ _ _ _ q=>gt_int q
theorem EC:OpR X (compareOp .GtE) (rI0 fun i j=>.bl (decide (j≤i))):=Cp fun _ _ _ _ _ _ _ q=>ge_int q
theorem aQ (b:Expr) {op:CmpOp} (h:op≠.In:=by decide) (h2:op≠.NotIn:=by decide):behindInMarks op b=false:=by
  have e1:(op == CmpOp.In)=false:=by cases op <;> first | rfl | exact absurd rfl h
  have e2:(op == CmpOp.NotIn)=false:=by cases op <;> first | rfl | exact absurd rfl h2
  cases b <;> simp [behindInMarks,e1,e2]
theorem cB {op:CmpOp} {r:R2} (ho:OpR X (compareOp op) r) (ha:PE X a ta) (hb:PE X b tb) (hm:behindInMarks op b=false):PE X (.Compare a [op] [b] pos) (tOp r ta tb):=by
  intro pins s σ H Q I h
  exact wpAny_Compare1 (G5 ha hb I h fun v u s2 x y H2 I2 rx ry q=>ho pins s2 σ H2 x y v u Q I2 rx ry q) hm
def ym (t:TE):TT:=fun σ H Q=>t σ H fun x H'=>∃ k,x = .bl k∧Q k H'
theorem aO {op:CmpOp} {r:R2} (ho:OpR X (compareOp op) r) (ha:PE X a ta) (hb:PE X b tb) (hm:behindInMarks op b=false):PT X (.Compare a [op] [b] pos) (ym (tOp r ta tb)):=by
  intro pins s σ H Q I h
  refine wpAny_isTrue_Compare1 (thn (ha pins s σ H _ I h) fun v s1 ⟨x,H1,I1,r1,q1⟩=>thn (hb pins s1 σ H1 _ I1 q1) fun u s2 ⟨y,H2,I2,r2,q2⟩=>
    thn (ho pins s2 σ H2 x y v u _ I2 r1 r2 q2) fun c s3 ⟨z,H3,I3,r3,k,e,q3⟩=>?_) hm
  subst e
  cases r3
  exact wpAny_truthy_bool ⟨H3,I3,q3⟩
def yt (r r':R2) (ta tb tc:TE):TE:=fun σ H Q=>ta σ H fun x H1=>tb σ H1 fun y H2=>r x y H2 fun z H3=>∃ k,z = .bl k ∧
  (if k=true then tc σ H3 fun w' H4=>r' y w' H4 Q else Q (.bl false) H3)
theorem zC {op op':CmpOp} {r r':R2} (ho:OpR X (compareOp op) r) (ho':OpR X (compareOp op') r') (ha:PE X a ta) (hb:PE X b tb) (hc:PE X c tc)
    (hm:lastMarks [op,op'] [b,c]=false:=by with_unfolding_all rfl):PT X (.Compare a [op,op'] [b,c] pos) (ym (yt r r' ta tb tc)):=by
  intro pins s σ H Q I h
  refine isTrue_chain (thn (ha pins s σ H _ I h) fun v s1 ⟨x,H1,I1,r1,q1⟩=>test_link (thn (hb pins s1 σ H1 _ I1 q1) fun u s2 ⟨y,H2,I2,r2,q2⟩=>
    thn (ho pins s2 σ H2 x y v u _ I2 r1 r2 q2) fun d s3 ⟨z,H3,I3,r3,k,e,q3⟩=>?_)) hm
  subst e
  cases r3
  refine wpAny_truthy_bool ?_
  cases k with
  | false=>
    obtain ⟨k',e',q'⟩:=q3
    cases e'
    exact ite_ff ⟨H3,I3,q'⟩
  | true=>
    refine ite_tt (test_last (thn (hc pins s3 σ H3 _ I3 q3) fun w' s4 ⟨z',H4,I4,r4,q4⟩=>thn (ho' pins s4 σ H4 y z' u w' _ I4 r2 r4 q4) fun d' s5 ⟨z2,H5,I5,r5,k2,e2,q5⟩=>?_))
    subst e2
    cases r5
    exact wpAny_truthy_bool ⟨H5,I5,q5⟩
theorem kB:(sizeLine:Nat) < 2 ^ 63:=by rw [sizeLine_eq];decide
theorem sX:OpR X (binaryOp .Add) (fun x y H Q=>∃ i j,x = .str i∧y = .str j∧i.length+j.length≤sizeLine∧Q (.str (i++j)) H):=by
  intro pins s σ H x y v u Q I rx ry h
  obtain ⟨i,j,rfl,rfl,hz,q⟩:=h
  obtain ⟨t,rfl⟩:=rx
  obtain ⟨t',rfl⟩:=ry
  exact add_str (fun t' tk=>⟨.str (i++j),H,I.tok _,⟨_,rfl⟩,q⟩) hz
theorem vals1 {x:V} {us:List Value} (r:Vals [x] us):∃ u,us=[u]∧RelV x u:=by
  cases r with
  | cons r1 r2=>cases r2;exact ⟨_,rfl,r1⟩
theorem vals2 {x y:V} {us:List Value} (r:Vals [x,y] us):∃ u w',us=[u,w']∧RelV x u∧RelV y w':=by
  cases r with
  | cons r1 r2=>
    cases r2 with
    | cons r3 r4=>cases r4;exact ⟨_,_,rfl,r1,r3⟩
theorem xG (hc:X.calm=true):b5 X (.builtin "max") (fun xs H Q=>∃ i j,xs=[.int i,.int j]∧Q (.int (if j > i then j else i)) H):=by
  intro pins s σ H xs us Q I r h
  obtain ⟨i,j,rfl,q⟩:=h
  obtain ⟨u,w',rfl,⟨t,rfl⟩,⟨t',rfl⟩⟩:=vals2 r
  refine max_two_ints (I.ok.hd hc) fun h' tk k=>⟨_,H,I.kept k,?_,q⟩
  by_cases hj:j > i
  · rw [if_pos hj,if_pos hj];exact ⟨_,rfl⟩
  · rw [if_neg hj,if_neg hj];exact ⟨_,rfl⟩
theorem xF (hc:X.calm=true):b5 X (.builtin "min") (fun xs H Q=>∃ i j,xs=[.int i,.int j]∧Q (.int (if j < i then j else i)) H):=by
  intro pins s σ H xs us Q I r h
  obtain ⟨i,j,rfl,q⟩:=h
  obtain ⟨u,w',rfl,⟨t,rfl⟩,⟨t',rfl⟩⟩:=vals2 r
  refine min_two_ints (I.ok.hd hc) fun h' tk k=>⟨_,H,I.kept k,?_,q⟩
  by_cases hj:j < i
  · rw [if_pos hj,if_pos hj];exact ⟨_,rfl⟩
  · rw [if_neg hj,if_neg hj];exact ⟨_,rfl⟩
theorem xK:b5 X (.type "int") (fun xs H Q=>(∃ i,xs=[.int i]∧Q (.int i) H)∨∃ k,xs=[.bl k]∧Q (.int (if k then 1 else 0)) H):=by
  intro pins s σ H xs us Q I r h
  rcases h with ⟨i,rfl,q⟩ | ⟨k,rfl,q⟩
  · obtain ⟨u,rfl,t,rfl⟩:=vals1 r
    exact call_int_int ⟨.int i,H,I,⟨_,rfl⟩,q⟩
  · obtain ⟨u,rfl,r1⟩:=vals1 r
    cases r1
    exact call_int_bool ⟨.int (if k then 1 else 0),H,I.tok _,⟨_,rfl⟩,q⟩
end
structure uF (h:Heap) (x dx C:Addr) (mA:Str→Option Value):Prop where
  obj:h.get? x=some (PySem.W.instObj C dx)
  ns:h.Ns1 dx mA
  ne:dx≠x
theorem mO {h:Heap} {dx:Addr} {mA:Str→Option Value} (n:h.Ns1 dx mA):∃ od,h.get? dx=some od∧∀ name,PySem.W.lookIn name od=some (mA name):=by
  obtain ⟨o,es,ep,ho,hd,hk,_,hm⟩:=n
  refine ⟨o,ho,fun name=>?_⟩
  have e:=hm name
  unfold nsFind findBy at e
  rw [← Array.find?_toList] at e
  unfold PySem.W.lookIn
  rw [hd]
  dsimp only
  split
  · rename_i y q
    rw [q] at e
    exact congrArg some e
  · rename_i q
    rw [q] at e
    have a:es.toList.any (·.refKey)=false:=by
      rw [List.any_eq_false]
      intro y hy
      obtain ⟨z,t,hkey⟩:=hk y (Array.mem_toList_iff.mp hy)
      simp [DictEntry.refKey,hkey]
    have a':¬ es.toList.any (·.refKey)=true:=by rw [a];exact Bool.false_ne_true
    rw [if_neg a']
    exact congrArg some e
theorem uF.look {h:Heap} {x dx C:Addr} {mA:Str→Option Value} (I:uF h x dx C mA):∃ od,PySem.W.InstAt h x (PySem.W.instObj C dx) C (some od)∧∀ name,PySem.W.lookIn name od=some (mA name):=
  let ⟨od,ho,hl⟩:=mO I.ns
  ⟨od,⟨I.obj,rfl,rfl,ho⟩,hl⟩
section
variable {prog:Program} {w:World} {A:Around} {E:Value→Shared→Prop} {s:Shared} {K:PySem.W.Frag} {x dx C f:Addr} {mA:Str→Option Value} {name:Str} {v:Value}
theorem get_map {expr:Bool} {Q:Value→Shared→Prop} (X:K.In s.heap) (I:uF s.heap x dx C mA) (hg:PySem.W.plainGet K C name=true) (hh:PySem.W.hasDictIn K C=true)
    (ha:PySem.W.findIn K (.ref C) name=some none) (hv:mA name=some v) (hv':PySem.W.handedIn v=true) (h:Q v { s with toks:=s.toks+1 }) :
    wpAny (model prog w) A (getAttr (.ref x) name expr) Q E s:=by
  obtain ⟨od,J,hl⟩:=I.look
  exact PySem.W.get_value X J (PySem.W.plainGet_of hg).1 (PySem.W.findObj_own hh ha rfl (by rw [hl,hv])) hv' h
theorem Ax {pl:Sem Bool} {Q:Value×List Value→Shared→Prop} (X:K.In s.heap) (I:uF s.heap x dx C mA) (hg:PySem.W.plainGet K C name=true)
    (hf:PySem.W.findIn K (.ref C) name=some (some (.ref f))) (ht:PySem.W.isFn K (.ref f)=true) (hv:mA name=none) (h:Q (.ref f,[.ref x]) s) :
    wpAny (model prog w) A (getMethod (.ref x) name pl) Q E s:=by
  obtain ⟨od,J,hl⟩:=I.look
  exact PySem.W.method_fn X J (PySem.W.plainGet_of hg).1 (PySem.W.plainGet_of hg).2 hf (beq_iff_eq.mp ht) (by show (PySem.W.lookIn name od).map (·.isSome)=some false;rw [hl,hv];rfl) h
theorem BI {ns:List Str} {Q:Unit→Shared→Prop} (X:K.In s.heap) (I:uF s.heap x dx C mA)
    (hs:PySem.W.findIn K (.ref C) "__setattr__" = some (some (.builtin "object.__setattr__"))) (hp:PySem.W.plainOver K C=true) (ht:PySem.W.takerIn K C name=some none) (hh:PySem.W.hasDictIn K C=true)
    (hw:PySem.Within mA ns) (hsz:ns.length≤sizeLine)
    (h:∀ h',uF h' x dx C (fun y=>if y=name then some v else mA y)→Heap.SameBut dx s.heap h'→Q () { s with heap:=h',toks:=s.toks+2 }) :
    wpAny (model prog w) A (setAttr (.ref x) name v) Q E s:=by
  obtain ⟨od,J,hl⟩:=I.look
  refine PySem.W.set_plain X J hs (PySem.W.osa_open (s:={ s with toks:=s.toks+1 }) (r:=none) X J hp ht fun b=>?_)
  obtain ⟨cd,hc,hd'⟩:=PySem.W.any_some hh
  have hx:s.heap.get? x=some ⟨.ref C,some dx,.plain,#[]⟩:=I.obj
  refine wpAny_bind (wpAny_pure (wpAny_bind (wpAny_bind (wpAny_loadPart hx (wpAny_bind (PySem.W.Looks.here (s:={ s with toks:=s.toks+1 }) (PySem.W.looks_clsIn X hc) ?_))))))
  rw [hd']
  refine wpAny_pure (a:=some dx) (wpAny_bind (wpAny_pure (wpAny_bind ?_)))
  refine wpAny_nsSet1 (s:={ s with toks:=s.toks+1 }) I.ns fun h' hn2 hs2=>?_
  obtain ⟨oD,esD,epD,hoD,hdD,hcD⟩:=hn2.count (PySem.Within.cons name v hw)
  refine wpAny_bind (wpAny_lookBehind hoD (by rw [hdD];exact pastItsLine_dict (Nat.le_trans hcD (by rw [List.length_cons];omega))) ?_)
  exact wpAny_pure (h _ ⟨(hs2.2 _ (Ne.symm I.ne)).trans I.obj,hn2,I.ne⟩ hs2)
theorem Ab {R:Result→Shared→Prop} {vs:List Value} {kw:List (Str×Value)} (X:K.In s.heap) (hm:PySem.W.makesIn K C=true)
    (hi:PySem.W.findIn K (.ref C) "__init__" = some (some (.ref f))) (hf:PySem.W.typeIn K (.ref f)=some (.type "function"))
    (h:codeAny (model prog w) (A.under (.builtin "type.__call__" ⟨.ref C::vs,kw⟩)) (.call (.ref f) ⟨.ref (s.heap.objs.size+1)::vs,kw⟩) (PySem.W.InitBack (s.heap.objs.size+1) R)
      { s with heap:=(s.heap.push PySem.W.emptyDict).push (PySem.W.instObj C s.heap.objs.size) }) :
    codeAny (model prog w) A (.call (.ref C) ⟨vs,kw⟩) R s:=by
  obtain ⟨hh,g,d,t,os⟩:=s
  exact PySem.W.make_core (PySem.W.makes_of X hm) (PySem.W.looks_findIn X hi) (fun self=>PySem.W.bind_fn X self hf) (.inl rfl) h
end
def bG (f:Str) (v:V):List (Str×V)→List (Str×V)
  | []=>[(f,v)]
  | (g,x)::r=>if g=f then (g,v)::r else (g,x)::bG f v r
theorem fS (f g:Str) (v:V):∀ fs:List (Str×V),(bG f v fs).lookup g=if g=f then some v else fs.lookup g
  | []=>by
    show List.lookup g [(f,v)]=_
    by_cases h:g=f
    · have hb:(g == f)=true:=beq_iff_eq.mpr h
      simp only [List.lookup,hb,if_pos h]
    · have hb:(g == f)=false:=beq_eq_false_iff_ne.mpr h
      simp only [List.lookup,hb,if_neg h]
  | (k,x)::r=>by
    have ih:=fS f g v r
    rw [show bG f v ((k,x)::r)=(if k=f then (k,v)::r else (k,x)::bG f v r) from rfl]
    by_cases hk:k=f
    · rw [if_pos hk]
      by_cases h:g=k
      · have hb:(g == k)=true:=beq_iff_eq.mpr h
        simp only [List.lookup,hb,if_pos (h.trans hk)]
      · have hb:(g == k)=false:=beq_eq_false_iff_ne.mpr h
        simp only [List.lookup,hb,if_neg (fun e:g=f=>h (e.trans hk.symm))]
    · rw [if_neg hk]
      by_cases h:g=k
      · have hb:(g == k)=true:=beq_iff_eq.mpr h
        simp only [List.lookup,hb,if_neg (fun e:g=f=>hk (h.symm.trans e))]
      · have hb:(g == k)=false:=beq_eq_false_iff_ne.mpr h
        simp only [List.lookup,hb]
        exact ih
theorem eV (f:Str) (v:V):∀ fs:List (Str×V),f∈(bG f v fs).map (·.1)∧∀ g,g∈fs.map (·.1)→g∈(bG f v fs).map (·.1)
  | []=>⟨by simp [bG],fun g h=>by simp at h⟩
  | (k,x)::r=>by
    obtain ⟨i1,i2⟩:=eV f v r
    rw [show bG f v ((k,x)::r)=(if k=f then (k,v)::r else (k,x)::bG f v r) from rfl]
    by_cases hk:k=f
    · rw [if_pos hk]
      subst hk
      exact ⟨by simp,fun g h=>by simpa using h⟩
    · rw [if_neg hk]
      refine ⟨?_,fun g h=>?_⟩
      · rw [List.map_cons]
        exact List.mem_cons_of_mem _ i1
      · rw [List.map_cons] at h ⊢
        rcases List.mem_cons.mp h with e | e
        · exact List.mem_cons.mpr (.inl e)
        · exact List.mem_cons_of_mem _ (i2 g e)
theorem jy (f:Str) (v:V):∀ fs:List (Str×V),(bG f v fs).length≤fs.length+1
  | []=>by simp [bG]
  | (k,x)::r=>by
    have ih:=jy f v r
    rw [show bG f v ((k,x)::r)=(if k=f then (k,v)::r else (k,x)::bG f v r) from rfl]
    by_cases hk:k=f
    · rw [if_pos hk,List.length_cons,List.length_cons];omega
    · rw [if_neg hk,List.length_cons,List.length_cons];omega
theorem gG.some_of {v:V} {o:Option Value} (r:gG (some v) o):∃ u,o=some u∧RelV v u:=by
  cases o with
  | none=>exact (show False from r).elim
  | some u=>exact ⟨u,rfl,r⟩
theorem gG.none_of {o:Option Value} (r:gG none o):o=none:=by
  cases o with
  | none=>rfl
  | some u=>exact (show False from r).elim
theorem mU {v:V} {u:Value} (r:RelV v u):PySem.W.handedIn u=true:=by
  cases v with
  | non=>cases (show u=Value.none from r);rfl
  | bl b=>cases (show u=Value.bool b from r);rfl
  | int i=>obtain ⟨t,e⟩:=(show ∃ t,u=Value.int i t from r);cases e;rfl
  | str x=>obtain ⟨t,e⟩:=(show ∃ t,u=Value.str x t from r);cases e;rfl
  | byt b=>obtain ⟨t,e⟩:=(show ∃ t,u=Value.bytes b t from r);cases e;rfl
  | flt b=>obtain ⟨t,e⟩:=(show ∃ t,u=Value.float b t from r);cases e;rfl
  | ref a=>cases (show u=Value.ref a from r);rfl
  | ty n=>cases (show u=Value.type n from r);rfl
section
variable {P:Program} {w:World} {H H':Hp} {h h':Heap} {a C dx:Addr} {fs fs':List (Str×V)}
theorem iH (hok:HOk P w H h) (e:H a=some (.ins C dx fs)):∃ mA,uF h a dx C mA∧(∀ f,gG (fs.lookup f) (mA f))∧PySem.Within mA (fs.map (·.1))∧fs.length≤1000∧H dx=some (.own a):=by
  obtain ⟨d,z,ne,ob,mA,n,r,q⟩:=(show bL P w H h a (.ins C dx fs) from hok a _ e)
  exact ⟨mA,⟨ob,n,ne⟩,r,q,z,d⟩
end
structure Cls (K:PySem.W.Frag) (C:Addr):Prop where
  pg:PySem.W.plainGet K C Str.empty=true
  hd:PySem.W.hasDictIn K C=true
  po:PySem.W.plainOver K C=true
  sa:PySem.W.findIn K (.ref C) "__setattr__" = some (some (.builtin "object.__setattr__"))
theorem Cls.get {K:PySem.W.Frag} {C:Addr} (c:Cls K C) (f:Str):PySem.W.plainGet K C f=true:=c.pg
def aT (K:PySem.W.Frag) (C:Addr) (f:Str):Prop:=PySem.W.findIn K (.ref C) f=some none
theorem aT.HL {K:PySem.W.Frag} {C:Addr} {f:Str} (n:aT K C f):PySem.W.takerIn K C f=some none:=by
  unfold PySem.W.takerIn
  rw [show PySem.W.findIn K (.ref C) f=some none from n]
  rfl
structure Con (K:PySem.W.Frag) (C:Addr) (f:Str) (v:V) (u:Value):Prop where
  at_:PySem.W.findIn K (.ref C) f=some (some u)
  rel:RelV v u
  get:PySem.W.specialIn K u "__get__" = some none
  cp:PySem.W.copiedNames.contains f=false
structure Meth (K:PySem.W.Frag) (C:Addr) (m:Str) (f:Addr):Prop where
  at_:PySem.W.findIn K (.ref C) m=some (some (.ref f))
  fn:PySem.W.isFn K (.ref f)=true
  kp:PySem.W.keepIn K (.ref f)=true
section
variable {X:Cx} {pins:List (Addr×Obj)} {σ : St} {H:Hp} {s:Shared} {a C dx:Addr} {fs:List (Str×V)} {f:Str} {v:V} {A:Around} {E:Value→Shared→Prop}
theorem t8 {b:Bool} {Q:Value→Shared→Prop} (I:Inv X pins σ H s) (e:H a=some (.ins C dx fs)) (c:Cls X.K C) (n:aT X.K C f) (l:fs.lookup f=some v)
    (h:∀ u s',Inv X pins σ H s'→RelV v u→Q u s'):wpAny (model X.prog X.w) A (getAttr (.ref a) f b) Q E s:=by
  obtain ⟨mA,O,r,_,_,_⟩:=iH I.hok e
  obtain ⟨u,hu,ru⟩:=gG.some_of (v:=v) (o:=mA f) (by rw [← l];exact r f)
  exact get_map I.kIn O (c.get f) c.hd n hu (mU ru) (h u _ (I.tok _) ru)
theorem gW {m:Str} {g:Addr} {pl:Sem Bool} {Q:Value×List Value→Shared→Prop} (I:Inv X pins σ H s) (e:H a=some (.ins C dx fs)) (c:Cls X.K C) (k:Meth X.K C m g) (l:fs.lookup m=none)
    (h:Q (.ref g,[.ref a]) s):wpAny (model X.prog X.w) A (getMethod (.ref a) m pl) Q E s:=by
  obtain ⟨mA,O,r,_,_,_⟩:=iH I.hok e
  have hn:mA m=none:=gG.none_of (by rw [← l];exact r m)
  exact Ax I.kIn O (c.get m) k.at_ k.fn hn h
theorem sj {y:V} {u:Value} {Q:Unit→Shared→Prop} (I:Inv X pins σ H s) (e:H a=some (.ins C dx fs)) (c:Cls X.K C) (n:aT X.K C f) (hl:fs.length < 1000) (ry:RelV y u)
    (h:∀ s',Inv X pins σ (upd H a (.ins C dx (bG f y fs))) s'→Q () s'):wpAny (model X.prog X.w) A (setAttr (.ref a) f u) Q E s:=by
  obtain ⟨mA,O,r,wi,_,ho⟩:=iH I.hok e
  have hz:(fs.map (·.1)).length≤sizeLine:=by rw [List.length_map,sizeLine_eq];omega
  refine BI I.kIn O c.sa c.po n.HL c.hd wi hz fun h' O' sb=>h _ ?_
  have hd:∃ o,h'.get? dx=some o:=let ⟨o,_,_,e',_⟩:=O'.ns;⟨o,e'⟩
  refine I.write (x:=a) (e:=dx) (by rw [e];exact True.intro) (.inr ho) (fun b q hb z=>(sb.2 b hb).trans z) hd ?_
  refine ⟨by rw [aB O.ne];exact ho,?_,O.ne,O'.obj,_,O'.ns,fun g=>?_,fun g hg=>?_⟩
  · have:=jy f y fs;omega
  · show gG ((bG f y fs).lookup g) (if g=f then some u else mA g)
    rw [fS]
    by_cases q:g=f
    · rw [if_pos q,if_pos q];exact ry
    · rw [if_neg q,if_neg q];exact r g
  · by_cases q:g=f
    · rw [q];exact (eV f y fs).1
    · refine (eV f y fs).2 g (wi g fun z=>hg ?_)
      show (if g=f then some u else mA g)=none
      rw [if_neg q];exact z
theorem Inv.made (I:Inv X pins σ H s):Inv X pins σ (upd (upd H s.heap.objs.size (.own (s.heap.objs.size+1))) (s.heap.objs.size+1) (.ins C s.heap.objs.size []))
    { s with heap:=(s.heap.push PySem.W.emptyDict).push (PySem.W.instObj C s.heap.objs.size) }:=by
  have e1:(s.heap.push PySem.W.emptyDict).get? s.heap.objs.size=some PySem.W.emptyDict:=Heap.get?_push_size s.heap rfl
  have e2:((s.heap.push PySem.W.emptyDict).push (PySem.W.instObj C s.heap.objs.size)).get? (s.heap.objs.size+1)=some (PySem.W.instObj C s.heap.objs.size):=by
    have:=Heap.get?_push_size (s.heap.push PySem.W.emptyDict) (o:=PySem.W.instObj C s.heap.objs.size) rfl
    rwa [Heap.size_push] at this
  have e3:(s.heap.push PySem.W.emptyDict).Ns s.heap.objs.size (fun _=>none):=⟨PySem.W.emptyDict,#[],_,e1,rfl,(fun e he=>absurd he (by simp)),fun _=>rfl⟩
  have I1:=I.laid (a:=s.heap.objs.size) (o:=.own (s.heap.objs.size+1)) (h':=s.heap.push PySem.W.emptyDict) (t':=s.toks) (fun b u q=>Heap.get?_push_of_some _ q) (Nat.le_refl _) ⟨_,e1⟩
  refine I1.laid (a:=s.heap.objs.size+1) (o:=.ins C s.heap.objs.size []) (t':=s.toks) (fun b u q=>Heap.get?_push_of_some _ q) (Nat.le_of_eq (Heap.size_push _ _)) ?_
  have ne:s.heap.objs.size≠s.heap.objs.size+1:=Nat.ne_of_lt (Nat.lt_succ_self _)
  refine ⟨by rw [aB ne,ay],Nat.zero_le _,ne,e2,fun _=>none,(Heap.Ns1.of_empty e3).at fun o q=>Heap.get?_push_of_some _ q,fun _=>True.intro,fun y hy=>absurd rfl hy⟩
theorem vZ {prog:Program} {w:World} {env:Env} {e:Expr} {f:Str} {pos:Pos} {s:Shared} {Q:Value→Shared→Prop} (hb:attributeBase e f env (eval e env)=eval e env)
    (h:wpAny (model prog w) A (eval e env) (fun o s₁=>wpAny (model prog w) A (getAttr o f true) Q E s₁) E s):wpAny (model prog w) A (eval (.Attribute e f pos) env) Q E s:=
  Attribute_any_ h (by rw [arm_eval_Attribute,hb])
end
def HV (K:PySem.W.Frag) (ta:TE) (f:Str):TE:=fun σ H Q=>ta σ H fun x H1=>∃ a C dx fs v,x = .ref a∧H1 a=some (.ins C dx fs)∧Cls K C∧aT K C f∧fs.lookup f=some v∧Q v H1
def Ie (K:PySem.W.Frag) (ta tv:TE) (f:Str):TS:=fun D σ H=>tv σ H fun y H1=>ta σ H1 fun x H2=>∃ a C dx fs,x = .ref a∧H2 a=some (.ins C dx fs)∧Cls K C∧aT K C f∧fs.length < 1000 ∧
  D.nx σ (upd H2 a (.ins C dx (bG f y fs)))
section
variable {X:Cx} {o e value:Expr} {f:Str} {pos pos' tpos:Pos} {ta tv:TE}
theorem aP (he:PE X e ta) (hb:attributeBase e f X.env (eval e X.env)=eval e X.env):PE X (.Attribute e f pos) (HV X.K ta f):=by
  intro pins s σ H Q I h
  refine vZ hb (thn (he pins s σ H _ I h) fun u s1 ⟨x,H1,I1,rx,a,C,dx,fs,v,ex,ea,c,n,l,q⟩=>?_)
  subst ex
  obtain rfl:u=Value.ref a:=rx
  exact t8 I1 ea c n l fun u' s2 I2 ru=>⟨v,H1,I2,ru,q⟩
theorem cQ (ha:PE X o ta) (hv:PE X value tv) (hs:swapsWith value (some (.Attribute o f pos')) pos.line X.env=pure false):PS X (.Assign [.Attribute o f pos'] value pos) (Ie X.K ta tv f):=by
  intro pins s σ H D I h
  refine plainObj_wpAny_Assign_Attribute (thn (hv pins s σ H _ I h) fun u s1 ⟨y,H1,I1,ry,q⟩=>thn (ha pins s1 σ H1 _ I1 q) fun ov s2 ⟨x,H2,I2,rx,a,C,dx,fs,ex,ea,c,n,l,q2⟩=>?_) hs
  subst ex
  obtain rfl:ov=Value.ref a:=rx
  exact sj I2 ea c n l ry fun s3 I3=>⟨σ,_,I3,q2⟩
end
section
variable {X:Cx} {pins:List (Addr×Obj)} {σ : St} {H:Hp} {s:Shared} {A:Around} {E:Value→Shared→Prop} {Q:Value→Shared→Prop} {c:Value} {b:Bool}
inductive gF (K:PySem.W.Frag) (H:Hp):V→Value→Prop where
  | non:gF K H .non (.type "NoneType")
  | bl (x:Bool):gF K H (.bl x) (.type "bool")
  | int (i:Int):gF K H (.int i) (.type "int")
  | str (x:Str):gF K H (.str x) (.type "str")
  | flt (x:UInt64):gF K H (.flt x) (.type "float")
  | lst {a:Addr} {xs:List V} (e:H a=some (.lst xs)):gF K H (.ref a) (.type "list")
  | frz {a:Addr} {o:Obj} {xs:List V} (e:H a=some (.frz o (.lst xs))):gF K H (.ref a) (.type "list")
  | tup {a:Addr} {xs:List V} (e:H a=some (.tup xs)):gF K H (.ref a) (.type "tuple")
  | dK {a:Addr} {kvs:List (Key×V)} (e:H a=some (.dK kvs)):gF K H (.ref a) (.type "dict")
  | dT {a:Addr} {kvs:List (List Key×V)} (e:H a=some (.dT kvs)):gF K H (.ref a) (.type "dict")
  | ins {a C dx:Addr} {fs:List (Str×V)} (e:H a=some (.ins C dx fs)) (cl:Cls K C) (ha:PySem.W.findIn K (.ref C) "__class__" = some (some (.builtin "object.__class__")))
      (hn:PySem.W.specialIn K (.builtin "object.__class__") "__get__" = some (some (.builtin "getset_descriptor.__get__"))) (htk:PySem.W.takesIn K (.builtin "object.__class__")=some true)
      (hm:PySem.W.mroIn K C (.type "object")=some true):gF K H (.ref a) (.ref C)
theorem mP {x:V} {u t:Value} (I:Inv X pins σ H s) (rx:RelV x u) (ty:gF X.K H x t) (e:PySem.W.kitOne X.K t c=some b) (h:∀ tk,Q (.bool b) { s with toks:=tk }) :
    wpAny (model X.prog X.w) A (call (.builtin "isinstance") [u,c]) Q E s:=by
  cases ty with
  | non=>cases (show u=Value.none from rx);exact PySem.W.kia_one PySem.W.kitx_none I.kIn True.intro e (fun z=>nomatch z) h
  | bl y=>cases (show u=Value.bool y from rx);exact PySem.W.kia_one PySem.W.kitx_bool I.kIn True.intro e (fun z=>nomatch z) h
  | int i=>obtain ⟨t,q⟩:=(show ∃ t,u=Value.int i t from rx);cases q;exact PySem.W.kia_one PySem.W.kitx_int I.kIn True.intro e (fun z=>nomatch z) h
  | str y=>obtain ⟨t,q⟩:=(show ∃ t,u=Value.str y t from rx);cases q;exact PySem.W.kia_one PySem.W.kitx_str I.kIn True.intro e (fun z=>nomatch z) h
  | flt y=>obtain ⟨t,q⟩:=(show ∃ t,u=Value.float y t from rx);cases q;exact PySem.W.kia_one PySem.W.kitx_float I.kIn True.intro e (fun z=>nomatch z) h
  | @lst a xs ea=>
    cases (show u=Value.ref a from rx)
    obtain ⟨_,_,n,_,h1⟩:=(show bL X.prog X.w H s.heap a (.lst xs) from I.hok a _ ea)
    exact PySem.W.kia_one PySem.W.kitx_list I.kIn ⟨_,h1,rfl⟩ e (fun z=>nomatch z) h
  | @frz a ob xs ea=>
    cases (show u=Value.ref a from rx)
    obtain ⟨_,_,_,n,_,h1⟩:=(show bL X.prog X.w H s.heap a (.frz ob (.lst xs)) from I.hok a _ ea)
    exact PySem.W.kia_one PySem.W.kitx_list I.kIn ⟨_,h1,rfl⟩ e (fun z=>nomatch z) h
  | @tup a xs ea=>
    cases (show u=Value.ref a from rx)
    obtain ⟨_,_,_,p⟩:=(show bL X.prog X.w H s.heap a (.tup xs) from I.hok a _ ea)
    obtain ⟨o,h1,h2,_⟩:=p
    exact PySem.W.kia_one PySem.W.kitx_tuple I.kIn ⟨o,h1,h2⟩ e (fun z=>nomatch z) h
  | @dK a kvs ea=>
    cases (show u=Value.ref a from rx)
    obtain ⟨_,_,vs,_,p⟩:=(show bL X.prog X.w H s.heap a (.dK kvs) from I.hok a _ ea)
    obtain ⟨o,es,ep,h1,h2,_⟩:=p
    exact PySem.W.kia_one PySem.W.kitx_dict I.kIn ⟨o,h1,h2.1⟩ e (fun z=>nomatch z) h
  | @dT a kvs ea=>
    cases (show u=Value.ref a from rx)
    obtain ⟨_,_,xs,_,o,es,ep,h1,h2,_⟩:=(show bL X.prog X.w H s.heap a (.dT kvs) from I.hok a _ ea)
    exact PySem.W.kia_one PySem.W.kitx_dict I.kIn ⟨o,h1,h2.1⟩ e (fun z=>nomatch z) h
  | @ins a C dx fs ea cl ha hn htk hm=>
    cases (show u=Value.ref a from rx)
    obtain ⟨mA,O,_⟩:=iH I.hok ea
    obtain ⟨od,J,_⟩:=O.look
    exact PySem.W.kia_one (PySem.W.kitx_own (cl.get _) cl.hd ha hn htk hm) I.kIn J e (fun z=>nomatch z) h
end
structure bR (k:Nat) (A:Around):Prop where
  hd:A.handled=none
  dp:A.depth+3 * k+5 < recursionLimit
  un:A.units+16 * k+200 < cLine
theorem bR.mono {j k:Nat} {A:Around} (r:bR k A) (h:j≤k):bR j A:=⟨r.hd,by have:=r.dp;omega,by have:=r.un;omega⟩
theorem bR.deeper {k:Nat} {A:Around} (r:bR (k+1) A) (env:Env):bR k (A.deeper env):=
  ⟨r.hd,by have:=r.dp;show A.depth+1+3 * k+5 < _;omega,by have:=r.un;show A.units+3+16 * k+200 < _;omega⟩
theorem tW {A:Around} {C:Addr} {us:List Value} {kw:List (Str×Value)}:(A.under (.builtin "type.__call__" ⟨.ref C::us,kw⟩)).depth=A.depth+1:=by
  first | rfl | simp [Around.under,Code.weight,Code.isCreation,Code.isGuard,Code.isCaller,Code.frames,Code.isFrame,guardIds]
theorem tV {A:Around} {C:Addr} {us:List Value} {kw:List (Str×Value)}:(A.under (.builtin "type.__call__" ⟨.ref C::us,kw⟩)).units=A.units+1:=by
  first | rfl | simp [Around.under,Code.cUnits,Code.frames,Code.isFrame]
theorem bR.make {k:Nat} {A:Around} (r:bR (k+1) A) (C:Addr) (us:List Value) (kw:List (Str×Value)):bR k (A.under (.builtin "type.__call__" ⟨.ref C::us,kw⟩)):=
  ⟨r.hd,by have:=r.dp;rw [tW];omega,by have:=r.un;rw [tV];omega⟩
theorem bR.depth {k:Nat} {A:Around} (r:bR k A):A.depth < recursionLimit:=by have:=r.dp;omega
theorem bR.units {k:Nat} {A:Around} (r:bR k A):A.units+64 < cLine:=by have:=r.un;omega
def lG:TA:=fun _ H Q=>Q [] H
def gH (ta:TE) (tr:TA):TA:=fun σ H Q=>ta σ H fun x H1=>tr σ H1 fun xs H2=>Q (x::xs) H2
section
variable {X:Cx} {e:Expr} {es:List Expr} {te:TE} {t:TA} {pos:Pos}
theorem ah:PA X [] lG:=fun _ _ _ _ H Q I h=>Calls.spliced_nil ⟨[],H,I,.nil,h⟩
theorem aa (ha:PE X e te) (hr:PA X es t) (hs:starEach (e::es) X.env=(false,eval e X.env)::starEach es X.env:=by rfl):PA X (e::es) (gH te t):=by
  intro pos pins s σ H Q I h
  rw [hs]
  show wpAny _ _ (spliced ((false,eval e X.env)::backTo pos (starEach es X.env))) _ _ s
  refine Calls.spliced_cons (thn (ha pins s σ H _ I h) fun u s1 ⟨x,H1,I1,r1,q1⟩=>?_)
  exact thn (hr pos pins s1 σ H1 _ I1 q1) fun us s2 ⟨xs,H2,I2,r2,q2⟩=>⟨x::xs,H2,I2,.cons r1 r2,q2⟩
def wm (t:TA):TE:=fun σ H Q=>t σ H fun xs H1=>xs.length≤sizeLine∧∀ p,H1 p=none→Q (.ref p) (upd H1 p (.tup xs))
def HQ (t:TA):TE:=fun σ H Q=>t σ H fun xs H1=>xs.length≤sizeLine∧∀ p,H1 p=none→Q (.ref p) (upd H1 p (.lst xs))
theorem bx {x1} (h:PA X es t):PE X (.Tuple es x1 pos) (wm t):=by
  intro pins s σ H Q I hq
  refine wpAny_Tuple_spliced (thn (h pos pins s σ H _ I hq) fun us s1 ⟨xs,H1,I1,r,z,q⟩=>⟨by rw [← r.length];exact z,?_⟩)
  have hf:H1 s1.heap.objs.size=none:=I1.hok.fresh (Nat.le_refl _)
  refine ⟨.ref s1.heap.objs.size,upd H1 s1.heap.objs.size (.tup xs),I1.laid (t':=s1.toks) (fun b u e=>Heap.get?_push_of_some _ e) (Nat.le_refl _) ?_,rfl,q _ hf⟩
  exact ⟨z,us,r,⟨_,Heap.get?_push_size _ rfl,rfl,_,rfl⟩⟩
theorem bM (h:PA X es t):PE X (.List es pos) (HQ t):=by
  intro pins s σ H Q I hq
  refine wpAny_List_spliced (thn (h pos pins s σ H _ I hq) fun us s1 ⟨xs,H1,I1,r,z,q⟩=>⟨by rw [← r.length];exact z,?_⟩)
  have hf:H1 s1.heap.objs.size=none:=I1.hok.fresh (Nat.le_refl _)
  refine ⟨.ref s1.heap.objs.size,upd H1 s1.heap.objs.size (.lst xs),I1.laid (t':=s1.toks) (fun b u e=>Heap.get?_push_of_some _ e) (Nat.le_refl _) ?_,rfl,q _ hf⟩
  exact ⟨z,us,0,r,Heap.get?_push_size _ rfl⟩
end
abbrev Sp:=List V→Hp→VK→XK→Prop
abbrev CXT:=List Env→Hp→Shared→XK→Value→Shared→Prop
structure lT (P:Program) (w:World) (K:PySem.W.Frag) (mg:Str→Option Value) (base:Heap) (A:Around) (outer:List Env) (s:Shared) (H:Hp):Prop where
  frames:A.frames=some outer
  mod:Mod K mg base
  bs:∀ b o,base.get? b=some o→s.heap.get? b=some o∧H b=none
  bsz:base.objs.size≤s.heap.objs.size
  fV:s.heap.FunFrames base outer
  frf:∀ b∈frs outer,H b=none
  hok:HOk P w H s.heap
  bare:AllBare s.gens
def CE (outer:List Env) (P:Program) (w:World) (H:Hp) (s:Shared) (Q:VK) (u:Value) (s':Shared):Prop:=
  ∃ v H',s'.os=s.os∧AllBare s'.gens∧Un (frs outer) [] H H' s.heap s'.heap∧HOk P w H' s'.heap∧RelV v u∧Q v H'
def CR (CX:CXT) (outer:List Env) (P:Program) (w:World) (H:Hp) (s:Shared) (Q:VK) (E:XK) (r:Result) (s':Shared):Prop:=
  match r with
  | .ok (.ret u)=>CE outer P w H s Q u s'
  | .ok _=>False
  | .error e=>CX outer H s E e s'
structure eE (P:Program) (w:World) (K:PySem.W.Frag) (mg:Str→Option Value) (base:Heap) (CX:CXT) (k:Nat) (f:Addr) (fd:FuncData) (ps:List Str) (sp:Sp):Prop where
  len:∀ vs H Q E,sp vs H Q E→vs.length=ps.length
  run:∀ (A:Around) (outer:List Env) (s:Shared) (H:Hp) (args:Args) (us:List Value) (vs:List V) (Q:VK) (E:XK),bR k A→lT P w K mg base A outer s H→BindsTo s fd args (ps.zip us)→Vals vs us→sp vs H Q E →
    codeAny (model P w) A (.call (.ref f) args) (CR CX outer P w H s Q E) s
theorem eE.imp {P:Program} {w:World} {K:PySem.W.Frag} {mg:Str→Option Value} {base:Heap} {CX:CXT} {k:Nat} {f:Addr} {fd:FuncData} {ps:List Str} {sp sp':Sp} (F:eE P w K mg base CX k f fd ps sp)
    (h:∀ vs H Q E,sp' vs H Q E→sp vs H Q E):eE P w K mg base CX k f fd ps sp':=
  ⟨fun vs H Q E q=>F.len vs H Q E (h _ _ _ _ q),fun A outer s H args us vs Q E hr he hb hv hs=>F.run A outer s H args us vs Q E hr he hb hv (h _ _ _ _ hs)⟩
theorem lT.make {P:Program} {w:World} {K:PySem.W.Frag} {mg:Str→Option Value} {base:Heap} {A:Around} {outer:List Env} {s:Shared} {H:Hp} (e:lT P w K mg base A outer s H) (C:Addr) (us:List Value) (kw:List (Str×Value)) :
    lT P w K mg base (A.under (.builtin "type.__call__" ⟨.ref C::us,kw⟩)) outer s H:=⟨by first | exact e.frames | (simpa [Around.under,Code.envs,Code.isFrame,pushEnvs] using e.frames),e.mod,e.bs,e.bsz,e.fV,e.frf,e.hok,e.bare⟩
section
variable {X:Cx} {pins:List (Addr×Obj)} {σ : St} {H:Hp} {s s':Shared}
theorem Inv.A3 (I:Inv X pins σ H s):lT X.prog X.w X.K X.mg X.base X.A X.stack s H:=
  ⟨I.ok.frames,I.ok.mod,I.bs,Nat.le_trans I.ok.bsz I.sz,I.stack,I.nE,I.hok,I.bare⟩
theorem Inv.after {Q:VK} {u:Value} (I:Inv X pins σ H s) (h:CE X.stack X.prog X.w H s Q u s'):EP X pins σ Q u s':=by
  obtain ⟨v,H',os,bare,un,hok,r,q⟩:=h
  obtain ⟨hh,g,d,t,os'⟩:=s'
  obtain rfl:os'=s.os:=os
  exact ⟨v,H',I.call (h':=hh) (g':=g) (d':=d) (t':=t) (ch:=[]) un hok bare (fun b z=>absurd z (by simp)),r,q⟩
end
def uV (sp:Sp) (dvs:List V) (E:XK) (t:TA):TE:=fun σ H Q=>t σ H fun vs H1=>sp (vs++dvs) H1 Q E
def pP (C:Addr) (m:Str) (sp:Sp) (dvs:List V) (E:XK) (ta:TE) (t:TA):TE:=fun σ H Q=>ta σ H fun x H1=>∃ a dx fs,x = .ref a∧H1 a=some (.ins C dx fs)∧fs.lookup m=none ∧
  t σ H1 fun vs H2=>sp (x::(vs++dvs)) H2 Q E
def jP (C:Addr) (sp:Sp) (dvs:List V) (E:XK) (t:TA):TE:=fun σ H Q=>t σ H fun vs H1=>∀ x dx,H1 x=none→H1 dx=none→dx≠x →
  sp (.ref x::(vs++dvs)) (upd (upd H1 dx (.own x)) x (.ins C dx [])) (fun v H2=>v = .non∧Q (.ref x) H2) E
def Binds (K:PySem.W.Frag) (fd:FuncData) (ps:List Str) (ds:List Value):Prop:=
  ∀ (s:Shared) (us:List Value),K.In s.heap→(us++ds).length=ps.length→BindsTo s fd ⟨us,[]⟩ (ps.zip (us++ds))
theorem Binds.all {K:PySem.W.Frag} {fd:FuncData} {ps:List Str} (h:∀ us:List Value,us.length=ps.length→bindArgs fd ⟨us,[]⟩=pure (ps.zip us)):Binds K fd ps []:=fun s us _ hl=>by
  rw [List.append_nil] at hl ⊢
  exact .of_eq (h us hl)
def Passes (CX:CXT) (X:Cx) (E:XK):Prop:=∀ (pins:List (Addr×Obj)) (σ : St) (H:Hp) (s:Shared) (e:Value) (s':Shared),Inv X pins σ H s→CX X.stack H s E e s'→X.xe e s'
section
variable {X:Cx} {CX:CXT} {k:Nat} {f C:Addr} {fd:FuncData} {ps:List Str} {sp:Sp} {dvs:List V} {ds:List Value} {E:XK} {x m:Str} {p pos apos:Pos} {e o:Expr} {es:List Expr} {ta:TE} {t:TA}
theorem sQ {pins:List (Addr×Obj)} {σ : St} {H:Hp} {s:Shared} {Q:VK} {us:List Value} {vs:List V} (F:eE X.prog X.w X.K X.mg X.base CX k f fd ps sp) (hr:bR k X.A) (hb:Binds X.K fd ps ds) (hd:Vals dvs ds) (hx:Passes CX X E)
    (I:Inv X pins σ H s) (r:Vals vs us) (h:sp (vs++dvs) H Q E):wpAny (model X.prog X.w) X.A (call (.ref f) us) (EP X pins σ Q) X.xe s:=by
  have r2:Vals (vs++dvs) (us++ds):=r.append hd
  have hl:(us++ds).length=ps.length:=by rw [← r2.length];exact F.len _ _ _ _ h
  refine wpAny_call (codeAny_mono (F.run X.A X.stack s H ⟨us,[]⟩ (us++ds) (vs++dvs) Q E hr I.A3 (hb s us I.kIn hl) r2 h) fun r s' hq=>?_)
  cases r with
  | error e=>exact hx pins σ H s e s' I hq
  | ok fl=>
    cases fl with
    | ret u=>exact I.after hq
    | next=>exact False.elim hq
    | brk=>exact False.elim hq
    | cont=>exact False.elim hq
theorem Cm (F:eE X.prog X.w X.K X.mg X.base CX k f fd ps sp) (hr:bR k X.A) (hg:Gl X x) (hm:X.mg x=some (.ref f)) (hk:PySem.W.keepIn X.K (.ref f)=true) (hb:Binds X.K fd ps ds) (hd:Vals dvs ds) (hx:Passes CX X E)
    (ha:PA X (e::es) t) (hdb:(x == ("__debug__" : Str))=false:=by decide) (he:starEach (e::es) X.env=(false,eval e X.env)::starEach es X.env:=by rfl) (hpl:(backTo pos (starEach es X.env)).any (·.1)=false:=by rfl) :
    PE X (.Call (.Name x p) (e::es) [] pos) (uV sp dvs E t):=by
  intro pins s σ H Q I h
  refine wpAny_Call_Name_kw (cN I hg hm ?_ hdb)
  refine PySem.W.callWith_K (h₀:=X.base) I.ok.mod.kin hk (thn (ha pos pins s σ H _ I h) fun us s1 ⟨vs,H1,I1,r,q⟩=>⟨I1.kIn,?_⟩) he hpl
  exact sQ F hr hb hd hx I1 r q
theorem Cf {pl:Sem Bool} (he:PE X o ta) (c:Cls X.K C) (hm:Meth X.K C m f) (F:eE X.prog X.w X.K X.mg X.base CX k f fd ps sp) (hr:bR k X.A) (hb:Binds X.K fd ps ds) (hd:Vals dvs ds) (hx:Passes CX X E) (ha:PA X (e::es) t)
    (hst:starEach (e::es) X.env=(false,eval e X.env)::starEach es X.env:=by rfl) (hpl:(backTo pos (starEach es X.env)).any (·.1)=false:=by rfl)
    (ht:eval (.Call (.Attribute o m apos) (e::es) [] pos) X.env=(do
      let ov ← eval o X.env
      standAt apos.atName
      let (f,first) ← holding [ov] (getMethod ov m pl)
      callWith pos f first (backTo pos (starEach (e::es) X.env)) (backToKw pos (keywordEach [] X.env))):=by rfl) :
    PE X (.Call (.Attribute o m apos) (e::es) [] pos) (pP C m sp dvs E ta t):=by
  intro pins s σ H Q I h
  refine PySem.W.methodCall_KW (pl:=pl) (thn (he pins s σ H _ I h) fun u s1 ⟨x,H1,I1,rx,a,dx,fs,ex,ea,l,q⟩=>?_) ht
  subst ex
  obtain rfl:u=Value.ref a:=rx
  refine gW I1 ea c hm l ?_
  refine PySem.W.callWith_K (first:=[.ref a]) (h₀:=X.base) I.ok.mod.kin hm.kp (thn (ha pos pins s1 σ H1 _ I1 q) fun us s2 ⟨vs,H2,I2,r,q2⟩=>⟨I2.kIn,?_⟩) hst hpl
  exact sQ (us:=.ref a::us) (vs:=.ref a::vs) F hr hb hd hx I2 (.cons rfl r) q2
theorem zG {pl:Sem Bool} (he:PE X o ta) (c:Cls X.K C) (hm:Meth X.K C m f) (F:eE X.prog X.w X.K X.mg X.base CX k f fd ps sp) (hr:bR k X.A) (hb:Binds X.K fd ps ds) (hd:Vals dvs ds) (hx:Passes CX X E)
    (ht:eval (.Call (.Attribute o m apos) [] [] pos) X.env=(do
      let ov ← eval o X.env
      standAt apos.atName
      let (f,first) ← holding [ov] (getMethod ov m pl)
      callWith pos f first (backTo pos (starEach [] X.env)) (backToKw pos (keywordEach [] X.env))):=by rfl) :
    PE X (.Call (.Attribute o m apos) [] [] pos) (pP C m sp dvs E ta lG):=by
  intro pins s σ H Q I h
  refine PySem.W.methodCall_KW (pl:=pl) (thn (he pins s σ H _ I h) fun u s1 ⟨x,H1,I1,rx,a,dx,fs,ex,ea,l,q⟩=>?_) ht
  subst ex
  obtain rfl:u=Value.ref a:=rx
  refine gW I1 ea c hm l ?_
  exact PySem.W.callWith_K0 (first:=[.ref a]) I1.kIn hm.kp (sQ (us:=[.ref a]) (vs:=[.ref a]) F hr hb hd hx I1 (.cons rfl .nil) q)
structure Mk (K:PySem.W.Frag) (C f:Addr):Prop where
  makes:PySem.W.makesIn K C=true
  init:PySem.W.findIn K (.ref C) "__init__" = some (some (.ref f))
  fn:PySem.W.isFn K (.ref f)=true
  kp:PySem.W.keepIn K (.ref C)=true
theorem qh {pins:List (Addr×Obj)} {σ : St} {H:Hp} {s:Shared} {Q:VK} {us:List Value} {vs:List V} (M:Mk X.K C f) (F:eE X.prog X.w X.K X.mg X.base CX k f fd ps sp) (hr:bR (k+1) X.A) (hb:Binds X.K fd ps ds) (hd:Vals dvs ds)
    (hx:Passes CX X E) (I:Inv X pins σ H s) (r:Vals vs us)
    (h:∀ x dx,H x=none→H dx=none→dx≠x→sp (.ref x::(vs++dvs)) (upd (upd H dx (.own x)) x (.ins C dx [])) (fun v H2=>v = .non∧Q (.ref x) H2) E) :
    wpAny (model X.prog X.w) X.A (call (.ref C) us) (EP X pins σ Q) X.xe s:=by
  have hq:=h (s.heap.objs.size+1) s.heap.objs.size (I.hok.fresh (Nat.le_succ _)) (I.hok.fresh (Nat.le_refl _)) (Nat.ne_of_lt (Nat.lt_succ_self _))
  have I2:=Inv.made (C:=C) I
  have r2:Vals (V.ref (s.heap.objs.size+1)::(vs++dvs)) (Value.ref (s.heap.objs.size+1)::(us++ds)):=.cons rfl (r.append hd)
  have hl:(Value.ref (s.heap.objs.size+1)::us++ds).length=ps.length:=by
    have e:=r2.length
    rw [F.len _ _ _ _ hq] at e
    exact e.symm
  refine wpAny_call (Ab (f:=f) I.kIn M.makes M.init (beq_iff_eq.mp M.fn) (codeAny_mono (F.run _ X.stack _ _ ⟨Value.ref (s.heap.objs.size+1)::us,[]⟩ (Value.ref (s.heap.objs.size+1)::(us++ds)) _ _ E (hr.make C us [])
    (I2.A3.make C us []) (hb _ (Value.ref (s.heap.objs.size+1)::us) I2.kIn hl) r2 hq) fun r s' hq'=>?_))
  cases r with
  | error e=>exact hx pins σ _ _ e s' I2 hq'
  | ok fl=>
    cases fl with
    | ret u=>
      obtain ⟨v,H',I3,rv,ev,q3⟩:=I2.after hq'
      subst ev
      exact ⟨rv,⟨V.ref (s.heap.objs.size+1),H',I3,rfl,q3⟩⟩
    | next=>exact False.elim hq'
    | brk=>exact False.elim hq'
    | cont=>exact False.elim hq'
theorem vp (M:Mk X.K C f) (F:eE X.prog X.w X.K X.mg X.base CX k f fd ps sp) (hr:bR (k+1) X.A) (hg:Gl X x) (hm:X.mg x=some (.ref C)) (hb:Binds X.K fd ps ds) (hd:Vals dvs ds) (hx:Passes CX X E)
    (ha:PA X (e::es) t) (hdb:(x == ("__debug__" : Str))=false:=by decide) (he:starEach (e::es) X.env=(false,eval e X.env)::starEach es X.env:=by rfl) (hpl:(backTo pos (starEach es X.env)).any (·.1)=false:=by rfl) :
    PE X (.Call (.Name x p) (e::es) [] pos) (jP C sp dvs E t):=by
  intro pins s σ H Q I h
  refine wpAny_Call_Name_kw (cN I hg hm ?_ hdb)
  refine PySem.W.callWith_K (h₀:=X.base) I.ok.mod.kin M.kp (thn (ha pos pins s σ H _ I h) fun us s1 ⟨vs,H1,I1,r,q⟩=>⟨I1.kIn,?_⟩) he hpl
  exact qh M F hr hb hd hx I1 r q
theorem zH (M:Mk X.K C f) (F:eE X.prog X.w X.K X.mg X.base CX k f fd ps sp) (hr:bR (k+1) X.A) (hg:Gl X x) (hm:X.mg x=some (.ref C)) (hb:Binds X.K fd ps ds) (hd:Vals dvs ds) (hx:Passes CX X E)
    (hdb:(x == ("__debug__" : Str))=false:=by decide):PE X (.Call (.Name x p) [] [] pos) (jP C sp dvs E lG):=by
  intro pins s σ H Q I h
  refine wpAny_Call_Name_kw (cN I hg hm ?_ hdb)
  exact PySem.W.callWith_K0 I.kIn M.kp (qh (us:=[]) M F hr hb hd hx I .nil h)
end
section
variable {X:Cx} {CX:CXT} {k:Nat} {f C:Addr} {fd:FuncData} {ps ks:List Str} {sp:Sp} {E:XK} {x m:Str} {p pos apos kpos:Pos} {e o:Expr} {es:List Expr} {kws:List Keyword} {te ta:TE} {t tk:TA} {nm:Option Str}
structure Kv (K:PySem.W.Frag) (fd:FuncData) (ps ks:List Str) (g:List Value→List Value→List Value) (gV:List V→List V→List V):Prop where
  to:∀ (s:Shared) (us ws:List Value),K.In s.heap→(g us ws).length=ps.length→BindsTo s fd ⟨us,ks.zip ws⟩ (ps.zip (g us ws))
  rel:∀ {vs:List V} {us:List Value} {zs:List V} {ws:List Value},Vals vs us→Vals zs ws→Vals (gV vs zs) (g us ws)
variable {g:List Value→List Value→List Value} {gV:List V→List V→List V}
end
structure aq (N P:List Str) (sc:Scope):Prop where
  kind:sc.kind = .function
  co:sc.isCoroutine=false
  gen:sc.isGenerator=false
  nd:N.Nodup
  pre:N.take P.length=P
  par:∀ x∈P,sc.names.lookup x=some .local∨sc.names.lookup x=some .cell
  nofree:∀ y∈sc.names,y.2≠.free
theorem m6 {kindOf:Str→Option NameKind} {x:Str}:∀ {binds:List (Str×Value)} {m:Str→Option Value},(∀ v,(x,v)∉binds)→bindL kindOf binds m x=m x
  | [],_,_=>rfl
  | (n,v)::r,m,h=>by
    unfold bindL
    rw [m6 fun w hw=>h w (List.mem_cons_of_mem _ hw)]
    split
    · have:x≠n:=by rintro rfl;exact h v List.mem_cons_self
      simp [this]
    · rfl
theorem m8 {kindOf:Str→Option NameKind} {x:Str}:∀ {binds:List (Str×Value)} {m:Str→Option Value},(∀ v,(x,v)∉binds)→bindC kindOf binds m x=m x
  | [],_,_=>rfl
  | (n,v)::r,m,h=>by
    unfold bindC
    rw [m8 fun w hw=>h w (List.mem_cons_of_mem _ hw)]
    split
    · rfl
    · have:x≠n:=by rintro rfl;exact h v List.mem_cons_self
      simp [this]
theorem m7 {kindOf:Str→Option NameKind} {x:Str} {v:Value}:∀ {P:List Str} {vs:List Value} {i:Nat} {m:Str→Option Value},P.Nodup→P[i]?=some x→vs[i]?=some v→kindOf x=some .local →
    bindL kindOf (P.zip vs) m x=some v
  | [],_,_,_,_,h,_,_=>by simp at h
  | _::_,[],_,_,_,_,h,_=>by simp at h
  | p::P,w::vs,0,m,nd,h1,h2,hk=>by
    simp at h1 h2;subst h1;subst h2
    show bindL kindOf ((p,w)::P.zip vs) m p=_
    unfold bindL
    rw [m6 fun v hv=>(List.nodup_cons.mp nd).1 (List.of_mem_zip hv).1,if_pos hk]
    simp
  | p::P,w::vs,i+1,m,nd,h1,h2,hk=>by
    show bindL kindOf ((p,w)::P.zip vs) m x=_
    unfold bindL
    exact m7 (i:=i) (List.nodup_cons.mp nd).2 (by simpa using h1) (by simpa using h2) hk
theorem m9 {kindOf:Str→Option NameKind} {x:Str} {v:Value}:∀ {P:List Str} {vs:List Value} {i:Nat} {m:Str→Option Value},P.Nodup→P[i]?=some x→vs[i]?=some v→kindOf x≠some .local →
    bindC kindOf (P.zip vs) m x=some v
  | [],_,_,_,_,h,_,_=>by simp at h
  | _::_,[],_,_,_,_,h,_=>by simp at h
  | p::P,w::vs,0,m,nd,h1,h2,hk=>by
    simp at h1 h2;subst h1;subst h2
    show bindC kindOf ((p,w)::P.zip vs) m p=_
    unfold bindC
    rw [m8 fun v hv=>(List.nodup_cons.mp nd).1 (List.of_mem_zip hv).1,if_neg hk]
    simp
  | p::P,w::vs,i+1,m,nd,h1,h2,hk=>by
    show bindC kindOf ((p,w)::P.zip vs) m x=_
    unfold bindC
    exact m9 (i:=i) (List.nodup_cons.mp nd).2 (by simpa using h1) (by simpa using h2) hk
def start (N:List Str) (vs:List V):St:=vs.map some++List.replicate (N.length - vs.length) none
def aZ (CX:CXT) (P:Program) (w:World) (K:PySem.W.Frag) (mg:Str→Option Value) (base:Heap) (N:List Str) (qual:Str) (scope:Scope) (f:Addr) (cd:Value) (A:Around) (outer:List Env) (s:Shared) (H:Hp) (E:XK):Cx where
  prog:=P
  w:=w
  K:=K
  mg:=mg
  base:=base
  A:=A.deeper (envOfC qual scope s.heap.objs.size f cd)
  N:=N
  s₀:=s
  H₀:=H
  env:=envOfC qual scope s.heap.objs.size f cd
  outer:=outer
  stack:=envOfC qual scope s.heap.objs.size f cd::outer
  ex:=[]
  calm:=true
  fn:=fun _=>true
  pn:=[]
  xe:=fun e s'=>wpAny (model P w) (A.deeper (envOfC qual scope s.heap.objs.size f cd)) (leaving (envOfC qual scope s.heap.objs.size f cd) e) (fun _ s''=>CX outer H s E e s'') (fun e' s''=>CX outer H s E e' s'') s'
theorem rg {sc:Scope} {n:Nat} {x:Str} (h:sc.names.lookup x=some .cell):∃ c,(cellsFrom n sc.names []).lookup x=some c:=by
  have q:=PySem.W.cellsFrom_some sc.names n [] (.inl h)
  exact Option.isSome_iff_exists.mp q
theorem mR {CX:CXT} {P:Program} {w:World} {K:PySem.W.Frag} {mg:Str→Option Value} {base:Heap} {N ps:List Str} {qual:Str} {scope:Scope} {f:Addr} {cd:Value} {A:Around} {outer:List Env} {s s1:Shared} {H:Hp} {E:XK} {us:List Value} {vs:List V}
    (S:aq N ps scope) (hd:A.handled=none) (e0:lT P w K mg base A outer s H) (hl:vs.length=ps.length) (r:Vals vs us)
    (x:InCallC s s.heap.objs.size (bindL (envOfC qual scope s.heap.objs.size f cd).kindOf (ps.zip us) fun _=>none) (cellsFrom (s.heap.objs.size+1) scope.names []) (bindC (envOfC qual scope s.heap.objs.size f cd).kindOf (ps.zip us) fun _=>none) s1) :
    Inv (aZ CX P w K mg base N qual scope f cd A outer s H E) [] (start N vs) H s1:=by
  have hpl:ps.length≤N.length:=by have:=congrArg List.length S.pre;rw [List.length_take] at this;omega
  obtain ⟨h1,tk,rfl,hk⟩:=x.done
  have noA:∀ b:Addr,b∉(aZ CX P w K mg base N qual scope f cd A outer s H E).ex:=fun b z=>absurd (show b∈([]:List Addr) from z) (by simp)
  refine ⟨⟨e0.mod,S.kind,rfl,rfl,Nat.le_refl _,fun y z c h1 h2=>?_,fun y hy=>?_,fun y c _ h=>?_,fun _=>hd,Around.frames_deeper e0.frames,.inr ⟨rfl,rfl⟩,fun b z=>absurd z (noA b),e0.bs,e0.bsz,fun b _ _=>noA b,fun b z=>absurd z (noA b),e0.fV,e0.frf⟩,
    rfl,e0.bare,Un.kept hk,⟨_,x.toInCall.ns,fun i y v h1 h2 h3=>?_⟩,fun y c h=>⟨_,x.cell y c h⟩,e0.hok.fresh (Nat.le_refl _),fun y c h=>?_,fun p hp=>absurd (show p∈([]:List (Addr×Obj)) from hp) (by simp),e0.hok.kept hk,?_⟩
  · exact name_of_addr x.apart (PySem.mem_of_lookup h1) (PySem.mem_of_lookup h2)
  · have hy:scope.names.lookup y=some .cell∨scope.names.lookup y=some .free:=hy
    rcases hy with hy | hy
    · exact rg hy
    · exact absurd rfl (S.nofree _ (PySem.mem_of_lookup hy))
  · exact Nat.le_of_lt (x.above y c (PySem.mem_of_lookup h))
  · have hi:i < vs.length:=by
      unfold start at h2
      by_cases hi:i < vs.length
      · exact hi
      · rw [List.getElem?_append_right (by simpa using hi)] at h2
        rw [List.getElem?_replicate] at h2
        split at h2 <;> cases h2
    have ha:vs[i]?=some v:=by
      unfold start at h2
      rw [List.getElem?_append_left (by simpa using hi),List.getElem?_map] at h2
      cases e:vs[i]? with
      | none=>rw [e] at h2;cases h2
      | some a=>rw [e] at h2;cases h2;rfl
    obtain ⟨u,hu,rv⟩:=r.get ha
    have hp:ps[i]?=some y:=by
      rw [← S.pre,List.getElem?_take_of_lt (by omega)];exact h1
    have ndP:ps.Nodup:=by rw [← S.pre];exact S.nd.sublist (List.take_sublist _ _)
    refine ⟨u,rv,?_⟩
    rcases S.par y (List.mem_of_getElem? hp) with k | k
    · exact .inl ⟨k,m7 ndP hp hu k⟩
    · obtain ⟨c,e⟩:=rg (n:=s.heap.objs.size+1) k
      refine .inr ⟨.inl k,c,e,?_⟩
      have q:=x.cell y c e
      rw [m9 ndP hp hu (by show scope.names.lookup y≠_;rw [k];decide)] at q
      exact q
  · exact e0.hok.fresh (Nat.le_of_lt (x.above y c (PySem.mem_of_lookup h)))
  · unfold start
    show _=N.length
    rw [List.length_append,List.length_map,List.length_replicate]
    omega
theorem qV {CX:CXT} {P:Program} {w:World} {K:PySem.W.Frag} {mg:Str→Option Value} {base:Heap} {k:Nat} {f:Addr} {name qual:Str} {params:Arguments} {body:List Stmt} {scope:Scope} {dV kV doc pm cdv ct oc:Value} {an od:Option Addr}
    {osl:Array (Option Value)} {N ps:List Str} {sp:Sp} (lk:K.lookup f=some ⟨oc,od,.func (PySem.W.fnOf name qual params body scope dV kV doc pm an cdv ct),osl⟩) (hcd:PySem.W.codeIn K cdv qual=true) (S:aq N ps scope)
    (len:∀ vs H Q E,sp vs H Q E→vs.length=ps.length)
    (hbody:∀ (A:Around) (outer:List Env) (s:Shared) (H:Hp) (vs:List V) (Q:VK) (E:XK),bR k (A.deeper (envOfC qual scope s.heap.objs.size f cdv))→sp vs H Q E →
      ∃ t,PSs (aZ CX P w K mg base N qual scope f cdv A outer s H E) body t∧t { nx:=fun _ H'=>Q .non H',rt:=Q } (start N vs) H) :
    eE P w K mg base CX (k+1) f (PySem.W.fnOf name qual params body scope dV kV doc pm an cdv ct) ps sp:=by
  refine ⟨len,fun A outer s H args us vs Q E hr e0 hb r hsp=>?_⟩
  have hl:=len _ _ _ _ hsp
  have KX:K.In s.heap:=e0.mod.kin.keeps fun b o e=>(e0.bs b o e).1
  have lim:s.heap.NoLimit:=e0.mod.nolimit.keeps fun b o e=>(e0.bs b o e).1
  have hkind:∀ y∈ps.zip us,scope.names.lookup y.1=some .local∨(scope.names.lookup y.1=some .cell∧((cellsFrom (s.heap.objs.size+1) scope.names []).lookup y.1).isSome=true):=fun ⟨n,v⟩ hy=>by
    rcases S.par n (List.of_mem_zip hy).1 with q | q
    · exact .inl q
    · exact .inr ⟨q,PySem.W.cellsFrom_some _ _ _ (.inl q)⟩
  refine codeAny_call_function hr.depth (KX _ _ lk) rfl S.co S.gen rfl (PySem.W.codeRec_of KX hcd) (hb _ _ _ _ ?_)
  refine wpAny_newFunctionEnv_cells S.kind hkind fun env he s1 x=>?_
  subst he
  refine ⟨lim.keeps x.toInCall.keep,codeAny_func ?_⟩
  obtain ⟨t,ht,hq⟩:=hbody A outer s H vs Q E (hr.deeper _) hsp
  have I:Inv (aZ CX P w K mg base N qual scope f cdv A outer s H E) [] (start N vs) H s1:=mR S hr.hd e0 hl r x
  refine wpAny_mono (ht [] s1 (start N vs) H _ I hq) (fun fl s' hs=>?_) fun e s' hs=>hs
  have fin:∀ {σ':St} {H':Hp} {v:V} {u:Value},Inv (aZ CX P w K mg base N qual scope f cdv A outer s H E) [] σ' H' s'→RelV v u→Q v H'→CE outer P w H s Q u s':=
    fun {σ' H' v u} J rv q=>⟨v,H',J.os,J.bare,J.base,J.hok,rv,q⟩
  cases fl with
  | ret u=>
    obtain ⟨v,σ',H',J,rv,q⟩:=hs
    exact fin J rv q
  | next=>
    obtain ⟨σ',H',J,q⟩:=hs
    exact fin (v:=V.non) (u:=Value.none) J rfl q
  | brk=>
    obtain ⟨_,_,_,q⟩:=hs
    exact False.elim q
  | cont=>
    obtain ⟨_,_,_,q⟩:=hs
    exact False.elim q
section
variable {X:Cx} {x:Str} {p pos:Pos} {e:Expr} {es:List Expr} {t:TA} {id T:String} {r:List V→Hp→VK→Prop}
def tCB (r:List V→Hp→VK→Prop) (t:TA):TE:=fun σ H Q=>t σ H fun vs H1=>r vs H1 Q
theorem aX (hc:b5 X (.builtin id) r) (hg:Gl X x) (hm:X.mg x=none) (hv:bootBuiltins x=some (.builtin id)) (ha:PA X (e::es) t) (hn:x ≠ "__name__" := by decide) (hdb:(x == ("__debug__" : Str))=false:=by decide)
    (he:starEach (e::es) X.env=(false,eval e X.env)::starEach es X.env:=by rfl) (hpl:(backTo pos (starEach es X.env)).any (·.1)=false:=by rfl):PE X (.Call (.Name x p) (e::es) [] pos) (tCB r t):=by
  intro pins s σ H Q I h
  refine wpAny_Call_Name_kw (fT I hg hm hv ?_ hn hdb)
  exact PyProof.Rows.callWith_builtin1 (thn (ha pos pins s σ H _ I h) fun us s1 ⟨vs,H1,I1,r1,q1⟩=>hc pins s1 σ H1 vs us Q I1 r1 q1) he hpl
theorem cC (hc:b5 X (.type T) r) (hg:Gl X x) (hm:X.mg x=none) (hv:bootBuiltins x=some (.type T)) (ha:PA X (e::es) t) (hn:x ≠ "__name__" := by decide) (hdb:(x == ("__debug__" : Str))=false:=by decide)
    (he:starEach (e::es) X.env=(false,eval e X.env)::starEach es X.env:=by rfl) (hpl:(backTo pos (starEach es X.env)).any (·.1)=false:=by rfl):PE X (.Call (.Name x p) (e::es) [] pos) (tCB r t):=by
  intro pins s σ H Q I h
  refine wpAny_Call_Name_kw (fT I hg hm hv ?_ hn hdb)
  exact PyProof.Rows.callWith_type1 (thn (ha pos pins s σ H _ I h) fun us s1 ⟨vs,H1,I1,r1,q1⟩=>hc pins s1 σ H1 vs us Q I1 r1 q1) he hpl
end
end L2
namespace HT
open PySem PyProof.Rows
def lexLt:List Int→List Int→Bool
  | [],[]=>false
  | [],_::_=>true
  | _::_,[]=>false
  | x::xs,y::ys=>if x=y then lexLt xs ys else decide (x < y)
theorem gS (x y:Int) (xs ys:List Int):lexLt (x::xs) (y::ys)=if x=y then lexLt xs ys else decide (x < y):=rfl
theorem lN:lexLt [] []=false:=rfl
theorem kC (y:Int) (ys:List Int):lexLt [] (y::ys)=true:=rfl
theorem kD (x:Int) (xs:List Int):lexLt (x::xs) []=false:=rfl
theorem A2 (A:Around) (s:Shared) (a:Int) (t:Tok) (c:Int) (u:Tok):∃ e,SeqAt.EqAt A s (.int a t) (.int c u) e∧(e=true↔a=c):=
  ⟨(a == c),SeqAt.EqAt.int_int a t c u,by simp⟩
section
variable {prog:Program} {w:World} {A:Around} {E:Value→Shared→Prop} {s:Shared}
def sIx (n d:Nat):Option Int→Nat
  | none=>d
  | some v=>if v < 0 then (v+(n:Int)).toNat else min v.toNat n
theorem qg (n d:Nat):sIx n d none=d:=rfl
theorem vg (n d k:Nat):sIx n d (some (k:Int))=min k n:=by
  show (if (k:Int) < 0 then ((k:Int)+(n:Int)).toNat else min (k:Int).toNat n)=min k n
  rw [if_neg (by omega),Int.toNat_natCast]
end
end HT
namespace L2
open PySem PySem.Spec PyProof.Rows
abbrev TO:=St→Hp→(Option Int→Hp→Prop)→Prop
def PO (X:Cx) (e:Option Expr) (t:TO):Prop:=
  ∀ (pins:List (Addr×Obj)) (s:Shared) (σ : St) (H:Hp) (Q:Option Int→Hp→Prop),Inv X pins σ H s→t σ H Q →
    wpAny (model X.prog X.w) X.A (evalPart e X.env) (fun u s'=>∃ o H',Inv X pins σ H' s'∧IsPart u o∧Q o H') X.xe s
def uS:TO:=fun _ H Q=>Q none H
def Eb (t:TE):TO:=fun σ H Q=>t σ H fun x H1=>∃ i,x = .int i∧Q (some i) H1
theorem intsAre_of {ns:List Int}:∀ {us:List Value},Vals (ns.map V.int) us→IntsAre us ns:=by
  induction ns with
  | nil=>intro us r;rw [List.map_nil] at r;cases r;exact .nil
  | cons n ns ih=>
    intro us r
    rw [List.map_cons] at r
    cases r with
    | cons r1 r2=>
      obtain ⟨t,e⟩:=r1
      subst e
      exact .cons n t (ih r2)
section
variable {X:Cx} {e:Expr} {te:TE} {lo hi:Option Expr} {tl th:TO} {pos p2:Pos}
theorem Ce:PO X none uS:=by
  intro pins s σ H Q I h
  rw [evalPart_none]
  exact wpAny_pure ⟨none,H,I,.none,h⟩
theorem Cd (h:PE X e te):PO X (some e) (Eb te):=by
  intro pins s σ H Q I hw
  rw [evalPart_some]
  refine thn (h pins s σ H _ I hw) fun u s1 ⟨x,H1,I1,r1,q1⟩=>?_
  obtain ⟨i,rfl,q⟩:=q1
  obtain ⟨t,rfl⟩:=r1
  exact ⟨some i,H1,I1,.int i t,q⟩
def SlR (X:Cx) (r:V→Option Int→Option Int→Hp→VK→Prop):Prop:=
  ∀ (pins:List (Addr×Obj)) (s:Shared) (σ : St) (H:Hp) (x:V) (v vl vu:Value) (lo hi:Option Int) (sl:Addr) (Q:VK),Inv X pins σ H s→RelV x v→s.heap.IsSliceOf sl vl vu .none→IsPart vl lo→IsPart vu hi→r x lo hi H Q →
    ∃ T id,typeLookup (.type T) "__getitem__" = pure (some (.builtin id))∧s.TypeIs v T∧wpAny (model X.prog X.w) X.A (getItem v (.ref sl)) (EP X pins σ Q) X.xe s
def tSl (r:V→Option Int→Option Int→Hp→VK→Prop) (te:TE) (tl th:TO):TE:=fun σ H Q=>te σ H fun x H1=>tl σ H1 fun l H2=>th σ H2 fun u H3=>r x l u H3 Q
theorem zD {r:V→Option Int→Option Int→Hp→VK→Prop} (hr:SlR X r) (he:PE X e te) (hl:PO X lo tl) (hu:PO X hi th):PE X (.Subscript e (.Slice lo hi none p2) pos) (tSl r te tl th):=by
  intro pins s σ H Q I h
  refine Subscript_ (thn (he pins s σ H _ I h) fun v s1 ⟨x,H1,I1,r1,q1⟩=>?_)
  refine wpAny_Slice (thn (hl pins s1 σ H1 _ I1 q1) fun vl s2 ⟨l,H2,I2,pl,q2⟩=>thn (hu pins s2 σ H2 _ I2 q2) fun vu s3 ⟨u,H3,I3,pu,q3⟩=>?_)
  rw [evalPart_none]
  refine wpAny_pure ?_
  have I4:Inv X pins σ H3 { s3 with heap:=s3.heap.push { cls:=.type "slice",data:=.fields #[vl,vu,.none] } }:=I3.kept (t':=s3.toks) fun b ob q=>Heap.get?_push_of_some _ q
  obtain ⟨T,id,hT,ht,hg⟩:=hr pins { s3 with heap:=s3.heap.push { cls:=.type "slice",data:=.fields #[vl,vu,.none] } } σ H3 x v vl vu l u s3.heap.objs.size Q I4 r1 (Heap.IsSliceOf.new ..) pl pu q3
  show wpAny (model X.prog X.w) X.A (subscriptTail e (.Slice lo hi none p2) v (.ref s3.heap.objs.size)) (EP X pins σ Q) X.xe { s3 with heap:=s3.heap.push { cls:=.type "slice",data:=.fields #[vl,vu,.none] } }
  exact tail_any (ops:=[.ref s3.heap.objs.size,v]) ht hT hg (by with_unfolding_all rfl)
def qZ (xs:List V) (lo hi:Option Int):List V:=(xs.drop (HT.sIx xs.length 0 lo)).take (HT.sIx xs.length xs.length hi - HT.sIx xs.length 0 lo)
theorem qY (xs:List V) (lo hi:Option Int):(qZ xs lo hi).length≤xs.length:=by
  unfold qZ
  rw [List.length_take,List.length_drop]
  omega
end
def ixN (n:Nat) (i:Int):Option Nat:=if 0≤i then (if i < n then some i.toNat else none) else if -(n:Int)≤i then some (i+n).toNat else none
def atI {α : Type} (xs:List α) (i:Int):Option α:=(ixN xs.length i).bind fun j=>xs[j]?
theorem vG {n:Nat} {i:Int} {j:Nat} (h:ixN n i=some j):seqIndex? i n=some j∧j < n∧-(n:Int)≤i∧i < n:=by
  unfold ixN at h
  by_cases h0 : 0≤i
  · rw [if_pos h0] at h
    by_cases h1:i < n
    · rw [if_pos h1] at h
      have e:i.toNat=j:=Option.some.inj h
      exact ⟨by rw [seqIndex_of h0 h1,e],by omega,by omega,h1⟩
    · rw [if_neg h1] at h;cases h
  · rw [if_neg h0] at h
    by_cases h1 : -(n:Int)≤i
    · rw [if_pos h1] at h
      have e:(i+n).toNat=j:=Option.some.inj h
      exact ⟨by rw [seqIndex_neg (by omega) h1,e],by omega,h1,by omega⟩
    · rw [if_neg h1] at h;cases h
theorem oW {α : Type} {xs:List α} {i:Int} {v : α} (h:atI xs i=some v):∃ j,seqIndex? i xs.length=some j∧xs[j]?=some v∧j < xs.length∧-(xs.length:Int)≤i∧i < xs.length:=by
  unfold atI at h
  cases e:ixN xs.length i with
  | none=>rw [e] at h;cases h
  | some j=>
    rw [e] at h
    obtain ⟨h1,h2,h3,h4⟩:=vG e
    exact ⟨j,h1,h,h2,h3,h4⟩
theorem cj {α : Type} {xs:List α} {j:Nat} {v : α} (h:xs[j]?=some v):atI xs (j:Int)=some v:=by
  have hj:j < xs.length:=(List.getElem?_eq_some_iff.mp h).1
  have e:ixN xs.length (j:Int)=some j:=by
    unfold ixN
    rw [if_pos (by omega),if_pos (by omega)];simp
  unfold atI;rw [e];exact h
def D4 (b:Expr):Prop:=∀ o i,subscripted b false o i=operate [o,i] (getItem o i)
def IxR (X:Cx) (r:R2):Prop:=
  ∀ (value slice:Expr) (pins:List (Addr×Obj)) (s:Shared) (σ : St) (H:Hp) (x y:V) (v u:Value) (Q:VK),Inv X pins σ H s→RelV x v→RelV y u→r x y H Q →
    subscripted slice false v u=operate [v,u] (getItem v u)→wpAny (model X.prog X.w) X.A (subscriptTail value slice v u) (EP X pins σ Q) X.xe s
def MtR (X:Cx) (id:String) (r:V→List V→Hp→VK→Prop):Prop:=
  ∀ (pins:List (Addr×Obj)) (s:Shared) (σ : St) (H:Hp) (x:V) (xs:List V) (v:Value) (us:List Value) (Q:VK),Inv X pins σ H s→RelV x v→Vals xs us→r x xs H Q →
    wpAny (model X.prog X.w) X.A (call (.builtin id) (v::us)) (EP X pins σ Q) X.xe s
section
variable {X:Cx} {a b:Expr} {ta tb:TE} {pos:Pos}
theorem az {r:R2} (hr:IxR X r) (ha:PE X a ta) (hb:PE X b tb) (hs:D4 b):PE X (.Subscript a b pos) (tOp r ta tb):=by
  intro pins s σ H Q I h
  exact Subscript_ (G5 ha hb I h fun v u s2 x y H2 I2 rx ry q=>hr a b pins s2 σ H2 x y v u Q I2 rx ry q (hs _ _))
def zx (K:PySem.W.Frag):R2:=fun x y H Q=>∃ p xs i v,x = .ref p∧y = .int i∧SqL K H p xs∧atI xs i=some v∧Q v H
def B8 (K:PySem.W.Frag):R2:=fun x y H Q=>∃ p xs i v,x = .ref p∧y = .int i∧SqT K H p xs∧atI xs i=some v∧Q v H
def Im:R2:=fun x y H Q=>∃ z i c,x = .str z∧y = .int i∧z.length≤sizeLine∧atI z.cps.toList i=some c∧Q (.str ⟨#[c]⟩) H
theorem bA:IxR X (zx X.K):=by
  intro value slice pins s σ H x y v u Q I rx ry h hs
  obtain ⟨p,xs,i,z,rfl,rfl,hq,he,q⟩:=h
  cases rx
  obtain ⟨t,rfl⟩:=ry
  obtain ⟨its,r,pl,hz⟩:=I.list hq
  obtain ⟨j,h1,h2,h3,h4,h5⟩:=oW he
  obtain ⟨w,ew,rw'⟩:=r.get h2
  have hl:=r.length
  have hn:=kB
  have fin:EP X pins σ Q w s:=⟨z,H,I,rw',q⟩
  by_cases h0 : 0≤i
  · have hj:i.toNat=j:=by
      rw [seqIndex_of h0 h5] at h1
      exact Option.some.inj h1
    exact item_listR pl.isList h0 (by omega) (by rw [hj];simpa using ew) fin hs
  · have hj:(i+(its.toArray.size:Int)).toNat=j:=by
      rw [seqIndex_neg (by omega) h4] at h1
      rw [List.size_toArray,← hl]
      exact Option.some.inj h1
    exact subscriptTail_builtinR (x:=w) pl.isList.typeIs slot_list_getitem.lookup
      (wpAny_getItem_list_neg (Q:=fun r s'=>r=w∧EP X pins σ Q r s') pl.isList (by omega) (by rw [List.size_toArray] <;> omega) (by omega) (by rw [hj];simpa using ew) ⟨rfl,fin⟩) hs
theorem aF:IxR X (B8 X.K):=by
  intro value slice pins s σ H x y v u Q I rx ry h hs
  obtain ⟨p,xs,i,z,rfl,rfl,hq,he,q⟩:=h
  cases rx
  obtain ⟨t,rfl⟩:=ry
  obtain ⟨its,r,pl,hz⟩:=I.tuple hq
  obtain ⟨j,h1,h2,h3,h4,h5⟩:=oW he
  obtain ⟨w,ew,rw'⟩:=r.get h2
  have hl:=r.length
  have hn:=kB
  have fin:EP X pins σ Q w s:=⟨z,H,I,rw',q⟩
  exact subscriptTail_builtinR (x:=w) pl.typeIs slot_tuple_getitem.lookup
    (getItem_tuple (j:=j) (Q:=fun r s'=>r=w∧EP X pins σ Q r s') pl (by omega) (by omega) (by rw [List.size_toArray,← hl];exact h1) (by simpa using ew) ⟨rfl,fin⟩) hs
theorem Aj:IxR X Im:=by
  intro value slice pins s σ H x y v u Q I rx ry h hs
  obtain ⟨z,i,c,rfl,rfl,hz,he,q⟩:=h
  obtain ⟨t,rfl⟩:=rx
  obtain ⟨t',rfl⟩:=ry
  obtain ⟨j,h1,h2,h3,h4,h5⟩:=oW he
  have hl:z.cps.toList.length=z.length:=by simp [Str.length]
  rw [hl] at h1 h4 h5
  have hn:=kB
  exact tail_any (typeIs_str s z t) slot_str_getitem.lookup (getItem_str (c:=c) (by
    have e1:decide (i < -(2 ^ 63:Int))=false:=decide_eq_false (by omega)
    have e2:decide (i≥2 ^ 63)=false:=decide_eq_false (by omega)
    rw [e1,e2,Bool.or_false]) (by rw [h1];simpa using h2) ⟨.str ⟨#[c]⟩,H,I.tok _,⟨_,rfl⟩,q⟩) hs
theorem tU (its:List Value) (n j:Nat) (u:Value):Obj.mapSeq (·.setIfInBounds j u) { cls:=.type "list",data:=.seq its.toArray n }={ cls:=.type "list",data:=.seq (its.set j u).toArray n }:=by
  simp [Obj.mapSeq]
theorem Inv.lst {pins:List (Addr×Obj)} {σ : St} {H:Hp} {s:Shared} {p:Addr} {xs:List V} (I:Inv X pins σ H s) (h:H p=some (.lst xs)) :
    ∃ (its:List Value) (n:Nat),Vals xs its∧s.heap.get? p=some { cls:=.type "list",data:=.seq its.toArray n }∧xs.length≤sizeLine:=by
  obtain ⟨z,its,n,r,e⟩:=I.hok p _ h
  exact ⟨its,n,r,e,z⟩
theorem Inv.FG {pins:List (Addr×Obj)} {σ : St} {H:Hp} {s:Shared} {p:Addr} {xs ys:List V} {its its':List Value} {n n':Nat} {f:Obj→Obj} (I:Inv X pins σ H s) (h:H p=some (.lst xs))
    (ho:s.heap.get? p=some { cls:=.type "list",data:=.seq its.toArray n }) (hf:f { cls:=.type "list",data:=.seq its.toArray n }={ cls:=.type "list",data:=.seq its'.toArray n' }) (r:Vals ys its') (hz:ys.length≤sizeLine) (t:Nat) :
    Inv X pins σ (upd H p (.lst ys)) { s with heap:=s.heap.update p f,toks:=t }:=by
  have e:(s.heap.update p f).get? p=some { cls:=.type "list",data:=.seq its'.toArray n' }:=by
    rw [Heap.get?_update_self f ho (by rw [hf] <;> rfl),hf]
  refine I.write (x:=p) (e:=p) (by rw [h];trivial) (.inl rfl) (fun b u hb q=>(Heap.get?_update_other _ _ (Ne.symm hb)).trans q) ⟨_,e⟩ ?_
  exact ⟨hz,its',n',r,e⟩
def Er:V→V→V→Hp→(Hp→Prop)→Prop:=fun o i v H Q=>∃ p xs k j,o = .ref p∧i = .int k∧H p=some (.lst xs)∧ixN xs.length k=some j∧Q (upd H p (.lst (xs.set j v)))
theorem set_list:JC X Er:=by
  intro pins s σ H o i v ov iv u Q I ro ri rv h
  obtain ⟨p,xs,k,j,rfl,rfl,hp,hj,q⟩:=h
  cases ro
  obtain ⟨t,rfl⟩:=ri
  obtain ⟨its,n,r,ho,hz⟩:=I.lst hp
  obtain ⟨h1,h2,h3,h4⟩:=vG hj
  have hl:=r.length
  have hn:=kB
  have I':Inv X pins σ (upd H p (.lst (xs.set j v))) { s with heap:=s.heap.update p (Obj.mapSeq (·.setIfInBounds j u)) }:=
    I.FG hp ho (tU its n j u) (r.set rv j) (by rw [List.length_set];exact hz) s.toks
  by_cases h0 : 0≤k
  · have hk:k.toNat=j:=by
      rw [seqIndex_of h0 h4] at h1
      exact Option.some.inj h1
    exact PySem.W.ki_setAt ho h0 (by omega) (by rw [List.size_toArray,← hl];exact h4) (by rw [hk];exact ⟨_,I',q⟩)
  · have hk:(k+(its.toArray.size:Int)).toNat=j:=by
      rw [seqIndex_neg (by omega) h3] at h1
      rw [List.size_toArray,← hl]
      exact Option.some.inj h1
    exact PySem.W.ki_setBack ho (by omega) (by rw [List.size_toArray,← hl];exact h3) (by omega) (by rw [hk];exact ⟨_,I',q⟩)
theorem nQ (lo hi:Option Int) (n:Nat):(sliceBounds lo hi none n).1=((HT.sIx n 0 lo:Nat):Int)∧(sliceBounds lo hi none n).2.1=((HT.sIx n n hi:Nat):Int)∧(sliceBounds lo hi none n).2.2=1:=by
  refine ⟨?_,?_,rfl⟩
  · cases lo with
    | none=>simp [sliceBounds,HT.sIx]
    | some i=>
      simp only [sliceBounds,HT.sIx,Option.getD_none,show (1:Int) > 0 by decide,if_true]
      by_cases h:i < 0
      · simp only [h,if_true] <;> omega
      · simp only [h,if_false] <;> omega
  · cases hi with
    | none=>simp [sliceBounds,HT.sIx]
    | some i=>
      simp only [sliceBounds,HT.sIx,Option.getD_none,show (1:Int) > 0 by decide,if_true]
      by_cases h:i < 0
      · simp only [h,if_true] <;> omega
      · simp only [h,if_false] <;> omega
theorem lH (its:List Value) (lo hi:Option Int):slicePick its.toArray lo hi none=((its.drop (HT.sIx its.length 0 lo)).take (HT.sIx its.length its.length hi - HT.sIx its.length 0 lo)).toArray:=by
  obtain ⟨h1,h2,h3⟩:=nQ lo hi its.toArray.size
  unfold slicePick
  rw [h1,h2,h3]
  simp only [sliceRange_one,pick_run,List.size_toArray] <;> rfl
def Ih (K:PySem.W.Frag):V→Option Int→Option Int→Hp→VK→Prop:=fun x lo hi H Q=>∃ a xs,x = .ref a∧SqL K H a xs∧∀ p,H p=none→Q (.ref p) (upd H p (.lst (qZ xs lo hi)))
theorem BE:SlR X (Ih X.K):=by
  intro pins s σ H x v vl vu lo hi sl Q I rx hs pl pu h
  obtain ⟨a,xs,rfl,hx,q⟩:=h
  cases rx
  obtain ⟨its,r,ht,hz⟩:=I.list hx
  have hlen:=r.length
  refine ⟨"list",_,slot_list_getitem.lookup,ht.isList.typeIs,?_⟩
  refine wpAny_getItem_list_slice ht.isList hs pl pu .none (by simp) ?_ (by rw [List.size_toArray] <;> omega)
  rw [lH,← hlen]
  refine ⟨.ref s.heap.objs.size,_,I.laid (t':=s.toks) (o:=.lst (qZ xs lo hi)) (fun b ob q=>Heap.get?_push_of_some _ q) (Nat.le_refl _) ?_,rfl,q _ (I.hok.fresh (Nat.le_refl _))⟩
  exact ⟨Nat.le_trans (qY xs lo hi) hz,_,0,(r.drop (HT.sIx xs.length 0 lo)).take (HT.sIx xs.length xs.length hi - HT.sIx xs.length 0 lo),Heap.get?_push_size _ rfl⟩
def cH:V→Bool
  | .non=>true
  | .bl _=>true
  | .int _=>true
  | .str _=>true
  | _=>false
def eqV:V→V→Bool
  | .non,.non=>true
  | .bl a,.bl b=>a == b
  | .bl a,.int b=>(if a then 1 else 0) == b
  | .int a,.bl b=>a == (if b then 1 else 0)
  | .int a,.int b=>a == b
  | .str a,.str b=>a == b
  | _,_=>false
theorem uo {A:Around} {s:Shared} {y x:V} {u v:Value} (ry:RelV y u) (rx:RelV x v) (fy:cH y=true) (fx:cH x=true):SeqAt.EqAt A s u v (eqV y x):=by
  cases y with
  | non=>
    cases ry
    cases x with
    | non=>cases rx;exact SeqAt.EqAt.same _
    | bl b=>cases rx;exact SeqAt.EqAt.none_bool b
    | int b=>obtain ⟨t,rfl⟩:=rx;exact SeqAt.EqAt.none_int b t
    | str b=>obtain ⟨t,rfl⟩:=rx;exact SeqAt.EqAt.none_str b t
    | _=>exact absurd (show false=true from fx) Bool.false_ne_true
  | bl a=>
    cases ry
    cases x with
    | non=>cases rx;exact SeqAt.EqAt.bool_none a
    | bl b=>cases rx;exact SeqAt.EqAt.bool_bool a b
    | int b=>obtain ⟨t,rfl⟩:=rx;exact SeqAt.EqAt.bool_int a b t
    | str b=>obtain ⟨t,rfl⟩:=rx;exact SeqAt.EqAt.bool_str a b t
    | _=>exact absurd (show false=true from fx) Bool.false_ne_true
  | int a=>
    obtain ⟨t',rfl⟩:=ry
    cases x with
    | non=>cases rx;exact SeqAt.EqAt.int_none a t'
    | bl b=>cases rx;exact SeqAt.EqAt.int_bool a t' b
    | int b=>obtain ⟨t,rfl⟩:=rx;exact SeqAt.EqAt.int_int a t' b t
    | str b=>obtain ⟨t,rfl⟩:=rx;exact SeqAt.EqAt.int_str a t' b t
    | _=>exact absurd (show false=true from fx) Bool.false_ne_true
  | str a=>
    obtain ⟨t',rfl⟩:=ry
    cases x with
    | non=>cases rx;exact SeqAt.EqAt.str_none a t'
    | bl b=>cases rx;exact SeqAt.EqAt.str_bool a t' b
    | int b=>obtain ⟨t,rfl⟩:=rx;exact SeqAt.EqAt.str_int a t' b t
    | str b=>obtain ⟨t,rfl⟩:=rx;exact SeqAt.EqAt.str_str a t' b t
    | _=>exact absurd (show false=true from fx) Bool.false_ne_true
  | _=>exact absurd (show false=true from fy) Bool.false_ne_true
def eqU (x:V) (u:Value):Bool:=match u with
  | .none=>eqV .non x
  | .bool b=>eqV (.bl b) x
  | .int i _=>eqV (.int i) x
  | .str z _=>eqV (.str z) x
  | _=>false
theorem A1 {x y:V} {u:Value} (r:RelV y u) (f:cH y=true):eqU x u=eqV y x:=by
  cases y with
  | non=>cases r;rfl
  | bl b=>cases r;rfl
  | int i=>obtain ⟨t,rfl⟩:=r;rfl
  | str z=>obtain ⟨t,rfl⟩:=r;rfl
  | _=>exact absurd (show false=true from f) Bool.false_ne_true
theorem oX {x:V}:∀ {xs:List V} {us:List Value},Vals xs us→xs.all cH=true→us.any (eqU x)=xs.any fun y=>eqV y x
  | _,_,.nil,_=>rfl
  | y::xs,u::us,.cons r t,f=>by
    rw [List.all_cons,Bool.and_eq_true] at f
    rw [List.any_cons,List.any_cons,A1 r f.1,oX t f.2]
theorem kr {A:Around} {s:Shared} {x:V} {v:Value} (rx:RelV x v) (fx:cH x=true):∀ {xs:List V} {us:List Value},Vals xs us→xs.all cH=true→∀ u∈us,SeqAt.EqAt A s u v (eqU x u)
  | _,_,.nil,_=>fun u hu=>by cases hu
  | y::xs,u::us,.cons r t,f=>fun u' hu=>by
    rw [List.all_cons,Bool.and_eq_true] at f
    rcases List.mem_cons.mp hu with rfl | hu
    · rw [A1 r f.1];exact uo r rx f.1 fx
    · exact kr rx fx t f.2 u' hu
def inV (x:V) (xs:List V):Bool:=xs.any fun y=>eqV y x
def rIn (K:PySem.W.Frag) (neg:Bool):R2:=fun x y H Q=>∃ p xs,y = .ref p∧(SqL K H p xs∨SqT K H p xs)∧cH x=true∧xs.all cH=true∧Q (.bl (if neg then !inV x xs else inV x xs)) H
theorem ja:OpR X (compareOp .In) (rIn X.K false):=by
  intro pins s σ H x y v u Q I rx ry h
  obtain ⟨p,xs,rfl,hq,fx,fs,q⟩:=h
  cases ry
  rcases hq with hq | hq
  · obtain ⟨its,r,pl,hz⟩:=I.list hq
    refine SeqAt.in_listAt (eqU x) pl.isList (fun w hw=>kr rx fx r fs w (by simpa using hw)) ⟨.bl _,H,I,rfl,?_⟩
    rw [show its.toArray.any (eqU x)=its.any (eqU x) by simp,oX r fs]
    exact q
  · obtain ⟨its,r,pl,hz⟩:=I.tuple hq
    refine SeqAt.in_tupleAt (eqU x) pl (fun w hw=>kr rx fx r fs w (by simpa using hw)) ⟨.bl _,H,I,rfl,?_⟩
    rw [show its.toArray.any (eqU x)=its.any (eqU x) by simp,oX r fs]
    exact q
theorem oO:b5 X (.builtin "len") (fun xs H Q=>∃ p ys,xs=[.ref p]∧(SqL X.K H p ys∨SqT X.K H p ys)∧Q (.int ys.length) H):=by
  intro pins s σ H xs us Q I r h
  obtain ⟨p,ys,rfl,hq,q⟩:=h
  obtain ⟨u,rfl,rx⟩:=vals1 r
  cases rx
  have hn:=kB
  rcases hq with hq | hq
  · obtain ⟨its,r',pl,hz⟩:=I.list hq
    have hlen:=r'.length
    exact Calls.call_len_list pl.isList (by simp only [List.size_toArray] <;> omega) ⟨.int ys.length,H,I.tok _,⟨s.toks+1,by rw [List.size_toArray,hlen]⟩,q⟩
  · obtain ⟨its,r',pl,hz⟩:=I.tuple hq
    have hlen:=r'.length
    exact len_tuple pl (by simp only [List.size_toArray] <;> omega) ⟨.int ys.length,H,I.tok _,⟨s.toks+1,by rw [List.size_toArray,hlen]⟩,q⟩
theorem oN:b5 X (.type "list") (fun xs H Q=>∃ p ys,xs=[.ref p]∧(SqL X.K H p ys∨SqT X.K H p ys)∧∀ l,H l=none→Q (.ref l) (upd H l (.lst ys))):=by
  intro pins s σ H xs us Q I r h
  obtain ⟨p,ys,rfl,hq,q⟩:=h
  obtain ⟨u,rfl,rx⟩:=vals1 r
  cases rx
  have fin:∀ (its:List Value),Vals ys its→ys.length≤sizeLine→∀ (h':Heap) (c':Nat),(∀ b o',s.heap.get? b=some o'→h'.get? b=some o') →
      h'.get? s.heap.objs.size=some { cls:=.type "list",dict:=none,data:=.seq its.toArray c',slots:=#[] }→EP X pins σ Q (.ref s.heap.objs.size) { s with heap:=h' }:=fun its r' hz h' c' kp e=>
    ⟨.ref s.heap.objs.size,_,I.laid (t':=s.toks) kp (Nat.le_refl _) (show bL X.prog X.w _ h' _ (.lst ys) from ⟨hz,its,c',r',e⟩),rfl,q _ (I.hok.fresh (Nat.le_refl _))⟩
  rcases hq with hq | hq
  · obtain ⟨its,r',pl,hz⟩:=I.list hq
    have hlen:=r'.length
    obtain ⟨o,ho,hc,n,hd⟩:=pl.isList
    exact call_list_seq p (.inl rfl) ho hc hd (fun h' c' kp e=>fin its r' hz h' c' kp e) (by simp only [List.size_toArray] <;> omega)
  · obtain ⟨its,r',pl,hz⟩:=I.tuple hq
    have hlen:=r'.length
    obtain ⟨o,ho,hc,n,hd⟩:=pl
    exact call_list_seq p (.inr rfl) ho hc hd (fun h' c' kp e=>fin its r' hz h' c' kp e) (by simp only [List.size_toArray] <;> omega)
theorem lQ:b5 X (.type "tuple") (fun xs H Q=>∃ p ys,xs=[.ref p]∧((SqL X.K H p ys∧∀ l,H l=none→Q (.ref l) (upd H l (.tup ys)))∨(SqT X.K H p ys∧Q (.ref p) H))):=by
  intro pins s σ H xs us Q I r h
  obtain ⟨p,ys,rfl,h⟩:=h
  obtain ⟨u,rfl,rx⟩:=vals1 r
  cases rx
  rcases h with ⟨hq,q⟩ | ⟨hq,q⟩
  · obtain ⟨its,r',pl,hz⟩:=I.list hq
    have hlen:=r'.length
    refine call_tuple_list pl.isList (fun h' kp=>?_) (by simp only [List.size_toArray] <;> omega)
    have I1:Inv X pins σ H { s with heap:=h' }:=I.kept (t':=s.toks) kp
    have I2:Inv X pins σ (upd H h'.objs.size (.tup ys)) { s with heap:=h'.push { cls:=.type "tuple",data:=.seq its.toArray } }:=
      I1.laid (t':=s.toks) (fun b o e=>Heap.get?_push_of_some _ e) (Nat.le_refl _) (show bL X.prog X.w _ _ _ (.tup ys) from ⟨hz,its,r',IsTup.new _ _⟩)
    exact ⟨.ref h'.objs.size,_,I2,rfl,q _ (I1.hok.fresh (Nat.le_refl _))⟩
  · obtain ⟨its,r',pl,hz⟩:=I.tuple hq
    exact call_tuple_same pl ⟨.ref p,H,I,rfl,q⟩
def tyV (K:PySem.W.Frag) (T:String) (x:V) (H:Hp):Prop:=match x with
  | .str _=>T = "str"
  | .int _=>T = "int"
  | .ref p=>(T = "list" ∧ ∃ xs,SqL K H p xs)∨(T = "tuple" ∧ ∃ o,K.lookup p=some o∧o.cls = .type "tuple" ∧ o.dict=none) ∨
      (T = "dict" ∧ ((∃ kvs,H p=some (.dK kvs))∨∃ kvs,H p=some (.dT kvs)))∨(T = "set" ∧ ∃ S n,H p=some (.set S n))
  | _=>False
theorem yk {pins:List (Addr×Obj)} {σ : St} {H:Hp} {s:Shared} {T:String} {x:V} {v:Value} (I:Inv X pins σ H s) (r:RelV x v) (ty:tyV X.K T x H) :
    s.TypeIs v T∧∀ a,v = .ref a→∃ ob,s.heap.get? a=some ob∧ob.dict=none:=by
  cases x with
  | str z=>
    obtain ⟨t,rfl⟩:=r
    cases (show T = "str" from ty)
    exact ⟨typeIs_str s z t,fun _ e=>nomatch e⟩
  | int i=>
    obtain ⟨t,rfl⟩:=r
    cases (show T = "int" from ty)
    exact ⟨typeIs_int s i t,fun _ e=>nomatch e⟩
  | ref p=>
    cases r
    rcases ty with ⟨rfl,xs,hq⟩ | ⟨rfl,o,hk,hc,hd⟩ | ⟨rfl,hk⟩ | ⟨rfl,S,n,hk⟩
    · obtain ⟨its,_,pl,_⟩:=I.list hq
      refine ⟨pl.isList.typeIs,fun a e=>?_⟩
      cases e
      obtain ⟨o,n,e,c,hd,_⟩:=pl
      exact ⟨o,e,hd⟩
    · refine ⟨⟨o,I.kIn p o hk,hc⟩,fun a e=>?_⟩
      cases e
      exact ⟨o,I.kIn _ o hk,hd⟩
    · have z:∃ o,s.heap.get? p=some o∧o.ExactDict:=by
        rcases hk with ⟨kvs,hk⟩ | ⟨kvs,hk⟩
        · obtain ⟨_,_,_,_,o,_,_,e,ex,_⟩:=I.hok p _ hk
          exact ⟨o,e,ex⟩
        · obtain ⟨_,_,_,_,o,_,_,e,ex,_⟩:=I.hok p _ hk
          exact ⟨o,e,ex⟩
      obtain ⟨o,e,ex⟩:=z
      refine ⟨⟨o,e,ex.1⟩,fun a e2=>?_⟩
      cases e2
      exact ⟨o,e,ex.2.1⟩
    · obtain ⟨o,_,_,_,e,ex,_⟩:=I.hok p _ hk
      refine ⟨⟨o,e,ex.1⟩,fun a e2=>?_⟩
      cases e2
      exact ⟨o,e,ex.2.1⟩
  | _=>exact False.elim ty
def HW (K:PySem.W.Frag) (T:String) (r:V→List V→Hp→VK→Prop) (to:TE):TE:=fun σ H Q=>to σ H fun x H1=>tyV K T x H1∧r x [] H1 Q
def tBM (K:PySem.W.Frag) (T:String) (r:V→List V→Hp→VK→Prop) (to:TE) (t:TA):TE:=fun σ H Q=>to σ H fun x H1=>tyV K T x H1∧t σ H1 fun xs H2=>r x xs H2 Q
variable {o e:Expr} {es:List Expr} {to:TE} {t:TA} {name:Str} {apos cpos:Pos} {T id:String} {r:V→List V→Hp→VK→Prop}
theorem Fg (pa:PlainAttrs T) (slot:Slot T name id) (hty:typeOf (.builtin id)=pure (.type "method_descriptor")) (hm:MtR X id r) (ho:PE X o to)
    (hbase:attributeBase o name X.env (eval o X.env)=eval o X.env:=by rfl) (hline:(apos.endLine == cpos.line)=true:=by rfl):PE X (.Call (.Attribute o name apos) [] [] cpos) (HW X.K T r to):=by
  intro pins s σ H Q I h
  refine wpAny_Call_method0_late hbase hline (thn (ho pins s σ H _ I h) fun v s1 ⟨x,H1,I1,r1,ty,q1⟩=>?_)
  obtain ⟨h1,h2⟩:=yk I1 r1 ty
  exact ⟨T,id,pa,slot,hty,h1,h2,Calls.callWith_builtin rfl (PySem.evalArgs_none (hm pins s1 σ H1 x [] v [] Q I1 r1 .nil q1))⟩
theorem jw (pa:PlainAttrs T) (slot:Slot T name id) (hty:typeOf (.builtin id)=pure (.type "method_descriptor")) (hm:MtR X id r) (ho:PE X o to) (ha:PA X (e::es) t)
    (hbase:attributeBase o name X.env (eval o X.env)=eval o X.env:=by rfl)
    (hfew:((backTo cpos (starEach (e::es) X.env)).all (fun x=>!x.1) && (backToKw cpos (keywordEach [] X.env)).all (fun x=>x.1.isSome)
      && decide ((e::es).length+([]:List Keyword).length+(if ([]:List Keyword).isEmpty then 0 else 1) < 30))=true:=by rfl)
    (hline:(apos.endLine == cpos.line)=true:=by rfl) (hs:starEach (e::es) X.env=(false,eval e X.env)::starEach es X.env:=by rfl) (hplain:(backTo cpos (starEach es X.env)).any (·.1)=false:=by rfl) :
    PE X (.Call (.Attribute o name apos) (e::es) [] cpos) (tBM X.K T r to t):=by
  intro pins s σ H Q I h
  refine wpAny_Call_method_late hbase hfew hline rfl (thn (ho pins s σ H _ I h) fun v s1 ⟨x,H1,I1,r1,ty,q1⟩=>?_)
  obtain ⟨h1,h2⟩:=yk I1 r1 ty
  refine ⟨T,id,pa,slot,hty,h1,h2,?_⟩
  have hA:=ha cpos pins s1 σ H1 _ I1 q1
  rw [hs] at hA ⊢
  refine Calls.callWith_builtin (by show (false || (backTo cpos (starEach es X.env)).any (·.1))=false;rw [hplain] <;> rfl) (Calls.evalArgs_plain ?_)
  exact thn hA fun us s2 ⟨vs,H2,I2,r2,q2⟩=>hm pins s2 σ H2 x vs v us Q I2 r1 r2 q2
end
def MtM (X:Cx) (id:String) (r:V→List V→Hp→VK→Prop):Prop:=
  ∀ (pins:List (Addr×Obj)) (s:Shared) (σ : St) (H:Hp) (x:V) (xs:List V) (v:Value) (us:List Value) (Q:VK),Inv X pins σ H s→RelV x v→Vals xs us→r x xs H Q →
    wpAny (model X.prog X.w) X.A (call (.builtin id) (v::us)) (EP X pins σ Q) X.xe s
theorem Vals.one:∀ {x:V} {us:List Value},Vals [x] us→∃ u,us=[u]∧RelV x u
  | _,_,.cons r .nil=>⟨_,rfl,r⟩
theorem Vals.zero:∀ {us:List Value},Vals [] us→us=[]
  | _,.nil=>rfl
theorem Vals.reverse {xs:List V} {us:List Value} (h:Vals xs us):Vals xs.reverse us.reverse:=by
  induction h with
  | nil=>exact .nil
  | cons r t ih=>rw [List.reverse_cons,List.reverse_cons];exact Vals.append ih (.cons r .nil)
theorem Vals.rep {xs:List V} {us:List Value} (h:Vals xs us):∀ k:Nat,Vals (List.replicate k xs).flatten (List.replicate k us).flatten
  | 0=>.nil
  | k+1=>by
    rw [List.replicate_succ,List.replicate_succ,List.flatten_cons,List.flatten_cons]
    exact Vals.append h (Vals.rep h k)
theorem foldl_rep (its:List Value):∀ (k:Nat) (acc:List Value),
    List.foldl (fun x1 x2=>x1++x2) acc.toArray (List.replicate k its.toArray)=(acc++(List.replicate k its).flatten).toArray
  | 0,acc=>by simp
  | k+1,acc=>by
    have e:acc.toArray++its.toArray=(acc++its).toArray:=by simp
    have e2:(acc++its)++(List.replicate k its).flatten=acc++(List.replicate (k+1) its).flatten:=by
      rw [List.replicate_succ,List.flatten_cons,List.append_assoc]
    rw [← e2,← foldl_rep its k (acc++its),← e,List.replicate_succ,List.foldl_cons]
section
variable {X:Cx} {pins:List (Addr×Obj)} {σ : St} {H:Hp} {s:Shared} {l b:Addr} {xs ys zs:List V}
theorem Inv.FH {its its':List Value} {n:Nat} {f:Array Value→Array Value} {t':Nat} (I:Inv X pins σ H s) (hH:H l=some (.lst xs))
    (e:s.heap.get? l=some { cls:=.type "list",data:=.seq its.toArray n }) (hf:f its.toArray=its'.toArray) (hv:Vals ys its') (hz:ys.length≤sizeLine) :
    Inv X pins σ (upd H l (.lst ys)) { s with heap:=s.heap.update l (Obj.mapSeq f),toks:=t' }:=by
  have q:=PySem.IsL.update e f
  rw [hf] at q
  refine I.write (x:=l) (e:=l) (by rw [hH];exact trivial) (.inl rfl) (fun b' u hb hu=>(Heap.get?_update_other s.heap (Obj.mapSeq f) (Ne.symm hb)).trans hu) ⟨_,q⟩ ?_
  exact ⟨hz,its',_,hv,q⟩
theorem Inv.JW {its:List Value} {t':Nat} (I:Inv X pins σ H s) (hv:Vals ys its) (hz:ys.length≤sizeLine) :
    Inv X pins σ (upd H s.heap.objs.size (.lst ys)) { s with heap:=s.heap.push { cls:=.type "list",data:=.seq its.toArray },toks:=t' }:=
  I.laid (fun _ _ q=>Heap.get?_push_of_some _ q) (Nat.le_refl _) ⟨hz,its,0,hv,Heap.get?_push_size _ rfl⟩
theorem Inv.fresh (I:Inv X pins σ H s):H s.heap.objs.size=none:=I.hok.fresh (Nat.le_refl _)
theorem Inv.qO (I:Inv X pins σ H s) (hH:H l=some (.lst xs)):xs.length≤sizeLine∧∃ (its:List Value) (n:Nat),Vals xs its∧xs.length=its.length∧s.heap.get? l=some { cls:=.type "list",data:=.seq its.toArray n }:=by
  obtain ⟨z,its,n,r,e⟩:=I.hok l _ hH
  exact ⟨z,its,n,r,r.length,e⟩
theorem qI {n:Nat} (h:n≤sizeLine):Builtin.List.listTooLong n=false:=by
  unfold Builtin.List.listTooLong
  exact decide_eq_false (by omega)
end
section
variable {X:Cx}
def vn:V→List V→Hp→VK→Prop:=fun x vs H Q=>∃ l xs y,x = .ref l∧vs=[y]∧H l=some (.lst xs)∧xs.length < sizeLine∧Q .non (upd H l (.lst (xs++[y])))
theorem gx:MtM X "list.append" vn:=by
  intro pins s σ H x vs v us Q I rx rv h
  obtain ⟨l,xs,y,rfl,rfl,hH,hz,q⟩:=h
  cases rx
  obtain ⟨u,rfl,ru⟩:=rv.one
  obtain ⟨z,its,n,r,hl,e⟩:=I.qO hH
  refine call_meets F.slot_list_append ⟨_,e,rfl⟩ F.entry_list_append (F.args_list_append_2 _ _) (PySem.list_append l its.toArray n u (by rw [List.size_toArray];omega)) ⟨e,?_⟩
  refine ⟨.non,_,I.FH (its':=its++[u]) hH e (by simp) (r.append (.cons ru .nil)) ?_,rfl,q⟩
  rw [List.length_append,List.length_singleton]
  omega
def Cb:V→List V→Hp→VK→Prop:=fun x vs H Q=>∃ l b xs zs,x = .ref l∧vs=[.ref b]∧H l=some (.lst xs)∧H b=some (.lst zs)∧xs.length+zs.length≤sizeLine∧Q .non (upd H l (.lst (xs++zs)))
theorem xg:MtM X "list.extend" Cb:=by
  intro pins s σ H x vs v us Q I rx rv h
  obtain ⟨l,b,xs,zs,rfl,rfl,hH,hB,hz,q⟩:=h
  cases rx
  obtain ⟨u,rfl,ru⟩:=rv.one
  cases ru
  obtain ⟨z,its,n,r,hl,e⟩:=I.qO hH
  obtain ⟨z2,its2,n2,r2,hl2,e2⟩:=I.qO hB
  have hsz:its.toArray.size+its2.toArray.size≤sizeLine:=by rw [List.size_toArray,List.size_toArray];omega
  have Ao:¬ (!its.toArray.isEmpty && Builtin.List.listTooLong (its.toArray.size+its2.toArray.size))=true:=by
    rw [qI hsz,Bool.and_false]
    exact Bool.false_ne_true
  refine call_meets F.slot_list_extend ⟨_,e,rfl⟩ F.entry_list_extend (F.args_list_extend_2 _ _)
    (AutoSeq1.list_extend_list_list_0 l its.toArray n b its2.toArray n2 Ao (by rw [List.size_toArray];omega) (by omega)) ⟨e,e2,?_⟩
  refine ⟨.non,_,I.FH (its':=its++its2) hH e (by simp) (r.append r2) ?_,rfl,q⟩
  rw [List.length_append]
  omega
def zv:V→List V→Hp→VK→Prop:=fun x vs H Q=>∃ l xs,x = .ref l∧vs=[]∧H l=some (.lst xs)∧Q .non (upd H l (.lst xs.reverse))
theorem tT:MtM X "list.reverse" zv:=by
  intro pins s σ H x vs v us Q I rx rv h
  obtain ⟨l,xs,rfl,rfl,hH,q⟩:=h
  cases rx
  have hus:=rv.zero
  subst hus
  obtain ⟨z,its,n,r,hl,e⟩:=I.qO hH
  refine call_meets F.slot_list_reverse ⟨_,e,rfl⟩ F.entry_list_reverse (F.args_list_reverse_1 _) (AutoSeq1.list_reverse_list_0 l its.toArray n (by rw [List.size_toArray];omega)) ⟨e,?_⟩
  refine ⟨.non,_,I.FH (its':=its.reverse) hH e (by simp) r.reverse ?_,rfl,q⟩
  rw [List.length_reverse]
  omega
def JQ:R2:=fun x y H Q=>∃ l k xs,x = .ref l∧y = .int k∧H l=some (.lst xs)∧-(2 ^ 63)≤k∧k < 2 ^ 63∧xs.length * k.toNat≤sizeLine ∧
  ∀ p,H p=none→Q (.ref p) (upd H p (.lst (List.replicate k.toNat xs).flatten))
theorem len_rep {α : Type} (xs:List α) (k:Nat):(List.replicate k xs).flatten.length=k * xs.length:=by
  induction k with
  | zero=>simp
  | succ k ih=>rw [List.replicate_succ,List.flatten_cons,List.length_append,ih,Nat.succ_mul,Nat.add_comm]
theorem Fj:OpR X (binaryOp .Mult) JQ:=by
  intro pins s σ H x y v u Q I rx ry h
  obtain ⟨l,k,xs,rfl,rfl,hH,h1,h2,hz,q⟩:=h
  cases rx
  obtain ⟨t,rfl⟩:=ry
  obtain ⟨z,its,n,r,hl,e⟩:=I.qO hH
  have hlen:its.toArray.size * k.toNat≤sizeLine:=by rw [List.size_toArray,← hl];exact hz
  have hcap:¬ its.toArray.size * k.toNat > (2 ^ 63 - 1) / 8:=by
    have:(sizeLine:Nat)≤(2 ^ 63 - 1) / 8:=by decide
    omega
  have hfit:¬ (!Builtin.List.listFitsIndex k)=true:=by
    rw [fitsIndex_both h1 h2]
    exact Bool.false_ne_true
  have Ao:¬ Builtin.List.listTooLong (its.toArray.size * k.toNat)=true:=by
    rw [qI hlen]
    exact Bool.false_ne_true
  have hnew:List.foldl (fun x1 x2=>x1++x2) #[] (List.replicate (if its.toArray.isEmpty=true then 0 else k.toNat) its.toArray)=(List.replicate k.toNat its).flatten.toArray:=by
    have f0:∀ m:Nat,List.foldl (fun x1 x2=>x1++x2) #[] (List.replicate m its.toArray)=(List.replicate m its).flatten.toArray:=fun m=>by
      have:=foldl_rep its m []
      rw [List.nil_append] at this
      exact this
    rw [f0]
    cases its with
    | nil=>simp
    | cons a r'=>rw [if_neg (by simp)]
  refine wpAny_binaryOp_repeat_ref (T:="list") (U:="int") (by decide) ⟨_,e,rfl⟩ (fun s'=>typeIs_int s' k t) noFill_list_mul F.fills_int_mul F.slot_int_rmul repeat_list F.slot_int_index.lookup
    (call_meets F.slot_int_rmul (typeIs_int s k t) F.entry_int_rmul (F.args_int_rmul_2 _ _) (int___rmul___int_list k t l its.toArray n)
      ⟨e,rfl,⟨_,e,rfl⟩,call_meets F.slot_list_mul ⟨_,e,rfl⟩ F.entry_list_mul (F.args_list_mul_2 _ _) (AutoListH.list___mul___list_int_3 l its.toArray n k t hfit hcap Ao) ⟨e,?_⟩⟩)
  rw [hnew]
  exact ⟨.ref _,_,I.JW (t':=s.toks) (r.rep k.toNat) (by rw [len_rep,Nat.mul_comm];exact hz),rfl,q _ I.fresh⟩
end
section
variable {κ : Type} [DecidableEq κ]
def lE (kvs:List (κ×V)) (k : κ):Option V:=(kvs.find? fun kv=>decide (kv.1=k)).map (·.2)
def putK (kvs:List (κ×V)) (k : κ) (v:V):List (κ×V):=
  if (kvs.any fun kv=>decide (kv.1=k))=true then kvs.map (fun kv=>if kv.1=k then (kv.1,v) else kv) else kvs++[(k,v)]
theorem pK {p : κ×V} {r:List (κ×V)} {k : κ} (e:p.1=k):lE (p::r) k=some p.2:=by simp [lE,List.find?_cons,e]
theorem pM {p : κ×V} {r:List (κ×V)} {k : κ} (e:¬ p.1=k):lE (p::r) k=lE r k:=by simp [lE,List.find?_cons,e]
theorem pN (k : κ):∀ kvs:List (κ×V),(kvs.any fun kv=>decide (kv.1=k))=(lE kvs k).isSome
  | []=>rfl
  | p::r=>by
    rw [List.any_cons]
    by_cases e:p.1=k
    · simp only [pK e,decide_eq_true e,Bool.true_or,Option.isSome_some]
    · rw [pM e,decide_eq_false e,Bool.false_or];exact pN k r
theorem gG.xu {o:Option V} {u:Option Value} (r:gG o u):o.isSome=u.isSome:=by
  cases o with
  | none=>cases u with
    | none=>rfl
    | some _=>exact (show False from r).elim
  | some _=>cases u with
    | none=>exact (show False from r).elim
    | some _=>rfl
theorem KV.any {kvs:List (κ×V)} {vs:List (κ×Value)} (r:KV kvs vs) (k : κ):(kvs.any fun kv=>decide (kv.1=k))=vs.any fun kv=>decide (kv.1=k):=by
  unfold KV at r
  induction r with
  | nil=>rfl
  | cons h t ih=>rw [List.any_cons,List.any_cons,ih,h.1]
theorem KV.repl {kvs:List (κ×V)} {vs:List (κ×Value)} (r:KV kvs vs) (k : κ) {y:V} {u:Value} (ry:RelV y u) :
    KV (kvs.map fun kv=>if kv.1=k then (kv.1,y) else kv) (vs.map fun kv=>if kv.1=k then (kv.1,u) else kv):=by
  unfold KV at r ⊢
  induction r with
  | nil=>exact .nil
  | @cons p q ps qs h t ih=>
    rw [List.map_cons,List.map_cons]
    refine .cons ?_ ih
    obtain ⟨h1,h2⟩:=h
    by_cases e:p.1=k
    · rw [if_pos e,if_pos (h1.symm.trans e)];exact ⟨h1,ry⟩
    · rw [if_neg e,if_neg (fun z=>e (h1.trans z))];exact ⟨h1,h2⟩
theorem KV.put {kvs:List (κ×V)} {vs:List (κ×Value)} (r:KV kvs vs) (k : κ) {y:V} {u:Value} (ry:RelV y u):KV (putK kvs k y) (stored vs k u):=by
  unfold putK stored
  rw [r.any k]
  by_cases e:(vs.any fun kv=>decide (kv.1=k))=true
  · rw [if_pos e,if_pos e];exact r.repl k ry
  · rw [if_neg e,if_neg e];exact Paired.snoc r ⟨rfl,ry⟩
end
abbrev KT (H:Hp):List (List Key×V)→List (List Key×Addr×Value)→Prop:=Paired fun p q=>p.1=q.1∧H q.2.1=some (.tup (p.1.map kV))∧RelV p.2 q.2.2
theorem KT.val {H:Hp} {kvs:List (List Key×V)} {xs:List (List Key×Addr×Value)} (r:KT H kvs xs) (k:List Key):gG (lE kvs k) ((atKey xs k).map (·.2)):=by
  induction r with
  | nil=>exact True.intro
  | @cons p q ps qs h t ih=>
    obtain ⟨h1,_,h2⟩:=h
    by_cases e:p.1=k
    · have e':q.1=k:=h1.symm.trans e
      have b:atKey (q::qs) k=some q.2:=by simp [atKey,List.find?_cons,e']
      rw [pK e,b];exact h2
    · have e':¬ q.1=k:=fun z=>e (h1.trans z)
      have b:atKey (q::qs) k=atKey qs k:=by simp [atKey,List.find?_cons,e']
      rw [pM e,b];exact ih
theorem KT.repl {H:Hp} {kvs:List (List Key×V)} {xs:List (List Key×Addr×Value)} (r:KT H kvs xs) (k:List Key) {y:V} {u:Value} (ry:RelV y u) :
    KT H (kvs.map fun kv=>if kv.1=k then (kv.1,y) else kv) (xs.map (putAt k u)):=by
  induction r with
  | nil=>exact .nil
  | @cons p q ps qs h t ih=>
    rw [List.map_cons,List.map_cons]
    refine .cons ?_ ih
    obtain ⟨h1,h2,h3⟩:=h
    unfold putAt
    by_cases e:p.1=k
    · rw [if_pos e,if_pos (h1.symm.trans e)];exact ⟨h1,h2,ry⟩
    · rw [if_neg e,if_neg (fun z=>e (h1.trans z))];exact ⟨h1,h2,h3⟩
theorem KT.put {H:Hp} {kvs:List (List Key×V)} {xs:List (List Key×Addr×Value)} (r:KT H kvs xs) (k:List Key) {b:Addr} {y:V} {u:Value} (hb:H b=some (.tup (k.map kV))) (ry:RelV y u) :
    KT H (putK kvs k y) (storedH xs k b u):=by
  have e:(kvs.any fun kv=>decide (kv.1=k))=(atKey xs k).isSome:=by
    rw [pN,(r.val k).xu,Option.isSome_map]
  unfold putK storedH
  rw [e]
  by_cases q:(atKey xs k).isSome=true
  · rw [if_pos q,if_pos q];exact r.repl k ry
  · rw [if_neg q,if_neg q];exact Paired.snoc r ⟨rfl,hb,ry⟩
def JK (H:Hp) (a:Addr) (y:V) (r:Option V):Prop:=
  (∃ kvs k,Rd H a (.dK kvs)∧y=kV k∧r=lE kvs k)∨∃ kvs k b,Rd H a (.dT kvs)∧y = .ref b∧H b=some (.tup (k.map kV))∧r=lE kvs k
def JJ (H:Hp) (a:Addr) (y v:V) (H':Hp):Prop:=
  (∃ kvs k,H a=some (.dK kvs)∧y=kV k∧kvs.length < sizeLine∧H'=upd H a (.dK (putK kvs k v))) ∨
  ∃ kvs k b,H a=some (.dT kvs)∧y = .ref b∧H b=some (.tup (k.map kV))∧kvs.length < sizeLine∧H'=upd H a (.dT (putK kvs k v))
theorem JK.k {H:Hp} {a:Addr} {kvs:List (Key×V)} {k:Key} (e:H a=some (.dK kvs)):JK H a (kV k) (lE kvs k):=.inl ⟨kvs,k,.inl e,rfl,rfl⟩
theorem JJ.k {H:Hp} {a:Addr} {kvs:List (Key×V)} {k:Key} {v:V} (e:H a=some (.dK kvs)) (hl:kvs.length < sizeLine):JJ H a (kV k) v (upd H a (.dK (putK kvs k v))):=.inl ⟨kvs,k,e,rfl,hl,rfl⟩
abbrev VV:List (V×V)→List (Value×Value)→Prop:=Paired fun p q=>RelV p.1 q.1∧RelV p.2 q.2
structure M1 (X:Cx) (o:Expr) (m:Str) (apos:Pos) (e:Expr) (cpos:Pos):Prop where
  base:attributeBase o m X.env (eval o X.env)=eval o X.env
  few:((backTo cpos (starEach [e] X.env)).all (fun x=>!x.1) && (backToKw cpos (keywordEach [] X.env)).all (fun x=>x.1.isSome)
    && decide (([e]:List Expr).length+([]:List Keyword).length+(if ([]:List Keyword).isEmpty then 0 else 1) < 30))=true
  line:(apos.endLine == cpos.line)=true
  trees:backTo cpos (starEach [e] X.env)=[(false,eval e X.env)]
structure M2 (X:Cx) (o:Expr) (m:Str) (apos:Pos) (e f:Expr) (cpos:Pos):Prop where
  base:attributeBase o m X.env (eval o X.env)=eval o X.env
  few:((backTo cpos (starEach [e,f] X.env)).all (fun x=>!x.1) && (backToKw cpos (keywordEach [] X.env)).all (fun x=>x.1.isSome)
    && decide (([e,f]:List Expr).length+([]:List Keyword).length+(if ([]:List Keyword).isEmpty then 0 else 1) < 30))=true
  line:(apos.endLine == cpos.line)=true
  trees:backTo cpos (starEach [e,f] X.env)=[(false,eval e X.env),(false,eval f X.env)]
end L2
namespace Att
open PySem PySem.W PySem.Calls PyProof.Rows
theorem jB {P:Params} {h:Heap}:∀ (ns:List Int) (vs:List Value),WellAll P h vs (ns.map WData.int)→IntsAre vs ns:=by
  intro ns
  induction ns with
  | nil=>
    intro vs w
    rw [List.map_nil] at w
    cases w
    exact .nil
  | cons n ns ih=>
    intro vs w
    rw [List.map_cons] at w
    cases w with
    | cons a b=>
      cases a
      exact .cons _ _ (ih _ b)
theorem wz {l:OpenLaw} {n:Nat} (hn:l.most=some n) {P:Params} {h:Heap} {args:List WData} {vals:List Value}
    (hpre:l.row.toRowW.claim.pre args=true) (hwl:WellAll P h vals args) :
    ∃ a vs ns,vals=[Value.ref a]∧args=[WData.list (ns.map WData.int)]∧h.get? a=some { cls:=.type "list",data:=.seq vs.toArray }∧IntsAre vs ns∧ns.length≤n:=by
  have hsh:WShape.hasAll [] args [.list .int]=true:=(pre_splitW hpre).1
  have hc:l.pre.holds [] { args:=args }=true:=(pre_splitW hpre).2
  obtain ⟨d,r,rfl,h1,h2⟩:=hasAllW_cons hsh
  obtain rfl:=hasAllW_nil h2
  obtain ⟨xs,rfl,h3⟩:=hasW_list h1
  obtain ⟨ns,rfl⟩:=items_int h3
  have hlen:ns.length≤n:=by
    unfold OpenLaw.pre at hc
    have h4:(WTm.not (.lt (.lit (.int (n:Int))) (.len (.arg 0)))).holds [] { args:=[.list (ns.map .int)] }=true:=by
      have h4:=(holds_andW hc).1
      rw [hn] at h4
      exact h4
    have h5:=condW_of h4 (w_not (w_lt w_lit (w_len_list (w_arg rfl))))
    rw [List.length_map] at h5
    refine Nat.le_of_not_lt fun q=>?_
    have q':(n:Int) < ((ns.length:Nat):Int):=by omega
    first
      | (rw [decide_eq_true q'] at h5;exact absurd h5 (by decide))
      | (simp at h5;omega)
  cases hwl with
  | cons w1 w2=>
    cases w2
    cases w1 with
    | list ho hall=>exact ⟨_,_,ns,rfl,rfl,ho,jB ns _ hall,hlen⟩
theorem wL (l:OpenLaw) (args:List WData):l.row.toRowW.claim.post args (.bool true) args=true:=
  postW_of (r:=l.row.toRowW) (X:=(true == true))
    (show WShape.has [] (.bool true) .bool=true by first | rfl | decide | simp [WShape.has,WShape.arms,WShape.armsAll])
    (show (WTm.eq .res (.lit (.bool true))).value [] { args:=args,res:=some (.bool true),after:=args }=some (.bool (true == true)) from w_eq_bool (w_res rfl) w_lit) rfl
theorem rE {l:OpenLaw} {n:Nat} {q:Program} {loose:List Str} {XP:(Str→Option Value)→Heap→Prop} {YP:World→Heap→Prop} {d:DefRec}
    (hn:l.most=some n) (hdf:d.params.defaults=[])
    (call:∀ (w:World) (s₀ s₁ : Shared) (mg mb:Str→Option Value) (fa:Addr) (o:Obj) (pm cd doc:Value) (a:Addr) (vs:List Value) (ns:List Int),
      Ground q loose [] XP w s₀ mg mb s₁.heap→YP w s₁.heap →
      s₁.heap.get? fa=some o→o.data = .func (docDef d.name d.params d.body d.scope pm cd doc)→s₁.heap.CodeRec cd d.name→mg d.name=some (.ref fa) →
      s₁.heap.get? a=some { cls:=.type "list",data:=.seq vs.toArray }→IntsAre vs ns→ns.length≤n→s₁.gens=#[] →
      codeAny (model l.prog w) callerA (.call (.ref fa) ⟨[.ref a],[]⟩) (fun r s'=>r = .ok (.ret (.bool true))∧OldK s₁.heap s'.heap∧s'.os=s₁.os∧AllBare s'.gens) s₁) :
    WalkO q loose XP YP l.row.toRowW d [] (fun f vs=>PySem.call f vs):=by
  intro w s₀ s₁ mg mb G Y fa o pm cd doc dV kV ho hd hcd hD hmg hg args vals as hpre hlay hrd hwl hlo
  obtain rfl:dV = .none:=Dflts.none hD hdf
  obtain rfl:kV = .none:=Dflts.noKw hD
  obtain ⟨a,vs,ns,rfl,rfl,hobj,hints,hlen⟩:=wz hn hpre hwl
  refine enter_call (codeAny_mono (call w s₀ s₁ mg mb fa o pm cd doc a vs ns G Y ho (fd_plain hd) hcd hmg hobj hints hlen hg) fun r s' hq=>?_)
  obtain ⟨rfl,h2,h3,h4⟩:=hq
  exact ⟨.inl ⟨.bool true,.bool true,[],rfl,fun _=>rfl,.bool true,wL l _,fun _=>⟨List.Pairwise.nil,fun _ hm=>(nomatch hm)⟩⟩,h2,h3,h4⟩
end Att
namespace L2
open PySem PySem.Spec PyProof.Rows
theorem gq:∀ {vs:List Value} {ns:List Int},IntsAre vs ns→Vals (ns.map V.int) vs
  | _,_,.nil=>.nil
  | _,_,.cons n t h=>.cons ⟨t,rfl⟩ (gq h)
def D5 (H:Hp):Prop:=∀ b,H b=none∨∃ o xs,H b=some (.frz o (.lst xs))
theorem Ai {P:Program} {w:World} {K:PySem.W.Frag} {mg mb:Str→Option Value} {CX:CXT} {k:Nat} {fa a:Addr} {fd:FuncData} {x:Str} {sp:Sp} {s₁ : Shared} {vs:List Value} {ns:List Int}
    (KX:K.In s₁.heap) (hns:s₁.heap.Ns mainGlobals mg) (hb:s₁.heap.Ns builtinsNs mb) (hbb:∀ x:Str,x ≠ "__name__" → mb x=bootBuiltins x) (hlim:s₁.heap.NoLimit) (hg:s₁.gens=#[])
    (ha:s₁.heap.get? a=some { cls:=.type "list",data:=.seq vs.toArray }) (hi:IntsAre vs ns) (hl:ns.length≤sizeLine) (hr:bR k callerA)
    (F:∀ base:Heap,K.In base→base.Ns mainGlobals mg→eE P w K mg base CX k fa fd [x] sp) (hbind:∀ (s:Shared) (u:Value),BindsTo s fd ⟨[u],[]⟩ [(x,u)])
    (hsp:∀ H:Hp,D5 H→SqL K H a (ns.map V.int)→sp [.ref a] H (fun v _=>v = .bl true) fun _ _ _=>False)
    (hCX:∀ H e s',CX [] H s₁ (fun _ _ _=>False) e s'→False) :
    codeAny (model P w) callerA (.call (.ref fa) ⟨[.ref a],[]⟩) (fun r s'=>r = .ok (.ret (.bool true))∧OldK s₁.heap s'.heap∧s'.os=s₁.os∧AllBare s'.gens) s₁:=by
  have rv:=gq hi
  have JX:=hi.length
  -- from an abstract heap in which nothing but the script may be tracked
  have core:∀ H:Hp,D5 H→SqL K H a (ns.map V.int)→HOk P w H s₁.heap→(∀ b,H b≠none→b=a)→(H a≠none→K.lookup a=none) →
      codeAny (model P w) callerA (.call (.ref fa) ⟨[.ref a],[]⟩) (fun r s'=>r = .ok (.ret (.bool true))∧OldK s₁.heap s'.heap∧s'.os=s₁.os∧AllBare s'.gens) s₁:=by
    intro H hO hS hok hA hK
    have vY:∀ {b:Addr} {o:Obj},s₁.heap.get? b=some o→H b=none→(oE s₁.heap H).get? b=some o:=fun e n=>Aq e n
    have noA:∀ {b:Addr} {o:Obj} {es:Array DictEntry} {ep:Nat},s₁.heap.get? b=some o→o.data = .dict es ep→H b=none:=fun {b o es ep} e d=>by
      cases q:H b with
      | none=>rfl
      | some u=>
        have e':b=a:=hA b (by rw [q];simp)
        subst e'
        rw [ha] at e;cases e
        have d':Data.seq vs.toArray _=Data.dict es ep:=d
        cases d'
    have nsK:∀ {b:Addr} {m:Str→Option Value},s₁.heap.Ns b m→(oE s₁.heap H).Ns b m:=fun {b m} ⟨o,es,ep,e,d,r⟩=>⟨o,es,ep,vY e (noA e d),d,r⟩
    have hKb:K.In (oE s₁.heap H):=fun b o e=>vY (KX b o e) (by
      cases q:H b with
      | none=>rfl
      | some u=>
        have e':b=a:=hA b (by rw [q];simp)
        subst e'
        rw [hK (by rw [q];simp)] at e;cases e)
    have hM:Mod K mg (oE s₁.heap H):=⟨hKb,nsK hns,⟨mb,nsK hb,hbb⟩,let ⟨mc,h1,h2⟩:=hlim;⟨mc,nsK h1,h2⟩⟩
    have e0:lT P w K mg (oE s₁.heap H) callerA [] s₁ H:=⟨rfl,hM,fun b o e=>CZ e,Nat.le_of_eq (xy _ _),trivial,fun b hb=>absurd (show b∈([]:List Addr) from hb) (by simp),hok,.of_eq hg⟩
    refine codeAny_mono ((F _ hKb (nsK hns)).run callerA [] s₁ H ⟨[.ref a],[]⟩ [.ref a] [.ref a] _ _ hr e0 (hbind s₁ (.ref a)) (.cons rfl .nil) (hsp H hO hS)) fun r s' h=>?_
    cases r with
    | error e=>exact (hCX H e s' h).elim
    | ok fl=>
      cases fl with
      | next=>exact False.elim h
      | brk=>exact False.elim h
      | cont=>exact False.elim h
      | ret u=>
        obtain ⟨v,H',os,bare,un,hok',r',q⟩:=h
        have q':v = .bl true:=q
        subst q'
        obtain rfl:u=Value.bool true:=r'
        refine ⟨rfl,OldK.of_keep fun b o e=>?_,os,bare⟩
        cases q:H b with
        | none=>exact un.keep b o e q (by intro z;exact absurd (show b∈([]:List Addr) from z) (by simp)) (by simp)
        | some u=>
          rcases hO b with z | ⟨ob,xs,z⟩
          · rw [q] at z;cases z
          · have z2:=un.gE b ob _ z
            obtain ⟨e1,_⟩:=hok b _ z
            obtain ⟨e2,_⟩:=hok' b _ z2
            rw [e] at e1;cases e1
            exact e2
  cases hk:K.lookup a with
  | some o=>
    -- the script is one of the module's own objects
    have e:=KX a o hk
    rw [ha] at e
    cases e
    refine core (fun _=>none) (fun _=>.inl rfl) (.inr ⟨_,vs.toArray,_,hk,rfl,rfl,rfl,by rw [List.size_toArray,JX];exact hl,by simpa using rv⟩) (fun b u z=>by have z':(none:Option HO)=some u:=z;cases z') (fun b z=>absurd rfl z) fun z=>absurd rfl z
  | none=>
    refine core (fun b=>if b=a then some (.frz { cls:=.type "list",data:=.seq vs.toArray } (.lst (ns.map V.int))) else none) (fun b=>?_) (.inl (.inr ⟨{ cls:=.type "list",data:=.seq vs.toArray },if_pos rfl⟩)) (fun b u z=>?_) (fun b z=>?_) fun _=>hk
    · by_cases hb:b=a
      · exact .inr ⟨_,_,if_pos hb⟩
      · exact .inl (if_neg hb)
    · by_cases hb:b=a
      · have z':=(if_pos hb).symm.trans z
        cases z'
        subst hb
        exact ⟨ha,by rw [List.length_map];exact hl,vs,_,rv,ha⟩
      · have z':=(if_neg hb).symm.trans z
        cases z'
    · by_cases hb:b=a
      · exact hb
      · exact absurd (if_neg hb) z
abbrev KOf {K:PySem.W.Frag} {h:Heap} (_:K.In h):PySem.W.Frag:=K
theorem Bv {l:PySem.W.OpenLaw} {n k:Nat} {q:Program} {loose:List Str} {XP:(Str→Option Value)→Heap→Prop} {YP:World→Heap→Prop} {d:DefRec} {K:Params→PySem.W.Frag} {CX:World→CXT} {sp:World→Sp} {x:Str}
    (hn:l.most=some n) (hn2:n≤sizeLine) (hdf:d.params.defaults=[]) (hr:bR k callerA)
    (hY:∀ (w:World) (h:Heap),YP w h→(K w.params).In h)
    (F:∀ (w:World) (mg:Str→Option Value) (fa:Addr) (h:Heap),(K w.params).In h→h.Ns mainGlobals mg→mg d.name=some (.ref fa) →
      ∃ fd:FuncData,(∀ (s:Shared) (u:Value),BindsTo s fd ⟨[u],[]⟩ [(x,u)]) ∧
        ∀ base:Heap,(K w.params).In base→base.Ns mainGlobals mg→eE l.prog w (K w.params) mg base (CX w) k fa fd [x] (sp w))
    (hsp:∀ (w:World) (H:Hp) (a:Addr) (ns:List Int),ns.length≤n→D5 H→SqL (K w.params) H a (ns.map V.int)→sp w [.ref a] H (fun v _=>v = .bl true) fun _ _ _=>False)
    (hCX:∀ (w:World) (H:Hp) (s:Shared) (e:Value) (s':Shared),CX w [] H s (fun _ _ _=>False) e s'→False) :
    PySem.W.WalkO q loose XP YP l.row.toRowW d [] (fun f vs=>PySem.call f vs):=by
  refine Att.rE hn hdf fun w s₀ s₁ mg mb fa o pm cd doc a vs ns G Y ho hd hcd hmg hobj hints hlen hg=>?_
  have KX:=hY w _ Y
  obtain ⟨fd,hb,hF⟩:=F w mg fa _ KX G.T.g hmg
  exact Ai KX G.T.g G.T.b G.T.builtins G.T.nolimit hg hobj hints (Nat.le_trans hlen hn2) hr hF hb (fun H hO hS=>hsp w H a ns hlen hO hS) fun H e s'=>hCX w H s₁ e s'
def inClass (s:Stmt) (j:Nat):Stmt:=match s with
  | .ClassDef _ _ _ body _ _ _ _ _ _ _=>body.getD j (.Pass ⟨0,0,0,0⟩)
  | _=>.Pass ⟨0,0,0,0⟩
def bC (s:Stmt):Arguments:=match s with
  | .FunctionDef _ a _ _ _ _ _ _ _ _=>a
  | _=>{ posonlyargs:=[],args:=[],vararg:=none,kwonlyargs:=[],kw_defaults:=[],kwarg:=none,defaults:=[] }
def bf (s:Stmt):List Stmt:=match s with
  | .FunctionDef _ _ b _ _ _ _ _ _ _=>b
  | _=>[]
def aj (s:Stmt):Scope:=match s with
  | .FunctionDef _ _ _ _ _ _ sc _ _ _=>sc
  | _=>{ kind:=.function,names:=[],isGenerator:=false,isCoroutine:=false }
abbrev E0:XK:=fun _ _ _=>False
structure Fun (K:PySem.W.Frag) (x qual:Str) (st:Stmt) (f:Addr) (fd:FuncData):Prop where
  ex:∃ (oc:Value) (od:Option Addr) (kV doc pm:Value) (an:Option Addr) (cdv ct:Value) (osl:Array (Option Value)),
    fd=PySem.W.fnOf x qual (bC st) (bf st) (aj st) .none kV doc pm an cdv ct∧K.lookup f=some ⟨oc,od,.func fd,osl⟩∧PySem.W.codeIn K cdv qual=true
  kp:PySem.W.keepIn K (.ref f)=true
section
variable {P:Program} {w:World} {K:PySem.W.Frag} {mg:Str→Option Value} {base:Heap}
theorem Fun.binds {x qual:Str} {st:Stmt} {f:Addr} {fd:FuncData} {ps:List Str} (F:Fun K x qual st f fd)
    (h:∀ (kV doc pm:Value) (an:Option Addr) (cdv ct:Value) (us:List Value),us.length=ps.length→bindArgs (PySem.W.fnOf x qual (bC st) (bf st) (aj st) .none kV doc pm an cdv ct) ⟨us,[]⟩=pure (ps.zip us)):Binds K fd ps []:=by
  obtain ⟨oc,od,kV,doc,pm,an,cdv,ct,osl,rfl,lk,hcd⟩:=F.ex
  exact .all (h kV doc pm an cdv ct)
theorem oH {x qual:Str} {st:Stmt} {f:Addr} {oc:Value} {od an:Option Addr} {osl:Array (Option Value)} {kV doc pm cdv ct:Value} (l:K.lookup f=some ⟨oc,od,.func (PySem.W.fnOf x qual (bC st) (bf st) (aj st) .none kV doc pm an cdv ct),osl⟩)
    (c:PySem.W.codeIn K cdv qual=true) (k:PySem.W.keepIn K (.ref f)=true):Fun K x qual st f (PySem.W.fnOf x qual (bC st) (bf st) (aj st) .none kV doc pm an cdv ct):=⟨⟨oc,od,kV,doc,pm,an,cdv,ct,osl,rfl,l,c⟩,k⟩
end
theorem IE {A:Around} {k:Nat} (hr:bR k A):A.units+1 < cLine:=Nat.lt_of_le_of_lt (Nat.add_le_add_left (by decide : 1≤64) _) hr.units
theorem small1000 {n:Nat} (h:n≤1000):n < sizeLine:=Nat.lt_of_le_of_lt h (by decide)
section
variable {X:Cx}
theorem pv (i:Nat) {x:Str} {pos:Pos} (hN:X.N[i]?=some x:=by rfl) (hv:Vis X.env.scope x:=by first | exact Or.inl rfl | exact Or.inr (Or.inl rfl) | exact Or.inr (Or.inr rfl)) (hd:(x == ("__debug__" : Str))=false:=by decide)
    (hcd:(x == ("__classdict__" : Str))=false:=by decide):PE X (.Name x pos) (E1 i):=Fc hN hv hd hcd
end
theorem JZ {A B:Prop} (h:B):if false=true then A else B:=by
  rw [if_neg Bool.false_ne_true]
  exact h
theorem xr {c A B:Prop} [Decidable c] (h1:c→A) (h2:¬ c→B):if c then A else B:=by
  by_cases h:c
  · rw [if_pos h]
    exact h1 h
  · rw [if_neg h]
    exact h2 h
def aK (H H':Hp):Prop:=∀ b o,H b=some o→H' b=some o
theorem aK.refl (H:Hp):aK H H:=fun _ _ h=>h
theorem aK.trans {H H1 H2:Hp} (a:aK H H1) (b:aK H1 H2):aK H H2:=fun c o h=>b c o (a c o h)
theorem aK.free {H H':Hp} (e:aK H H') {l:Addr} (h:H' l=Option.none):H l=Option.none:=by
  cases q:H l with
  | none=>rfl
  | some o=>
    rw [e l o q] at h
    cases h
theorem aK.seq {K:PySem.W.Frag} {H H':Hp} {a:Addr} {xs:List V} (e:aK H H') (h:SqL K H a xs):SqL K H' a xs:=by
  rcases h with (h | ⟨o,h⟩) | h
  · exact .inl (.inl (e _ _ h))
  · exact .inl (.inr ⟨o,e _ _ h⟩)
  · exact .inr h
end L2
namespace L3
open PySem PySem.Spec PyProof.Rows L2
abbrev St:=L2.St
def bh (CX:CXT):Prop:=∀ outer H s e s',¬ CX outer H s E0 e s'
theorem bh.pass {CX:CXT} (n:bh CX) {X:Cx}:Passes CX X E0:=fun _ _ H s e s' _ h=>(n _ H s e s' h).elim
structure Cal (P:Program) (w:World) (K:PySem.W.Frag) (mg:Str→Option Value) (base:Heap) (CX:CXT) (x:Str) (k:Nat) (ps:List Str) (sp:Sp):Prop where
  ex:∃ f fd,eE P w K mg base CX k f fd ps sp∧Binds K fd ps []∧PySem.W.keepIn K (.ref f)=true∧mg x=some (.ref f)
structure Dat (K:PySem.W.Frag) (mg:Str→Option Value) (x qual:Str) (st:Stmt) (ps:List Str):Prop where
  ex:∃ f fd,Fun K x qual st f fd∧Binds K fd ps []∧mg x=some (.ref f)
section
variable {P:Program} {w:World} {K:PySem.W.Frag} {mg:Str→Option Value} {base:Heap} {CX:CXT} {x qual:Str} {st:Stmt} {N ps:List Str} {k j:Nat} {sp sp':Sp}
theorem Cal.imp (c:Cal P w K mg base CX x k ps sp) (h:∀ vs H Q E,sp' vs H Q E→sp vs H Q E):Cal P w K mg base CX x k ps sp':=by
  obtain ⟨f,fd,F,r⟩:=c.ex
  exact ⟨f,fd,F.imp h,r⟩
theorem kN {f:Addr} {fd:FuncData} (F:Fun K x qual st f fd) (S:aq N ps (aj st)) (len:∀ vs H Q E,sp vs H Q E→vs.length=ps.length)
    (hbody:∀ (f:Addr) (cdv:Value) (A:Around) (outer:List Env) (s:Shared) (H:Hp) (vs:List V) (Q:VK) (E:XK),bR k (A.deeper (envOfC qual (aj st) s.heap.objs.size f cdv))→sp vs H Q E →
      ∃ t,PSs (aZ CX P w K mg base N qual (aj st) f cdv A outer s H E).nox (bf st) t∧t { nx:=fun _ H'=>Q .non H',rt:=Q } (start N vs) H):eE P w K mg base CX (k+1) f fd ps sp:=by
  obtain ⟨oc,od,kV,doc,pm,an,cdv,ct,osl,rfl,lk,hcd⟩:=F.ex
  refine qV lk hcd S len fun A outer s H vs Q E hr hsp=>?_
  obtain ⟨t,h,q⟩:=hbody f cdv A outer s H vs Q E hr hsp
  exact ⟨t,h.nox,q⟩
theorem Dat.ok (D:Dat K mg x qual st ps) (S:aq N ps (aj st)) (len:∀ vs H Q E,sp vs H Q E→vs.length=ps.length)
    (hbody:∀ (f:Addr) (cdv:Value) (A:Around) (outer:List Env) (s:Shared) (H:Hp) (vs:List V) (Q:VK) (E:XK),bR k (A.deeper (envOfC qual (aj st) s.heap.objs.size f cdv))→sp vs H Q E →
      ∃ t,PSs (aZ CX P w K mg base N qual (aj st) f cdv A outer s H E).nox (bf st) t∧t { nx:=fun _ H'=>Q .non H',rt:=Q } (start N vs) H):Cal P w K mg base CX x (k+1) ps sp:=by
  obtain ⟨f,fd,F,b,m⟩:=D.ex
  exact ⟨f,fd,kN F S len hbody,b,F.kp,m⟩
theorem Dat.okX (D:Dat K mg x qual st ps) (S:aq N ps (aj st)) (len:∀ vs H Q E,sp vs H Q E→vs.length=ps.length)
    (hbody:∀ (f:Addr) (cdv:Value) (A:Around) (outer:List Env) (s:Shared) (H:Hp) (vs:List V) (Q:VK) (E:XK),bR k (A.deeper (envOfC qual (aj st) s.heap.objs.size f cdv))→sp vs H Q E →
      ∃ t,PSs (aZ CX P w K mg base N qual (aj st) f cdv A outer s H E) (bf st) t∧t { nx:=fun _ H'=>Q .non H',rt:=Q } (start N vs) H):Cal P w K mg base CX x (k+1) ps sp:=by
  obtain ⟨f,fd,F,b,m⟩:=D.ex
  have kp:=F.kp
  obtain ⟨oc,od,kV,doc,pm,an,cdv,ct,osl,rfl,lk,hcd⟩:=F.ex
  refine ⟨f,_,qV lk hcd S len fun A outer s H vs Q E hr hsp=>?_,b,kp,m⟩
  exact hbody f cdv A outer s H vs Q E hr hsp
theorem dat_mk {h:Heap} (X:K.In h) (G:h.Ns mainGlobals mg) {f:Addr} {oc:Value} {od an:Option Addr} {osl:Array (Option Value)} {kV doc pm cdv ct:Value} (a:PySem.W.nsIn K mainGlobals x=some (some (.ref f)))
    (l:K.lookup f=some ⟨oc,od,.func (PySem.W.fnOf x qual (bC st) (bf st) (aj st) .none kV doc pm an cdv ct),osl⟩) (c:PySem.W.codeIn K cdv qual=true) (kp:PySem.W.keepIn K (.ref f)=true)
    (b:∀ (kV doc pm:Value) (an:Option Addr) (cdv ct:Value) (us:List Value),us.length=ps.length→bindArgs (PySem.W.fnOf x qual (bC st) (bf st) (aj st) .none kV doc pm an cdv ct) ⟨us,[]⟩=pure (ps.zip us)):Dat K mg x qual st ps:=by
  have F:=oH (st:=st) l c kp
  exact ⟨f,_,F,F.binds b,PySem.W.mg_of X G a⟩
end
section
variable {X:Cx} {CX:CXT} {k:Nat} {ps:List Str} {sp:Sp} {E:XK} {x:Str} {p pos:Pos} {e:Expr} {es:List Expr} {t:TA}
theorem aI (C:Cal X.prog X.w X.K X.mg X.base CX x k ps sp) (hr:bR k X.A) (hx:Passes CX X E) (ha:PA X (e::es) t) (hg:Gl X x:=by rfl)
    (hdb:(x == ("__debug__" : Str))=false:=by decide) (he:starEach (e::es) X.env=(false,eval e X.env)::starEach es X.env:=by rfl) (hpl:(backTo pos (starEach es X.env)).any (·.1)=false:=by rfl) :
    PE X (.Call (.Name x p) (e::es) [] pos) (uV sp [] E t):=by
  obtain ⟨f,fd,F,b,kp,m⟩:=C.ex
  exact Cm F hr hg m kp b .nil hx ha hdb he hpl
end
def b7 (cells:List (Str×Addr)):List (Str×NameKind)→List (Str×Addr)→List (Str×Addr)
  | [],acc=>acc
  | (n,k)::r,acc=>if k == .free then (match cells.lookup n with | some a=>b7 cells r ((n,a)::acc) | none=>b7 cells r acc) else b7 cells r acc
theorem iO {env:Env}:∀ (l:List (Str×NameKind)) (acc:List (Str×Addr)),(∀ y∈l,y.2 = .free→∃ c,env.cells.lookup y.1=some c) →
    (forIn l acc (fun (y:Str×NameKind) cs=>do
      if y.2 == .free then let c ← cellOf env y.1;pure (ForInStep.yield ((y.1,c)::cs)) else pure (ForInStep.yield cs)):Sem (List (Str×Addr)))=pure (b7 env.cells l acc)
  | [],acc,_=>rfl
  | (n,k)::r,acc,h=>by
    have ih:=fun acc=>iO (env:=env) r acc fun y hy=>h y (List.mem_cons_of_mem _ hy)
    rw [List.forIn_cons]
    cases hk:k == NameKind.free with
    | true=>
      have ek:k = .free:=by simpa using hk
      obtain ⟨c,hc⟩:=h (n,k) List.mem_cons_self ek
      have e1:cellOf env n=pure c:=by unfold cellOf;rw [hc]
      simp only [hk,if_true,e1,pure_bind]
      rw [ih]
      simp only [b7,hk,if_true,hc]
    | false=>
      simp only [hk,Bool.false_eq_true,if_false,pure_bind]
      rw [ih]
      simp only [b7,hk,Bool.false_eq_true,if_false]
theorem mX {scope:Scope} {env:Env} (h:∀ y∈scope.names,y.2 = .free→∃ c,env.cells.lookup y.1=some c):closureFor scope env=pure (b7 env.cells scope.names []):=by
  unfold closureFor
  have e:=iO (env:=env) scope.names [] h
  have:(forIn scope.names ([]:List (Str×Addr)) (fun (y:Str×NameKind) cs=>do
      if y.2 == .free then let c ← cellOf env y.1;pure (ForInStep.yield ((y.1,c)::cs)) else pure (ForInStep.yield cs)):Sem (List (Str×Addr))) >>= (fun cs=>pure cs)=pure (b7 env.cells scope.names []):=by rw [e];rfl
  exact this
theorem d9 {cells:List (Str×Addr)}:∀ (l:List (Str×NameKind)) (acc:List (Str×Addr)) {x:Str} {c:Addr},(b7 cells l acc).lookup x=some c→acc.lookup x=some c∨(cells.lookup x=some c∧(x,NameKind.free)∈l)
  | [],acc,x,c,h=>.inl h
  | (n,k)::r,acc,x,c,h=>by
    unfold b7 at h
    cases hk:k == NameKind.free with
    | true=>
      have ek:k = .free:=by simpa using hk
      subst ek
      rw [if_pos hk] at h
      cases hc:cells.lookup n with
      | none=>
        rw [hc] at h
        rcases d9 r acc h with z | z
        · exact .inl z
        · exact .inr ⟨z.1,List.mem_cons_of_mem _ z.2⟩
      | some a=>
        rw [hc] at h
        rcases d9 r _ h with z | z
        · rw [List.lookup_cons] at z
          cases hx:x == n with
          | true=>
            rw [hx] at z
            have:x=n:=by simpa using hx
            subst this
            cases z
            exact .inr ⟨hc,List.mem_cons_self⟩
          | false=>rw [hx] at z;exact .inl z
        · exact .inr ⟨z.1,List.mem_cons_of_mem _ z.2⟩
    | false=>
      rw [if_neg (by rw [hk];exact Bool.false_ne_true)] at h
      rcases d9 r acc h with z | z
      · exact .inl z
      · exact .inr ⟨z.1,List.mem_cons_of_mem _ z.2⟩
theorem fC {cells:List (Str×Addr)}:∀ (l:List (Str×NameKind)) (acc:List (Str×Addr)) {x:Str},(∃ c,acc.lookup x=some c)→∃ c,(b7 cells l acc).lookup x=some c
  | [],_,_,h=>h
  | (n,k)::r,acc,x,h=>by
    unfold b7
    split
    · split
      · refine fC r _ ?_
        rw [List.lookup_cons]
        split
        · exact ⟨_,rfl⟩
        · exact h
      · exact fC r acc h
    · exact fC r acc h
theorem dj {cells:List (Str×Addr)}:∀ (l:List (Str×NameKind)) (acc:List (Str×Addr)) {x:Str},(x,NameKind.free)∈l→(∃ c,cells.lookup x=some c)→∃ c,(b7 cells l acc).lookup x=some c
  | [],_,_,h,_=>by simp at h
  | (n,k)::r,acc,x,h,hc=>by
    unfold b7
    rcases List.mem_cons.mp h with e | h
    · cases e
      obtain ⟨c,hc⟩:=hc
      rw [if_pos (by decide),hc]
      exact fC r _ ⟨c,by rw [List.lookup_cons];simp⟩
    · split
      · split
        · exact dj r _ h hc
        · exact dj r _ h hc
      · exact dj r _ h hc
def kY (N own:List Str) (cap:List Nat):List Str:=own++cap.map fun j=>N.getD j Str.empty
def uD (own:Nat) (cap:List Nat) (σ : St):St:=List.replicate own none++cap.map fun j=>(σ[j]?).join
structure Blk (X:Cx) (scope:Scope) (own:List Str) (cap:List Nat):Prop where
  kind:scope.kind = .function
  nocell:∀ y∈scope.names,y.2≠.cell
  names:∀ y∈scope.names,y.2 = .local→scope.names.lookup y.1=some .local
  free:∀ y∈scope.names,y.2 = .free→X.env.kindOf y.1=some .cell
  nd:(kY X.N own cap).Nodup
  caps:∀ j∈cap,∃ x,X.N[j]?=some x∧(x,NameKind.free)∈scope.names∧scope.names.lookup x=some .free
def blk (X:Cx) (scope:Scope) (own:List Str) (cap:List Nat) (C:Addr) (s:Shared) (H:Hp) (fp:List Addr):Cx:=
  { prog:=X.prog,w:=X.w,K:=X.K,mg:=X.mg,base:=X.base,A:=X.A,N:=kY X.N own cap,s₀:=s,H₀:=H,env:=compEnvC scope (b7 X.env.cells scope.names []) C X.env,outer:=X.stack,stack:=X.stack,
    ex:=fp,fn:=fun _=>false,calm:=true,pn:=[],xe:=fun _ _=>False }
theorem cF {env:Env}:∀ {names:List (Str×NameKind)} {x:Str},env.scope.kind = .function→env.kindOf x=some .cell→names.lookup x=some .free →
    (names.map fun (n,k)=>if (k == NameKind.free && env.scope.kind == .function && env.kindOf n == some .cell) then (n,NameKind.cell) else (n,k)).lookup x=some .cell
  | [],_,_,_,h=>by simp at h
  | (n,k)::r,x,hf,hc,h=>by
    have ih:=@cF env r x hf hc
    show List.lookup x ((if (k == NameKind.free && env.scope.kind == .function && env.kindOf n == some .cell)=true then (n,NameKind.cell) else (n,k))::_)=_
    cases hx:x == n with
    | true=>
      have e:x=n:=by simpa using hx
      subst e
      simp only [List.lookup_cons,hx] at h
      cases h
      rw [if_pos (by simp [hf,hc])]
      simp [List.lookup_cons]
    | false=>
      simp only [List.lookup_cons,hx] at h
      split
      · simp only [List.lookup_cons,hx];exact ih h
      · simp only [List.lookup_cons,hx];exact ih h
theorem iy {env:Env}:∀ {names:List (Str×NameKind)} {x:Str},(∀ y∈names,y.2≠.cell) →
    ((names.map fun (n,k)=>if (k == NameKind.free && env.scope.kind == .function && env.kindOf n == some .cell) then (n,NameKind.cell) else (n,k)).lookup x=some .cell ∨
     (names.map fun (n,k)=>if (k == NameKind.free && env.scope.kind == .function && env.kindOf n == some .cell) then (n,NameKind.cell) else (n,k)).lookup x=some .free)→(x,NameKind.free)∈names
  | [],_,_,h=>by simp at h
  | (n,k)::r,x,hn,h=>by
    have ih:=@iy env r x fun y hy=>hn y (List.mem_cons_of_mem _ hy)
    have hk:k≠.cell:=hn (n,k) List.mem_cons_self
    rw [List.map_cons] at h
    cases hx:x == n with
    | true=>
      have e:x=n:=by simpa using hx
      subst e
      by_cases hf:k = .free
      · subst hf;exact List.mem_cons_self
      · exfalso
        have hb:(k == NameKind.free)=false:=by simpa using hf
        simp only [hb,Bool.false_and,Bool.false_eq_true,if_false,List.lookup_cons,beq_self_eq_true,Option.some.injEq] at h
        rcases h with h | h
        · exact hk h
        · exact hf h
    | false=>
      refine List.mem_cons_of_mem _ (ih ?_)
      by_cases hc:(k == NameKind.free && env.scope.kind == .function && env.kindOf n == some .cell)=true
      · simp only [hc,if_true,List.lookup_cons,hx] at h;exact h
      · simp only [Bool.not_eq_true] at hc
        simp only [hc,Bool.false_eq_true,if_false,List.lookup_cons,hx] at h;exact h
section
variable {X:Cx} {pins:List (Addr×Obj)} {σ : St} {H:Hp} {s:Shared} {scope:Scope} {own:List Str} {cap:List Nat} {fp:List Addr}
theorem Blk.cells (B:Blk X scope own cap) (ok:X.Ok):∀ y∈scope.names,y.2 = .free→∃ c,X.env.cells.lookup y.1=some c:=fun y hy hf=>ok.has y.1 (.inl (B.free y hy hf))
theorem Inv.enter {C:Addr} {h4:Heap} {m:Str→Option Value} {t':Nat} (I:Inv X pins σ H s) (hc:X.calm=true) (B:Blk X scope own cap) (f2:∀ b∈fp,ly X pins H b) (flt:∀ b∈fp,b < s.heap.objs.size)
    (k:∀ b o,s.heap.get? b=some o→h4.get? b=some o) (hC:s.heap.objs.size≤C) (hn:h4.Ns C m) (pl:List (Addr×Obj)) (hpl:∀ p∈pl,h4.get? p.1=some p.2∧s.heap.objs.size≤p.1∧p.1≠C∧∀ v,p.2.data≠.cell v) :
    Inv (blk X scope own cap C s H fp) pl (uD own.length cap σ) H { s with heap:=h4,toks:=t' }:=by
  have cls:∀ x c,(b7 X.env.cells scope.names []).lookup x=some c→X.env.cells.lookup x=some c∧(x,NameKind.free)∈scope.names:=fun x c e=>(d9 _ _ e).elim (fun z=>by simp at z) fun z=>z
  refine ⟨⟨I.ok.mod,B.kind,I.ok.glob,I.ok.blt,hC,fun x y c e1 e2=>I.ok.inj x y c (cls x c e1).1 (cls y c e2).1,fun x hx=>?_,fun x c hf _=>(Bool.false_ne_true hf).elim,fun _=>I.ok.hd hc,I.ok.frames,.inl rfl,
    fun b hb=>⟨Nat.ne_of_lt (Nat.lt_of_lt_of_le (flt b hb) hC),fun x c e=>(f2 b hb).2.2.2.2.1 x c (cls x c e).1⟩,I.bs,Nat.le_trans I.ok.bsz I.sz,fun b o e hb=>?_,fun b hb hfs=>?_,I.stack,I.nE⟩,
    rfl,I.bare,Un.kept k,⟨m,hn,fun i x v e1 e2 e3=>?_⟩,fun x c e=>?_,I.hok.fresh hC,fun x c e=>I.freeC x c (cls x c e).1,fun p hp=>?_,I.hok.kept k,?_⟩
  · have hx':((relabel scope X.env).names.lookup x=some .cell∨(relabel scope X.env).names.lookup x=some .free):=hx
    have hf:=iy B.nocell hx'
    exact dj _ _ hf (B.cells I.ok _ hf rfl)
  · rcases (f2 b hb).2.2.2.1 with z | z
    · exact I.ok.noex b o e z
    · exact absurd (Nat.lt_of_lt_of_le (Heap.lt_size e) (Nat.le_trans I.ok.bsz z)) (Nat.lt_irrefl _)
  · rcases List.mem_cons.mp (I.nB b hfs) with z | z
    · exact (f2 b hb).2.1 z
    · exact (f2 b hb).2.2.1 z
  · -- the names
    have e2':(List.replicate own.length (none:Option V)++cap.map fun j=>(σ[j]?).join)[i]?=some (some v):=e2
    have e1':(own++cap.map fun j=>X.N.getD j Str.empty)[i]?=some x:=e1
    by_cases hi:i < own.length
    · rw [List.getElem?_append_left (by simpa using hi),List.getElem?_replicate,if_pos hi] at e2'
      cases e2'
    · rw [List.getElem?_append_right (by simpa using hi),List.getElem?_map] at e2'
      rw [List.getElem?_append_right (by simpa using hi),List.getElem?_map] at e1'
      rw [List.length_replicate] at e2'
      cases hj:cap[i - own.length]? with
      | none=>rw [hj] at e2';cases e2'
      | some j=>
        rw [hj] at e1' e2'
        have GP:X.N.getD j Str.empty=x:=Option.some.inj e1'
        have oM:(σ[j]?).join=some v:=Option.some.inj e2'
        obtain ⟨y,hy,hm,hl⟩:=B.caps j (List.mem_of_getElem? hj)
        have exy:x=y:=by rw [← GP,List.getD_eq_getElem?_getD,hy];rfl
        subst exy
        have hσ : σ[j]?=some (some v):=by
          cases q : σ[j]? with
          | none=>rw [q] at oM;cases oM
          | some z=>rw [q] at oM;rw [show z=some v from oM]
        have kc:=B.free _ hm rfl
        obtain ⟨m0,hn0,hl0⟩:=I.loc
        obtain ⟨u,r,lk⟩:=hl0 j x v hy hσ (.inr (.inl kc))
        refine ⟨u,r,.inr ⟨.inl (cF I.ok.kind kc hl),?_⟩⟩
        rcases lk with ⟨k1,_⟩ | ⟨_,c,hc1,o,ho,hd⟩
        · rw [kc] at k1;cases k1
        · obtain ⟨c',hc'⟩:=dj (cells:=X.env.cells) scope.names [] hm ⟨c,hc1⟩
          have:=(cls x c' hc').1
          rw [hc1] at this;cases this
          exact ⟨c,hc',o,k c o ho,hd⟩
  · obtain ⟨v,o,ho,hd⟩:=I.cell x c (cls x c e).1
    exact ⟨v,o,k c o ho,hd⟩
  · have hp':p∈pl:=hp
    obtain ⟨h1,h2,h3,h5⟩:=hpl p hp'
    refine ⟨h1,I.hok.fresh h2,h3,fun hfs=>?_,h5⟩
    rcases List.mem_cons.mp (I.nB p.1 hfs) with z | z
    · exact absurd (Nat.lt_of_lt_of_le I.lt h2) (by rw [z];exact Nat.lt_irrefl _)
    · exact I.IB h2 z
  · show (List.replicate own.length (none:Option V)++cap.map fun j=>(σ[j]?).join).length=(own++cap.map fun j=>X.N.getD j Str.empty).length
    simp
theorem Inv.leave {C D:Addr} {s':Shared} {h':Heap} {H':Hp} {σ':St} {ys:List V} {its:List Value} {n:Nat} (I:Inv X pins σ H s) (f2:∀ b∈fp,ly X pins H b) (hC:s.heap.objs.size≤C) (hD:s.heap.objs.size≤D) (hDC:D≠C)
    (J:Inv (blk X scope own cap C s H fp) [(D,{ cls:=.type "list",data:=.seq its.toArray n })] σ' H' s') (hs:Heap.SameBut C s'.heap h') (r:Vals ys its) (hz:ys.length≤sizeLine) :
    Inv X pins σ (upd H' D (.lst ys)) { s' with heap:=h' }:=by
  obtain ⟨eD,nD,_,_,_⟩:=J.pin (D,{ cls:=.type "list",data:=.seq its.toArray n }) (List.mem_append_right _ (List.mem_singleton.mpr rfl))
  have HD:H D=none:=I.hok.fresh hD
  have nC:H' C=none:=J.free
  have neC:∀ b o,s.heap.get? b=some o→b≠C:=fun b o e=>Nat.ne_of_lt (Nat.lt_of_lt_of_le (Heap.lt_size e) hC)
  have neD:∀ b o,s.heap.get? b=some o→b≠D:=fun b o e=>Nat.ne_of_lt (Nat.lt_of_lt_of_le (Heap.lt_size e) hD)
  have J0:Un (frs X.stack) fp H H' s.heap s'.heap:=J.base
  have u:Un (frs X.stack) fp H (upd H' D (.lst ys)) s.heap h':=by
    refine ⟨fun b o e n hb hx=>?_,fun b o e n hb hx=>?_,fun b o e n hx=>?_,fun b o e hx=>?_,fun b xs e=>?_,fun b o xs e=>?_,fun b ps e=>?_⟩
    · exact (hs.2 b (neC b o e)).trans (J0.keep b o e n hb hx)
    · obtain ⟨sl,q⟩:=J0.slot b o e n hb hx
      exact ⟨sl,(hs.2 b (neC b o e)).trans q⟩
    · rw [aB (neD b o e)];exact J0.free b o e n hx
    · obtain ⟨o',q⟩:=J0.there b o e hx
      exact ⟨o',(hs.2 b (neC b o e)).trans q⟩
    · rw [aB (aG e HD)];exact J0.tups b xs e
    · rw [aB (aG e HD)];exact J0.gE b o xs e
    · rw [aB (aG e HD)];exact J0.gM b ps e
  have hok:HOk X.prog X.w (upd H' D (.lst ys)) h':=fun b o e=>by
    by_cases hb:b=D
    · subst hb
      rw [ay] at e;cases e
      exact ⟨hz,its,n,r,(hs.2 b hDC).trans eD⟩
    · rw [aB hb] at e
      refine (J.hok b o e).stay (fun c v hc q=>(hs.2 c ?_).trans q) (fun c q=>?_) fun c xs q=>?_
      · rcases hc with rfl | hc
        · exact aG e nC
        · exact aG hc nC
      · rw [aB (aG q nD)];exact q
      · rw [aB (aG q nD)];exact q
  obtain ⟨hh,g,d,t,os⟩:=s'
  have eos:os=s.os:=J.os
  subst eos
  exact Inv.call (s:=s) (h':=h') (g':=g) (d':=d) (t':=t) (ch:=fp) I u hok J.bare fun b hb=>⟨(f2 b hb).2.2.2.1,(f2 b hb).2.1,fun x c e=>(f2 b hb).2.2.2.2.1 x c e,(f2 b hb).2.2.2.2.2⟩
end
section
variable {X:Cx} {pins:List (Addr×Obj)} {σ : St} {H:Hp} {s:Shared} {scope:Scope} {own:List Str} {cap:List Nat} {fp:List Addr}
theorem Inv.again {C:Addr} {pl:List (Addr×Obj)} {σ2:St} {H3:Hp} {s3:Shared} (I:Inv X pins σ H s) (B:Blk X scope own cap) (f2:∀ b∈fp,ly X pins H b) (J:Inv (blk X scope own cap C s H fp) pl σ2 H3 s3) :
    Inv (blk X scope own cap C s H fp) pl (uD own.length cap σ) H3 s3:=by
  obtain ⟨m,hn,_⟩:=J.loc
  refine ⟨J.ok,J.os,J.bare,J.base,⟨m,hn,fun i x v e1 e2 e3=>?_⟩,J.cell,J.free,J.freeC,J.pin,J.hok,?_⟩
  · have e2':(List.replicate own.length (none:Option V)++cap.map fun j=>(σ[j]?).join)[i]?=some (some v):=e2
    have e1':(own++cap.map fun j=>X.N.getD j Str.empty)[i]?=some x:=e1
    by_cases hi:i < own.length
    · rw [List.getElem?_append_left (by simpa using hi),List.getElem?_replicate,if_pos hi] at e2'
      cases e2'
    · rw [List.getElem?_append_right (by simpa using hi),List.getElem?_map] at e2'
      rw [List.getElem?_append_right (by simpa using hi),List.getElem?_map] at e1'
      rw [List.length_replicate] at e2'
      cases hj:cap[i - own.length]? with
      | none=>rw [hj] at e2';cases e2'
      | some j=>
        rw [hj] at e1' e2'
        have GP:X.N.getD j Str.empty=x:=Option.some.inj e1'
        have oM:(σ[j]?).join=some v:=Option.some.inj e2'
        obtain ⟨y,hy,hm,hl⟩:=B.caps j (List.mem_of_getElem? hj)
        have exy:x=y:=by rw [← GP,List.getD_eq_getElem?_getD,hy];rfl
        subst exy
        have hσ : σ[j]?=some (some v):=by
          cases q : σ[j]? with
          | none=>rw [q] at oM;cases oM
          | some z=>rw [q] at oM;rw [show z=some v from oM]
        have kc:=B.free _ hm rfl
        obtain ⟨m0,hn0,hl0⟩:=I.loc
        obtain ⟨u,r,lk⟩:=hl0 j x v hy hσ (.inr (.inl kc))
        refine ⟨u,r,.inr ⟨.inl (cF I.ok.kind kc hl),?_⟩⟩
        rcases lk with ⟨k1,_⟩ | ⟨_,c,hc1,o,ho,hd⟩
        · rw [kc] at k1;cases k1
        · obtain ⟨c',hc'⟩:=dj (cells:=X.env.cells) scope.names [] hm ⟨c,hc1⟩
          have:=((d9 _ _ hc').elim (fun z=>by simp at z) fun z=>z.1:X.env.cells.lookup x=some c')
          rw [hc1] at this;cases this
          have J0:Un (frs X.stack) fp H H3 s.heap s3.heap:=J.base
          obtain ⟨sl,q⟩:=J0.any ho (I.freeC x c hc1) fun z=>(f2 c z).2.2.2.2.1 x c hc1 rfl
          exact ⟨c,hc',_,q,hd⟩
  · show (List.replicate own.length (none:Option V)++cap.map fun j=>(σ[j]?).join).length=(own++cap.map fun j=>X.N.getD j Str.empty).length
    simp
end
theorem rf {prog:Program} {w:World} {A:Around} {R:Result→Shared→Prop} {s:Shared} {elt target iter:Expr} {ifs:List Expr} {scope:Scope} {pos:Pos} {it acc:Value} {env:Env} (I:Nat→Shared→Prop)
    (turn:∀ n s,I n s→wpAny (model prog w) A (pyNext it) (fun r s₁=>match r with
      | none=>R (.ok .next) s₁
      | some v=>wpAny (model prog w) A (letOwnedTupleGo target it v) (fun _ s₁'=>wpAny (model prog w) A (assign target env v) (fun _ s₂=>
          wpAny (model prog w) A (forIn ifs true fun c r=>if r=true then do let ok ← isTrue c env (eval c env);pure (ForInStep.yield ok) else pure (ForInStep.yield r)) (fun ok s₃=>
            if ok=true then wpAny (model prog w) A (eval elt env) (fun x s₄=>
              wpAny (model prog w) A (call (.builtin "list.append") [acc,x]) (fun _ s₅=>∃ m,m < n∧I m s₅) (fun _ _=>False) s₄) (fun _ _=>False) s₃
            else ∃ m,m < n∧I m s₃) (fun _ _=>False) s₂) (fun _ _=>False) s₁') (fun _ _=>False) s₁) (fun _ _=>False) s)
    (n:Nat) (h:I n s) :
    codeAny (model prog w) A (.compLoop (.ListComp elt [⟨target,iter,ifs,0⟩] scope pos) 0 it acc env) R s:=by
  refine codeAny_loop rfl I (fun n s hI=>?_) n h
  show wpAny _ A ((compTurn (.ListComp elt [⟨target,iter,ifs,0⟩] scope pos) 0 it acc env).onRaise (fun x=>do noteFrame x env;theTreesLotGoes x)) _ _ s
  refine wpAny_noted ?_
  rw [compTurn_list]
  refine wpAny_bind (wpAny_standAt (wpAny_bind (wpAny_mono (turn n s hI) (fun r s₁ h₁=>?_) fun _ _ z=>z.elim)))
  cases r with
  | none=>exact wpAny_pure h₁
  | some v=>
    refine wpAny_bind (wpAny_mono h₁ (fun _ s₁' h₁'=>?_) fun _ _ z=>z.elim)
    refine wpAny_bind (wpAny_mono h₁' (fun _ s₂ h₂=>wpAny_bind (wpAny_mono h₂ (fun ok s₃ h₃=>?_) fun _ _ z=>z.elim)) fun _ _ z=>z.elim)
    cases ok with
    | false=>exact wpAny_pure ⟨rfl,h₃⟩
    | true=>
      exact wpAny_bind (wpAny_bind (wpAny_mono h₃ (fun x s₄ h₄=>wpAny_bind (wpAny_mono h₄ (fun _ s₅ h₅=>wpAny_pure (wpAny_pure ⟨rfl,h₅⟩)) fun _ _ z=>z.elim)) fun _ _ z=>z.elim))
def Bg (X:Cx) (ifs:List Expr) (tc:TT):Prop:=
  ∀ (pins:List (Addr×Obj)) (s:Shared) (σ : St) (H:Hp) (Q:Bool→Hp→Prop),Inv X pins σ H s→tc σ H Q →
    wpAny (model X.prog X.w) X.A (forIn ifs true fun c r=>if r=true then do let ok ← isTrue c X.env (eval c X.env);pure (ForInStep.yield ok) else pure (ForInStep.yield r)) (TP X pins σ Q) X.xe s
def HZ:TT:=fun _ H Q=>Q true H
theorem eT {X:Cx}:Bg X [] HZ:=fun _ _ _ H _ I h=>wpAny_tests_nil ⟨H,I,h⟩
theorem ql {X:Cx} {c:Expr} {tc:TT} (h:PT X c tc):Bg X [c] tc:=fun pins s σ H Q I hw=>wpAny_tests_one (h pins s σ H Q I hw)
def rS (J:It) (W:Nat→Nat→List V→Hp→Prop) (D:List V→Hp→Prop) (σb:St) (g:TG) (tc:TT) (te:TE):Prop:=
  ∀ i m ys H,W i m ys H→ys.length≤sizeLine ∧
    ((J.stop i H∧D ys H)∨(J.go i H∧∃ N:List V→Hp→Prop,(∀ ys' H',N ys' H'→∃ m',m' < m∧W (i+1) m' ys' H')∧∀ x H',J.yld i H x H'→g x σb H' fun σ2 H2=>tc σ2 H2 fun b H3=>
      if b=true then te σ2 H3 fun y H4=>N (ys++[y]) H4 else N ys H3))
def uU (wi:TI) (own:Nat) (cap:List Nat) (g:TG) (tc:TT) (te:TE):TE:=fun σ H Q=>wi σ H fun J H1=>∃ W:Nat→Nat→List V→Hp→Prop,(∃ m,W 0 m [] H1) ∧
  rS J W (fun ys H=>∀ p,H p=none→Q (.ref p) (upd H p (.lst ys))) (uD own cap σ) g tc te
section
variable {X:Cx} {scope:Scope} {own:List Str} {cap:List Nat} {tg elt iter:Expr} {ifs:List Expr} {pos:Pos} {wi:TI} {g:TG} {tc:TT} {te:TE}
theorem kR (B:Blk X scope own cap) (hc:X.calm=true) (hg:∀ C s H fp,PG (blk X scope own cap C s H fp) tg g) (ht:∀ C s H fp,Bg (blk X scope own cap C s H fp) ifs tc) (he:∀ C s H fp,PE (blk X scope own cap C s H fp) elt te)
    {pins:List (Addr×Obj)} {s2:Shared} {σ : St} {H2:Hp} {it:Addr} {fp:List Addr} {tn:Nat→Heap→Prop} {J:It} {W:Nat→Nat→List V→Hp→Prop} {D:List V→Hp→Prop} {m0:Nat} {E:Value→Shared→Prop} {RR:Value→Addr→Result→Shared→Prop}
    (I2:Inv X pins σ H2 s2) (T:Turn X.prog X.w X.K tg J fp it tn) (st2:tn 0 s2.heap) (f2:∀ b∈fp,ly X pins H2 b) (w0:W 0 m0 [] H2) (turn:rS J W D (uD own.length cap σ) g tc te)
    (done:∀ (C L:Addr) (s':Shared) (H':Hp) (σ':St) (ys:List V) (its:List Value) (n:Nat),s2.heap.objs.size≤C→s2.heap.objs.size≤L→L≠C→Inv (blk X scope own cap C s2 H2 fp) [(L,{ cls:=.type "list",data:=.seq its.toArray n })] σ' H' s'→Vals ys its→ys.length≤sizeLine→D ys H' →
      RR (.ref L) C (.ok .next) s') :
    wpAny (model X.prog X.w) X.A (newList []) (fun acc s₃=>wpAny (model X.prog X.w) X.A (newFunctionEnv scope X.env.globals (b7 X.env.cells scope.names []) [] X.env.qual none .none (some X.env)) (fun cenv s₄=>
      codeAny (model X.prog X.w) X.A (.compStart (.ListComp elt [⟨tg,iter,ifs,0⟩] scope pos) 0 (.ref it) acc { cenv with scope:=relabel scope X.env }) (RR acc cenv.locals) s₄) E s₃) E s2:=by
  refine wpAny_newObj_type (wpAny_newFunctionEnv B.nocell (by intro y hy;simp at hy) (fun h₁ hns₁ hsb₁=>?_) B.kind)
  dsimp only at hns₁ hsb₁ ⊢
  have flt:∀ b∈fp,b < s2.heap.objs.size:=fun b hb=>by
    obtain ⟨o,e,_⟩:=T.obj _ _ st2 b hb
    exact Heap.lt_size e
  generalize hH2:s2.heap.push { cls:=.type "list",dict:=none,data:=.seq ([]:List Value).toArray }=G2 at hns₁ hsb₁ ⊢
  have hCs:G2.objs.size=s2.heap.objs.size+1:=by rw [← hH2,Heap.size_push]
  have hC:s2.heap.objs.size≤G2.objs.size:=by rw [hCs];exact Nat.le_succ _
  have hDC:s2.heap.objs.size≠G2.objs.size:=by rw [hCs];exact Nat.ne_of_lt (Nat.lt_succ_self _)
  have old:∀ b o,s2.heap.get? b=some o→h₁.get? b=some o:=fun b o e=>
    hsb₁.extBut b o (Nat.ne_of_lt (Nat.lt_of_lt_of_le (Heap.lt_size e) hC)) (Heap.get?_push_of_some _ (hH2▸Heap.get?_push_of_some _ e))
  have hacc:h₁.get? s2.heap.objs.size=some { cls:=.type "list",data:=.seq ([]:List Value).toArray 0 }:=hsb₁.extBut _ _ hDC (Heap.get?_push_of_some _ (hH2▸Heap.get?_push_size _ rfl))
  have loop:∀ s₃ : Shared,s₃={ s2 with heap:=h₁,toks:=s2.toks+([]:List (Str×Value)).length } →
      codeAny (model X.prog X.w) X.A (.compLoop (.ListComp elt [⟨tg,iter,ifs,0⟩] scope pos) 0 (.ref it) (.ref s2.heap.objs.size) (compEnvC scope (b7 X.env.cells scope.names []) G2.objs.size X.env))
        (RR (.ref s2.heap.objs.size) G2.objs.size) s₃:=by
    rintro s₃ rfl
    refine rf (fun n s'=>∃ i ys its nn H',Inv (blk X scope own cap G2.objs.size s2 H2 fp) [(s2.heap.objs.size,{ cls:=.type "list",data:=.seq (its:List Value).toArray nn })] (uD own.length cap σ) H' s'∧tn i s'.heap∧(∀ b∈fp,H' b=none)∧Vals ys its∧W i n ys H')
      ?_ m0 ⟨0,[],[],0,H2,L3.Inv.enter I2 hc B f2 flt old hC hns₁ _ (fun p hp=>?_),T.keep _ _ _ st2 (fun b _ o e=>old b o e),fun b hb=>(f2 b hb).1,.nil,w0⟩
    · rintro n s3 ⟨i,ys,its,nn,H3,J3,st3,fr3,rv,w3⟩
      have fpb:∀ {pl:List (Addr×Obj)} {H':Hp},(∀ b∈fp,H' b=none)→(∀ p∈pl,∀ b∈fp,p.1≠b)→∀ b∈fp,ly (blk X scope own cap G2.objs.size s2 H2 fp) pl H' b:=fun {pl H'} hn hp b hb=>
        ⟨hn b hb,Nat.ne_of_lt (Nat.lt_of_lt_of_le (flt b hb) hC),fun z=>J3.ok.exfs b hb z,.inl hb,fun x c e=>(J3.ok.exf b hb).2 x c e,fun p hp'=>by
          rcases List.mem_append.mp hp' with z | z
          · exact absurd (show p∈([]:List (Addr×Obj)) from z) (by simp)
          · exact hp p z b hb⟩
      have nD:∀ (o:Obj),∀ p∈[(s2.heap.objs.size,o)],∀ b∈fp,p.1≠b:=fun o p hp b hb=>by
        have e:p=(s2.heap.objs.size,o):=by simpa using hp
        subst e
        exact (Nat.ne_of_lt (flt b hb)).symm
      obtain ⟨hz,tr⟩:=turn i n ys H3 w3
      rcases tr with ⟨stop,qD⟩ | ⟨go,N,hN,step⟩
      · refine thn (T.done (blk X scope own cap G2.objs.size s2 H2 fp) rfl rfl rfl rfl i _ s3 _ H3 (fun _ _=>False) J3 (fpb fr3 (nD _)) st3 stop) fun r s4 ⟨hr,J4⟩=>?_
        subst hr
        exact done _ _ s4 H3 _ ys its nn hC (Nat.le_refl _) hDC J4 rv hz qD
      · refine thn (T.item (blk X scope own cap G2.objs.size s2 H2 fp) rfl rfl rfl rfl i _ s3 _ H3 (fun _ _=>False) J3 (fpb fr3 (nD _)) st3 go) fun r s4 ⟨u,hr,h4⟩=>?_
        subst hr
        refine thn h4 fun _ s5 ⟨x,H5,J5,r5,y5,st5,fr5⟩=>?_
        have J5':=J5.pinned (fpb fr5 (nD _)) (T.obj _ _ st5)
        refine thn (hg _ _ _ _ _ s5 _ H5 x u _ J5' r5 (step x H5 y5)) fun _ s6 ⟨σ6,H6,J6,q6⟩=>?_
        -- a turn's end,the list at L as it stands
        have again:∀ {pl:List (Addr×Obj)} {its':List Value} {nn':Nat} {ys':List V} {s8:Shared} {H8:Hp} {σ8:St} {m':Nat},Inv (blk X scope own cap G2.objs.size s2 H2 fp) ([(s2.heap.objs.size,{ cls:=.type "list",data:=.seq its'.toArray nn' })]++fO fp s5.heap) σ8 H8 s8→Vals ys' its'→m' < n→W (i+1) m' ys' H8 →
            ∃ m,m < n∧∃ i ys its nn H',Inv (blk X scope own cap G2.objs.size s2 H2 fp) [(s2.heap.objs.size,{ cls:=.type "list",data:=.seq (its:List Value).toArray nn })] (uD own.length cap σ) H' s8∧tn i s8.heap∧(∀ b∈fp,H' b=none)∧Vals ys its∧W i m ys H':=by
          intro pl its' nn' ys' s8 H8 σ8 m' J8 rv' hm w8
          have Iu:∀ b∈fp,∀ o,s5.heap.get? b=some o→s8.heap.get? b=some o∧H8 b=none:=fun b hb o e=>by
            have q:=J8.pin (b,o) (List.mem_append_right _ (List.mem_append_right _ (gR hb e)))
            exact ⟨q.1,q.2.1⟩
          refine ⟨m',hm,i+1,ys',its',nn',H8,Inv.again I2 B f2 J8.ig,T.keep _ _ _ st5 fun b hb o e=>(Iu b hb o e).1,fun b hb=>?_,rv',w8⟩
          obtain ⟨o,e,_⟩:=T.obj _ _ st5 b hb
          exact (Iu b hb o e).2
        refine thn (ht _ _ _ _ _ s6 _ H6 _ J6 q6) fun ok s7 ⟨H7,J7,q7⟩=>?_
        cases ok with
        | false=>
          rw [if_neg Bool.false_ne_true]
          rw [if_neg Bool.false_ne_true] at q7
          obtain ⟨m',hm,w7⟩:=hN _ _ q7
          exact again (pl:=[]) J7 rv hm w7
        | true=>
          rw [if_pos rfl]
          rw [if_pos rfl] at q7
          refine thn (he _ _ _ _ _ s7 _ H7 _ J7 q7) fun v s8 ⟨y,H8,J8,ry,q8⟩=>?_
          obtain ⟨m',hm,w8⟩:=hN _ _ q8
          have pL:=J8.pin (s2.heap.objs.size,{ cls:=.type "list",data:=.seq its.toArray nn }) (List.mem_append_right _ (List.mem_append_left _ (List.mem_singleton.mpr rfl)))
          refine wpAny_list_append_plain (l:=s2.heap.objs.size) (items:=its.toArray) ⟨nn,pL.1⟩ (fun h' hp' hsb=>?_) (by rw [List.size_toArray,← rv.length];exact hz)
          obtain ⟨nn',hL'⟩:=hp'
          have J9:Inv (blk X scope own cap G2.objs.size s2 H2 fp) (fO fp s5.heap) σ6 H8 s8:=J8.jN fun p hp=>J8.pin p (List.mem_append_right _ (List.mem_append_right _ hp))
          have JU:∀ p∈(blk X scope own cap G2.objs.size s2 H2 fp).pn++fO fp s5.heap,p.1≠s2.heap.objs.size:=fun p hp=>by
            rcases List.mem_append.mp hp with z | z
            · exact absurd (show p∈([]:List (Addr×Obj)) from z) (by simp)
            · exact Nat.ne_of_lt (flt _ (mH z).1)
          have J10:Inv (blk X scope own cap G2.objs.size s2 H2 fp) (fO fp s5.heap) σ6 H8 { s8 with heap:=h' }:=J9.turned (t':=s8.toks) (it:=s2.heap.objs.size) (fun b o hb e=>(hsb.2 b hb).trans e) pL.2.1 pL.2.2.1 (.inr (Nat.le_refl _))
            (fun x c e z=>by
              obtain ⟨v',o',ho',hd'⟩:=J9.cell x c e
              rw [z,pL.1] at ho';cases ho';cases hd') JU
          refine again (pl:=[]) (its':=its++[v]) (nn':=nn') (J10.jN fun p hp=>?_) (rv.append (.cons ry .nil)) hm w8
          rcases List.mem_append.mp hp with z | z
          · have e:p=(s2.heap.objs.size,{ cls:=.type "list",data:=.seq (its++[v]).toArray nn' }):=by simpa using z
            subst e
            refine ⟨?_,pL.2.1,pL.2.2.1,pL.2.2.2.1,fun v'=>by intro q;cases q⟩
            rw [hL']
            simp
          · exact J10.pin p (List.mem_append_right _ z)
    · have e:p=(s2.heap.objs.size,{ cls:=.type "list",data:=.seq ([]:List Value).toArray 0 }):=by simpa using hp
      subst e
      exact ⟨hacc,Nat.le_refl _,hDC,fun v'=>by intro q;cases q⟩
  exact codeAny_compStart_list (loop _ rfl) (T.self _ 0 _ _ _ (T.keep _ _ _ st2 fun b _ o e=>old b o e) (loop _ rfl))
theorem iA (hc:X.calm=true) (hi:PI X tg iter wi) (B:Blk X scope own cap) (hg:∀ C s H fp,PG (blk X scope own cap C s H fp) tg g) (ht:∀ C s H fp,Bg (blk X scope own cap C s H fp) ifs tc) (he:∀ C s H fp,PE (blk X scope own cap C s H fp) elt te)
    (hs:∀ x,foldedSetIterable iter X.env x=pure x:=by intro _;rfl):PE X (.ListComp elt [⟨tg,iter,ifs,0⟩] scope pos) (uU wi own.length cap g tc te):=by
  intro pins s σ H Q I h
  rw [eval_ListComp]
  refine wpAny_comprehension_free (use:=none) rfl hs (mX (B.cells I.ok)) B.kind B.names (thn (hi pins s σ H _ I h) fun v s1 h1=>thn h1 fun itv s2 h2=>?_)
  obtain ⟨it,fp,tn,J,H2,e,I2,T,st2,f2,W,⟨m0,w0⟩,turn⟩:=h2
  subst e
  refine kR (RR:=fun acc C=>compPost (model X.prog X.w) X.A X.xe none (EP X pins σ Q) acc C) B hc hg ht he I2 T st2 f2 w0 turn ?_
  intro C L s' H' σ' ys its n hC hL hLC J' rv hz hD
  obtain ⟨m,hn,_⟩:=J'.loc
  have nL:=(J'.pin _ (List.mem_append_right _ (List.mem_singleton.mpr rfl))).2.1
  exact ⟨m,hn,fun h' hs'=>⟨.ref L,_,Inv.leave I2 f2 hC hL hLC J' hs' rv hz,rfl,hD L nL⟩⟩
def yr (i:Nat) (wi:TI) (own:Nat) (cap:List Nat) (g:TG) (tc:TT) (te:TE):TS:=fun D σ H=>uU wi own cap g tc te σ H fun v H1=>D.nx (σ.set i (some v)) H1
theorem j6 {i:Nat} {x:Str} {px spos:Pos} (hc:X.calm=true) (hN:X.N.Nodup) (hi':X.N[i]?=some x) (hx:Loc X.env.scope x) (hi:PI X tg iter wi) (B:Blk X scope own cap) (hg:∀ C s H fp,PG (blk X scope own cap C s H fp) tg g)
    (ht:∀ C s H fp,Bg (blk X scope own cap C s H fp) ifs tc) (he:∀ C s H fp,PE (blk X scope own cap C s H fp) elt te)
    (hsw:swapsWith (.ListComp elt [⟨tg,iter,ifs,0⟩] scope pos) (some (.Name x px)) spos.line X.env=pure true) (hf:X.fn x=true∨X.env.scope.names.lookup x=some .local:=by first | exact .inl rfl | exact .inr rfl | assumption)
    (hs:∀ x,foldedSetIterable iter X.env x=pure x:=by intro _;rfl):PS X (.Assign [.Name x px] (.ListComp elt [⟨tg,iter,ifs,0⟩] scope pos) spos) (yr i wi own.length cap g tc te):=by
  intro pins s σ H D I h
  rw [exec_Assign_Name_used _ _ _ _ hsw]
  refine wpAny_bind (wpAny_standAt (wpAny_bind ?_))
  show wpAny _ X.A (do let _ ← comprehension (.ListComp elt [⟨tg,iter,ifs,0⟩] scope pos) scope X.env _ (newList []) false (eval iter X.env) (some (assign (.Name x px) X.env))) _ _ s
  refine wpAny_bind (thn (wpAny_comprehension_free (use:=some (assign (.Name x px) X.env)) (Q:=fun _ s'=>SP X pins D .next s') rfl hs (mX (B.cells I.ok)) B.kind B.names
    (thn (hi pins s σ H _ I h) fun v s1 h1=>thn h1 fun itv s2 h2=>?_)) (fun _ s' hq=>wpAny_pure (wpAny_pure hq)))
  obtain ⟨it,fp,tn,J,H2,e,I2,T,st2,f2,W,⟨m0,w0⟩,turn⟩:=h2
  subst e
  refine kR (RR:=fun acc C=>compPost (model X.prog X.w) X.A X.xe (some (assign (.Name x px) X.env)) (fun _ s'=>SP X pins D .next s') acc C) B hc hg ht he I2 T st2 f2 w0 turn ?_
  intro C L s' H' σ' ys its n hC hL hLC J' rv hz hD
  obtain ⟨m,hn,_⟩:=J'.loc
  have nL:=(J'.pin _ (List.mem_append_right _ (List.mem_singleton.mpr rfl))).2.1
  have I3:=Inv.leave I2 f2 hC hL hLC J' (.refl ..) rv hz
  show wpAny _ X.A (assign (.Name x px) X.env (.ref L)) _ _ s'
  have cL:C≠X.env.locals:=Ne.symm (Nat.ne_of_lt (Nat.lt_of_lt_of_le I2.lt hC))
  have cc:∀ y c,X.env.cells.lookup y=some c→c≠C:=fun y c e=>by
    obtain ⟨v,q⟩:=I2.cell y c e
    exact Nat.ne_of_lt (Nat.lt_of_lt_of_le q.lt hC)
  refine wpAny_assign_Name (l0 I3 hN hi' hx (v:=.ref L) rfl (fun s4 I4 ⟨a,hsb,ha⟩=>?_) hf)
  have aC:C≠a:=by
    rcases ha with rfl | e
    · exact cL
    · exact Ne.symm (cc _ _ e)
  refine ⟨m,hn.sameBut hsb aC,fun h5 hs5=>⟨_,_,I4.turned (t':=s4.toks) (it:=C) (fun b o hb e=>(hs5.2 b hb).trans e) (by rw [aB (Ne.symm hLC)];exact J'.free) cL (.inr (Nat.le_trans I2.sz hC)) cc (fun p hp=>?_),hD L nL⟩⟩
  exact Nat.ne_of_lt (Nat.lt_of_lt_of_le (Heap.lt_size (I2.pin p hp).1) hC)
end
theorem xE {K:PySem.W.Frag} {a:Addr} {xs:List V} {g:TG} {tc:TT} {te:TE} {D:List V→Hp→Prop} {σb:St} {H:Hp} (Pv:Nat→List V→Hp→Prop) (h0:Pv 0 [] H) (hl:∀ i ys H,i≤xs.length→Pv i ys H→SqL K H a xs∧ys.length≤sizeLine)
    (hs:∀ i x ys H,xs[i]?=some x→Pv i ys H→g x σb H fun σ2 H2=>tc σ2 H2 fun b H3=>if b=true then te σ2 H3 fun y H4=>Pv (i+1) (ys++[y]) H4 else Pv (i+1) ys H3) (hd:∀ ys H,Pv xs.length ys H→D ys H) :
    ∃ W:Nat→Nat→List V→Hp→Prop,(∃ m,W 0 m [] H)∧rS (Itl K a) W D σb g tc te:=by
  refine ⟨fun i m ys H=>m=xs.length - i∧i≤xs.length∧Pv i ys H,⟨xs.length,by simp,Nat.zero_le _,h0⟩,?_⟩
  rintro i m ys H ⟨rfl,hi,p⟩
  obtain ⟨q,hz⟩:=hl i ys H hi p
  refine ⟨hz,?_⟩
  by_cases hlt:i < xs.length
  · refine .inr ⟨⟨xs,xs[i],q,by simp [hlt]⟩,Pv (i+1),fun ys' H' p'=>⟨xs.length - (i+1),by omega,rfl,hlt,p'⟩,fun x H' y=>?_⟩
    obtain ⟨e,y⟩:=y
    subst e
    exact hs i x ys _ (y xs q) p
  · have e:i=xs.length:=by omega
    subst e
    exact .inl ⟨⟨xs,q,Nat.le_refl _⟩,hd ys H p⟩
theorem uq {lo:Int} {n:Nat} {g:TG} {tc:TT} {te:TE} {D:List V→Hp→Prop} {σb:St} {H:Hp} (Pv:Nat→List V→Hp→Prop) (h0:Pv 0 [] H) (hl:∀ i ys H,i≤n→Pv i ys H→ys.length≤sizeLine)
    (hs:∀ i ys H,i < n→Pv i ys H→g (.int (lo+i)) σb H fun σ2 H2=>tc σ2 H2 fun b H3=>if b=true then te σ2 H3 fun y H4=>Pv (i+1) (ys++[y]) H4 else Pv (i+1) ys H3) (hd:∀ ys H,Pv n ys H→D ys H) :
    ∃ W:Nat→Nat→List V→Hp→Prop,(∃ m,W 0 m [] H)∧rS (Itr lo n) W D σb g tc te:=by
  refine ⟨fun i m ys H=>m=n - i∧i≤n∧Pv i ys H,⟨n,by simp,Nat.zero_le _,h0⟩,?_⟩
  rintro i m ys H ⟨rfl,hi,p⟩
  refine ⟨hl i ys H hi p,?_⟩
  by_cases hlt:i < n
  · refine .inr ⟨hlt,Pv (i+1),fun ys' H' p'=>⟨n - (i+1),by omega,rfl,hlt,p'⟩,fun x H' y=>?_⟩
    obtain ⟨e,y⟩:=y
    subst e y
    exact hs i ys _ hlt p
  · have e:i=n:=by omega
    subst e
    exact .inl ⟨Nat.le_refl _,hd ys H p⟩
structure GlV (mg:Str→Option Value) (x:Str) (v:V):Prop where
  ex:∃ u,mg x=some u∧RelV v u
theorem wO {X:Cx} {x:Str} {v:V} {pos:Pos} (h:GlV X.mg x v) (hg:Gl X x:=by rfl) (hd:(x == ("__debug__" : Str))=false:=by decide):PE X (.Name x pos) (tC v):=by
  obtain ⟨u,m,r⟩:=h.ex
  exact Cj hg m r hd
theorem cS:bootBuiltins "len" = some (.builtin "len"):=by decide +kernel
theorem dI:bootBuiltins "isinstance" = some (.builtin "isinstance"):=by decide +kernel
theorem f7:bootBuiltins "max" = some (.builtin "max"):=by decide +kernel
theorem uB:bootBuiltins "min" = some (.builtin "min"):=by decide +kernel
theorem G4:bootBuiltins "all" = some (.builtin "all"):=by decide +kernel
theorem G3:bootBuiltins "any" = some (.builtin "any"):=by decide +kernel
theorem xP:bootBuiltins "sorted" = some (.builtin "sorted"):=by decide +kernel
theorem uA:bootBuiltins "str" = some (.type "str"):=by decide +kernel
theorem gC:bootBuiltins "list" = some (.type "list"):=by decide +kernel
theorem rD:bootBuiltins "tuple" = some (.type "tuple"):=by decide +kernel
theorem G1:bootBuiltins "set" = some (.type "set"):=by decide +kernel
theorem uC:bootBuiltins "int" = some (.type "int"):=by decide +kernel
theorem vX:bootBuiltins "bool" = some (.type "bool"):=by decide +kernel
structure Bt (mg:Str→Option Value):Prop where
  len:mg "len" = none
  range:mg "range" = none
  isinstance:mg "isinstance" = none
  max:mg "max" = none
  min:mg "min" = none
  all:mg "all" = none
  any:mg "any" = none
  sorted:mg "sorted" = none
  sum:mg "sum" = none
  int_:mg "int" = none
  bool_:mg "bool" = none
  str_:mg "str" = none
  list_:mg "list" = none
  tuple_:mg "tuple" = none
  dict_:mg "dict" = none
  set_:mg "set" = none
  zip_:mg "zip" = none
  ValueError_:mg "ValueError" = none
section
variable {X:Cx}
def JM (_ j:Int):Prop:=0 < j∧j < 2 ^ 250
def JL (i j:Int):Prop:=(-(2 ^ 250) < i∧i < 2 ^ 250)∧(-(2 ^ 250) < j∧j < 2 ^ 250)
theorem log2_lt {n k:Nat} (h:n < 2 ^ k) (hk : 0 < k):n.log2 < k:=by
  by_cases h0:n=0
  · subst h0;simpa using hk
  · exact (Nat.log2_lt h0).mpr h
theorem iC:OpR X (binaryOp .FloorDiv) (rI JM fun i j=>.int (i / j)):=opI fun i j t u A s Q hc q=>by
  have e:i.fdiv j=i / j:=Int.fdiv_eq_ediv_of_nonneg _ (Int.le_of_lt hc.1)
  refine floordiv_int (by have:=hc.1;omega) (by rw [e];exact q) (.inl (PyProof.noPylong_of_log2 ?_))
  refine Nat.lt_of_lt_of_le (log2_lt (k:=250) ?_ (by decide)) (by decide)
  have h1:=hc.1
  have h2:=hc.2
  have e2:((2:Int) ^ 250)=((2 ^ 250:Nat):Int):=by norm_cast
  rw [e2] at h2
  omega
theorem cZ:OpR X (binaryOp .Mult) (rI JL fun i j=>.int (i * j)):=opI fun i j t u A s Q hc q=>by
  have bits:∀ {k:Int},-(2 ^ 250) < k→k < 2 ^ 250→Builtin.Int.intBits k≤2 ^ 20:=fun {k} h1 h2=>by
    have e2:((2:Int) ^ 250)=((2 ^ 250:Nat):Int):=by norm_cast
    rw [e2] at h1 h2
    have h3:k.natAbs < 2 ^ 250:=by omega
    have h4:=log2_lt h3 (by decide)
    unfold Builtin.Int.intBits
    split
    · exact Nat.zero_le _
    · exact Nat.le_trans (Nat.succ_le_succ (Nat.le_of_lt h4)) (by decide)
  exact mul_int q (IntMulOk.of_bits (bits hc.1.1 hc.1.2) (bits hc.2.1 hc.2.2))
theorem wQ:OpR X (binaryOp .Mult) (fun x y H Q=>∃ z n,x = .str z∧y = .int n∧z.length≤1000∧-1000≤n∧n≤10000∧Q (.str (Txt.mul z n)) H):=by
  intro pins s σ H x y v u Q I rx ry h
  obtain ⟨z,n,rfl,rfl,h1,h2,h3,q⟩:=h
  obtain ⟨t,rfl⟩:=rx
  obtain ⟨t',rfl⟩:=ry
  exact SB.mul (mulOk_of 1000 10000 h1 (by omega) (by omega) (by decide) (by decide)) fun t' k=>⟨.str _,H,I.tok _,⟨_,rfl⟩,q⟩
theorem nA:∀ {ys:List Str} {us:List Value},Vals (ys.map V.str) us→StrsAre us ys
  | [],_,.nil=>.nil
  | y::ys,_,.cons r t=>by
    obtain ⟨tk,rfl⟩:=r
    exact .cons y tk (nA t)
theorem qM:MtR X "str.join" (fun x xs H Q=>∃ z p ys,x = .str z∧xs=[.ref p]∧SqL X.K H p (ys.map V.str)∧(ys.map (·.length)).sum+ys.length * z.length≤16777216∧Q (.str (Txt.join z ys)) H):=by
  intro pins s σ H x xs v us Q I rx rs h
  obtain ⟨z,p,ys,rfl,rfl,hq,hz,q⟩:=h
  obtain ⟨t,rfl⟩:=rx
  obtain ⟨u,rfl,ru⟩:=vals1 rs
  cases ru
  obtain ⟨its,r,pl,_⟩:=I.list hq
  exact join_list pl.isList (by simpa using nA r) hz fun t' k=>⟨.str _,H,I.tok _,⟨_,rfl⟩,q⟩
def Fb (K:PySem.W.Frag):List V→Hp→VK→Prop:=fun xs H Q=>∃ x c t b,xs=[x,c]∧gF K H x t∧((∃ T,c = .ty T∧PySem.W.kitOne K t (.type T)=some b)∨∃ C,c = .ref C∧PySem.W.kitOne K t (.ref C)=some b)∧Q (.bl b) H
theorem A9:b5 X (.builtin "isinstance") (Fb X.K):=by
  intro pins s σ H xs us Q I r h
  obtain ⟨x,c,t,b,rfl,ty,e,q⟩:=h
  obtain ⟨u,w',rfl,rx,rc⟩:=vals2 r
  rcases e with ⟨T,rfl,e⟩ | ⟨C,rfl,e⟩
  · cases (show w'=Value.type T from rc)
    exact mP I rx ty e fun tk=>⟨.bl b,H,I.tok _,rfl,q⟩
  · cases (show w'=Value.ref C from rc)
    exact mP I rx ty e fun tk=>⟨.bl b,H,I.tok _,rfl,q⟩
theorem kg {e:Expr} {te:TE} {c:Str} {T:String} {p p' pos:Pos} (hm:X.mg "isinstance" = none) (hc:X.mg c=none) (hv:bootBuiltins c=some (.type T)) (he:PE X e te) (hg:Gl X "isinstance" := by rfl) (hg':Gl X c:=by rfl) (hn:c ≠ "__name__" := by decide) (hd:(c == ("__debug__" : Str))=false:=by decide)
    (hs:starEach [e,.Name c p'] X.env=(false,eval e X.env)::starEach [.Name c p'] X.env:=by rfl) (hs2:starEach [.Name c p'] X.env=(false,eval (.Name c p') X.env)::starEach [] X.env:=by rfl) (hpl:(backTo pos (starEach [.Name c p'] X.env)).any (·.1)=false:=by rfl) :
    PE X (.Call (.Name "isinstance" p) [e,.Name c p'] [] pos) (tCB (Fb X.K) (gH te (gH (tC (.ty T)) lG))):=
  aX A9 hg hm dI (aa he (aa (nZ hg' hc hv rfl hn hd) ah hs2) hs) (by decide) (by decide) hs hpl
end
def EU (names:List (Str×NameKind)) (N:List Str) (scope:Scope) (own:List Str) (cap:List Nat):Bool:=
  scope.names.all (fun y=>y.2 != .cell && (y.2 != .local || scope.names.lookup y.1 == some .local) && (y.2 != .free || names.lookup y.1 == some .cell)) &&
  decide (kY N own cap).Nodup &&
  cap.all (fun j=>match N[j]? with | some x=>scope.names.any (fun y=>y.1 == x && y.2 == .free) && scope.names.lookup x == some .free | none=>false)
theorem f9 {X:Cx} {scope:Scope} {own:List Str} {cap:List Nat} (names:List (Str×NameKind)) (N:List Str) (hn:X.env.scope.names=names) (hN:X.N=N) (hk:scope.kind = .function) (h:EU names N scope own cap=true):Blk X scope own cap:=by
  unfold EU at h
  simp only [Bool.and_eq_true,List.all_eq_true,decide_eq_true_eq] at h
  obtain ⟨⟨h1,h2⟩,h3⟩:=h
  refine ⟨hk,fun y hy e=>?_,fun y hy e=>?_,fun y hy e=>?_,by rw [hN];exact h2,fun j hj=>?_⟩
  · have:=(h1 y hy).1.1
    rw [e] at this;exact absurd this (by decide)
  · have:=(h1 y hy).1.2
    rw [e] at this;simpa using this
  · have:=(h1 y hy).2
    rw [e] at this
    show X.env.scope.names.lookup y.1=some .cell
    rw [hn]
    simpa using this
  · have:=h3 j hj
    rw [hN]
    split at this
    · rename_i x e
      simp only [Bool.and_eq_true,List.any_eq_true,beq_iff_eq] at this
      obtain ⟨⟨y,hy,e1,e2⟩,e3⟩:=this
      obtain ⟨y1,y2⟩:=y
      dsimp only at e1 e2
      subst e1 e2
      exact ⟨_,e,hy,e3⟩
    · cases this
structure Mak (P:Program) (w:World) (K:PySem.W.Frag) (mg:Str→Option Value) (base:Heap) (CX:CXT) (x:Str) (C:Addr) (k:Nat) (ps:List Str) (sp:Sp):Prop where
  ex:∃ f fd,Mk K C f∧eE P w K mg base CX k f fd ps sp∧Binds K fd ps []∧mg x=some (.ref C)
structure lW (K:PySem.W.Frag) (mg:Str→Option Value) (x qual:Str) (C:Addr) (st:Stmt) (ps:List Str):Prop where
  ex:∃ f fd,Fun K "__init__" qual st f fd∧Binds K fd ps []∧mg x=some (.ref C)∧Mk K C f∧Cls K C
structure bQ (K:PySem.W.Frag) (C:Addr) (x qual:Str) (st:Stmt) (ps:List Str):Prop where
  ex:∃ f fd,Fun K x qual st f fd∧Binds K fd ps []∧Meth K C x f∧Cls K C
section
variable {P:Program} {w:World} {K:PySem.W.Frag} {mg:Str→Option Value} {base:Heap} {CX:CXT} {x qual:Str} {C:Addr} {st:Stmt} {N ps:List Str} {k j:Nat} {sp sp':Sp}
theorem lW.ok (D:lW K mg x qual C st ps) (S:aq N ps (aj st)) (len:∀ vs H Q E,sp vs H Q E→vs.length=ps.length)
    (hbody:∀ (f:Addr) (cdv:Value) (A:Around) (outer:List Env) (s:Shared) (H:Hp) (vs:List V) (Q:VK) (E:XK),bR k (A.deeper (envOfC qual (aj st) s.heap.objs.size f cdv))→sp vs H Q E →
      ∃ t,PSs (aZ CX P w K mg base N qual (aj st) f cdv A outer s H E).nox (bf st) t∧t { nx:=fun _ H'=>Q .non H',rt:=Q } (start N vs) H):Mak P w K mg base CX x C (k+1) ps sp:=by
  obtain ⟨f,fd,F,b,m,M,_⟩:=D.ex
  exact ⟨f,fd,M,kN F S len hbody,b,m⟩
theorem lW.cls (D:lW K mg x qual C st ps):Cls K C:=D.ex.elim fun _ h=>h.elim fun _ h=>h.2.2.2.2
theorem vV {h:Heap} (X:K.In h) (G:h.Ns mainGlobals mg) {f:Addr} {oc:Value} {od an:Option Addr} {osl:Array (Option Value)} {kV doc pm cdv ct:Value} (aC:PySem.W.nsIn K mainGlobals x=some (some (.ref C)))
    (a:PySem.W.findIn K (.ref C) "__init__" = some (some (.ref f))) (i:PySem.W.isFn K (.ref f)=true)
    (l:K.lookup f=some ⟨oc,od,.func (PySem.W.fnOf "__init__" qual (bC st) (bf st) (aj st) .none kV doc pm an cdv ct),osl⟩) (c:PySem.W.codeIn K cdv qual=true) (kp:PySem.W.keepIn K (.ref f)=true)
    (pg:PySem.W.plainGet K C Str.empty=true) (hd:PySem.W.hasDictIn K C=true) (po:PySem.W.plainOver K C=true) (sa:PySem.W.findIn K (.ref C) "__setattr__" = some (some (.builtin "object.__setattr__"))) (mk:PySem.W.makesIn K C=true) (kc:PySem.W.keepIn K (.ref C)=true)
    (b:∀ (kV doc pm:Value) (an:Option Addr) (cdv ct:Value) (us:List Value),us.length=ps.length→bindArgs (PySem.W.fnOf "__init__" qual (bC st) (bf st) (aj st) .none kV doc pm an cdv ct) ⟨us,[]⟩=pure (ps.zip us)):lW K mg x qual C st ps:=by
  have F:=oH (st:=st) l c kp
  exact ⟨f,_,F,F.binds b,PySem.W.mg_of X G aC,⟨mk,a,i,kc⟩,⟨pg,hd,po,sa⟩⟩
end
section
variable {X:Cx} {CX:CXT} {k:Nat} {ps:List Str} {sp:Sp} {E:XK} {x:Str} {C:Addr} {p pos:Pos} {e:Expr} {es:List Expr} {t:TA}
theorem EB (M:Mak X.prog X.w X.K X.mg X.base CX x C k ps sp) (hr:bR (k+1) X.A) (hx:Passes CX X E) (ha:PA X (e::es) t) (hg:Gl X x:=by rfl)
    (hdb:(x == ("__debug__" : Str))=false:=by decide) (he:starEach (e::es) X.env=(false,eval e X.env)::starEach es X.env:=by rfl) (hpl:(backTo pos (starEach es X.env)).any (·.1)=false:=by rfl) :
    PE X (.Call (.Name x p) (e::es) [] pos) (jP C sp [] E t):=by
  obtain ⟨f,fd,m,F,b,g⟩:=M.ex
  exact vp m F hr hg g b .nil hx ha hdb he hpl
end
end L3
namespace L4
open PySem PySem.Spec PyProof.Rows L2 L3
def cI (H H':Hp):Prop:=∀ q xs,H q=some (.tup xs)→H' q=some (.tup xs)
theorem cI.trans {H H1 H2:Hp} (a:cI H H1) (b:cI H1 H2):cI H H2:=fun q xs h=>b q xs (a q xs h)
theorem cu {H H':Hp} (s:aK H H'):cI H H':=fun q _ h=>s q _ h
theorem rW {H:Hp} {p:Addr} {o u:HO} (h:H p=some u) (n:∀ xs,u≠.tup xs):cI H (upd H p o):=fun q xs e=>by
  have:q≠p:=fun z=>by subst z;rw [h] at e;exact n xs (Option.some.inj e)
  rw [aB this];exact e
structure Ob where
  p:Hp→HO→Prop
  mono:∀ {H H':Hp} {o:HO},cI H H'→p H o→p H' o
def Eo (o:HO):Ob:=⟨fun _ u=>u=o,fun _ h=>h⟩
structure Pr where
  p:Hp→Prop
  mono:∀ {H H':Hp},cI H H'→p H→p H'
def bg (r:Addr) (xs:List V):Pr:=⟨fun H=>H r=some (.tup xs),fun t h=>t _ _ h⟩
structure Led (P:Addr→Prop) (H0 H:Hp) (l:List (Addr×Ob)) (fs:List Pr):Prop where
  at_:∀ x∈l,∃ o,H x.1=some o∧x.2.p H o
  nd:(l.map (·.1)).Nodup
  own:∀ x∈l,P x.1∨H0 x.1=none
  fr:∀ q o,H0 q=some o→¬ P q→H q=some o
  st:∀ f∈fs,f.p H
inductive Put (p:Addr) (a b:Ob):List (Addr×Ob)→List (Addr×Ob)→Prop
  | head {l}:Put p a b ((p,a)::l) ((p,b)::l)
  | tail {x l l'}:Put p a b l l'→Put p a b (x::l) (x::l')
section
variable {P:Addr→Prop} {H0 H H':Hp} {l l':List (Addr×Ob)} {fs:List Pr} {p:Addr} {a b:Ob} {o:HO}
theorem Put.mem (h:Put p a b l l'):(p,a)∈l:=by
  induction h with
  | head=>exact List.mem_cons_self
  | tail _ ih=>exact List.mem_cons_of_mem _ ih
theorem Put.keys (h:Put p a b l l'):l'.map (·.1)=l.map (·.1):=by
  induction h with
  | head=>rfl
  | tail _ ih=>rw [List.map_cons,List.map_cons,ih]
theorem Put.or (h:Put p a b l l'):∀ x∈l',x=(p,b)∨x∈l:=by
  induction h with
  | head=>
    intro x hx
    rcases List.mem_cons.mp hx with e | e
    · exact .inl e
    · exact .inr (List.mem_cons_of_mem _ e)
  | tail _ ih=>
    intro x hx
    rcases List.mem_cons.mp hx with e | e
    · exact .inr (by rw [e];exact List.mem_cons_self)
    · exact (ih x e).imp_right (List.mem_cons_of_mem _)
theorem z9:∀ {l:List (Addr×Ob)},(l.map (·.1)).Nodup→∀ {x y},x∈l→y∈l→x.1=y.1→x=y
  | [],_,_,_,hx,_,_=>by simp at hx
  | z::l,hn,x,y,hx,hy,e=>by
    rw [List.map_cons,List.nodup_cons] at hn
    rcases List.mem_cons.mp hx with e1 | h1
    · rcases List.mem_cons.mp hy with e2 | h2
      · rw [e1,e2]
      · exact absurd (show z.1∈l.map (·.1) from List.mem_map.mpr ⟨y,h2,by rw [← e1];exact e.symm⟩) hn.1
    · rcases List.mem_cons.mp hy with e2 | h2
      · exact absurd (show z.1∈l.map (·.1) from List.mem_map.mpr ⟨x,h1,by rw [← e2];exact e⟩) hn.1
      · exact z9 hn.2 h1 h2 e
theorem Put.or' (h:Put p a b l l') (nd:(l.map (·.1)).Nodup):∀ x∈l',x=(p,b)∨(x∈l∧x.1≠p):=by
  intro x hx
  have nd':(l'.map (·.1)).Nodup:=by rw [h.keys];exact nd
  have hb:(p,b)∈l':=by
    clear nd nd' hx
    induction h with
    | head=>exact List.mem_cons_self
    | tail _ ih=>exact List.mem_cons_of_mem _ ih
  by_cases e:x.1=p
  · exact .inl (z9 nd' hx hb e)
  · rcases h.or x hx with z | z
    · exact .inl z
    · exact .inr ⟨z,e⟩
theorem Led.get (L:Led P H0 H l fs) (m:Put p a a l l'):∃ o,H p=some o∧a.p H o:=L.at_ _ m.mem
theorem Led.eo (L:Led P H0 H l fs) (m:Put p (Eo o) (Eo o) l l'):H p=some o:=by
  obtain ⟨u,e,h⟩:=L.get m
  have:u=o:=h
  rw [← this];exact e
theorem Led.tup (L:Led P H0 H l fs) {r:Addr} {xs:List V} (m:bg r xs∈fs):H r=some (.tup xs):=L.st _ m
theorem Led.more (L:Led P H0 H l fs) (f:Pr) (h:f.p H):Led P H0 H l (f::fs):=
  ⟨L.at_,L.nd,L.own,L.fr,fun g hg=>(List.mem_cons.mp hg).elim (fun e=>e▸h) (L.st g)⟩
theorem Led.start (H:Hp) (P:Addr→Prop):Led P H H [] []:=⟨fun _ h=>by simp at h,List.nodup_nil,fun _ h=>by simp at h,fun _ _ h _=>h,fun _ h=>by simp at h⟩
theorem Led.same (L:Led (fun _=>False) H0 H l fs):aK H0 H:=fun q o h=>L.fr q o h id
theorem Led.keep (L:Led P H0 H l fs) (s:aK H H'):Led P H0 H' l fs:=
  ⟨fun x hx=>let ⟨o,e,h⟩:=L.at_ x hx;⟨o,s _ _ e,x.2.mono (cu s) h⟩,L.nd,L.own,fun q o h n=>s _ _ (L.fr q o h n),fun f hf=>f.mono (cu s) (L.st f hf)⟩
theorem Led.fresh (L:Led P H0 H l fs) (h:H p=none):(∀ x∈l,x.1≠p)∧(P p∨H0 p=none):=by
  refine ⟨fun x hx e=>?_,?_⟩
  · obtain ⟨o,q,_⟩:=L.at_ x hx
    rw [e,h] at q;cases q
  · by_cases hp:P p
    · exact .inl hp
    · cases q:H0 p with
      | none=>exact .inr rfl
      | some o=>rw [L.fr p o q hp] at h;cases h
theorem cU (h:H p=none):aK H (upd H p o):=fun b u q=>by rw [aB (aG q h)];exact q
theorem Led.IC (L:Led P H0 H l fs) {xs:List V} (h:H p=none):Led P H0 (upd H p (.tup xs)) l (bg p xs::fs):=(L.keep (cU h)).more _ ay
theorem Led.Fx (L:Led P H0 H l fs) (h:H p=none) (ho:a.p (upd H p o) o):Led P H0 (upd H p o) ((p,a)::l) fs:=by
  have K:=L.keep (cU (o:=o) h)
  obtain ⟨f1,f2⟩:=L.fresh h
  refine ⟨fun x hx=>?_,?_,fun x hx=>?_,K.fr,K.st⟩
  · rcases List.mem_cons.mp hx with rfl | hx
    · exact ⟨o,ay,ho⟩
    · exact K.at_ x hx
  · rw [List.map_cons,List.nodup_cons]
    refine ⟨fun z=>?_,L.nd⟩
    obtain ⟨x,hx,e⟩:=List.mem_map.mp z
    exact f1 x hx e
  · rcases List.mem_cons.mp hx with rfl | hx
    · exact f2
    · exact L.own x hx
structure Chg (p:Addr) (H H':Hp):Prop where
  oth:∀ q o,H q=some o→q≠p→H' q=some o
  ts:cI H H'
theorem Chg.upd {u:HO} (h:H p=some u) (n:∀ xs,u≠.tup xs):Chg p H (upd H p o):=⟨fun q o e z=>by rw [aB z];exact e,rW h n⟩
theorem Chg.trans {H1:Hp} (x:Chg p H H1) (y:Chg p H1 H'):Chg p H H':=⟨fun q o e n=>y.oth q o (x.oth q o e n) n,x.ts.trans y.ts⟩
theorem Chg.same {H1:Hp} (x:Chg p H H1) (y:aK H1 H'):Chg p H H':=⟨fun q o e n=>y _ _ (x.oth q o e n),x.ts.trans (cu y)⟩
theorem Led.set (L:Led P H0 H l fs) (m:Put p a b l l') (c:Chg p H H') (ho:∃ o,H' p=some o∧b.p H' o):Led P H0 H' l' fs:=by
  have own:=L.own _ m.mem
  refine ⟨fun x hx=>?_,by rw [m.keys];exact L.nd,fun x hx=>?_,fun q o h n=>?_,fun f hf=>f.mono c.ts (L.st f hf)⟩
  · rcases m.or' L.nd x hx with rfl | ⟨hx,n⟩
    · exact ho
    · obtain ⟨u,e,h⟩:=L.at_ x hx
      exact ⟨u,c.oth _ _ e n,x.2.mono c.ts h⟩
  · rcases m.or x hx with rfl | hx
    · exact own
    · exact L.own x hx
  · have:q≠p:=fun z=>by
      subst z
      rcases own with h1 | h1
      · exact n h1
      · rw [h] at h1;cases h1
    exact c.oth _ _ (L.fr q o h n) this
theorem Led.add (L:Led P H0 H l fs) (s:aK H H') (n:H p=none) (ho:∃ o,H' p=some o∧a.p H' o):Led P H0 H' ((p,a)::l) fs:=by
  have K:=L.keep s
  obtain ⟨f1,f2⟩:=L.fresh n
  refine ⟨fun x hx=>?_,?_,fun x hx=>?_,K.fr,K.st⟩
  · rcases List.mem_cons.mp hx with rfl | hx
    · exact ho
    · exact K.at_ x hx
  · rw [List.map_cons,List.nodup_cons]
    refine ⟨fun z=>?_,L.nd⟩
    obtain ⟨x,hx,e⟩:=List.mem_map.mp z
    exact f1 x hx e
  · rcases List.mem_cons.mp hx with rfl | hx
    · exact f2
    · exact L.own x hx
theorem Led.chg (L:Led (·=p) H0 H l fs) (n:∀ xs,H0 p≠some (.tup xs)):Chg p H0 H:=⟨L.fr,fun q xs h=>L.fr q _ h fun z=>n xs (z▸h)⟩
end
abbrev St:=L2.St
def Ez:R2:=fun x y H Q=>∃ i j:Str,x = .str i∧y = .str j∧i.length+j.length≤sizeLine∧Q (.str (i++j)) H
def Es:R2:=fun x y H Q=>∃ z n,x = .str z∧y = .int n∧z.length≤1000∧-1000≤n∧n≤10000∧Q (.str (Txt.mul z n)) H
abbrev RL:=List V→Hp→VK→Prop
def Ik:RL:=fun xs H Q=>∃ i j,xs=[.int i,.int j]∧Q (.int (if j > i then j else i)) H
def Ij:RL:=fun xs H Q=>∃ i j,xs=[.int i,.int j]∧Q (.int (if j < i then j else i)) H
def Il (K:PySem.W.Frag):RL:=fun xs H Q=>∃ p ys,xs=[.ref p]∧(SqL K H p ys∨SqT K H p ys)∧Q (.int ys.length) H
def vm (K:PySem.W.Frag):RL:=fun xs H Q=>∃ p ys,xs=[.ref p]∧(SqL K H p ys∨SqT K H p ys)∧∀ l,H l=none→Q (.ref l) (upd H l (.lst ys))
def zq (K:PySem.W.Frag):RL:=fun xs H Q=>∃ p ys,xs=[.ref p]∧((SqL K H p ys∧∀ l,H l=none→Q (.ref l) (upd H l (.tup ys)))∨(SqT K H p ys∧Q (.ref p) H))
def rJoin (K:PySem.W.Frag):V→List V→Hp→VK→Prop:=fun x xs H Q=>∃ z p ys,x = .str z∧xs=[.ref p]∧SqL K H p (ys.map V.str)∧(ys.map (·.length)).sum+ys.length * z.length≤16777216∧Q (.str (Txt.join z ys)) H
section
variable {X:Cx}
theorem z8:OpR X (binaryOp .Add) Ez:=sX
theorem Fw:OpR X (binaryOp .Mult) Es:=wQ
theorem rz (hc:X.calm=true):b5 X (.builtin "max") Ik:=xG hc
theorem ET (hc:X.calm=true):b5 X (.builtin "min") Ij:=xF hc
theorem eK:b5 X (.builtin "len") (Il X.K):=oO
theorem f6:b5 X (.type "list") (vm X.K):=oN
theorem DQ:b5 X (.type "tuple") (zq X.K):=lQ
theorem FD:MtR X "str.join" (rJoin X.K):=qM
end
def JD (xs:List V) (H:Hp) (Q:VK):Prop:=xs.length≤sizeLine∧∀ p,H p=none→Q (.ref p) (upd H p (.tup xs))
def JE (xs:List V) (H:Hp) (Q:VK):Prop:=xs.length≤sizeLine∧∀ p,H p=none→Q (.ref p) (upd H p (.lst xs))
def IsB (x:V) (H:Hp) (Q:Bool→Hp→Prop):Prop:=∃ k,x = .bl k∧Q k H
def Fld (K:PySem.W.Frag) (f:Str) (x:V) (H:Hp) (Q:VK):Prop:=∃ a C dx fs v,x = .ref a∧H a=some (.ins C dx fs)∧Cls K C∧aT K C f∧fs.lookup f=some v∧Q v H
section
variable {K:PySem.W.Frag} {σ : St} {H:Hp} {Q:VK} {D:Ends} {t u:TS} {ta tb te:TE} {tt tt':TT} {tl:TA} {v x y:V} {i:Nat} {B:Bool→Hp→Prop}
-- statements
theorem g_seq (h:t { D with nx:=u D } σ H):E2 t u D σ H:=h
theorem Gj (h:D.nx σ H):Ef D σ H:=h
theorem Jp {g:TG} (h:te σ H fun x H1=>g x σ H1 D.nx):E4 te g D σ H:=h
theorem GD (h:te σ H fun _ H1=>D.nx σ H1):Eh te D σ H:=h
theorem IV (h:te σ H D.rt):HN te D σ H:=h
theorem Km (h:tt σ H fun b H1=>if b=true then t D σ H1 else u D σ H1):HS tt t u D σ H:=h
-- expressions
theorem IQ (e : σ[i]?=some (some v)) (h:Q v H):E1 i σ H Q:=⟨v,e,h⟩
theorem g_c (h:Q v H):tC v σ H Q:=h
theorem Kl {r:R2} (h:ta σ H fun x H1=>tb σ H1 fun y H2=>r x y H2 Q):tOp r ta tb σ H Q:=h
theorem Jh (h:tt σ H fun c H1=>if c=true then ta σ H1 Q else tb σ H1 Q):tIf tt ta tb σ H Q:=h
theorem GJ (h:ta σ H fun x H1=>IsB x H1 fun c H1=>if c=true then tb σ H1 Q else Q (.bl false) H1):Ei ta tb σ H Q:=h
theorem Gg (h:ta σ H fun x H1=>IsB x H1 fun c H1=>Q (.bl (!c)) H1):Ec ta σ H Q:=h
theorem Jf (h:ta σ H fun x H1=>Q (.bl (decide (x = .non))) H1):HR ta σ H Q:=h
theorem Gh (h:ta σ H fun x H1=>Q (.bl (!decide (x = .non))) H1):Ed ta σ H Q:=h
theorem IT (h:tl σ H fun xs H1=>JD xs H1 Q):wm tl σ H Q:=h
theorem Jd (h:tl σ H fun xs H1=>JE xs H1 Q):HQ tl σ H Q:=h
theorem IY {W:List V→Hp→Prop} (h:W [] H):lG σ H W:=h
theorem GF {W:List V→Hp→Prop} (h:te σ H fun x H1=>tl σ H1 fun xs H2=>W (x::xs) H2):gH te tl σ H W:=h
theorem Kn {r:List V→Hp→VK→Prop} (h:tl σ H fun vs H1=>r vs H1 Q):tCB r tl σ H Q:=h
theorem GH {sp:Sp} {E:XK} (h:tl σ H fun vs H1=>sp vs H1 Q E):uV sp [] E tl σ H Q:=by
  have e:(fun (vs:List V) H1=>sp (vs++[]) H1 Q E)=fun vs H1=>sp vs H1 Q E:=by funext vs H1;rw [List.append_nil]
  show tl σ H (fun vs H1=>sp (vs++[]) H1 Q E)
  rw [e];exact h
def Made (C:Addr) (sp:Sp) (E:XK) (vs:List V) (H:Hp) (Q:VK):Prop:=∀ x dx,H x=none→H dx=none→dx≠x→sp (.ref x::vs) (upd (upd H dx (.own x)) x (.ins C dx [])) (fun v H2=>v = .non∧Q (.ref x) H2) E
theorem Gx {C:Addr} {sp:Sp} {E:XK} (h:tl σ H fun vs H1=>Made C sp E vs H1 Q):jP C sp [] E tl σ H Q:=by
  have e:(fun (vs:List V) H1=>∀ x dx,H1 x=none→H1 dx=none→dx≠x→sp (.ref x::(vs++[])) (upd (upd H1 dx (.own x)) x (.ins C dx [])) (fun v H2=>v = .non∧Q (.ref x) H2) E)=fun vs H1=>Made C sp E vs H1 Q:=by
    funext vs H1;rw [List.append_nil];rfl
  show tl σ H (fun vs H1=>∀ x dx,H1 x=none→H1 dx=none→dx≠x→sp (.ref x::(vs++[])) (upd (upd H1 dx (.own x)) x (.ins C dx [])) (fun v H2=>v = .non∧Q (.ref x) H2) E)
  rw [e];exact h
def Ks (K:PySem.W.Frag) (f:Str) (y x:V) (H:Hp) (R:Hp→Prop):Prop:=∃ a C dx fs,x = .ref a∧H a=some (.ins C dx fs)∧Cls K C∧aT K C f∧fs.length < 1000∧R (upd H a (.ins C dx (bG f y fs)))
theorem Ga {f:Str} (h:tb σ H fun y H1=>ta σ H1 fun x H2=>Ks K f y x H2 fun H3=>D.nx σ H3):Ie K ta tb f D σ H:=h
theorem Jk {f:Str} (h:ta σ H fun x H1=>Fld K f x H1 Q):HV K ta f σ H Q:=h
theorem Ko {T:String} {r:V→List V→Hp→VK→Prop} (h:ta σ H fun x H1=>tyV K T x H1∧tl σ H1 fun xs H2=>r x xs H2 Q):tBM K T r ta tl σ H Q:=h
theorem Jo {T:String} {r:V→List V→Hp→VK→Prop} (h:ta σ H fun x H1=>tyV K T x H1∧r x [] H1 Q):HW K T r ta σ H Q:=h
theorem Kg {r:V→Option Int→Option Int→Hp→VK→Prop} {a b:TO} (h:te σ H fun x H1=>a σ H1 fun l H2=>b σ H2 fun u H3=>r x l u H3 Q):tSl r te a b σ H Q:=h
theorem AE {W:Option Int→Hp→Prop} (h:W none H):uS σ H W:=h
def Prt (x:V) (H:Hp) (W:Option Int→Hp→Prop):Prop:=∃ i,x = .int i∧W (some i) H
theorem Gf {W:Option Int→Hp→Prop} (h:te σ H fun x H1=>Prt x H1 W):Eb te σ H W:=h
-- tests
theorem g_b (h:te σ H fun x H1=>IsB x H1 B):tB te σ H B:=h
theorem F8 (h:te σ H fun x H1=>IsB x H1 B):ym te σ H B:=h
theorem Jq (h:tt σ H fun c H1=>if c=true then tt' σ H1 B else B false H1):HX tt tt' σ H B:=h
theorem Kh (h:tt σ H fun c H1=>if c=true then B true H1 else tt' σ H1 B):tOr tt tt' σ H B:=h
theorem IX (h:tt σ H fun c H1=>B (!c) H1):HP tt σ H B:=h
theorem Jg {k:Bool} (h:B k H):IsB (.bl k) H B:=⟨k,rfl,h⟩
-- values
theorem IW {g:Int→Int→V} {i j:Int} (h:Q (g i j) H):rI0 g (.int i) (.int j) H Q:=⟨i,j,rfl,rfl,h⟩
theorem Ge {C:Int→Int→Prop} {g:Int→Int→V} {i j:Int} (c:C i j) (h:Q (g i j) H):rI C g (.int i) (.int j) H Q:=⟨i,j,rfl,rfl,c,h⟩
theorem Jm {i j:Int} (h:Q (.bl (decide (i=j))) H):rEq (.int i) (.int j) H Q:=⟨rfl,by
  have e:decide (V.int i=V.int j)=decide (i=j):=by
    by_cases z:i=j
    · subst z;simp
    · rw [decide_eq_false z,decide_eq_false fun w=>z (V.int.inj w)]
  rw [e];exact h⟩
theorem Jl {i j:Str} (h:Q (.bl (decide (i=j))) H):rEq (.str i) (.str j) H Q:=⟨rfl,by
  have e:decide (V.str i=V.str j)=decide (i=j):=by
    by_cases z:i=j
    · subst z;simp
    · rw [decide_eq_false z,decide_eq_false fun w=>z (V.str.inj w)]
  rw [e];exact h⟩
theorem Ja {i j:Int} (h:Q (.bl (!decide (i=j))) H):rNe (.int i) (.int j) H Q:=⟨rfl,by
  have e:decide (V.int i=V.int j)=decide (i=j):=by
    by_cases z:i=j
    · subst z;simp
    · rw [decide_eq_false z,decide_eq_false fun w=>z (V.int.inj w)]
  rw [e];exact h⟩
theorem IZ {i j:Str} (h:Q (.bl (!decide (i=j))) H):rNe (.str i) (.str j) H Q:=⟨rfl,by
  have e:decide (V.str i=V.str j)=decide (i=j):=by
    by_cases z:i=j
    · subst z;simp
    · rw [decide_eq_false z,decide_eq_false fun w=>z (V.str.inj w)]
  rw [e];exact h⟩
-- branches
theorem AK {A B:Prop} (h:A):if true=true then A else B:=by rw [if_pos rfl];exact h
theorem AQ {A B:Prop} (h:B):if false=true then A else B:=by rw [if_neg Bool.false_ne_true];exact h
theorem bN {p A B:Prop} [Decidable p] (h1:p→A) (h2:¬ p→B):if decide p=true then A else B:=by
  by_cases h:p
  · rw [if_pos (decide_eq_true h)];exact h1 h
  · rw [if_neg (by rw [decide_eq_false h];exact Bool.false_ne_true)];exact h2 h
theorem kK {p A B:Prop} [Decidable p] (h:p) (a:A):if decide p=true then A else B:=by rw [if_pos (decide_eq_true h)];exact a
theorem dP {p A B:Prop} [Decidable p] (h:¬ p) (b:B):if decide p=true then A else B:=by rw [if_neg (by rw [decide_eq_false h];exact Bool.false_ne_true)];exact b
theorem kJ {p A B:Prop} [Decidable p] (h1:p→B) (h2:¬ p→A):if (!decide p)=true then A else B:=by
  by_cases h:p
  · rw [if_neg (by rw [decide_eq_true h];exact Bool.false_ne_true)];exact h1 h
  · rw [if_pos (by rw [decide_eq_false h];rfl)];exact h2 h
theorem AM {p A B:Prop} [Decidable p] (h:¬ p) (a:A):if (!decide p)=true then A else B:=by rw [if_pos (by rw [decide_eq_false h];rfl)];exact a
theorem AN {p A B:Prop} [Decidable p] (h:p) (b:B):if (!decide p)=true then A else B:=by rw [if_neg (by rw [decide_eq_true h];exact Bool.false_ne_true)];exact b
theorem Ji {b:Bool} {A B:Prop} (h1:b=true→A) (h2:b=false→B):if b=true then A else B:=by
  cases b with
  | true=>rw [if_pos rfl];exact h1 rfl
  | false=>rw [if_neg Bool.false_ne_true];exact h2 rfl
theorem AO {b:Bool} {A B:Prop} (h1:b=true→B) (h2:b=false→A):if (!b)=true then A else B:=by
  cases b with
  | true=>exact AQ (h1 rfl)
  | false=>exact AK (h2 rfl)
theorem Dz {A B:Prop} (h:B):if (!true)=true then A else B:=AQ h
theorem DA {A B:Prop} (h:A):if (!false)=true then A else B:=AK h
-- sizes of things,text
theorem Dr {W:Option Int→Hp→Prop} {j:Int} (h:W (some j) H):Prt (.int j) H W:=⟨j,rfl,h⟩
end
theorem lk_hit {f:Str} {v:V} {r:List (Str×V)}:List.lookup f ((f,v)::r)=some v:=by simp
theorem lk_miss {f g:Str} {v:V} {r:List (Str×V)} (h:(f == g)=false):List.lookup f ((g,v)::r)=List.lookup f r:=by simp only [List.lookup_cons,h]
section
variable {K:PySem.W.Frag} {P:Addr→Prop} {H0 H H':Hp} {l l':List (Addr×Ob)} {fs:List Pr} {p:Addr} {a b:Ob} {o:HO} {Q:VK} {xs:List V} {v:V} {i:Int}
-- what the ledger knows
theorem Gk (L:Led P H0 H l fs) (hz:xs.length≤sizeLine) (h:∀ p H',H p=none→Led P H0 H' l (bg p xs::fs)→aK H H'→Q (.ref p) H'):JD xs H Q:=
  ⟨hz,fun p hp=>h p _ hp (L.IC hp) (cU hp)⟩
theorem Gm (L:Led P H0 H l fs) (hz:xs.length≤sizeLine) (h:∀ p H',H p=none→Led P H0 H' ((p,Eo (.lst xs))::l) fs→aK H H'→Q (.ref p) H'):JE xs H Q:=
  ⟨hz,fun p hp=>h p _ hp (L.Fx hp rfl) (cU hp)⟩
theorem AI (L:Led P H0 H l fs) (m:Put p (Eo (.lst xs)) (Eo (.lst xs)) l l') (e:atI xs i=some v) (h:Q v H):zx K (.ref p) (.int i) H Q:=⟨p,xs,i,v,rfl,rfl,SqL.of (L.eo m),e,h⟩
theorem Je (L:Led P H0 H l fs) (m:bg p xs∈fs) (e:atI xs i=some v) (h:Q v H):B8 K (.ref p) (.int i) H Q:=⟨p,xs,i,v,rfl,rfl,SqT.of (L.tup m),e,h⟩
theorem d8 (hs:SqL K H p xs) (e:atI xs i=some v) (h:Q v H):zx K (.ref p) (.int i) H Q:=⟨p,xs,i,v,rfl,rfl,hs,e,h⟩
theorem EM {R:Hp→Prop} {j:Nat} (L:Led P H0 H l fs) (m:Put p (Eo (.lst xs)) (Eo (.lst (xs.set j v))) l l') (e:ixN xs.length i=some j) (h:∀ H',Led P H0 H' l' fs→Chg p H H'→R H'):Er (.ref p) (.int i) v H R:=by
  obtain ⟨o,ho,hp⟩:=L.at_ _ m.mem
  have hp':o = .lst xs:=hp
  subst hp'
  have c:Chg p H (upd H p (.lst (xs.set j v))):=Chg.upd ho fun _ z=>by cases z
  exact ⟨p,xs,i,j,rfl,rfl,ho,e,h _ (L.set m c ⟨_,ay,rfl⟩) c⟩
theorem qT (L:Led P H0 H l fs) (m:Put p (Eo (.lst xs)) (Eo (.lst (xs++[v]))) l l') (hz:xs.length < sizeLine) (h:∀ H',Led P H0 H' l' fs→Chg p H H'→Q .non H'):vn (.ref p) [v] H Q:=by
  obtain ⟨o,ho,hp⟩:=L.at_ _ m.mem
  have hp':o = .lst xs:=hp
  subst hp'
  have c:Chg p H (upd H p (.lst (xs++[v]))):=Chg.upd ho fun _ z=>by cases z
  exact ⟨p,xs,v,rfl,rfl,ho,hz,h _ (L.set m c ⟨_,ay,rfl⟩) c⟩
theorem EL {R:Prop} (hs:SqL K H p xs) (h:R):tyV K "list" (.ref p) H∧R:=⟨.inl ⟨rfl,_,hs⟩,h⟩
theorem IS {R:Prop} {z:Str} (h:R):tyV K "str" (.str z) H∧R:=⟨rfl,h⟩
theorem GB {to ti:TE} {t:DZ} {σ : St} {R:St→Hp→Prop} (h:to σ H fun o H1=>ti σ H1 fun i H2=>t o i v H2 fun H3=>R σ H3):Jr to ti t v σ H R:=h
end
def Hw (J:It) (g:TG) (tb:TS) (D:Ends) (σ : St) (H:Hp):Prop:=∃ W:Nat→Nat→St→Hp→Prop,(∃ m,W 0 m σ H)∧∀ i m σ H,W i m σ H →
  (J.stop i H∧D.nx σ H)∨(J.go i H∧∃ N:St→Hp→Prop,(∀ σ' H',N σ' H'→∃ m',m' < m∧W (i+1) m' σ' H')∧∀ x H',J.yld i H x H'→g x σ H' fun σ2 H2=>tb { D with nx:=N,ct:=N,bk:=D.nx } σ2 H2)
def JB (vs:List V) (H:Hp) (R:It→Hp→Prop):Prop:=∃ j:Int,vs=[.int j]∧-(2 ^ 62)≤j∧j < 2 ^ 62∧R (Itr 0 j.toNat) H
def JA (vs:List V) (H:Hp) (R:It→Hp→Prop):Prop:=∃ i j:Int,vs=[.int i,.int j]∧(-(2 ^ 62)≤i∧i < 2 ^ 62∧-(2 ^ 62)≤j∧j < 2 ^ 62)∧R (Itr i (j - i).toNat) H
def WkL (K:PySem.W.Frag) (x:V) (H:Hp) (R:It→Hp→Prop):Prop:=∃ a,x = .ref a∧(∃ xs,SqL K H a xs)∧R (Itl K a) H
def Bq (J:It) (Q:VK) (σb:St) (g:TG) (tc:TT) (te:TE) (H:Hp):Prop:=∃ W:Nat→Nat→List V→Hp→Prop,(∃ m,W 0 m [] H)∧rS J W (fun ys H=>∀ p,H p=none→Q (.ref p) (upd H p (.lst ys))) σb g tc te
section
variable {K:PySem.W.Frag} {σ : St} {H:Hp} {Q:VK} {D:Ends} {wi:TI} {g:TG} {tb:TS} {ta:TE} {tl:TA} {R:It→Hp→Prop} {tc:TT} {te:TE}
theorem Jj (h:wi σ H fun J H1=>Hw J g tb D σ H1):HU wi g tb D σ H:=h
theorem Gd (h:tl σ H fun vs H1=>JB vs H1 R):EG tl σ H R:=h
theorem Gb (h:tl σ H fun vs H1=>JA vs H1 R):EF tl σ H R:=h
theorem IP (h:ta σ H fun x H1=>WkL K x H1 R):EH K ta σ H R:=h
theorem Dp {j:Int} (b : -(2 ^ 62)≤j∧j < 2 ^ 62) (h:R (Itr 0 j.toNat) H):JB [.int j] H R:=⟨j,rfl,b.1,b.2,h⟩
theorem Dn {i j:Int} (b:(-(2 ^ 62)≤i∧i < 2 ^ 62)∧-(2 ^ 62)≤j∧j < 2 ^ 62) (h:R (Itr i (j - i).toNat) H):JA [.int i,.int j] H R:=⟨i,j,rfl,⟨b.1.1,b.1.2,b.2.1,b.2.2⟩,h⟩
theorem c9 {a:Addr} {xs:List V} (s:SqL K H a xs) (h:R (Itl K a) H):WkL K (.ref a) H R:=⟨a,rfl,⟨xs,s⟩,h⟩
theorem AR {lo:Int} {n:Nat} (Pv:Nat→St→Hp→Prop) (h0:Pv 0 σ H) (hs:∀ i σ H,i < n→Pv i σ H→g (.int (lo+i)) σ H fun σ2 H2=>tb { D with nx:=Pv (i+1),ct:=Pv (i+1),bk:=D.nx } σ2 H2)
    (hd:∀ σ H,Pv n σ H→D.nx σ H):Hw (Itr lo n) g tb D σ H:=xC Pv h0 hs hd
theorem jf {a:Addr} (xs:List V) (Pv:Nat→St→Hp→Prop) (h0:Pv 0 σ H) (hl:∀ i σ H,i≤xs.length→Pv i σ H→SqL K H a xs) (hs:∀ i x σ H,xs[i]?=some x→Pv i σ H→g x σ H fun σ2 H2=>tb { D with nx:=Pv (i+1),ct:=Pv (i+1),bk:=D.nx } σ2 H2)
    (hd:∀ σ H,Pv xs.length σ H→D.nx σ H):Hw (Itl K a) g tb D σ H:=AS (xs:=xs) Pv h0 hl hs hd
theorem GG {own:Nat} {cap:List Nat} (h:wi σ H fun J H1=>Bq J Q (uD own cap σ) g tc te H1):uU wi own cap g tc te σ H Q:=h
theorem DB {i own:Nat} {cap:List Nat} (h:uU wi own cap g tc te σ H fun v H1=>D.nx (σ.set i (some v)) H1):yr i wi own cap g tc te D σ H:=h
theorem fB {a:Addr} (xs:List V) {σb:St} (Pv:Nat→List V→Hp→Prop) (h0:Pv 0 [] H) (hl:∀ i ys H,i≤xs.length→Pv i ys H→SqL K H a xs∧ys.length≤sizeLine)
    (hs:∀ i x ys H,xs[i]?=some x→Pv i ys H→g x σb H fun σ2 H2=>tc σ2 H2 fun b H3=>if b=true then te σ2 H3 fun y H4=>Pv (i+1) (ys++[y]) H4 else Pv (i+1) ys H3) (hd:∀ ys H,Pv xs.length ys H→∀ p,H p=none→Q (.ref p) (upd H p (.lst ys))) :
    Bq (Itl K a) Q σb g tc te H:=xE (xs:=xs) Pv h0 hl hs hd
theorem DC {lo:Int} {n:Nat} {σb:St} (Pv:Nat→List V→Hp→Prop) (h0:Pv 0 [] H) (hl:∀ i ys H,i≤n→Pv i ys H→ys.length≤sizeLine)
    (hs:∀ i ys H,i < n→Pv i ys H→g (.int (lo+i)) σb H fun σ2 H2=>tc σ2 H2 fun b H3=>if b=true then te σ2 H3 fun y H4=>Pv (i+1) (ys++[y]) H4 else Pv (i+1) ys H3) (hd:∀ ys H,Pv n ys H→∀ p,H p=none→Q (.ref p) (upd H p (.lst ys))) :
    Bq (Itr lo n) Q σb g tc te H:=uq Pv h0 hl hs hd
theorem F9 {B:Bool→Hp→Prop} (h:B true H):HZ σ H B:=h
-- builtins
theorem Jc {a b:Int} (h:Q (.int (max a b)) H):Ik [V.int a,V.int b] H Q:=⟨a,b,rfl,by
  have e:(if b > a then b else a)=max a b:=by omega
  rw [e];exact h⟩
theorem Jb {a b:Int} (h:Q (.int (min a b)) H):Ij [V.int a,V.int b] H Q:=⟨a,b,rfl,by
  have e:(if b < a then b else a)=min a b:=by omega
  rw [e];exact h⟩
theorem dc {a:Addr} {ys:List V} (s:SqL K H a ys) (h:Q (.int ys.length) H):Il K [V.ref a] H Q:=⟨a,ys,rfl,.inl s,h⟩
theorem Led.seq {P:Addr→Prop} {H0:Hp} {l:List (Addr×Ob)} {fs:List Pr} {a:Addr} {xs:List V} (L:Led P H0 H l fs) (s:SqL K H0 a xs) (n:¬ P a):SqL K H a xs:=by
  rcases s with (s | ⟨o,s⟩) | s
  · exact .inl (.inl (L.fr _ _ s n))
  · exact .inl (.inr ⟨o,L.fr _ _ s n⟩)
  · exact .inr s
theorem oG {x y:Str} (hz:x.length+y.length≤sizeLine) (h:Q (.str (x++y)) H):Ez (V.str x) (V.str y) H Q:=⟨x,y,rfl,rfl,hz,h⟩
theorem Gp {z:Str} {n:Int} (b:z.length≤1000∧-1000≤n∧n≤10000) (h:Q (.str (Txt.mul z n)) H):Es (V.str z) (V.int n) H Q:=⟨z,n,rfl,rfl,b.1,b.2.1,b.2.2,h⟩
theorem Gy {z:Str} {p:Addr} {ys:List Str} (s:SqL K H p (ys.map V.str)) (b:(ys.map (·.length)).sum+ys.length * z.length≤16777216) (h:Q (.str (Txt.join z ys)) H):rJoin K (.str z) [.ref p] H Q:=⟨z,p,ys,rfl,rfl,s,b,h⟩
theorem EN {z:Str} {i:Int} {c:Nat} (hz:z.length≤sizeLine) (e:atI z.cps.toList i=some c) (h:Q (.str ⟨#[c]⟩) H):Im (.str z) (.int i) H Q:=⟨z,i,c,rfl,rfl,hz,e,h⟩
end
inductive Dt where
  | non | bl (b:Bool) | int (i:Int) | str (x:Str) | tup (ds:List Dt) | lst (ds:List Dt)
mutual
def eqD:Dt→Dt→Bool
  | .non,.non=>true
  | .bl a,.bl b=>a == b
  | .bl a,.int b=>(if a then 1 else 0) == b
  | .int a,.bl b=>a == (if b then 1 else 0)
  | .int a,.int b=>a == b
  | .str a,.str b=>a == b
  | .tup a,.tup b=>jE a b
  | .lst a,.lst b=>jE a b
  | _,_=>false
def jE:List Dt→List Dt→Bool
  | [],[]=>true
  | x::xs,y::ys=>eqD x y && jE xs ys
  | _,_=>false
end
mutual
def dep:Dt→Nat
  | .tup ds=>deps ds+1
  | .lst ds=>deps ds+1
  | _=>0
def deps:List Dt→Nat
  | []=>0
  | d::ds=>max (dep d) (deps ds)
end
theorem iN:∀ {ds:List Dt} {d:Dt},d∈ds→dep d≤deps ds
  | [],_,h=>by simp at h
  | x::ds,d,h=>by
    rw [deps]
    rcases List.mem_cons.mp h with rfl | h
    · exact Nat.le_max_left _ _
    · exact Nat.le_trans (iN h) (Nat.le_max_right _ _)
mutual
theorem iM:∀ d:Dt,eqD d d=true
  | .non=>by rw [eqD]
  | .bl b=>by rw [eqD];exact beq_self_eq_true b
  | .int i=>by rw [eqD];exact beq_self_eq_true i
  | .str x=>by rw [eqD];exact beq_self_eq_true x
  | .tup ds=>by rw [eqD];exact jg ds
  | .lst ds=>by rw [eqD];exact jg ds
theorem jg:∀ ds:List Dt,jE ds ds=true
  | []=>by rw [jE]
  | d::ds=>by rw [jE,iM d,jg ds];rfl
end
theorem eY:∀ (ds es:List Dt),((List.range (min ds.length es.length)).all (fun j=>eqD (ds.getD j .non) (es.getD j .non)) && ds.length == es.length)=jE ds es
  | [],[]=>by rw [jE];rfl
  | [],_::_=>by simp [jE]
  | _::_,[]=>by simp [jE]
  | d::ds,e::es=>by
    have ih:=eY ds es
    rw [jE,← ih]
    have h1:min (d::ds).length (e::es).length=min ds.length es.length+1:=by simp only [List.length_cons];omega
    rw [h1,List.range_succ_eq_map,List.all_cons,List.all_map]
    have h2:((d::ds).length == (e::es).length)=(ds.length == es.length):=by
      rw [Bool.eq_iff_iff];simp
    rw [h2,Bool.and_assoc]
    rfl
theorem mV:∀ {ds es:List Dt},ds.length≠es.length→jE ds es=false:=fun {ds es} h=>by
  rw [← eY,show (ds.length == es.length)=false from by simpa using h,Bool.and_false]
mutual
inductive At (K:PySem.W.Frag) (H:Hp):V→Dt→Prop
  | non:At K H .non .non
  | bl (b:Bool):At K H (.bl b) (.bl b)
  | int (i:Int):At K H (.int i) (.int i)
  | str (x:Str):At K H (.str x) (.str x)
  | tup {a:Addr} {xs:List V} {ds:List Dt} (h:SqT K H a xs) (r:Ats K H xs ds):At K H (.ref a) (.tup ds)
  | lst {a:Addr} {xs:List V} {ds:List Dt} (h:SqL K H a xs) (r:Ats K H xs ds):At K H (.ref a) (.lst ds)
inductive Ats (K:PySem.W.Frag) (H:Hp):List V→List Dt→Prop
  | nil:Ats K H [] []
  | cons {x:V} {d:Dt} {xs:List V} {ds:List Dt} (h:At K H x d) (r:Ats K H xs ds):Ats K H (x::xs) (d::ds)
end
theorem Ats.len {K:PySem.W.Frag} {H:Hp}:∀ {xs:List V} {ds:List Dt},Ats K H xs ds→xs.length=ds.length
  | _,_,.nil=>rfl
  | _,_,.cons _ r=>by rw [List.length_cons,List.length_cons,r.len]
theorem Ats.get {K:PySem.W.Frag} {H:Hp}:∀ {xs:List V} {ds:List Dt} {j:Nat} {x:V},Ats K H xs ds→xs[j]?=some x→∃ d,ds[j]?=some d∧At K H x d
  | _,_,_,_,.nil,e=>by simp at e
  | _,_,0,_,.cons h _,e=>by simp at e;subst e;exact ⟨_,rfl,h⟩
  | _,_,j+1,x,.cons _ r,e=>by
    obtain ⟨d,h1,h2⟩:=Ats.get (j:=j) (x:=x) r (by simpa using e)
    exact ⟨d,by simpa using h1,h2⟩
section
variable {X:Cx} {pins:List (Addr×Obj)} {σ : St} {H:Hp} {s:Shared}
mutual
theorem At.inj (I:Inv X pins σ H s) {x:V}:∀ {d e:Dt},At X.K H x d→At X.K H x e→d=e
  | _,_,.non,h=>by cases h;rfl
  | _,_,.bl _,h=>by cases h;rfl
  | _,_,.int _,h=>by cases h;rfl
  | _,_,.str _,h=>by cases h;rfl
  | _,_,.tup h r,g=>by
    cases g with
    | tup h' r'=>
      have e:=I.lZ h h'
      subst e
      rw [Ats.inj I r r']
    | lst h' r'=>
      obtain ⟨_,_,⟨o,e,c,_⟩,_⟩:=I.tuple h
      obtain ⟨_,_,⟨o',n',e',c',_⟩,_⟩:=I.list h'
      rw [e] at e';cases e'
      rw [c] at c';injection c' with z;exact absurd z (by decide)
  | _,_,.lst h r,g=>by
    cases g with
    | lst h' r'=>
      have e:=I.ku h h'
      subst e
      rw [Ats.inj I r r']
    | tup h' r'=>
      obtain ⟨_,_,⟨o,e,c,_⟩,_⟩:=I.tuple h'
      obtain ⟨_,_,⟨o',n',e',c',_⟩,_⟩:=I.list h
      rw [e] at e';cases e'
      rw [c] at c';injection c' with z;exact absurd z (by decide)
theorem Ats.inj (I:Inv X pins σ H s) {xs:List V}:∀ {ds es:List Dt},Ats X.K H xs ds→Ats X.K H xs es→ds=es
  | _,_,.nil,h=>by cases h;rfl
  | _,_,.cons h r,g=>by
    cases g with
    | cons h' r'=>rw [At.inj I h h',Ats.inj I r r']
end
end
theorem E9 {A:Around} {s:Shared} {y x:V} {u v:Value} (ry:RelV y u) (rx:RelV x v) (fy:cH y=true) (fx:cH x=true):SeqAt.RcNeAt A s u v (!eqV y x):=by
  cases y with
  | non=>
    cases ry
    cases x with
    | non=>cases rx;exact SeqAt.RcNeAt.none_none
    | bl b=>cases rx;exact SeqAt.RcNeAt.none_bool b
    | int b=>obtain ⟨t,rfl⟩:=rx;exact SeqAt.RcNeAt.none_int b t
    | str b=>obtain ⟨t,rfl⟩:=rx;exact SeqAt.RcNeAt.none_str b t
    | _=>exact absurd (show false=true from fx) Bool.false_ne_true
  | bl a=>
    cases ry
    cases x with
    | non=>cases rx;exact SeqAt.RcNeAt.bool_none a
    | bl b=>cases rx;exact SeqAt.RcNeAt.bool_bool a b
    | int b=>obtain ⟨t,rfl⟩:=rx;exact SeqAt.RcNeAt.bool_int a b t
    | str b=>obtain ⟨t,rfl⟩:=rx;exact SeqAt.RcNeAt.bool_str a b t
    | _=>exact absurd (show false=true from fx) Bool.false_ne_true
  | int a=>
    obtain ⟨t',rfl⟩:=ry
    cases x with
    | non=>cases rx;exact SeqAt.RcNeAt.int_none a t'
    | bl b=>cases rx;exact SeqAt.RcNeAt.int_bool a t' b
    | int b=>obtain ⟨t,rfl⟩:=rx;exact SeqAt.RcNeAt.int_int a t' b t
    | str b=>obtain ⟨t,rfl⟩:=rx;exact SeqAt.RcNeAt.int_str a t' b t
    | _=>exact absurd (show false=true from fx) Bool.false_ne_true
  | str a=>
    obtain ⟨t',rfl⟩:=ry
    cases x with
    | non=>cases rx;exact SeqAt.RcNeAt.str_none a t'
    | bl b=>cases rx;exact SeqAt.RcNeAt.str_bool a t' b
    | int b=>obtain ⟨t,rfl⟩:=rx;exact SeqAt.RcNeAt.str_int a t' b t
    | str b=>obtain ⟨t,rfl⟩:=rx;exact SeqAt.RcNeAt.str_str a t' b t
    | _=>exact absurd (show false=true from fx) Bool.false_ne_true
  | _=>exact absurd (show false=true from fy) Bool.false_ne_true
theorem gJ {A:Around} {s:Shared} {x:V} {u:Value} {a:Addr} {its:Array Value} (rx:RelV x u) (fx:cH x=true) (h:s.heap.IsTuple a its) (hu:A.units < cLine):SeqAt.EqAt A s u (.ref a) false:=by
  cases x with
  | non=>cases rx;exact SeqAt.EqAt.none_tuple h hu
  | bl b=>cases rx;exact SeqAt.EqAt.bool_tuple b h hu
  | int b=>obtain ⟨t,rfl⟩:=rx;exact SeqAt.EqAt.int_tuple b t h hu
  | str b=>obtain ⟨t,rfl⟩:=rx;exact SeqAt.EqAt.str_tuple b t h hu
  | _=>exact absurd (show false=true from fx) Bool.false_ne_true
theorem lP {A:Around} {s:Shared} {x:V} {u:Value} {a:Addr} {its:Array Value} (rx:RelV x u) (fx:cH x=true) (h:s.heap.IsTuple a its) (hu:A.units < cLine):SeqAt.EqAt A s (.ref a) u false:=by
  cases x with
  | non=>cases rx;exact SeqAt.EqAt.tuple_none h hu
  | bl b=>cases rx;exact SeqAt.EqAt.tuple_bool b h hu
  | int b=>obtain ⟨t,rfl⟩:=rx;exact SeqAt.EqAt.tuple_int b t h hu
  | str b=>obtain ⟨t,rfl⟩:=rx;exact SeqAt.EqAt.tuple_str b t h hu
  | _=>exact absurd (show false=true from fx) Bool.false_ne_true
theorem iL {A:Around} {s:Shared} {x:V} {u:Value} {a:Addr} {its:Array Value} (rx:RelV x u) (fx:cH x=true) (h:s.heap.IsList a its) (hu:A.units < cLine):SeqAt.EqAt A s u (.ref a) false:=by
  cases x with
  | non=>cases rx;exact SeqAt.EqAt.none_list h hu
  | bl b=>cases rx;exact SeqAt.EqAt.bool_list b h hu
  | int b=>obtain ⟨t,rfl⟩:=rx;exact SeqAt.EqAt.int_list b t h hu
  | str b=>obtain ⟨t,rfl⟩:=rx;exact SeqAt.EqAt.str_list b t h hu
  | _=>exact absurd (show false=true from fx) Bool.false_ne_true
theorem oK {A:Around} {s:Shared} {x:V} {u:Value} {a:Addr} {its:Array Value} (rx:RelV x u) (fx:cH x=true) (h:s.heap.IsList a its) (hu:A.units < cLine):SeqAt.EqAt A s (.ref a) u false:=by
  cases x with
  | non=>cases rx;exact SeqAt.EqAt.list_none h hu
  | bl b=>cases rx;exact SeqAt.EqAt.list_bool b h hu
  | int b=>obtain ⟨t,rfl⟩:=rx;exact SeqAt.EqAt.list_int b t h hu
  | str b=>obtain ⟨t,rfl⟩:=rx;exact SeqAt.EqAt.list_str b t h hu
  | _=>exact absurd (show false=true from fx) Bool.false_ne_true
theorem lK {A:Around} {s:Shared} {x:V} {u:Value} {a:Addr} {its:Array Value} (rx:RelV x u) (fx:cH x=true) (h:s.heap.IsTuple a its) (hu:A.units < cLine):SeqAt.RcNeAt A s u (.ref a) true:=by
  cases x with
  | non=>cases rx;exact SeqAt.RcNeAt.none_tuple h hu
  | bl b=>cases rx;exact SeqAt.RcNeAt.bool_tuple b h hu
  | int b=>obtain ⟨t,rfl⟩:=rx;exact SeqAt.RcNeAt.int_tuple b t h hu
  | str b=>obtain ⟨t,rfl⟩:=rx;exact SeqAt.RcNeAt.str_tuple b t h hu
  | _=>exact absurd (show false=true from fx) Bool.false_ne_true
theorem lJ {A:Around} {s:Shared} {x:V} {u:Value} {a:Addr} {its:Array Value} (rx:RelV x u) (fx:cH x=true) (h:s.heap.IsTuple a its) (hu:A.units < cLine):SeqAt.RcNeAt A s (.ref a) u true:=by
  cases x with
  | non=>cases rx;exact SeqAt.RcNeAt.tuple_none h hu
  | bl b=>cases rx;exact SeqAt.RcNeAt.tuple_bool b h hu
  | int b=>obtain ⟨t,rfl⟩:=rx;exact SeqAt.RcNeAt.tuple_int b t h hu
  | str b=>obtain ⟨t,rfl⟩:=rx;exact SeqAt.RcNeAt.tuple_str b t h hu
  | _=>exact absurd (show false=true from fx) Bool.false_ne_true
theorem nV {A:Around} {s:Shared} {x:V} {u:Value} {a:Addr} {its:Array Value} (rx:RelV x u) (fx:cH x=true) (h:s.heap.IsList a its) (hu:A.units < cLine):SeqAt.RcNeAt A s u (.ref a) true:=by
  cases x with
  | non=>cases rx;exact SeqAt.RcNeAt.none_list h hu
  | bl b=>cases rx;exact SeqAt.RcNeAt.bool_list b h hu
  | int b=>obtain ⟨t,rfl⟩:=rx;exact SeqAt.RcNeAt.int_list b t h hu
  | str b=>obtain ⟨t,rfl⟩:=rx;exact SeqAt.RcNeAt.str_list b t h hu
  | _=>exact absurd (show false=true from fx) Bool.false_ne_true
theorem nU {A:Around} {s:Shared} {x:V} {u:Value} {a:Addr} {its:Array Value} (rx:RelV x u) (fx:cH x=true) (h:s.heap.IsList a its) (hu:A.units < cLine):SeqAt.RcNeAt A s (.ref a) u true:=by
  cases x with
  | non=>cases rx;exact SeqAt.RcNeAt.list_none h hu
  | bl b=>cases rx;exact SeqAt.RcNeAt.list_bool b h hu
  | int b=>obtain ⟨t,rfl⟩:=rx;exact SeqAt.RcNeAt.list_int b t h hu
  | str b=>obtain ⟨t,rfl⟩:=rx;exact SeqAt.RcNeAt.list_str b t h hu
  | _=>exact absurd (show false=true from fx) Bool.false_ne_true
inductive Top (K:PySem.W.Frag) (H:Hp) (x:V) (d:Dt):Prop
  | flat (f:cH x=true) (h:∀ y e,At K H y e→cH y=true→eqV x y=eqD d e) (h1:∀ es,eqD d (.tup es)=false∧eqD (.tup es) d=false∧eqD d (.lst es)=false∧eqD (.lst es) d=false)
  | tup (a:Addr) (xs:List V) (ds:List Dt) (e1:x = .ref a) (e2:d = .tup ds) (h:SqT K H a xs) (r:Ats K H xs ds)
  | lst (a:Addr) (xs:List V) (ds:List Dt) (e1:x = .ref a) (e2:d = .lst ds) (h:SqL K H a xs) (r:Ats K H xs ds)
theorem At.top {K:PySem.W.Frag} {H:Hp} {x:V} {d:Dt} (h:At K H x d):Top K H x d:=by
  cases h with
  | tup h r=>exact .tup _ _ _ rfl rfl h r
  | lst h r=>exact .lst _ _ _ rfl rfl h r
  | _=>exact .flat rfl (fun y e g f=>by cases g <;> first | (exact absurd f Bool.false_ne_true) | (simp only [eqV,eqD])) (fun es=>by simp [eqD])
theorem iF {X:Cx} {H:Hp} {xs ys:List V} {ds es:List Dt} {us vs:List Value} {C:Value→Value→Bool→Prop} (h:∀ x y d e u v,d∈ds→At X.K H x d→At X.K H y e→RelV x u→RelV y v→C u v (eqD d e))
    (r:Ats X.K H xs ds) (r':Ats X.K H ys es) (rv:Vals xs us) (rv':Vals ys vs):∀ j (h1:j < us.toArray.size) (h2:j < vs.toArray.size),C us.toArray[j] vs.toArray[j] (eqD (ds.getD j .non) (es.getD j .non)):=fun j h1 h2=>by
  have l1:j < xs.length:=by rw [rv.length];simpa using h1
  have l2:j < ys.length:=by rw [rv'.length];simpa using h2
  obtain ⟨u,e1,q1⟩:=rv.get (List.getElem?_eq_getElem l1)
  obtain ⟨v,e2,q2⟩:=rv'.get (List.getElem?_eq_getElem l2)
  obtain ⟨d,e3,q3⟩:=r.get (List.getElem?_eq_getElem l1)
  obtain ⟨e,e4,q4⟩:=r'.get (List.getElem?_eq_getElem l2)
  have a1:us.toArray[j]=u:=by
    have:=List.getElem?_eq_some_iff.mp e1
    obtain ⟨_,z⟩:=this
    simpa using z
  have a2:vs.toArray[j]=v:=by
    obtain ⟨_,z⟩:=List.getElem?_eq_some_iff.mp e2
    simpa using z
  rw [a1,a2,List.getD_eq_getElem?_getD,List.getD_eq_getElem?_getD,e3,e4]
  exact h _ _ _ _ _ _ (List.mem_of_getElem? e3) q3 q4 q1 q2
theorem EO {X:Cx} {pins:List (Addr×Obj)} {σ : St} {H:Hp} {s:Shared} (I:Inv X pins σ H s):∀ (n:Nat) {x y:V} {d e:Dt} {u v:Value},dep d≤n→At X.K H x d→At X.K H y e→RelV x u→RelV y v→∀ A:Around,A.units+n < cLine→SeqAt.EqAt A s u v (eqD d e):=by
  intro n
  induction n with
  | zero=>
    intro x y d e u v hd hx hy rx ry A hA
    rcases hx.top with ⟨f,h,h1⟩ | ⟨a,xs,ds,rfl,rfl,h,r⟩ | ⟨a,xs,ds,rfl,rfl,h,r⟩
    · rcases hy.top with ⟨f',h',h1'⟩ | ⟨b,ys,es,rfl,rfl,h',r'⟩ | ⟨b,ys,es,rfl,rfl,h',r'⟩
      · rw [← h y e hy f'];exact uo rx ry f f'
      · obtain ⟨its,rv,ht,_⟩:=I.tuple h'
        cases ry;rw [(h1 es).1];exact gJ rx f ht (by omega)
      · obtain ⟨its,rv,ht,_⟩:=I.list h'
        cases ry;rw [(h1 es).2.2.1];exact iL rx f ht.isList (by omega)
    · simp [dep] at hd
    · simp [dep] at hd
  | succ n ih=>
    intro x y d e u v hd hx hy rx ry A hA
    have hu:A.units < cLine:=by omega
    rcases hx.top with ⟨f,h,h1⟩ | ⟨a,xs,ds,rfl,rfl,h,r⟩ | ⟨a,xs,ds,rfl,rfl,h,r⟩
    · rcases hy.top with ⟨f',h',h1'⟩ | ⟨b,ys,es,rfl,rfl,h',r'⟩ | ⟨b,ys,es,rfl,rfl,h',r'⟩
      · rw [← h y e hy f'];exact uo rx ry f f'
      · obtain ⟨its,rv,ht,_⟩:=I.tuple h'
        cases ry;rw [(h1 es).1];exact gJ rx f ht hu
      · obtain ⟨its,rv,ht,_⟩:=I.list h'
        cases ry;rw [(h1 es).2.2.1];exact iL rx f ht.isList hu
    · obtain ⟨its,rv,ht,_⟩:=I.tuple h
      cases rx
      rw [dep] at hd
      rcases hy.top with ⟨f',h',h1'⟩ | ⟨b,ys,es,rfl,rfl,h',r'⟩ | ⟨b,ys,es,rfl,rfl,h',r'⟩
      · rw [(h1' ds).2.1];exact lP ry f' ht hu
      · cases ry
        obtain ⟨its',rv',ht',_⟩:=I.tuple h'
        by_cases hab:a=b
        · subst hab
          have e:=I.lZ h h'
          subst e
          rw [Ats.inj I r r',iM]
          exact SeqAt.EqAt.same _
        · have q:=SeqAt.RcAt.tuples (A:=A) (e:=fun j=>eqD (ds.getD j .non) (es.getD j .non)) ht ht' hu (iF (C:=fun u v k=>SeqAt.EqAt A.in1 s u v k) (fun x y d e u v hm hx hy rx ry=>ih (Nat.le_trans (iN hm) (by omega)) hx hy rx ry A.in1 (by show A.units+1+n < _;omega)) r r' rv rv')
          have l1:its.toArray.size=ds.length:=by rw [List.size_toArray,← rv.length,r.len]
          have l2:its'.toArray.size=es.length:=by rw [List.size_toArray,← rv'.length,r'.len]
          rw [l1,l2,eY] at q
          rw [eqD]
          exact SeqAt.EqAt.of_refs hab q
      · cases ry
        obtain ⟨its',rv',ht',_⟩:=I.list h'
        rw [show eqD (.tup ds) (.lst es)=false by simp [eqD]]
        exact SeqAt.EqAt.tuple_list ht ht'.isList hu
    · obtain ⟨its,rv,ht,_⟩:=I.list h
      cases rx
      rw [dep] at hd
      rcases hy.top with ⟨f',h',h1'⟩ | ⟨b,ys,es,rfl,rfl,h',r'⟩ | ⟨b,ys,es,rfl,rfl,h',r'⟩
      · rw [(h1' ds).2.2.2];exact oK ry f' ht.isList hu
      · cases ry
        obtain ⟨its',rv',ht',_⟩:=I.tuple h'
        rw [show eqD (.lst ds) (.tup es)=false by simp [eqD]]
        exact SeqAt.EqAt.list_tuple ht.isList ht' hu
      · cases ry
        obtain ⟨its',rv',ht',_⟩:=I.list h'
        by_cases hab:a=b
        · subst hab
          have e:=I.ku h h'
          subst e
          rw [Ats.inj I r r',iM]
          exact SeqAt.EqAt.same _
        · refine SeqAt.EqAt.of_refs hab ?_
          have l1:its.toArray.size=ds.length:=by rw [List.size_toArray,← rv.length,r.len]
          have l2:its'.toArray.size=es.length:=by rw [List.size_toArray,← rv'.length,r'.len]
          rw [eqD]
          by_cases hl:ds.length=es.length
          · have q:=SeqAt.RcAt.lists (A:=A) (e:=fun j=>eqD (ds.getD j .non) (es.getD j .non)) ht.isList ht'.isList (by rw [l1,l2,hl]) hu (iF (C:=fun u v k=>SeqAt.EqAt A.in1 s u v k) (fun x y d e u v hm hx hy rx ry=>ih (Nat.le_trans (iN hm) (by omega)) hx hy rx ry A.in1 (by show A.units+1+n < _;omega)) r r' rv rv')
            have z:=eY ds es
            rw [hl,Nat.min_self,beq_self_eq_true,Bool.and_true] at z
            rw [l1,hl,z] at q
            exact q
          · rw [mV hl]
            exact SeqAt.RcAt.lists_lengths ht.isList ht'.isList (by rw [l1,l2];simpa using hl) hu
theorem B7 {X:Cx} {pins:List (Addr×Obj)} {σ : St} {H:Hp} {s:Shared} (I:Inv X pins σ H s) {n:Nat} {x y:V} {d e:Dt} {u v:Value} (hd:dep d≤n) (hx:At X.K H x d) (hy:At X.K H y e) (rx:RelV x u) (ry:RelV y v) (A:Around) (hA:A.units+1+n < cLine):SeqAt.RcNeAt A s u v (!eqD d e):=by
  have hu:A.units < cLine:=by omega
  rcases hx.top with ⟨f,h,h1⟩ | ⟨a,xs,ds,rfl,rfl,h,r⟩ | ⟨a,xs,ds,rfl,rfl,h,r⟩
  · rcases hy.top with ⟨f',h',h1'⟩ | ⟨b,ys,es,rfl,rfl,h',r'⟩ | ⟨b,ys,es,rfl,rfl,h',r'⟩
    · rw [← h y e hy f'];exact E9 rx ry f f'
    · obtain ⟨its,rv,ht,_⟩:=I.tuple h'
      cases ry;rw [(h1 es).1];exact lK rx f ht hu
    · obtain ⟨its,rv,ht,_⟩:=I.list h'
      cases ry;rw [(h1 es).2.2.1];exact nV rx f ht.isList hu
  · obtain ⟨its,rv,ht,_⟩:=I.tuple h
    cases rx
    rw [dep] at hd
    rcases hy.top with ⟨f',h',h1'⟩ | ⟨b,ys,es,rfl,rfl,h',r'⟩ | ⟨b,ys,es,rfl,rfl,h',r'⟩
    · rw [(h1' ds).2.1];exact lJ ry f' ht hu
    · cases ry
      obtain ⟨its',rv',ht',_⟩:=I.tuple h'
      have q:=SeqAt.RcNeAt.tuples (A:=A) (e:=fun j=>eqD (ds.getD j .non) (es.getD j .non)) ht ht' hu (iF (C:=fun u v k=>SeqAt.EqAt A.in1 s u v k) (fun x y d e u v hm hx hy rx ry=>EO I n (Nat.le_trans (iN hm) (by omega)) hx hy rx ry A.in1 (by show A.units+1+n < _;omega)) r r' rv rv')
      have l1:its.toArray.size=ds.length:=by rw [List.size_toArray,← rv.length,r.len]
      have l2:its'.toArray.size=es.length:=by rw [List.size_toArray,← rv'.length,r'.len]
      rw [l1,l2,eY] at q
      rw [eqD]
      exact q
    · cases ry
      obtain ⟨its',rv',ht',_⟩:=I.list h'
      rw [show eqD (.tup ds) (.lst es)=false by simp [eqD]]
      exact SeqAt.RcNeAt.tuple_list ht ht'.isList hu
  · obtain ⟨its,rv,ht,_⟩:=I.list h
    cases rx
    rw [dep] at hd
    rcases hy.top with ⟨f',h',h1'⟩ | ⟨b,ys,es,rfl,rfl,h',r'⟩ | ⟨b,ys,es,rfl,rfl,h',r'⟩
    · rw [(h1' ds).2.2.2];exact nU ry f' ht.isList hu
    · cases ry
      obtain ⟨its',rv',ht',_⟩:=I.tuple h'
      rw [show eqD (.lst ds) (.tup es)=false by simp [eqD]]
      exact SeqAt.RcNeAt.list_tuple ht.isList ht' hu
    · cases ry
      obtain ⟨its',rv',ht',_⟩:=I.list h'
      have l1:its.toArray.size=ds.length:=by rw [List.size_toArray,← rv.length,r.len]
      have l2:its'.toArray.size=es.length:=by rw [List.size_toArray,← rv'.length,r'.len]
      rw [eqD]
      by_cases hl:ds.length=es.length
      · have q:=SeqAt.RcNeAt.lists (A:=A) (e:=fun j=>eqD (ds.getD j .non) (es.getD j .non)) ht.isList ht'.isList (by rw [l1,l2,hl]) hu (iF (C:=fun u v k=>SeqAt.EqAt A.in1 s u v k) (fun x y d e u v hm hx hy rx ry=>EO I n (Nat.le_trans (iN hm) (by omega)) hx hy rx ry A.in1 (by show A.units+1+n < _;omega)) r r' rv rv')
        have z:=eY ds es
        rw [hl,Nat.min_self,beq_self_eq_true,Bool.and_true] at z
        rw [l1,hl,z] at q
        exact q
      · rw [mV hl]
        exact SeqAt.RcNeAt.lists_lengths ht.isList ht'.isList (by rw [l1,l2];simpa using hl) hu
def Ii (K:PySem.W.Frag):R2:=fun x y H Q=>∃ d e,At K H x d∧At K H y e∧dep d≤100∧Q (.bl (!eqD d e)) H
theorem Fl {X:Cx} (hr:bR 0 X.A):OpR X (compareOp .NotEq) (Ii X.K):=by
  intro pins s σ H x y v u Q I rx ry h
  obtain ⟨d,e,hx,hy,hd,q⟩:=h
  exact B7 I hd hx hy rx ry X.A (by have:=hr.un;omega) _ _ _ _ ⟨.bl _,H,I,rfl,q⟩
theorem Gn {K:PySem.W.Frag} {x y:V} {H:Hp} {Q:VK} {d:Dt} (hx:At K H x d) (hy:At K H y d) (hd:dep d≤100) (h:Q (.bl false) H):Ii K x y H Q:=⟨d,d,hx,hy,hd,by rw [iM];exact h⟩
theorem ints_of:∀ {ns:List Int} {us:List Value},Vals (ns.map V.int) us→IntsAre us ns
  | [],_,.nil=>.nil
  | n::ns,_,.cons r t=>by
    obtain ⟨tk,rfl⟩:=r
    exact .cons n tk (ints_of t)
theorem gq:∀ {ns:List Int} {us:List Value},IntsAre us ns→Vals (ns.map V.int) us
  | _,_,.nil=>.nil
  | _,_,.cons n t r=>.cons ⟨t,rfl⟩ (gq r)
theorem lX:∀ {ns:List Str} {us:List Value},StrsAre us ns→Vals (ns.map V.str) us
  | _,_,.nil=>.nil
  | _,_,.cons n t r=>.cons ⟨t,rfl⟩ (lX r)
def zu (K:PySem.W.Frag):RL:=fun xs H Q=>∃ (p:Addr) (ns:List Str),xs=[.ref p]∧SqL K H p (ns.map V.str)∧ns.length < 64∧∀ (l:Addr) (ms:List Str),H l=none→ms.Perm ns→sortedS ms=true→Q (.ref l) (upd H l (.lst (ms.map V.str)))
section
variable {X:Cx}
theorem DS:b5 X (.builtin "sorted") (zu X.K):=by
  intro pins s σ H xs us Q I r h
  obtain ⟨p,ns,rfl,hq,h64,q⟩:=h
  obtain ⟨u,rfl,rx⟩:=vals1 r
  cases rx
  obtain ⟨its,rv,pl,hz⟩:=I.list hq
  have hl:its.length=ns.length:=by rw [← rv.length,List.length_map]
  refine sorted_strs pl.isList (nA rv) (by omega) fun out ms a1 a2 a3=>?_
  obtain ⟨e,he⟩:=sortedAll_at s.heap its out
  have ro:=lX a1
  have hz2:(ms.map V.str).length≤sizeLine:=by rw [List.length_map,a2.length_eq];exact Nat.le_of_lt (small1000 (by omega))
  refine ⟨.ref (s.heap.objs.size+1),_,I.laid (a:=s.heap.objs.size+1) (o:=.lst (ms.map V.str)) (t':=s.toks) (fun b o hb=>sortedAll_old hb) (Nat.le_succ _) ⟨hz2,out.toList,e,ro,?_⟩,rfl,q _ ms (I.hok.fresh (Nat.le_succ _)) a2 a3⟩
  rw [he]
end
def ZIt (k:Bool) (h:Heap) (i a:Addr) (n:Nat):Prop:=match k with | true=>h.IsListIter i a n | false=>h.IsTupleIter i a n
def ZSr (k:Bool) (h:Heap) (a:Addr) (xs:Array Value):Prop:=match k with | true=>h.IsList a xs | false=>h.IsTuple a xs
section
variable {prog:Program} {w:World} {A:Around} {E:Value→Shared→Prop} {s:Shared}
structure ZAp (z T O i j:Addr):Prop where
  nd:[z,T,O,i,j].Nodup
structure ZAt (k1 k2:Bool) (h:Heap) (z T O i j a b:Addr) (f:Value) (n:Nat):Prop where
  z:IsZip h z T O f
  t:IsPair h T (.ref i) (.ref j)
  o:∃ x y,IsPair h O x y
  i:ZIt k1 h i a n
  j:ZIt k2 h j b n
end
section
variable {X:Cx} {pins:List (Addr×Obj)} {σ : St} {H:Hp} {s:Shared} {h':Heap} {ch:List Addr}
def SqK (k:Bool) (K:PySem.W.Frag) (H:Hp) (a:Addr) (xs:List V):Prop:=match k with | true=>SqL K H a xs | false=>SqT K H a xs
theorem SqK.get {k:Bool} {a:Addr} {xs:List V} (I:Inv X pins σ H s) (q:SqK k X.K H a xs):∃ its:List Value,Vals xs its∧ZSr k s.heap a its.toArray:=by
  cases k with
  | true=>obtain ⟨its,r,p,_⟩:=I.list q;exact ⟨its,r,p.isList⟩
  | false=>obtain ⟨its,r,p,_⟩:=I.tuple q;exact ⟨its,r,p⟩
end
end L4
namespace HT2
open PySem PyProof.Rows HT
theorem zp (A:Around) (s:Shared) (a:Int) (t:Tok) (c:Int) (u:Tok) (prog:Program) (w:World) (E:Value→Shared→Prop) (Q:Value→Shared→Prop) (h:Q (.bool (decide (c < a))) s) :
    wpAny (model prog w) A (richCompare .Gt (.int a t) (.int c u)) Q E s:=
  (PyProof.Rows.gt_int h:wpAny (model prog w) A (compareOp .Gt (.int a t) (.int c u)) Q E s)
section
open PySem.SeqAt
open PySem.AutoSeq1 (wpAny_loadPart')
open PySem.MeetsSeq PySem.MeetsSeq2 PySem.MeetsSeq3
theorem lF (l b:Addr) (xs ys:Array Value) (n m:Nat) (dd ee:Option Addr) (sl tl:Array (Option Value)) (ns ms:List Int) (hi:IntsAre xs.toList ns) (hj:IntsAre ys.toList ms) :
    Meets (Builtin.«tuple.__gt__» ⟨[.ref l,.ref b],[]⟩)
      (fun _ R s=>s.heap.get? l=some { cls:=.type "tuple",dict:=dd,data:=.seq xs n,slots:=sl }∧s.heap.get? b=some { cls:=.type "tuple",dict:=ee,data:=.seq ys m,slots:=tl } ∧
        R (.ok (.ret (.bool (lexLt ms ns)))) s):=
  .of_wp fun prog w A R s h=>by
    obtain ⟨hp,g,d,tk,os⟩:=s;obtain ⟨hl,hb,h⟩:=h
    have f2:=AutoSeq1.sub_tuple_tuple
    have z1:xs.size=ns.length:=by rw [← hi.length];simp
    have z2:ys.size=ms.length:=by rw [← hj.length];simp
    wp_walk using wpAny_loadPart' hl,wpAny_loadPart' hb,wpAny_forIn_list _ (fun rest b s'=>b.1=none∧s'=⟨hp,g,d,tk,os⟩∧∃ (vs ws:List Value) (as bs:List Int),rest=vs.zip ws ∧
      IntsAre vs as∧IntsAre ws bs∧as.length+ys.size=bs.length+xs.size∧R (.ok (.ret (.bool (lexLt bs as)))) ⟨hp,g,d,tk,os⟩) _
    case turn=>
      rintro ⟨y,x⟩ rest b s' ⟨hb',rfl,vs,ws,as,bs,hz,hvi,hwi,hlen,hR⟩
      cases hvi with
      | nil=>rw [List.zip_nil_left] at hz;cases hz
      | cons a t hvi'=>
        cases hwi with
        | nil=>rw [List.zip_nil_right] at hz;cases hz
        | cons c u hwi'=>
          rw [List.zip_cons_cons] at hz
          injection hz with hyx hrest
          injection hyx with hy hx
          subst hy hx
          rw [gS] at hR
          simp only [List.length_cons] at hlen
          obtain ⟨e,he,hiff⟩:=A2 A.in1 ⟨hp,g,d,tk,os⟩ a t c u
          refine wpAny_bind (he prog w _ _ ?_)
          cases e with
          | true=>
            rw [if_pos (hiff.mp rfl).symm] at hR
            wp_walk
            exact ⟨rfl,rfl,_,_,_,_,hrest,hvi',hwi',by omega,hR⟩
          | false=>
            rw [if_neg (fun q=>absurd (hiff.mpr q.symm) Bool.false_ne_true)] at hR
            have hri:=zp A.in1 ⟨hp,g,d,tk,os⟩ a t c u prog w
            wp_walk using hri
            exact ⟨_,rfl,by simpa using hR⟩
    case fin=>
      rintro ⟨b1,b2⟩ s' ⟨hb',rfl,vs,ws,as,bs,hz,hvi,hwi,hlen,hR⟩
      simp only at hb'
      subst hb'
      have hv:lexLt bs as=decide (ys.size < xs.size):=by
        cases hvi with
        | nil=>
          cases hwi with
          | nil=>
            simp only [List.length_nil] at hlen
            rw [lN]
            exact (decide_eq_false (by omega)).symm
          | cons c u hw=>
            simp only [List.length_nil,List.length_cons] at hlen
            rw [kD]
            exact (decide_eq_false (by omega)).symm
        | cons a t hv=>
          cases hwi with
          | nil=>
            simp only [List.length_nil,List.length_cons] at hlen
            rw [kC]
            exact (decide_eq_true (by omega)).symm
          | cons c u hw=>
            rw [List.zip_cons_cons] at hz
            cases hz
      rw [hv] at hR
      wp_walk
      exact ⟨_,rfl,by simpa [Builtin.Tuple.tupleCompareSizes] using hR⟩
    case h=>
      exact ⟨rfl,rfl,xs.toList,ys.toList,ns,ms,rfl,hi,hj,by omega,h⟩
end
section
variable {prog:Program} {w:World} {A:Around} {E:Value→Shared→Prop} {s:Shared}
theorem fz {l b:Addr} {xs ys:Array Value} {ns ms:List Int} {Q:Value→Shared→Prop} (hl:IsTup s.heap l xs) (hb:IsTup s.heap b ys) (hi:IntsAre xs.toList ns) (hj:IntsAre ys.toList ms)
    (hu:A.units < cLine) (h:Q (.bool (lexLt ms ns)) s):wpAny (model prog w) A (richCompare .Gt (.ref l) (.ref b)) Q E s:=by
  obtain ⟨⟨cls,dd,data,sl⟩,ho,hc,n,hd⟩:=id hl
  obtain ⟨⟨cls2,ee,data2,tl⟩,ho2,hc2,m,hd2⟩:=id hb
  simp only at hc hd hc2 hd2
  subst hc hd hc2 hd2
  exact richCompare_meets_room (op:=.Gt) ⟨_,ho,rfl⟩ ⟨_,ho2,rfl⟩ PySem.F.slot_tuple_gt PySem.F.entry_tuple_gt (PySem.F.args_tuple_gt_2 _ _) (lF l b xs ys n m dd ee sl tl ns ms hi hj)
    ⟨ho,ho2,show Value.bool (lexLt ms ns)≠Value.notImplemented∧Q (.bool (lexLt ms ns)) s from ⟨(fun x=>nomatch x),h⟩⟩ hu
end
end HT2
namespace L4
open PySem PySem.Spec PyProof.Rows L2 L3
def Kp (h0 h:Heap):Prop:=∀ b o,h0.get? b=some o→h.get? b=some o
def Bl (prog:Program) (w:World) (A:Around) (op:CmpOp) (P:Nat→Value→Prop) (bt:Nat→Nat→Bool) (h0:Heap):Prop:=
  ∀ i j vi vj (s:Shared) (Q E:Value→Shared→Prop),P i vi→P j vj→Kp h0 s.heap→Q (.bool (bt i j)) s→wpAny (model prog w) A (richCompare op vi vj) Q E s
section
variable {prog:Program} {w:World} {A:Around} {R:Result→Shared→Prop} {I S:Addr} {fp wr:List Addr} {n:Nat} {P:Nat→Value→Prop} {St:Nat→Heap→Prop} {bt:Nat→Nat→Bool} {h0:Heap} {kw:List (Str×Value)}
theorem Fz (W:Walks prog w A.in1 I fp wr n P St) (hc:Bl prog w A.in1 .Gt P bt h0) (nS:S∉fp) (nw:∀ b∈wr,h0.get? b=none) (n0:h0.get? S=none) :
    ∀ (k j:Nat) (s:Shared) (vb:Value) (c:Nat),n - (j+1)=k→j+1≤n→St (j+1) s.heap→P (argBest bt j) vb→Kp h0 s.heap →
    s.heap.get? S=some { cls:=.type "list",dict:=none,data:=.seq #[vb,vb] c,slots:=#[] } →
    (∀ v h' tk,P (argBest bt (n - 1)) v→Kp h0 h'→R (.ok (.ret v)) { s with heap:=h',toks:=tk })→codeAny (model prog w) A (.builtin "max.loop" ⟨[.ref I,.none,.ref S],kw⟩) R s:=by
  have nSw:S∉wr:=fun h=>nS (W.sub _ h)
  have nm:(toString "max" ++ toString ".loop" : String) = "max.loop" := by decide
  intro k
  induction k with
  | zero=>
    intro j s vb c hk hj st hP kp hS hR
    have en:j+1=n:=by omega
    refine codeAny_builtin PySem.F.entry_max_loop ?_
    rw [Around.under_plainId PySem.F.plain_max_loop _]
    show wpAny _ A.in1 (seqItems? (.ref S) >>= _) _ _ s;refine wpAny_bind (wpAny_seqItems hS rfl ?_)
    show wpAny _ A.in1 (tryCatch (pyNext (.ref I)) _ >>= _) _ _ s;refine wpAny_bind (wpAny_tryCatch (W.done s _ _ (en▸st) fun h1 tk k1=>?_))
    have hS1:=k1 S _ nSw hS
    show wpAny _ A.in1 (updateSeq S (fun _=>#[]) >>= _) _ _ _;refine wpAny_bind ?_
    refine wpAny_updateSeq hS1 rfl (wpAny_bind (wpAny_letGo (wpAny_pure ?_)))
    refine hR vb _ tk (by rw [← en];exact hP) fun b o e=>(Heap.get?_update_other _ _ (fun z:S=b=>by rw [← z,n0] at e;cases e)).trans (k1 b o (fun z=>by rw [nw b z] at e;cases e) (kp b o e))
  | succ k ih=>
    intro j s vb c hk hj st hP kp hS hR
    have lt:j+1 < n:=by omega
    refine codeAny_builtin PySem.F.entry_max_loop ?_
    rw [Around.under_plainId PySem.F.plain_max_loop _]
    show wpAny _ A.in1 (seqItems? (.ref S) >>= _) _ _ s;refine wpAny_bind (wpAny_seqItems hS rfl ?_)
    show wpAny _ A.in1 (tryCatch (pyNext (.ref I)) _ >>= _) _ _ s;refine wpAny_bind (wpAny_tryCatch (W.item (j+1) s _ _ lt st fun v h1 tk p1 st1 k1=>?_))
    have hS1:=k1 S _ nSw hS
    have kp1:Kp h0 h1:=fun b o e=>k1 b o (fun z=>by rw [nw b z] at e;cases e) (kp b o e)
    show wpAny _ A.in1 (tryCatch (holding [v,v] (richCompare .Gt v vb >>= _)) _ >>= _) _ _ _
    refine wpAny_bind (wpAny_tryCatch (wpAny_holding (wpAny_bind (hc (j+1) (argBest bt j) v vb _ _ _ p1 hP kp1 ?_))))
    refine wpAny_bind (wpAny_holding (wpAny_truthy_bool ?_));refine wpAny_bind (wpAny_letGo (wpAny_pure ?_))
    cases hb:bt (j+1) (argBest bt j) with
    | true=>
      simp only [if_true];refine wpAny_bind ?_
      refine wpAny_updateSeq hS1 rfl (wpAny_bind (wpAny_letGo ?_));rw [nm]
      refine wpAny_pure ⟨plainId_quiet PySem.F.plain_max_loop _,ih (j+1) _ v _ (by omega) lt (W.frame _ _ _ st1 fun b hf o e=>?_) (by simp only [argBest,hb,if_true];exact p1) (fun b o e=>?_) (Heap.get?_update_self _ hS1 rfl) fun v2 h2 tk2 p2 k2=>hR v2 h2 tk2 p2 k2⟩
      · exact (Heap.get?_update_other _ _ (fun h:S=b=>nS (by rw [h];exact hf))).trans e
      · exact (Heap.get?_update_other _ _ (fun z:S=b=>by rw [← z,n0] at e;cases e)).trans (kp1 b o e)
    | false=>
      simp only [Bool.false_eq_true,if_false];refine wpAny_bind (wpAny_letGo ?_);rw [nm]
      exact wpAny_pure ⟨plainId_quiet PySem.F.plain_max_loop _,ih (j+1) _ vb c (by omega) lt st1 (by simp only [argBest,hb,Bool.false_eq_true,if_false];exact hP) kp1 hS1 fun v2 h2 tk2 p2 k2=>hR v2 h2 tk2 p2 k2⟩
theorem oj (W:Walks prog w A.in1 I fp wr n P St) (hc:Bl prog w A.in1 .Gt P bt h0) (nS:S∉fp) (nw:∀ b∈wr,h0.get? b=none) (n0:h0.get? S=none) (hn : 0 < n) {s:Shared} {c:Nat} (st:St 0 s.heap) (kp:Kp h0 s.heap)
    (hS:s.heap.get? S=some { cls:=.type "list",dict:=none,data:=.seq #[] c,slots:=#[] })
    (hR:∀ v h' tk,P (argBest bt (n - 1)) v→Kp h0 h'→R (.ok (.ret v)) { s with heap:=h',toks:=tk }):codeAny (model prog w) A (.builtin "max.loop" ⟨[.ref I,.none,.ref S],kw⟩) R s:=by
  have nSw:S∉wr:=fun h=>nS (W.sub _ h)
  have nm:(toString "max" ++ toString ".loop" : String) = "max.loop" := by decide
  refine codeAny_builtin PySem.F.entry_max_loop ?_
  rw [Around.under_plainId PySem.F.plain_max_loop _]
  show wpAny _ A.in1 (seqItems? (.ref S) >>= _) _ _ s;refine wpAny_bind (wpAny_seqItems hS rfl ?_)
  show wpAny _ A.in1 (tryCatch (pyNext (.ref I)) _ >>= _) _ _ s;refine wpAny_bind (wpAny_tryCatch (W.item 0 s _ _ hn st fun v h1 tk p1 st1 k1=>?_))
  have hS1:=k1 S _ nSw hS
  have kp1:Kp h0 h1:=fun b o e=>k1 b o (fun z=>by rw [nw b z] at e;cases e) (kp b o e)
  show wpAny _ A.in1 (updateSeq S (fun _=>#[v,v]) >>= _) _ _ _;refine wpAny_bind ?_
  refine wpAny_updateSeq hS1 rfl ?_;rw [nm]
  refine wpAny_pure ⟨plainId_quiet PySem.F.plain_max_loop _,Fz W hc nS nw n0 _ 0 _ v _ rfl hn (W.frame _ _ _ st1 fun b hf o e=>?_) p1 (fun b o e=>?_) (Heap.get?_update_self _ hS1 rfl) fun v2 h2 tk2 p2 k2=>hR v2 h2 tk2 p2 k2⟩
  · exact (Heap.get?_update_other _ _ (fun h:S=b=>nS (by rw [h];exact hf))).trans e
  · exact (Heap.get?_update_other _ _ (fun z:S=b=>by rw [← z,n0] at e;cases e)).trans (kp1 b o e)
end
section
variable {prog:Program} {w:World} {A:Around} {E:Value→Shared→Prop} {s:Shared}
theorem args_max3 (a b c:Value):argsOk "max" ⟨[a,b,c],[]⟩:=by unfold argsOk;kernel_rfl
theorem kq {vs:List Value} {bt:Nat→Nat→Bool} {Q:Value→Shared→Prop} (hh:A.handled=none) (hv : 0 < vs.length) (hc:Bl prog w A.in1 .Gt (fun i v=>vs.toArray[i]?=some v) bt s.heap)
    (hQ:∀ v h' tk,vs.toArray[argBest bt (vs.length - 1)]?=some v→Kp s.heap h'→Q v { s with heap:=h',toks:=tk }) :
    wpAny (model prog w) A.in1 (do let it ← pyIter (.ref s.heap.objs.size);again (.builtin "max.loop" ⟨[it,.none,← newList []],[]⟩)) (fun fin s'=>match fin with
      | .done f=>(match (Except.ok f:Result) with | .ok (.ret v)=>Q v s' | .ok _=>False | .error e=>E e s')
      | .again c'=>c'.quiet=true∧codeAny (model prog w) A c' (fun r s'=>match r with | .ok (.ret v)=>Q v s' | .ok _=>False | .error e=>E e s') s') E { s with heap:=s.heap.push { cls:=.type "tuple",data:=.seq vs.toArray } }:=by
  have ht:(s.heap.push { cls:=.type "tuple",data:=.seq vs.toArray }).IsTuple s.heap.objs.size vs.toArray:=⟨_,Heap.get?_push_size _ rfl,rfl,0,rfl⟩
  have z1:(s.heap.push { cls:=.type "tuple",data:=.seq vs.toArray }).objs.size=s.heap.objs.size+1:=Heap.size_push ..
  refine wpAny_bind (wpAny_pyIter_tuple ht ?_)
  refine wpAny_bind (wpAny_newObj_type ?_)
  have gone:∀ b,s.heap.objs.size≤b→s.heap.get? b=none:=fun b hb=>by
    cases q:s.heap.get? b with
    | none=>rfl
    | some o=>exact absurd (Heap.lt_size q) (Nat.not_lt.mpr hb)
  have W:=Walks.tuple (prog:=prog) (w:=w) (A:=A.in1) hh (s.heap.push { cls:=.type "tuple",data:=.seq vs.toArray }).objs.size s.heap.objs.size (by rw [z1];exact Nat.ne_of_lt (Nat.lt_succ_self _)) vs.toArray
  have z2:((s.heap.push { cls:=.type "tuple",data:=.seq vs.toArray }).push { cls:=.type "tuple_iterator",data:=.fields #[.ref s.heap.objs.size,.int 0 0] }).objs.size=s.heap.objs.size+2:=by rw [Heap.size_push,z1]
  refine wpAny_pure ⟨plainId_quiet PySem.F.plain_max_loop _,oj W hc (h0:=s.heap) ?_ ?_ (gone _ (by rw [z2];omega)) (by simpa using hv) (W.frame 0 _ _ ⟨⟨_,Heap.get?_push_size _ rfl,rfl,rfl⟩,ht.push _⟩ fun b _ o e=>Heap.get?_push_of_some _ e)
    (fun b o e=>Heap.get?_push_of_some _ (Heap.get?_push_of_some _ (Heap.get?_push_of_some _ e))) (Heap.get?_push_size _ rfl) fun v h' tk p k=>?_⟩
  · intro hm
    rw [z2,z1] at hm
    simp at hm
  · intro b hb
    simp at hb
    rw [hb]
    exact gone _ (by first | omega | (rw [z1];omega))
  · exact hQ v h' tk (by simpa using p) k
theorem uu {a b:Value} {bt:Nat→Nat→Bool} {Q:Value→Shared→Prop} (hh:A.handled=none) (hc:Bl prog w A.in1 .Gt (fun i v=>#[a,b][i]?=some v) bt s.heap)
    (hQ:∀ v h' tk,#[a,b][argBest bt 1]?=some v→Kp s.heap h'→Q v { s with heap:=h',toks:=tk }):wpAny (model prog w) A (call (.builtin "max") [a,b]) Q E s:=by
  have nm:(toString "max" ++ toString ".loop" : String) = "max.loop" := by decide
  refine call_function_tree PySem.F.kind_max PySem.F.plain_max PySem.F.entry_max (PySem.F.args_max2 _ _) ?_
  show wpAny _ A.in1 (Builtin.Builtins.bindParams "max" ["key", "default"] 0 ⟨[],[]⟩ >>= _) _ _ s
  refine wpAny_bind (wpAny_of_eq (show Builtin.Builtins.bindParams "max" ["key", "default"] 0 ⟨[],[]⟩=pure [none,none] from rfl) ?_)
  show wpAny _ A.in1 (newTuple [a,b] >>= _) _ _ s
  refine wpAny_bind (wpAny_newObj_type ?_)
  have go:=kq (prog:=prog) (w:=w) (E:=E) (Q:=Q) (s:=s) (vs:=[a,b]) hh (Nat.zero_lt_succ _) hc hQ
  rw [← nm] at go
  exact go
theorem ur {a b c:Value} {bt:Nat→Nat→Bool} {Q:Value→Shared→Prop} (hh:A.handled=none) (hc:Bl prog w A.in1 .Gt (fun i v=>#[a,b,c][i]?=some v) bt s.heap)
    (hQ:∀ v h' tk,#[a,b,c][argBest bt 2]?=some v→Kp s.heap h'→Q v { s with heap:=h',toks:=tk }):wpAny (model prog w) A (call (.builtin "max") [a,b,c]) Q E s:=by
  have nm:(toString "max" ++ toString ".loop" : String) = "max.loop" := by decide
  refine call_function_tree PySem.F.kind_max PySem.F.plain_max PySem.F.entry_max (args_max3 _ _ _) ?_
  show wpAny _ A.in1 (Builtin.Builtins.bindParams "max" ["key", "default"] 0 ⟨[],[]⟩ >>= _) _ _ s
  refine wpAny_bind (wpAny_of_eq (show Builtin.Builtins.bindParams "max" ["key", "default"] 0 ⟨[],[]⟩=pure [none,none] from rfl) ?_)
  show wpAny _ A.in1 (newTuple [a,b,c] >>= _) _ _ s
  refine wpAny_bind (wpAny_newObj_type ?_)
  have go:=kq (prog:=prog) (w:=w) (E:=E) (Q:=Q) (s:=s) (vs:=[a,b,c]) hh (Nat.zero_lt_succ _) hc hQ
  rw [← nm] at go
  exact go
end
def Eu (K:PySem.W.Frag):RL:=fun xs H Q=>∃ a b ns ms,xs=[.ref a,.ref b]∧SqT K H a (ns.map V.int)∧SqT K H b (ms.map V.int)∧Q (.ref (if HT.lexLt ns ms=true then b else a)) H
def Ew:RL:=fun xs H Q=>∃ i j k,xs=[.int i,.int j,.int k]∧Q (.int (max (max i j) k)) H
def Ey:RL:=fun xs H Q=>∃ k:Bool,xs=[.bl k]∧Q (.int (if k then 1 else 0)) H
section
variable {X:Cx}
theorem GY:b5 X (.type "int") Ey:=by
  intro pins s σ H xs us Q I r h
  obtain ⟨k,rfl,q⟩:=h
  exact xK pins s σ H _ us Q I r (.inr ⟨k,rfl,q⟩)
theorem GW (hc:X.calm=true):b5 X (.builtin "max") Ew:=by
  intro pins s σ H xs us Q I r h
  obtain ⟨i,j,k,rfl,q⟩:=h
  obtain ⟨a,b,c,rfl,ra,rb,rc⟩:∃ a b c,us=[a,b,c]∧RelV (.int i) a∧RelV (.int j) b∧RelV (.int k) c:=by
    cases r with
    | cons ra r=>cases r with
      | cons rb r=>cases r with
        | cons rc r=>cases r with
          | nil=>exact ⟨_,_,_,rfl,ra,rb,rc⟩
  obtain ⟨t1,rfl⟩:=ra
  obtain ⟨t2,rfl⟩:=rb
  obtain ⟨t3,rfl⟩:=rc
  refine ur (bt:=fun x y=>decide ([i,j,k].getD x 0 > [i,j,k].getD y 0)) (I.ok.hd hc) (fun x y vx vy s' Q' E' px py _ q'=>?_) (fun v h' tk pv kp=>?_)
  · exact CmpOf.ints_gt (P:=fun i' v=>#[Value.int i t1,.int j t2,.int k t3][i']?=some v) (fun x=>[i,j,k].getD x 0) (fun x v e=>by
      match x,e with
      | 0,e=>simp at e;exact ⟨t1,e.symm⟩
      | 1,e=>simp at e;exact ⟨t2,e.symm⟩
      | 2,e=>simp at e;exact ⟨t3,e.symm⟩
      | x+3,e=>simp at e) x y vx vy s' Q' E' px py q'
  · have e:∃ t,v=Value.int (max (max i j) k) t:=by
      have b1:argBest (fun x y=>decide ([i,j,k].getD x 0 > [i,j,k].getD y 0)) 1=if j > i then 1 else 0:=by
        show (if decide (j > i)=true then 1 else 0)=_
        simp
      have b2:argBest (fun x y=>decide ([i,j,k].getD x 0 > [i,j,k].getD y 0)) 2=if decide (k > [i,j,k].getD (if j > i then 1 else 0) 0)=true then 2 else (if j > i then 1 else 0):=by
        rw [argBest,b1];rfl
      rw [b2] at pv
      by_cases h1:j > i
      · simp only [if_pos h1] at pv
        by_cases h2:k > j
        · rw [if_pos (show decide (k > [i,j,k].getD 1 0)=true from decide_eq_true h2)] at pv
          cases pv;exact ⟨t3,by rw [show max (max i j) k=k by omega] <;> rfl⟩
        · rw [if_neg (show ¬ decide (k > [i,j,k].getD 1 0)=true from by simpa using h2)] at pv
          cases pv;exact ⟨t2,by rw [show max (max i j) k=j by omega] <;> rfl⟩
      · simp only [if_neg h1] at pv
        by_cases h2:k > i
        · rw [if_pos (show decide (k > [i,j,k].getD 0 0)=true from decide_eq_true h2)] at pv
          cases pv;exact ⟨t3,by rw [show max (max i j) k=k by omega] <;> rfl⟩
        · rw [if_neg (show ¬ decide (k > [i,j,k].getD 0 0)=true from by simpa using h2)] at pv
          cases pv;exact ⟨t1,by rw [show max (max i j) k=i by omega] <;> rfl⟩
    obtain ⟨t,rfl⟩:=e
    exact ⟨.int _,H,I.kept (t':=tk) kp,⟨t,rfl⟩,q⟩
theorem GV (hc:X.calm=true) (hu:X.A.units+1 < cLine):b5 X (.builtin "max") (Eu X.K):=by
  intro pins s σ H xs us Q I r h
  obtain ⟨a,b,ns,ms,rfl,ha,hb,q⟩:=h
  obtain ⟨u,v,rfl,ru,rv⟩:∃ u v,us=[u,v]∧RelV (.ref a) u∧RelV (.ref b) v:=by
    cases r with
    | cons ra r=>cases r with
      | cons rb r=>cases r with
        | nil=>exact ⟨_,_,rfl,ra,rb⟩
  cases ru;cases rv
  obtain ⟨its,r1,p1,_⟩:=I.tuple ha
  obtain ⟨its2,r2,p2,_⟩:=I.tuple hb
  have i1:IntsAre its.toArray.toList ns:=intsAre_of r1
  have i2:IntsAre its2.toArray.toList ms:=intsAre_of r2
  refine uu (bt:=fun x y=>if x=0 then (if y=0 then HT.lexLt ns ns else HT.lexLt ms ns) else (if y=0 then HT.lexLt ns ms else HT.lexLt ms ms)) (I.ok.hd hc) (fun x y vx vy s' Q' E' px py kp q'=>?_) (fun v h' tk pv kp=>?_)
  · have t1:IsTup s'.heap a its.toArray:=by obtain ⟨ob,e,c⟩:=p1;exact ⟨ob,kp _ _ e,c⟩
    have t2:IsTup s'.heap b its2.toArray:=by obtain ⟨ob,e,c⟩:=p2;exact ⟨ob,kp _ _ e,c⟩
    match x,y,px,py with
    | 0,0,px,py=>simp at px py;subst px py;exact HT2.fz t1 t1 i1 i1 hu (by simpa using q')
    | 0,1,px,py=>simp at px py;subst px py;exact HT2.fz t1 t2 i1 i2 hu (by simpa using q')
    | 1,0,px,py=>simp at px py;subst px py;exact HT2.fz t2 t1 i2 i1 hu (by simpa using q')
    | 1,1,px,py=>simp at px py;subst px py;exact HT2.fz t2 t2 i2 i2 hu (by simpa using q')
    | x+2,_,px,_=>simp at px
    | _,y+2,_,py=>simp at py
  · have e:v=Value.ref (if HT.lexLt ns ms=true then b else a):=by
      simp only [argBest] at pv
      cases hl:HT.lexLt ns ms with
      | true=>rw [hl] at pv;simp at pv;rw [if_pos rfl];exact pv.symm
      | false=>rw [hl] at pv;simp at pv;rw [if_neg Bool.false_ne_true];exact pv.symm
    subst e
    exact ⟨.ref _,H,I.kept (t':=tk) kp,rfl,q⟩
end
section
variable {H:Hp} {Q:VK}
theorem Gw {a b c:Int} (h:Q (.int (max (max a b) c)) H):Ew [V.int a,V.int b,V.int c] H Q:=⟨a,b,c,rfl,h⟩
theorem GA {k:Bool} (h:Q (.int (if k then 1 else 0)) H):Ey [.bl k] H Q:=⟨k,rfl,h⟩
theorem Dw {K:PySem.W.Frag} {a b:Addr} {m c m' c':Int} (ha:H a=some (.tup [.int m,.int c])) (hb:H b=some (.tup [.int m',.int c'])) (h:Q (.ref (if HT.lexLt [m,c] [m',c']=true then b else a)) H):Eu K [.ref a,.ref b] H Q:=
  ⟨a,b,[m,c],[m',c'],rfl,SqT.of ha,SqT.of hb,h⟩
end
section
variable {K:PySem.W.Frag} {P:Addr→Prop} {H0 H H':Hp} {l l' l2:List (Addr×Ob)} {fs:List Pr} {p r:Addr} {Q:VK} {xs ys:List V} {lo hi:Option Int}
theorem fU (L:Led P H0 H l fs) (s:SqL K H p xs∨SqT K H p xs) (h:∀ b H',H b=none→Led P H0 H' ((b,Eo (.lst xs))::l) fs→aK H H'→Q (.ref b) H'):vm K [.ref p] H Q:=
  ⟨p,xs,rfl,s,fun b nb=>h b _ nb (L.Fx nb rfl) (cU nb)⟩
end
end L4
namespace L4
open PySem PySem.Spec PyProof.Rows
def ExcAt (h:Heap) (x:Addr) (C:Value) (dx T:Option Addr) (fl:Value):Prop:=
  ∃ oe vs,h.get? x=some oe∧oe.cls=C∧oe.dict=dx∧oe.data = .fields vs∧vs[1]?=some (T.elim .none .ref)∧∀ t,T=some t→t≠x∧∃ oT ts,h.get? t=some oT∧oT.data = .fields ts∧ts[3]?=some fl
def GL (l:List Env):List Addr:=l.filterMap (·.frame)
structure But (x:Addr) (T:Option Addr) (fs:List Addr) (h h':Heap):Prop where
  keep:∀ b o,h.get? b=some o→b≠x→some b≠T→b∉fs→h'.get? b=some o
  slot:∀ b o,h.get? b=some o→b≠x→some b≠T→∃ sl,h'.get? b=some { o with slots:=sl }
  there:∀ b o,h.get? b=some o→∃ o',h'.get? b=some o'
theorem But.refl {x:Addr} {T:Option Addr} {fs:List Addr} {h:Heap}:But x T fs h h:=⟨fun _ _ e _ _ _=>e,fun _ o e _ _=>⟨o.slots,e⟩,fun _ o e=>⟨o,e⟩⟩
theorem ExcAt.there {h:Heap} {x:Addr} {C:Value} {dx T:Option Addr} {fl:Value} (e:ExcAt h x C dx T fl):∃ o,h.get? x=some o:=let ⟨o,_,q,_⟩:=e;⟨o,q⟩
section
variable {M:Model} {A:Around} {E:Value→Shared→Prop} {s:Shared} {base:Heap} {env:Env} {outer:List Env} {L x t:Addr} {C fl:Value} {dx T:Option Addr} {Q:Unit→Shared→Prop}
theorem dX {fr:Option Addr} (he:ExcAt s.heap x C dx (some t) fl) (h:∀ h',ExcAt h' x C dx (some t) (fr.elim .none fun f=>rawInt f)→But x (some t) [] s.heap h'→Q () { s with heap:=h' }):wpAny M A (setFlight (.ref x) fr) Q E s:=by
  obtain ⟨oe,vs,e1,e2,e3,e4,e5,e6⟩:=he
  obtain ⟨ne,oT,ts,f1,f2,f3⟩:=e6 t rfl
  have hz : 3 < ts.size:=(Array.getElem?_eq_some_iff.mp f3).1
  have oth:∀ b,b≠t→(s.heap.update t (Obj.mapFields (·.setIfInBounds 3 (fr.elim .none fun f=>rawInt f)))).get? b=s.heap.get? b:=fun b hb=>Heap.get?_update_other _ _ (Ne.symm hb)
  have d3:=Obj.data_mapFields f2 (·.setIfInBounds 3 (fr.elim .none fun f=>rawInt f))
  have self:=Heap.get?_update_self (Obj.mapFields (·.setIfInBounds 3 (fr.elim .none fun f=>rawInt f))) f1 (Obj.isFreed_of_fields d3)
  unfold setFlight
  refine wpAny_bind (wpAny_field e1 e4 e5 ?_)
  rw [if_pos (show (((some t).elim Value.none Value.ref) != Value.none)=true from by simp)]
  refine wpAny_setField f1 f2 hz (h _ ⟨oe,vs,(oth x (Ne.symm ne)).trans e1,e2,e3,e4,e5,fun t' ht=>?_⟩ ⟨fun b o q _ n _=>?_,fun b o q _ n=>?_,fun b o q=>?_⟩)
  · cases ht
    exact ⟨ne,_,_,self,d3,by simp [hz]⟩
  · exact (oth b fun z=>n (by rw [z])).trans q
  · exact ⟨o.slots,(oth b fun z=>n (by rw [z])).trans q⟩
  · by_cases z:b=t
    · exact ⟨_,by rw [z];exact self⟩
    · exact ⟨o,(oth b z).trans q⟩
theorem mJ {head:Value} {hadNext:Bool} {oe:Obj} {vs:Array Value} (hfr:A.frames=some (env::outer)) (hl:s.heap.FunFrames base (env::outer)) (hf:env.frame=some L)
    (e1:s.heap.get? x=some oe) (e4:oe.data = .fields vs) (hz : 1 < vs.size)
    (h:∀ h' t',ExcAt h' x oe.cls oe.dict (some t') (rawInt L)→But x none (GL (env::outer)) s.heap h'→s.heap.objs.size≤t'→Q () { s with heap:=h' }) :
    wpAny M A (do let a ← frameOf env;let pl ← entryPlaceOf L hadNext;let b ← EntryCells.newEntry head a .none (rawInt L) .none pl;setField (.ref x) 1 b) Q E s:=by
  have nfr:x∉(env::outer).filterMap (·.frame):=fun hm=>by
    obtain ⟨_,o,ho,hn⟩:=hl.mem hm
    rw [e1] at ho;cases ho;exact hn vs e4
  refine wpAny_bind (wpAny_frameOf_fun hfr hl hf fun h1 s1=>?_)
  refine wpAny_bind (wpAny_entryPlaceOf fun pl hpl=>?_)
  unfold EntryCells.newEntry newFields
  refine wpAny_bind (wpAny_newObj_type ?_ (hpl.sizeOk5 _ _ _ _ _))
  have x1:h1.get? x=some oe:=(s1.2.1 x nfr).trans e1
  generalize hnew:({ cls:=.type "traceback",dict:=none,data:=.fields ([head,.ref L,.none,rawInt L,.none]++(if pl.isEmpty then List.replicate 6 Value.none else pl)).toArray }:Obj)=new
  have x2:=Heap.get?_push_of_some (h:=h1) new x1
  have x3:h1.objs.size≠x:=Nat.ne_of_gt (Heap.lt_size x1)
  have d3:=Obj.data_mapFields e4 (·.setIfInBounds 1 (Value.ref h1.objs.size))
  have x4:=Heap.get?_update_self (Obj.mapFields (·.setIfInBounds 1 (Value.ref h1.objs.size))) x2 (Obj.isFreed_of_fields d3)
  have x5:=(Heap.get?_update_other (h1.push new) (Obj.mapFields (·.setIfInBounds 1 (Value.ref h1.objs.size))) (Ne.symm x3)).trans (Heap.get?_push_size h1 (by subst hnew;rfl))
  have up:∀ b o,b≠x→h1.get? b=some o→((h1.push new).update x (Obj.mapFields (·.setIfInBounds 1 (Value.ref h1.objs.size)))).get? b=some o:=fun b o n q=>by
    rw [Heap.get?_update_other _ _ (Ne.symm n)];exact Heap.get?_push_of_some _ q
  refine wpAny_setField x2 e4 hz (h _ h1.objs.size ⟨_,_,x4,Obj.cls_mapFields _ _,?_,d3,by simp [hz],fun t' ht=>?_⟩ ⟨fun b o q n _ nf=>?_,fun b o q n _=>?_,fun b o q=>?_⟩ ?_)
  · cases oe with | mk c d da sl=>cases da <;> rfl
  · cases ht
    refine ⟨x3,new,_,x5,by subst hnew;rfl,?_⟩
    first | (simp;done) | (rcases hpl with rfl | ⟨_,_,_,_,_,_,_,rfl⟩ <;> simp)
  · exact up b o n ((s1.2.1 b nf).trans q)
  · obtain ⟨sl,e⟩:=s1.2.2 b o q
    exact ⟨sl,up b _ n e⟩
  · by_cases z:b=x
    · exact ⟨_,by rw [z];exact x4⟩
    · obtain ⟨sl,e⟩:=s1.2.2 b o q
      exact ⟨_,up b _ z e⟩
  · exact s1.1▸Nat.le_refl _
theorem ko (hfr:A.frames=some (env::outer)) (hl:s.heap.FunFrames base (env::outer)) (hf:env.frame=some L) (he:ExcAt s.heap x C dx T fl) (hfl:fl = .none∨fl=rawInt L)
    (h:∀ h' t',ExcAt h' x C dx (some t') (rawInt L)→But x T (GL (env::outer)) s.heap h'→(some t'=T∨s.heap.objs.size≤t')→Q () { s with heap:=h' }):wpAny M A (noteFrame (.ref x) env) Q E s:=by
  obtain ⟨oe,vs,e1,rfl,rfl,e4,e5,e6⟩:=he
  have hz : 1 < vs.size:=(Array.getElem?_eq_some_iff.mp e5).1
  unfold noteFrame
  simp only [hf]
  refine wpAny_bind (wpAny_field e1 e4 e5 ?_)
  cases T with
  | none=>
    rw [if_neg (by decide)]
    exact mJ hfr hl hf e1 e4 hz fun h' t' a b c=>h h' t' a b (.inr c)
  | some t=>
    obtain ⟨ne,oT,ts,f1,f2,f3⟩:=e6 t rfl
    rw [if_pos (show (((some t).elim Value.none Value.ref) != Value.none)=true from by simp)]
    refine wpAny_bind (wpAny_field f1 f2 f3 ?_)
    by_cases z:fl=rawInt L
    · subst z
      rw [if_pos (by simp)]
      exact wpAny_pure (h _ t ⟨oe,vs,e1,rfl,rfl,e4,e5,fun t' ht=>by cases ht;exact ⟨ne,oT,ts,f1,f2,f3⟩⟩ But.refl (.inl rfl))
    · obtain rfl:fl = .none:=hfl.resolve_right z
      rw [if_neg (show ¬ ((Value.none == rawInt L)=true) from by simp [rawInt])]
      refine wpAny_bind (wpAny_setField f1 f2 (Array.getElem?_eq_some_iff.mp f3).1 ?_)
      have oth:∀ b,b≠t→(s.heap.update t (Obj.mapFields (·.setIfInBounds 3 Value.none))).get? b=s.heap.get? b:=fun b hb=>Heap.get?_update_other _ _ (Ne.symm hb)
      have self:=Heap.get?_update_self (Obj.mapFields (·.setIfInBounds 3 Value.none)) f1 (Obj.isFreed_of_fields (Obj.data_mapFields f2 _))
      refine mJ (base:=base) (outer:=outer) hfr (hl.of_keeps fun b o q hn=>⟨o,(oth b fun z=>?_).trans q,rfl⟩) hf ((oth x (Ne.symm ne)).trans e1) e4 hz fun h' t' a b c=>h h' t' a ⟨fun b' o q n m nf=>?_,fun b' o q n m=>?_,fun b' o q=>?_⟩ (.inr ?_)
      · subst z;rw [f1] at q;cases q;exact hn ts f2
      · exact b.keep b' o ((oth b' fun z=>m (by rw [z])).trans q) n (by simp) nf
      · exact b.slot b' o ((oth b' fun z=>m (by rw [z])).trans q) n (by simp)
      · by_cases z:b'=t
        · exact b.there b' _ (by rw [z];exact self)
        · exact b.there b' o ((oth b' z).trans q)
      · simpa using c
theorem xq (hfr:A.frames=some (env::outer)) (hl:s.heap.FunFrames base (env::outer)) (hf:env.frame=some L) (he:ExcAt s.heap x C dx T fl) (hfl:fl = .none∨fl=rawInt L)
    (h:∀ h' t',ExcAt h' x C dx (some t') .none→But x T (GL (env::outer)) s.heap h'→(some t'=T∨s.heap.objs.size≤t')→Q () { s with heap:=h' }):wpAny M A (leaving env (.ref x)) Q E s:=by
  unfold leaving
  refine wpAny_bind (ko hfr hl hf he hfl fun h1 t1 a b c=>?_)
  refine dX (fr:=none) a fun h2 a2 b2=>h h2 t1 a2 ⟨fun b' o q n m nf=>?_,fun b' o q n m=>?_,fun b' o q=>?_⟩ c
  · refine b2.keep b' o (b.keep b' o q n m nf) n (fun z=>?_) (by simp)
    rcases c with c | c
    · exact m (z.trans c)
    · have lt:=Heap.lt_size q;cases z;exact absurd lt (Nat.not_lt.mpr c)
  · obtain ⟨sl,e⟩:=b.slot b' o q n m
    refine ⟨sl,b2.keep b' _ e n (fun z=>?_) (by simp)⟩
    rcases c with c | c
    · exact m (z.trans c)
    · have lt:=Heap.lt_size q;cases z;exact absurd lt (Nat.not_lt.mpr c)
  · obtain ⟨o1,e⟩:=b.there b' o q
    exact b2.there b' o1 e
end
end L4
namespace L4
open PySem PySem.Spec PyProof.Rows L2 L3
structure fD (X:Cx) (pins:List (Addr×Obj)) (H:Hp) (b:Addr):Prop where
  no:H b=none
  ab:X.s₀.heap.objs.size≤b
  lo:b≠X.env.locals
  ce:∀ x c,X.env.cells.lookup x=some c→c≠b
  pi:∀ p∈X.pn++pins,p.1≠b
def CX1 (P:Program) (w:World):CXT:=fun outer H s E e s'=>∃ x C dx t H',e=Value.ref x∧s'.os=s.os∧AllBare s'.gens∧Un (frs outer) [] H H' s.heap s'.heap∧HOk P w H' s'.heap ∧
  ExcAt s'.heap x C dx (some t) .none∧s.heap.objs.size≤x∧s.heap.objs.size≤t∧H' x=none∧H' t=none∧E C dx H'
theorem tS {P:Program} {w:World}:bh (CX1 P w):=fun _ _ _ _ _ ⟨_,_,_,_,_,_,_,_,_,_,_,_,_,_,_,h⟩=>h
def XS (X:Cx) (Ex:St→XK) (e:Value) (s':Shared):Prop:=∃ pins σ H x C dx T fl,e=Value.ref x∧Inv X pins σ H s'∧ExcAt s'.heap x C dx T fl∧(fl = .none∨fl=rawInt X.env.locals)∧fD X pins H x∧(∀ t,T=some t→fD X pins H t)∧Ex σ C dx H
def PaX (X:Cx) (Ex:St→XK):Prop:=∀ e s',XS X Ex e s'→X.xe e s'
section
variable {X:Cx} {pins:List (Addr×Obj)} {σ : St} {H H':Hp} {s s':Shared} {Ex:St→XK} {e:Value}
theorem fm (I:Inv X pins σ H s) {b:Addr} (hb:s.heap.objs.size≤b) (n:H' b=none):fD X pins H' b:=
  ⟨n,Nat.le_trans I.sz hb,Nat.ne_of_gt (Nat.lt_of_lt_of_le I.lt hb),fun x c e z=>by
    obtain ⟨v,o,ho,_⟩:=I.cell x c e
    exact absurd (Heap.lt_size ho) (by rw [z];exact Nat.not_lt.mpr hb),fun p hp z=>by
    have:=(I.pin p hp).1
    exact absurd (Heap.lt_size this) (by rw [z];exact Nat.not_lt.mpr hb)⟩
theorem gz {x:Addr} {T:Option Addr} {h':Heap} (I:Inv X pins σ H s) (hx:fD X pins H x) (hT:∀ t,T=some t→fD X pins H t) (b:But x T (frs X.stack) s.heap h'):Inv X pins σ H { s with heap:=h' }:=by
  have nx:∀ c,c∉x::T.toList→c≠x∧some c≠T:=fun c hc=>⟨fun z=>hc (by rw [z];exact List.mem_cons_self),fun z=>hc (List.mem_cons_of_mem _ (by rw [← z];simp))⟩
  refine I.ES (s':={ s with heap:=h' }) (ch:=x::T.toList) rfl ⟨fun c o q _ nf nc=>b.keep c o q (nx c nc).1 (nx c nc).2 nf,fun c o q _ _ nc=>b.slot c o q (nx c nc).1 (nx c nc).2,fun _ _ _ n _=>n,fun c o q _=>b.there c o q,fun _ _ q=>q,fun _ _ _ q=>q,fun _ ps q=>⟨#[],by rw [q];simp⟩⟩ (fun a o q=>?_) I.bare (fun c hc=>?_)
  · refine (I.hok a o q).stay (fun c u hc r=>?_) (fun _ r=>r) fun _ _ r=>r
    obtain ⟨v,hv⟩:∃ v,H c=some v:=by
      rcases hc with rfl | hc
      · exact ⟨_,q⟩
      · exact ⟨_,hc⟩
    refine b.keep c u r (fun z=>?_) (fun z=>?_) (fun z=>?_)
    · rw [z,hx.no] at hv;cases hv
    · rw [(hT c z.symm).no] at hv;cases hv
    · rw [I.nE c z] at hv;cases hv
  · have w:fD X pins H c:=by
      rcases List.mem_cons.mp hc with rfl | hc
      · exact hx
      · exact hT c (by simpa using hc)
    exact ⟨.inr w.ab,w.lo,w.ce,w.pi⟩
theorem Bu (I:Inv X pins σ H s) (h:CX1 X.prog X.w X.stack H s (Ex σ) e s'):XS X Ex e s':=by
  obtain ⟨x,C,dx,t,H',rfl,os,bare,un,hok,ex,x1,t1,nx,nt,q⟩:=h
  exact ⟨pins,σ,H',x,C,dx,some t,.none,rfl,I.ES (ch:=[]) os un hok bare (fun b z=>absurd z (by simp)),ex,.inl rfl,fm I x1 nx,fun t' z=>by cases z;exact fm I t1 nt,q⟩
theorem pI {P:Program} {w:World} {K:PySem.W.Frag} {mg:Str→Option Value} {base:Heap} {N:List Str} {qual:Str} {scope:Scope} {f:Addr} {cd:Value} {A:Around} {outer:List Env} {s0:Shared} {H0:Hp} {E:XK} :
    PaX (aZ (CX1 P w) P w K mg base N qual scope f cd A outer s0 H0 E) (fun _=>E):=fun e s' h=>by
  obtain ⟨pins,σ,H,x,C,dx,T,fl,rfl,I,ex,hfl,ox,oT,q⟩:=h
  refine xq (base:=base) (outer:=outer) I.ok.frames I.stack rfl ex hfl fun h' t' a b c=>?_
  have J:=gz I ox oT b
  have ot:s0.heap.objs.size≤t'∧H t'=none:=by
    rcases c with c | c
    · exact ⟨(oT t' c.symm).ab,(oT t' c.symm).no⟩
    · exact ⟨Nat.le_trans I.sz c,I.hok.fresh c⟩
  exact ⟨x,C,dx,t',H,rfl,J.os,J.bare,J.base,J.hok,a,ox.ab,ot.1,ox.no,ot.2,q⟩
end
def yu (sp:Sp) (Ex:St→XK) (t:TA):TE:=fun σ H Q=>t σ H fun vs H1=>sp vs H1 Q (Ex σ)
section
variable {X:Cx} {k:Nat} {f C:Addr} {fd:FuncData} {ps:List Str} {sp:Sp} {Ex:St→XK} {x m:Str} {p pos apos:Pos} {e o:Expr} {es:List Expr} {ta:TE} {t:TA}
theorem vh {pins:List (Addr×Obj)} {σ : St} {H:Hp} {s:Shared} {Q:VK} {us:List Value} {vs:List V} (F:eE X.prog X.w X.K X.mg X.base (CX1 X.prog X.w) k f fd ps sp) (hr:bR k X.A) (hb:Binds X.K fd ps []) (hx:PaX X Ex)
    (I:Inv X pins σ H s) (r:Vals vs us) (h:sp vs H Q (Ex σ)):wpAny (model X.prog X.w) X.A (call (.ref f) us) (EP X pins σ Q) X.xe s:=by
  have hl:us.length=ps.length:=by rw [← r.length];exact F.len _ _ _ _ h
  have hb':=hb s us I.kIn (by rw [List.append_nil];exact hl)
  rw [List.append_nil] at hb'
  refine wpAny_call (codeAny_mono (F.run X.A X.stack s H ⟨us,[]⟩ us vs Q (Ex σ) hr I.A3 hb' r h) fun r s' hq=>?_)
  cases r with
  | error e=>exact hx e s' (Bu I hq)
  | ok fl=>
    cases fl with
    | ret u=>exact I.after hq
    | _=>exact False.elim hq
theorem dh (C:Cal X.prog X.w X.K X.mg X.base (CX1 X.prog X.w) x k ps sp) (hr:bR k X.A) (hx:PaX X Ex) (ha:PA X (e::es) t) (hg:Gl X x:=by rfl)
    (hdb:(x == ("__debug__" : Str))=false:=by decide) (he:starEach (e::es) X.env=(false,eval e X.env)::starEach es X.env:=by rfl) (hpl:(backTo pos (starEach es X.env)).any (·.1)=false:=by rfl) :
    PE X (.Call (.Name x p) (e::es) [] pos) (yu sp Ex t):=by
  obtain ⟨f,fd,F,b,kp,m⟩:=C.ex
  intro pins s σ H Q I h
  refine wpAny_Call_Name_kw (cN I hg m ?_ hdb)
  refine PySem.W.callWith_K (h₀:=X.base) I.ok.mod.kin kp (thn (ha pos pins s σ H _ I h) fun us s1 ⟨vs,H1,I1,r,q⟩=>⟨I1.kIn,?_⟩) he hpl
  exact vh F hr b hx I1 r q
end
end L4
namespace L4
open PySem PySem.Spec PyProof.Rows L2 L3 PySem.W
section
variable {prog:Program} {w:World} {A:Around} {E:Value→Shared→Prop} {h:Heap} {g:Array GenState} {d:Drawn} {t:Nat} {os:OsState}
variable {nm q:Str} {C N:Addr} {bs bm bmB:List Value} {hdct:Bool} {sn:List Str} {sub:List Value} {ab:Bool} {col:Option Bool} {dd:Option Addr} {k0 k1 k2 k3 k5:Option Value} {B newId initId:String}
abbrev um (h:Heap) (C:Addr) (rest:List Value):Heap:=(h.push { cls:=.type "tuple",data:=.seq rest.toArray }).push { cls:=.ref C,data:=.fields #[.ref h.objs.size,.none,.none,.none,.bool false,.none] }
theorem cR {rest:List Value}:∀ b o,h.get? b=some o→(um h C rest).get? b=some o:=fun _ _ e=>Heap.get?_push_of_some _ (Heap.get?_push_of_some _ e)
theorem fW {rest:List Value}:(um h C rest).get? (h.objs.size+1)=some { cls:=.ref C,data:=.fields #[.ref h.objs.size,.none,.none,.none,.bool false,.none] }:=by heap_get
theorem lO (F:ExcBaseFacts B newId initId bmB) (T:OwnTail h bmB bm) {rest:List Value} {init:Value} {Q:Fin→Shared→Prop}
    (hC:h.get? C=some (excClassObj nm q C N bs bm hdct sn sub ab col dd k0 k1 k2 k3 k5 newId)) (hi:Looks (model prog w) h (typeLookup (.ref C) "__init__") (some init)) (hb:∀ self,Looks (model prog w) h (bindSpecial init self) (init,[self]))
    (hq:wpAny (model prog w) A (call init (.ref (h.objs.size+1)::rest)) (fun r s'=>r = .none∧Q (.done (.ret (.ref (h.objs.size+1)))) s') E ⟨um h C rest,g,d,t,os⟩) (hrest:rest.length≤sizeLine) :
    wpAny (model prog w) A (Builtin.«type.__call__» ⟨.ref C::rest,[]⟩) Q E ⟨h,g,d,t,os⟩:=by
  repeat (first | with_reducible refine wpAny_loadPart_at hC ?_ | with_reducible refine wpAny_madeBy_exc hC ?_ | wp_step)
  refine codeAny_call_builtin_code (Code.quiet_builtin _ F.quiet) (wpAny_check_new_subT F T hC ?_)
  refine codeAny_exc_new_subT F T hC ?_ hrest
  show wpAny _ _ _ _ _ _
  have hC1:=cR (C:=C) (rest:=rest) _ _ hC
  have hg:=fW (h:=h) (C:=C) (rest:=rest)
  have hcC:(Value.ref C::bm).contains (.ref C)=true:=by simp
  unfold isInstance
  repeat (first | with_reducible refine wpAny_loadPart_at hg ?_ | (with_reducible refine wpAny_isSubtype_exc hC1 ?_;rw [hcC]) | wp_step)
  show wpAny _ _ (typeLookup (.ref C) _) _ _ _
  refine hi _ _ _ _ cR ?_
  refine wpAny_holding (wpAny_bind (hb _ _ _ _ _ cR ?_))
  refine wpAny_bind (wpAny_mono hq (fun r s' hr=>?_) fun _ _ x=>x)
  obtain ⟨rfl,hQ⟩:=hr
  wp_walk
  exact hQ
theorem qX (F:ExcBaseFacts B newId initId bmB) (T:OwnTail h bmB bm) {rest:List Value} {init:Value} {Q:Value→Shared→Prop}
    (hC:h.get? C=some (excClassObj nm q C N bs bm hdct sn sub ab col dd k0 k1 k2 k3 k5 newId)) (hi:Looks (model prog w) h (typeLookup (.ref C) "__init__") (some init)) (hb:∀ self,Looks (model prog w) h (bindSpecial init self) (init,[self]))
    (hq:wpAny (model prog w) (A.under (.builtin "type.__call__" ⟨.ref C::rest,[]⟩)) (call init (.ref (h.objs.size+1)::rest)) (fun r s'=>r = .none∧Q (.ref (h.objs.size+1)) s') E ⟨um h C rest,g,d,t,os⟩) (hrest:rest.length≤sizeLine) :
    wpAny (model prog w) A (call (.ref C) rest) Q E ⟨h,g,d,t,os⟩:=by
  have f1:=tc_lookup
  have f2:=tc_bind (.ref C)
  have hT:(⟨h,g,d,t,os⟩:Shared).TypeIs (.ref C) "type" := ⟨_,hC,rfl⟩
  refine wpAny_call (codeAny_of_tree ?_)
  show wpAny _ _ (callAny (.ref C) _) _ _ _
  repeat (any_goals (first | assumption | with_reducible refine wpAny_loadPart_at hC ?_ | wp_step))
  refine ⟨rfl,?_⟩
  exact codeAny_call_builtin_at (Code.quiet_builtin _ (by decide +kernel)) entry_typeCall (wpAny_check_type_call_sub hC (lO F T hC hi hb hq hrest))
theorem qW (F:ExcBaseFacts B newId initId bmB) (T:OwnTail h bmB bm) {e a0:Addr} {oe:Obj} {vs:Array Value} {rest:List Value} {Q:Value→Shared→Prop}
    (hC:h.get? C=some (excClassObj nm q C N bs bm hdct sn sub ab col dd k0 k1 k2 k3 k5 newId)) (he:h.get? e=some oe) (hcls:oe.cls = .ref C) (hd:oe.data = .fields vs) (hz : 0 < vs.size) (h0:vs[0]?=some (.ref a0))
    (hq:∀ h',h'=(h.push { cls:=.type "tuple",data:=.seq rest.toArray }).update e (Obj.mapFields (·.setIfInBounds 0 (.ref h.objs.size)))→Q .none ⟨h',g,d,t,os⟩) (hrest:rest.length≤sizeLine) :
    wpAny (model prog w) A (call (.builtin initId) (.ref e::rest)) Q E ⟨h,g,d,t,os⟩:=by
  refine wpAny_call (codeAny_call_builtin F.init.plain F.initEntry (wpAny_check_init_subT F T hC he hcls ?_))
  obtain ⟨oc,od,da,sl⟩:=oe
  dsimp only at hcls hd
  subst hcls hd
  unfold Builtin.«BaseException.__init__»
  repeat (first | with_reducible refine wpAny_loadPart_at he ?_ | wp_step)
  rw [h0]
  refine wpAny_pure ?_
  refine wpAny_bind (wpAny_setField (Heap.get?_push_of_some _ he) rfl hz (wpAny_letGo ?_))
  exact wpAny_pure (hq _ rfl)
end
section
variable {M:Model} {A:Around} {E:Value→Shared→Prop} {env:Env}
variable {nm q:Str} {C N:Addr} {bs bm:List Value} {hdct:Bool} {sn:List Str} {sub:List Value} {ab:Bool} {col:Option Bool} {dd:Option Addr} {k0 k1 k2 k3 k5:Option Value} {newId:String}
theorem j4 {s:Shared} {x:Sem Value} {Q:Flow→Shared→Prop} (hbase:bm.contains (.type "BaseException")=true) (hh:A.handled=none)
    (h:wpAny M A x (fun v s₁=>∃ e oe vs,v = .ref e∧s₁.heap.get? C=some (excClassObj nm q C N bs bm hdct sn sub ab col dd k0 k1 k2 k3 k5 newId) ∧
      s₁.heap.get? e=some oe∧oe.cls = .ref C∧oe.data = .fields vs∧vs[1]?=some .none∧E (.ref e) s₁) E s) :
    wpAny M A (raiseStmt env (some x) none) Q E s:=by
  have hcB:(Value.ref C::bm).contains (.type "BaseException")=true:=by rw [List.contains_cons,hbase,Bool.or_true]
  unfold raiseStmt
  refine wpAny_bind (wpAny_mono h (fun v s₁ h₁=>?_) fun _ _ x=>x)
  obtain ⟨e,oe,vs,rfl,hC,he,hcls,hd,h1,hE⟩:=h₁
  obtain ⟨hp,g,d,tk,os⟩:=s₁
  have hnd:∀ cd,oe.data≠.cls cd:=fun cd z=>by rw [hd] at z;cases z
  obtain ⟨oc,od,da,sl⟩:=oe
  dsimp only at hcls hd
  subst hcls hd
  repeat (first | with_reducible refine wpAny_loadPart_at he ?_ | with_reducible refine wpAny_loadPart_at hC ?_ | (with_reducible refine wpAny_isSubtype_exc hC ?_;rw [hcB]) | wp_step)
  rw [h1]
  refine wpAny_pure ?_
  rw [if_neg (by decide)]
  exact wpAny_pure (wpAny_raiseNew_none hh hE)
end
abbrev xcx (X:Cx) (Ex:St→XK):Cx:=X.gK (XS X Ex)
section
variable {X:Cx} {Ex:St→XK} {st:List Stmt} {t:TS}
theorem fD.cW {E:Value→Shared→Prop} {pins:List (Addr×Obj)} {H:Hp} {b:Addr} (o:fD (X.gK E) pins H b):fD X pins H b:=⟨o.no,o.ab,o.lo,o.ce,o.pi⟩
theorem bu:PaX (xcx X Ex) Ex:=fun _ _ ⟨pins,σ,H,x,C,dx,T,fl,a,I,b,c,o,oT,q⟩=>
  ⟨pins,σ,H,x,C,dx,T,fl,a,I.cW,b,c,o.cW,fun t ht=>(oT t ht).cW,q⟩
theorem PSs.x (h:PSs (xcx X Ex) st t) (hx:PaX X Ex):PSs X st t:=fun pins s σ H D I hw=>wpAny_mono (h pins s σ H D (I.gK _) hw) (fun _ _ q=>q.cW) hx
theorem But.mono {x:Addr} {T:Option Addr} {fs fs':List Addr} {h h':Heap} (b:But x T fs h h') (m:∀ a∈fs,a∈fs'):But x T fs' h h':=⟨fun c o q n k f=>b.keep c o q n k fun z=>f (m c z),b.slot,b.there⟩
end
section
variable {P:Program} {w:World} {K:Frag} {mg:Str→Option Value} {base:Heap} {x qual:Str} {st:Stmt} {N ps:List Str} {k:Nat} {sp:Sp} {C:Addr}
theorem _root_.L3.Dat.okR (D:Dat K mg x qual st ps) (S:aq N ps (aj st)) (len:∀ vs H Q E,sp vs H Q E→vs.length=ps.length)
    (hbody:∀ (f:Addr) (cdv:Value) (A:Around) (outer:List Env) (s:Shared) (H:Hp) (vs:List V) (Q:VK) (E:XK),bR k (A.deeper (envOfC qual (aj st) s.heap.objs.size f cdv))→sp vs H Q E →
      ∃ t,PSs (xcx (aZ (CX1 P w) P w K mg base N qual (aj st) f cdv A outer s H E) (fun _=>E)) (bf st) t∧t { nx:=fun _ H'=>Q .non H',rt:=Q } (start N vs) H):Cal P w K mg base (CX1 P w) x (k+1) ps sp:=
  D.okX S len fun f cdv A outer s H vs Q E hr h=>by
    obtain ⟨t,ht,q⟩:=hbody f cdv A outer s H vs Q E hr h
    exact ⟨t,L4.PSs.x ht pI,q⟩
end
def dU:List Value:=[.type "ValueError",.type "Exception",.type "BaseException",.type "object"]
def dQ (K:Frag) (C:Addr) (bmB:List Value) (newId:String):Bool:=match K.lookup C with
  | some ⟨.type "type",_,.cls cd,sl⟩=>(match cd.mro,sl.toList with
    | .ref c::bm,[_,_,_,_,some (.builtin n),_]=>c == C && n == newId && !cd.hasDel && tailIn K bmB bm
    | _,_=>false)
  | _=>false
theorem oJ {K:Frag} {h:Heap} {C:Addr} {bmB:List Value} {newId:String} (X:K.In h) (z:dQ K C bmB newId=true):∃ nm q N bs bm hdct sn sub ab col dd k0 k1 k2 k3 k5,
    h.get? C=some (excClassObj nm q C N bs bm hdct sn sub ab col dd k0 k1 k2 k3 k5 newId)∧OwnTail h bmB bm:=by
  unfold dQ at z
  split at z
  · rename_i dd cd sl ho
    split at z
    · rename_i c bm k0 k1 k2 k3 n k5 hm hs
      simp only [Bool.and_eq_true,beq_iff_eq,Bool.not_eq_true'] at z
      obtain ⟨⟨⟨rfl,rfl⟩,Dd⟩,ht⟩:=z
      obtain ⟨nm,bs,mro,ns,qn,hd,sn,sub,ab,col,del⟩:=cd
      dsimp only at hm Dd
      subst hm Dd
      obtain ⟨l⟩:=sl
      simp only at hs
      subst hs
      exact ⟨nm,qn,ns,bs,bm,hd,sn,sub,ab,col,dd,k0,k1,k2,k3,k5,X _ _ ho,tail_of_in X ht⟩
    · cases z
  · cases z
structure lU (K:Frag) (mg:Str→Option Value) (x:Str) (C:Addr):Prop where
  ok:dQ K C dU "ValueError.__new__" = true
  init:findIn K (.ref C) "__init__" = some (some (.builtin "ValueError.__init__"))
  kp:keepIn K (.ref C)=true
  mg:mg x=some (.ref C)
def yo (C:Addr) (Ex:St→XK) (tl:TA):TS:=fun _ σ H=>tl σ H fun vs H1=>vs.length≤1000∧Ex σ (.ref C) none H1
theorem fK {X:Cx} {Ex:St→XK} {x:Str} {C:Addr} {e:Expr} {es:List Expr} {t:TA} {np cpos pos:Pos} (O:lU X.K X.mg x C) (hc:X.calm=true) (hx:PaX X Ex) (ha:PA X (e::es) t) (hg:Gl X x:=by rfl)
    (hdb:(x == ("__debug__" : Str))=false:=by decide) (he:starEach (e::es) X.env=(false,eval e X.env)::starEach es X.env:=by rfl) (hpl:(backTo cpos (starEach es X.env)).any (·.1)=false:=by rfl) :
    PS X (.Raise (some (.Call (.Name x np) (e::es) [] cpos)) none pos) (yo C Ex t):=by
  intro pins s σ H D I h
  obtain ⟨nm,q,N,bs,bm,hdct,sn,sub,ab,col,dd,k0,k1,k2,k3,k5,hC,T⟩:=oJ I.ok.mod.kin O.ok
  rw [arm_exec_Raise]
  refine wpAny_bind (wpAny_standAt (j4 (C:=C) (nm:=nm) (q:=q) (N:=N) (bs:=bs) (bm:=bm) (hdct:=hdct) (sn:=sn) (sub:=sub) (ab:=ab) (col:=col) (dd:=dd) (k0:=k0) (k1:=k1) (k2:=k2) (k3:=k3) (k5:=k5) (newId:="ValueError.__new__") (T.hasType (by decide +kernel)) (I.ok.hd hc) (wpAny_bind ?_)))
  refine wpAny_Call_Name_kw (cN I hg O.mg ?_ hdb)
  refine callWith_K (h₀:=X.base) I.ok.mod.kin O.kp (thn (ha cpos pins s σ H _ I h) fun us s1 ⟨vs,H1,I1,r,hz,qx⟩=>⟨I1.kIn,?_⟩) he hpl
  have hl:us.length≤sizeLine:=by rw [← r.length];exact Nat.le_of_lt (small1000 hz)
  have T1:=T.keeps I1.bk
  have hC1:=I1.bk _ _ hC
  obtain ⟨hp,g,d,tk,os⟩:=s1
  show wpAny (model X.prog X.w) X.A (call (.ref C) us) _ _ _
  refine qX PySem.F.excBase_ValueError T1 hC1 (looks_findIn I1.kIn O.init) (fun self=>Looks.of_pure (PySem.F.excBase_ValueError.init.bind self)) ?_ hl
  refine qW PySem.F.excBase_ValueError (T1.keeps cR) (cR _ _ hC1) fW rfl rfl (Nat.zero_lt_succ _) rfl (fun h3 e3=>⟨rfl,?_⟩) hl
  have kp:∀ b o,hp.get? b=some o→h3.get? b=some o:=fun b o z=>by
    rw [e3,Heap.get?_update_other _ _ (Nat.ne_of_gt (Nat.lt_succ_of_lt (Heap.lt_size z)))]
    exact Heap.get?_push_of_some _ (cR _ _ z)
  have hz3:(um hp C us).objs.size=hp.objs.size+2:=by rw [Heap.size_push,Heap.size_push]
  have g3:=Heap.get?_update_self (Obj.mapFields (·.setIfInBounds 0 (.ref (um hp C us).objs.size))) (Heap.get?_push_of_some { cls:=.type "tuple",data:=.seq us.toArray } (fW (h:=hp) (C:=C) (rest:=us))) rfl
  rw [← e3] at g3
  have I3:Inv X pins σ H1 ⟨h3,g,d,tk,os⟩:=I1.kept (t':=tk) kp
  refine wpAny_bind (wpAny_standAt (wpAny_pure ⟨_,_,_,rfl,kp _ _ hC1,g3,rfl,rfl,rfl,hx _ _ ⟨pins,σ,H1,hp.objs.size+1,.ref C,none,none,.none,rfl,I3,⟨_,_,g3,rfl,rfl,rfl,rfl,fun t ht=>by cases ht⟩,.inl rfl,fm I1 (Nat.le_succ _) (I1.hok.fresh (Nat.le_succ _)),(fun t ht=>by cases ht),qx⟩⟩))
def uI (x:Addr) (C:Value) (dx:Option Addr):Heap→Prop:=fun h=>∃ oe vs,h.get? x=some oe∧oe.cls=C∧oe.dict=dx∧oe.data = .fields vs
abbrev gn (x:Addr) (C:Value) (dx:Option Addr):HO:=.ext (uI x C dx)
section
variable {X:Cx} {pins:List (Addr×Obj)} {σ : St} {H:Hp} {s:Shared}
theorem jd {x:Addr} {φ : Heap→Prop} (I:Inv X pins σ H s) (o:fD X pins H x) (p : φ s.heap) (th:∃ ob,s.heap.get? x=some ob) (st:∀ h1 h2:Heap,φ h1→(∀ ob,h1.get? x=some ob→h2.get? x=some ob)→φ h2):Inv X pins σ (upd H x (.ext φ)) s:=by
  have ne:∀ b u,H b=some u→b≠x:=fun b u e z=>by rw [z,o.no] at e;cases e
  refine ⟨I.ok,I.os,I.bare,⟨I.base.keep,I.base.slot,fun b ob e n hx=>?_,I.base.there,fun b xs e=>?_,fun b ob u e=>?_,fun b ps e=>?_⟩,I.loc,I.cell,?_,fun y c e=>?_,fun q hq=>?_,fun b u e=>?_,I.len⟩
  · rw [aB (Nat.ne_of_lt (Nat.lt_of_lt_of_le (Heap.lt_size e) o.ab))];exact I.base.free b ob e n hx
  · have:=I.base.tups b xs e;rw [aB (ne _ _ this)];exact this
  · have:=I.base.gE b ob u e;rw [aB (ne _ _ this)];exact this
  · obtain ⟨m,h⟩:=I.base.gM b ps e
    exact ⟨m,by rw [aB (ne _ _ h)];exact h⟩
  · rw [aB (Ne.symm o.lo)];exact I.free
  · rw [aB (o.ce y c e)];exact I.freeC y c e
  · obtain ⟨a,b,r⟩:=I.pin q hq
    exact ⟨a,by rw [aB (o.pi q hq)];exact b,r⟩
  · by_cases z:b=x
    · subst z;rw [ay] at e;cases e;exact ⟨p,th,st⟩
    · rw [aB z] at e
      exact (I.hok b u e).stay (fun _ _ _ q=>q) (fun c q=>by rw [aB (ne _ _ q)];exact q) fun c xs q=>by rw [aB (ne _ _ q)];exact q
theorem uI.stay {x:Addr} {C:Value} {dx:Option Addr}:∀ h1 h2:Heap,uI x C dx h1→(∀ ob,h1.get? x=some ob→h2.get? x=some ob)→uI x C dx h2:=fun _ _ ⟨oe,vs,a,b⟩ k=>⟨oe,vs,k _ a,b⟩
theorem ExcAt.p {h:Heap} {x:Addr} {C:Value} {dx T:Option Addr} {fl:Value} (e:ExcAt h x C dx T fl):uI x C dx h:=let ⟨oe,vs,a,b,c,d,_⟩:=e;⟨oe,vs,a,b,c,d⟩
theorem DN {i:Nat} {n:Str} {m:Str→Option Value} {v:Option Value} {h':Heap} (I:Inv X pins σ H s) (hN:X.N.Nodup) (hi:X.N[i]?=some n)
    (hl:∀ (i:Nat) (x:Str) (v:V),X.N[i]?=some x→σ[i]?=some (some v)→Vis X.env.scope x→∃ u,RelV v u∧Look X.env s.heap m x u) (hs:s.heap.Ns X.env.locals m)
    (hn:h'.Ns X.env.locals (fun x=>if x=n then v else m x)) (sb:Heap.SameBut X.env.locals s.heap h') (t':Nat):Inv X pins (σ.set i none) H { s with heap:=h',toks:=t' }:=by
  have neL:∀ b o,X.s₀.heap.get? b=some o→b≠X.env.locals:=fun b o e=>Nat.ne_of_lt (Nat.lt_of_lt_of_le (Heap.lt_size e) I.ok.above)
  have iσ : i < σ.length:=by rw [I.len];exact (List.getElem?_eq_some_iff.mp hi).1
  refine ⟨I.ok,I.os,I.bare,⟨fun b o e q hb hx=>(sb.2 b (neL b o e)).trans (I.base.keep b o e q hb hx),fun b o e q hb hx=>?_,I.base.free,fun b o e hx=>?_,I.base.tups,I.base.gE,I.base.gM⟩,⟨_,hn,fun j y v' e1 e2 e3=>?_⟩,fun y c e=>?_,I.free,I.freeC,fun p hp=>?_,fun b u e=>?_,by rw [List.length_set];exact I.len⟩
  · obtain ⟨sl,z⟩:=I.base.slot b o e q hb hx
    exact ⟨sl,(sb.2 b (neL b o e)).trans z⟩
  · obtain ⟨o',z⟩:=I.base.there b o e hx
    exact ⟨o',(sb.2 b (neL b o e)).trans z⟩
  · by_cases hj:j=i
    · subst hj
      rw [List.getElem?_set_self iσ] at e2
      cases e2
    · rw [List.getElem?_set_ne (Ne.symm hj)] at e2
      have hy:y≠n:=fun z=>by
        subst z
        exact hj ((List.getElem?_inj (List.getElem?_eq_some_iff.mp e1).1 hN).mp (e1.trans hi.symm))
      obtain ⟨u,r,q⟩:=hl j y v' e1 e2 e3
      refine ⟨u,r,?_⟩
      rcases q with ⟨k,e⟩ | ⟨k,c,e,⟨oc,hc,hd⟩⟩
      · exact .inl ⟨k,by show (if y=n then v else m y)=some u;rw [if_neg hy];exact e⟩
      · exact .inr ⟨k,c,e,oc,(sb.2 c (I.cne y c e)).trans hc,hd⟩
  · obtain ⟨w,oc,hc,hd⟩:=I.cell y c e
    exact ⟨w,oc,(sb.2 c (I.cne y c e)).trans hc,hd⟩
  · obtain ⟨a,b,c,d⟩:=I.pin p hp
    exact ⟨(sb.2 _ c).trans a,b,c,d⟩
  · refine (I.hok b u e).stay (fun c w' hc q=>(sb.2 c fun z=>?_).trans q) (fun _ q=>q) fun _ _ q=>q
    subst z
    rcases hc with rfl | hc
    · rw [I.free] at e;cases e
    · rw [I.free] at hc;cases hc
theorem cT {M:Model} {A:Around} {E:Value→Shared→Prop} {i:Nat} {n:Str} {pos:Pos} {Q:Unit→Shared→Prop} (I:Inv X pins σ H s) (hN:X.N.Nodup) (hi:X.N[i]?=some n) (hl:X.env.scope.names.lookup n=some .local)
    (h:∀ s',Inv X pins (σ.set i none) H s'→Q () s'):wpAny M A (do bindName X.env n .none;unbindBehindTheSuite X.env n pos) Q E s:=by
  have hcls:(X.env.scope.kind == .class || (X.env.scope.kind == .module && X.env.locals != X.env.globals))=false:=by rw [I.ok.kind];rfl
  have hk:X.env.kindOf n=some .local:=hl
  refine wpAny_bind (wpAny_bindName (fH (v:=.non) I hN hi (.inl hl) rfl (fun s1 I1=>?_) (.inr hl)))
  obtain ⟨m,hm,hq⟩:=id I1.loc
  unfold unbindBehindTheSuite
  refine wpAny_onRaise ?_
  unfold unbindName
  refine wpAny_bind (wpAny_point (wpAny_bind ?_))
  unfold deleteName
  simp only [hk,hcls]
  rw [if_neg (by decide)]
  refine wpAny_bind (wpAny_nsDel_keeps hm fun h2 v hn2 sb2=>?_)
  have hsome:(m n).isSome=true:=by
    obtain ⟨u,r,q⟩:=hq i n .non hi (by rw [List.getElem?_set_self (by rw [I.len];exact (List.getElem?_eq_some_iff.mp hi).1)]) (.inl hl)
    rcases q with ⟨_,e⟩ | ⟨k,_⟩
    · rw [e];rfl
    · rw [hk] at k;rcases k with k | k <;> cases k
  rw [hsome]
  simp only [Bool.not_true,Bool.false_eq_true,if_false]
  have J:=DN I1 hN hi hq hm hn2 sb2 s1.toks
  rw [List.set_set] at J
  exact wpAny_pure (wpAny_point (h _ J))
end
abbrev Cx.pinned (X:Cx) (pins:List (Addr×Obj)):Cx:={ X with pn:=X.pn++pins }
abbrev Cx.hand (X:Cx) (x:Addr):Cx:={ X with A:=X.A.mark (some (.ref x)),calm:=false,xe:=fun _ _=>False }
def yj (i:Nat) (D:Ends):Ends:={ nx:=fun σ H=>D.nx (σ.set i none) H,rt:=D.rt,bk:=fun σ H=>D.bk (σ.set i none) H,ct:=fun σ H=>D.ct (σ.set i none) H }
section
variable {X:Cx} {pins j7:List (Addr×Obj)} {σ : St} {H:Hp} {s:Shared}
theorem Fp (ok:X.Ok):(Cx.pinned X pins).Ok:=⟨ok.mod,ok.kind,ok.glob,ok.blt,ok.above,ok.inj,ok.has,ok.cab,ok.hd,ok.frames,ok.stk,ok.exf,ok.bs,ok.bsz,ok.noex,ok.exfs,ok.fV,ok.frf⟩
theorem zN (ok:(Cx.pinned X pins).Ok):X.Ok:=⟨ok.mod,ok.kind,ok.glob,ok.blt,ok.above,ok.inj,ok.has,ok.cab,ok.hd,ok.frames,ok.stk,ok.exf,ok.bs,ok.bsz,ok.noex,ok.exfs,ok.fV,ok.frf⟩
theorem C7 (I:Inv X pins σ H s):Inv (Cx.pinned X pins) [] σ H s:=⟨Fp I.ok,I.os,I.bare,I.base,I.loc,I.cell,I.free,I.freeC,fun p hp=>I.pin p (by simpa using hp),I.hok,I.len⟩
theorem eW (I:Inv (Cx.pinned X pins) j7 σ H s):Inv X pins σ H s:=⟨zN I.ok,I.os,I.bare,I.base,I.loc,I.cell,I.free,I.freeC,fun p hp=>I.pin p (List.mem_append_left _ hp),I.hok,I.len⟩
theorem i8 {b:Addr} (o:fD (Cx.pinned X pins) j7 H b):fD X pins H b:=⟨o.no,o.ab,o.lo,o.ce,fun p hp=>o.pi p (List.mem_append_left _ hp)⟩
theorem iG {x:Addr} (I:Inv X pins σ H s):Inv (Cx.hand X x) pins σ H s:=
  ⟨⟨I.ok.mod,I.ok.kind,I.ok.glob,I.ok.blt,I.ok.above,I.ok.inj,I.ok.has,I.ok.cab,(fun z=>absurd z Bool.false_ne_true),I.ok.frames,I.ok.stk,I.ok.exf,I.ok.bs,I.ok.bsz,I.ok.noex,I.ok.exfs,I.ok.fV,I.ok.frf⟩,I.os,I.bare,I.base,I.loc,I.cell,I.free,I.freeC,I.pin,I.hok,I.len⟩
theorem cz {x:Addr} (ok:X.Ok) (I:Inv (Cx.hand X x) pins σ H s):Inv X pins σ H s:=⟨ok,I.os,I.bare,I.base,I.loc,I.cell,I.free,I.freeC,I.pin,I.hok,I.len⟩
theorem yC {E:Value→Shared→Prop} {D:Ends} {f:Flow} {s':Shared} (h:SP ((Cx.pinned X pins).gK E) j7 D f s'):SP X pins D f s':=by
  have h:=h.cW
  cases f with
  | next=>obtain ⟨σ',H',I,q⟩:=h;exact ⟨σ',H',eW I,q⟩
  | brk=>obtain ⟨σ',H',I,q⟩:=h;exact ⟨σ',H',eW I,q⟩
  | cont=>obtain ⟨σ',H',I,q⟩:=h;exact ⟨σ',H',eW I,q⟩
  | ret u=>obtain ⟨v,σ',H',I,r,q⟩:=h;exact ⟨v,σ',H',eW I,r,q⟩
theorem uE {M:Model} {E:Value→Shared→Prop} {Q:Shared→Prop} {x:Addr} {C fl:Value} {dx T:Option Addr} (hs:X.stack=X.env::X.outer) (hf:X.env.frame=some X.env.locals) (I:Inv X pins σ H s) (ex:ExcAt s.heap x C dx T fl) (hfl:fl = .none∨fl=rawInt X.env.locals) (ox:fD X pins H x) (oT:∀ t,T=some t→fD X pins H t)
    (h:∀ s' t,Inv X pins σ H s'→ExcAt s'.heap x C dx (some t) .none→fD X pins H t→Q s') :
    wpAny M X.A (noteFrame (.ref x) X.env) (fun _ s2=>wpAny M X.A (setFlight (.ref x) none) (fun _ s3=>Q s3) E s2) E s:=by
  have hfr:=I.ok.frames
  have hst:=I.stack
  rw [hs] at hfr hst
  refine ko (base:=X.base) hfr hst hf ex hfl fun h1 t1 a b c=>?_
  have ot:fD X pins H t1:=by
    rcases c with c | c
    · exact oT t1 c.symm
    · exact fm I c (I.hok.fresh c)
  have J:=gz I ox oT (by rw [hs];exact b)
  exact dX (fr:=none) a fun h2 a2 b2=>h _ t1 (gz J ox (fun t ht=>by cases ht;exact ot) (b2.mono fun _ z=>absurd z (by simp))) a2 ot
end
section
variable {X:Cx} {Ex:St→XK} {body suite:List Stmt} {b₀ : Stmt} {cx n:Str} {np hpos pos:Pos} {CH:Addr} {i:Nat} {tb:(St→XK)→TS} {th:TS}
theorem mK {M:Model} {h:Heap} {x:Addr} {C:Value} {dx T:Option Addr} {fl:Value} (ex:ExcAt h x C dx T fl):Looks M h (typeOf (.ref x)) C:=by
  obtain ⟨oe,vs,e1,e2,_⟩:=ex
  rw [← e2]
  exact (Looks.ld e1).andThen .now
theorem Cn {pins:List (Addr×Obj)} {σ : St} {H:Hp} {s:Shared} {x t:Addr} {C fl:Value} {dx:Option Addr} {Q:Flow→Shared→Prop} (hf:X.env.frame=some X.env.locals) (hx:PaX X Ex) (I:Inv X pins σ H s) (ex:ExcAt s.heap x C dx (some t) fl) (ox:fD X pins H x) (ot:fD X pins H t) (q:Ex σ C dx H) :
    wpAny (model X.prog X.w) X.A (handleBy (.ref x) X.env []) Q X.xe s:=by
  refine wpAny_handleBy_nil ?_
  unfold PySem.passOn
  obtain ⟨oe,vs,e1,e2,e3,e4,e5,e6⟩:=id ex
  refine wpAny_bind (wpAny_field e1 e4 e5 ?_)
  rw [if_neg (by simp)]
  refine wpAny_bind (dX (fr:=X.env.frame) ex fun h2 a2 b2=>wpAny_throw (hx _ _ ?_))
  exact ⟨pins,σ,H,x,C,dx,some t,_,rfl,gz I ox (fun t ht=>by cases ht;exact ot) (b2.mono fun _ z=>absurd z (by simp)),a2,.inr (by rw [hf];rfl),ox,fun t ht=>by cases ht;exact ot,q⟩
end
structure fG (K:Frag) (C:Addr):Prop where
  ga:findIn K (.ref C) "__getattribute__" = some (some (.builtin "BaseException.__getattribute__"))
  gh:findIn K (.ref C) "__getattr__" = some none
  bs:mroIn K C (.type "BaseException")=some true
  ob:mroIn K C (.type "object")=some true
  ca:findIn K (.ref C) "__class__" = some (some (.builtin "object.__class__"))
  cg:specialIn K (.builtin "object.__class__") "__get__" = some (some (.builtin "getset_descriptor.__get__"))
  ct:takesIn K (.builtin "object.__class__")=some true
  cd:(clsIn K C).isSome=true
section
variable {prog:Program} {w:World} {A:Around} {E:Value→Shared→Prop} {s:Shared} {K:Frag} {x C:Addr} {ox:Obj} {od:Option Obj} {name:Str}
theorem ug {R:Result→Shared→Prop} {tk:Tok} {v:Value} (X:K.In s.heap) (I:InstAt s.heap x ox C od) (G:fG K C) (hf:findObj K C od name=some (.value v)) (hq:R (.ok (.ret v)) s) :
    codeAny (model prog w) A (.call (.builtin "BaseException.__getattribute__") ⟨[.ref x,.str name tk],[]⟩) R s:=by
  have hk:builtinKind "BaseException.__getattribute__" = some .slot:=by decide +kernel
  have hsplit:splitId "BaseException.__getattribute__" = some ("BaseException", "__getattribute__"):=by decide +kernel
  obtain ⟨h0,g,d,tt,os⟩:=s
  have LT:=I.type (M:=model prog w)
  have typ:Looks (model prog w) h0 (isInstance (.ref x) (.type "BaseException")) true:=LT.andThen (looks_mroIn X G.bs)
  have LF:=looks_find (M:=model prog w) X I hf
  refine codeAny_call_builtin PySem.F.attrBase_ValueError.ga.plain PySem.F.entry_bexc_ga ?_
  have ha:=PySem.F.args_bexc_ga (.ref x) (.str name tk)
  simp only [checkBuiltinCall,hk,hsplit]
  refine wpAny_bind (typ.here ?_)
  simp only [Bool.not_true,Bool.false_eq_true,if_false]
  unfold argsOk at ha
  refine wpAny_of_eq ha ?_
  unfold Builtin.«object.__getattribute__»
  repeat (any_goals (first | assumption | lk | wp_step))
theorem uh {R:Result→Shared→Prop} {tk:Tok} (X:K.In s.heap) (I:InstAt s.heap x ox C od) (G:fG K C) (hq:R (.ok (.ret (.ref C))) s) :
    codeAny (model prog w) A (.call (.builtin "BaseException.__getattribute__") ⟨[.ref x,.str "__class__" tk],[]⟩) R s:=by
  have hk:builtinKind "BaseException.__getattribute__" = some .slot:=by decide +kernel
  have hsplit:splitId "BaseException.__getattribute__" = some ("BaseException", "__getattribute__"):=by decide +kernel
  have hf:findObj K C od "__class__" = some (.bind (.builtin "getset_descriptor.__get__") (.builtin "object.__class__")):=by
    obtain ⟨cd,hcd⟩:=Option.isSome_iff_exists.mp G.cd
    unfold findObj
    rw [hcd,Option.bind_some,G.ca,Option.bind_some]
    dsimp only
    rw [G.cg,Option.bind_some]
    dsimp only
    rw [G.ct,Option.bind_some]
  have cls:=fun (A:Around) (R:Result→Shared→Prop) (h:R (.ok (.ret (.ref C))) s)=>class_get (prog:=prog) (w:=w) (A:=A) (R:=R) (tp:=.ref C) X I G.ob h
  obtain ⟨h0,g,d,tt,os⟩:=s
  have LT:=I.type (M:=model prog w)
  have typ:Looks (model prog w) h0 (isInstance (.ref x) (.type "BaseException")) true:=LT.andThen (looks_mroIn X G.bs)
  have LF:=looks_find (M:=model prog w) X I hf
  refine codeAny_call_builtin PySem.F.attrBase_ValueError.ga.plain PySem.F.entry_bexc_ga ?_
  have ha:=PySem.F.args_bexc_ga (.ref x) (.str "__class__" tk)
  simp only [checkBuiltinCall,hk,hsplit]
  refine wpAny_bind (typ.here ?_)
  simp only [Bool.not_true,Bool.false_eq_true,if_false]
  unfold argsOk at ha
  refine wpAny_of_eq ha ?_
  unfold Builtin.«object.__getattribute__»
  repeat (any_goals (first | assumption | with_reducible refine wpAny_call ?_ | lk | wp_step))
  refine cls _ _ ?_
  exact wpAny_pure hq
theorem AY {tk:Tok} {fill expr:Bool} {v:Value} {Q:Value→Shared→Prop} (X:K.In s.heap) (I:InstAt s.heap x ox C od) (G:fG K C) (hv:handedIn v=true)
    (hc:∀ (A:Around) (R:Result→Shared→Prop),R (.ok (.ret v)) s→codeAny (model prog w) A (.call (.builtin "BaseException.__getattribute__") ⟨[.ref x,.str name tk],[]⟩) R s) (hq:Q v s) :
    wpAny (model prog w) A (getAttrBy (.ref x) (.str name tk) fill expr) Q E s:=by
  obtain ⟨h0,g,d,tt,os⟩:=s
  have LT:=I.type (M:=model prog w)
  have L1:=looks_findIn (M:=model prog w) X G.ga
  have L2:=looks_findIn (M:=model prog w) X G.gh
  have f3:=PySem.F.attrBase_ValueError.ga.bind (.ref x)
  have hx0:(expr && onTheHeap (Value.builtin "BaseException.__getattribute__"))=false:=by cases expr <;> rfl
  have hx2:(Value.builtin "BaseException.__getattribute__" == Value.builtin "object.__getattribute__")=false:=by decide +kernel
  have hx1:(onTheHeap (Value.ref C) && Value.builtin "BaseException.__getattribute__" == Value.builtin "object.__getattribute__")=false:=by rw [hx2];rfl
  unfold getAttrBy
  repeat (any_goals (first | assumption | with_reducible refine wpAny_call ?_ | with_reducible refine wpAny_attempt ?_ | lk | wp_step))
  exact hc _ _ (handed_on hv hq)
theorem DJ {expr:Bool} {v:Value} {Q:Value→Shared→Prop} (X:K.In s.heap) (I:InstAt s.heap x ox C od) (G:fG K C) (hv:handedIn v=true) (hf:findObj K C od name=some (.value v)) (hq:∀ tk,Q v { s with toks:=tk }) :
    wpAny (model prog w) A (getAttr (.ref x) name expr) Q E s:=by
  unfold getAttr
  have go:∀ (tk:Tok) (t':Nat),wpAny (model prog w) A (getAttrBy (.ref x) (.str name tk) true expr) Q E { s with toks:=t' }:=fun tk t'=>AY (s:={ s with toks:=t' }) X I G hv (fun A R h=>ug (s:={ s with toks:=t' }) X I G hf h) (hq t')
  obtain ⟨h0,g,d,tt,os⟩:=s
  repeat (any_goals (first | assumption | exact go _ _ | lk | wp_step))
theorem DK {Q:Option Value→Shared→Prop} (X:K.In s.heap) (I:InstAt s.heap x ox C od) (G:fG K C) (hq:Q (some (.ref C)) { s with toks:=s.toks+1 }) :
    wpAny (model prog w) A (getAttr? (.ref x) "__class__") Q E s:=by
  unfold getAttr? getAttrBy?
  have go:∀ (tk:Tok) (Q:Value→Shared→Prop) (E:Value→Shared→Prop) (t':Nat),Q (.ref C) { s with toks:=t' }→wpAny (model prog w) A (getAttrBy (.ref x) (.str "__class__" tk) false) Q E { s with toks:=t' }:=fun tk Q E t' h=>AY (s:={ s with toks:=t' }) X I G rfl (fun A R h=>uh (s:={ s with toks:=t' }) X I G h) h
  obtain ⟨h0,g,d,tt,os⟩:=s
  repeat (any_goals (first | assumption | with_reducible refine wpAny_attempt ?_ | (refine go _ _ _ _ ?_) | lk | wp_step))
theorem kF (G:fG K C):KitX K (.ref x) (.ref C) (fun h=>∃ ox od,InstAt h x ox C od) where
  ty:=fun _ _ _ ⟨_,_,I⟩=>I.type
  it:=fun _ _ X _=>by
    obtain ⟨cd,hc⟩:=Option.isSome_iff_exists.mp G.cd
    unfold clsIn at hc
    split at hc
    · rename_i ho
      intro A' Q' E' s' k q
      unfold isType loadHead
      exact wpAny_bind (wpAny_loadPart (k _ _ (X _ _ ho)) (wpAny_pure q))
    · cases hc
  ne:=fun h tp dd its n sl X htp=>by
    obtain ⟨cd,hc⟩:=Option.isSome_iff_exists.mp G.cd
    refine Bool.eq_false_iff.mpr fun q=>?_
    have e:C=tp:=Value.ref.inj (beq_iff_eq.mp q)
    subst e
    unfold clsIn at hc
    split at hc
    · rename_i ho
      have z:=(X _ _ ho).symm.trans htp
      cases z
    · cases hc
  ca:=fun X ⟨_,_,I⟩ k=>DK X I G k
end
def ExD (H:Hp):Option Addr→Prop
  | none=>True
  | some d=>∃ fs,H d=some (.xd fs)
structure ExA (K:Frag) (H:Hp) (x C:Addr) (dx:Option Addr):Prop where
  at_:H x=some (gn x (.ref C) dx)
  g:fG K C
  d:ExD H dx
section
variable {X:Cx} {pins:List (Addr×Obj)} {σ : St} {H:Hp} {s:Shared} {x C:Addr} {dx:Option Addr}
theorem oz (I:Inv X pins σ H s) (e:ExA X.K H x C dx):∃ ox od,InstAt s.heap x ox C od∧∀ d,dx=some d→∃ o,od=some o∧s.heap.get? d=some o:=by
  obtain ⟨⟨oe,vs,e1,e2,e3,e4⟩,_⟩:=(show bL X.prog X.w H s.heap x (gn x (.ref C) dx) from I.hok x _ e.at_)
  have nc:notCls oe=true:=by unfold notCls;rw [e4]
  cases dx with
  | none=>exact ⟨oe,none,⟨e1,e2,nc,by rw [e3];trivial⟩,fun d z=>by cases z⟩
  | some d=>
    obtain ⟨fs,hd⟩:=e.d
    obtain ⟨mA,⟨od,es,ep,h1,h2⟩,_⟩:=(show bL X.prog X.w H s.heap d (.xd fs) from I.hok d _ hd)
    exact ⟨oe,some od,⟨e1,e2,nc,by rw [e3];exact h1⟩,fun d' z=>by cases z;exact ⟨od,rfl,h1⟩⟩
end
def zy (K:Frag):RL:=fun xs H Q=>∃ x C dx c b,xs=[.ref x,c]∧ExA K H x C dx∧((∃ T,c = .ty T∧kitOne K (.ref C) (.type T)=some b)∨∃ D,c = .ref D∧kitOne K (.ref C) (.ref D)=some b)∧Q (.bl b) H
def sU (K:Frag):RL:=fun xs H Q=>∃ (x C:Addr) (dx:Option Addr) (tp:Addr) (Ds:List Addr) (b:Bool),xs=[.ref x,.ref tp]∧ExA K H x C dx∧H tp=some (.tup (Ds.map V.ref))∧kitAny K (.ref C) (Ds.map Value.ref)=some b∧Q (.bl b) H
def JH (K:Frag) (f:Str) (x:V) (H:Hp) (Q:VK):Prop:=∃ a C d fs v,x = .ref a∧ExA K H a C (some d)∧H d=some (.xd fs)∧hasDictIn K C=true∧findIn K (.ref C) f=some none∧fs.lookup f=some v∧Q v H
def yq (K:Frag) (ta:TE) (f:Str):TE:=fun σ H Q=>ta σ H fun x H1=>JH K f x H1 Q
section
variable {X:Cx}
theorem xH:b5 X (.builtin "isinstance") (zy X.K):=by
  intro pins s σ H xs us Q I r h
  obtain ⟨x,C,dx,c,b,rfl,e,hc,q⟩:=h
  obtain ⟨u,w',rfl,rx,rc⟩:=vals2 r
  cases (show u=Value.ref x from rx)
  obtain ⟨ox,od,J,_⟩:=oz I e
  rcases hc with ⟨T,rfl,k⟩ | ⟨D,rfl,k⟩
  · cases (show w'=Value.type T from rc)
    exact kia_one (kF e.g) I.kIn ⟨ox,od,J⟩ k (fun z=>nomatch z) fun tk=>⟨.bl b,H,I.tok _,rfl,q⟩
  · cases (show w'=Value.ref D from rc)
    exact kia_one (kF e.g) I.kIn ⟨ox,od,J⟩ k (fun z=>nomatch z) fun tk=>⟨.bl b,H,I.tok _,rfl,q⟩
theorem lY:∀ {Ds:List Addr} {us:List Value},Vals (Ds.map V.ref) us→us=Ds.map Value.ref
  | [],_,.nil=>rfl
  | D::Ds,_,.cons r t=>by rw [List.map_cons,lY t];cases (show _=Value.ref D from r);rfl
theorem uv:b5 X (.builtin "isinstance") (sU X.K):=by
  intro pins s σ H xs us Q I r h
  obtain ⟨x,C,dx,tp,Ds,b,rfl,e,ht,k,q⟩:=h
  obtain ⟨u,w',rfl,rx,rc⟩:=vals2 r
  cases (show u=Value.ref x from rx)
  cases (show w'=Value.ref tp from rc)
  obtain ⟨ox,od,J,_⟩:=oz I e
  obtain ⟨_,its,rv,⟨⟨oc,od',da,sl⟩,h1,h2,n,h3⟩⟩:=(show bL X.prog X.w H s.heap tp (.tup (Ds.map V.ref)) from I.hok tp _ ht)
  have ei:=lY rv
  subst ei
  dsimp only at h2 h3
  subst h2 h3
  exact kia_tup (kF e.g) I.kIn ⟨ox,od,J⟩ h1 k (fun z=>nomatch z) fun tk=>⟨.bl b,H,I.tok _,rfl,q⟩
theorem qo {c:Str} {C:Addr} {p:Pos} (hm:X.mg c=some (.ref C)) (hg:Gl X c:=by rfl) (hdb:(c == ("__debug__" : Str))=false:=by decide):PE X (.Name c p) (tC (.ref C)):=fun pins s σ H Q I h=>cN I hg hm ⟨.ref C,H,I,rfl,h⟩ hdb
theorem Ck {e:Expr} {f:Str} {pos:Pos} {ta:TE} (he:PE X e ta) (hb:attributeBase e f X.env (eval e X.env)=eval e X.env):PE X (.Attribute e f pos) (yq X.K ta f):=by
  intro pins s σ H Q I h
  refine vZ hb (thn (he pins s σ H _ I h) fun u s1 ⟨x,H1,I1,rx,a,C,d,fs,v,ex,ea,hd,hh,hn,l,q⟩=>?_)
  subst ex
  obtain rfl:u=Value.ref a:=rx
  obtain ⟨ox,od,J,hod⟩:=oz I1 ea
  obtain ⟨o,rfl,ho⟩:=hod d rfl
  obtain ⟨mA,N,rel⟩:=(show bL X.prog X.w H1 s1.heap d (.xd fs) from I1.hok d _ hd)
  obtain ⟨od2,ho2,hl⟩:=mO N
  rw [ho] at ho2
  cases ho2
  have rv:=rel f
  rw [l] at rv
  cases hm:mA f with
  | none=>rw [hm] at rv;exact False.elim rv
  | some v'=>
    rw [hm] at rv
    exact DJ I1.kIn J ea.g (mU rv) (findObj_own hh hn rfl (by rw [hl,hm])) fun tk=>⟨v,H1,I1.tok _,rv,q⟩
end
theorem Fi {X:Cx}:PaX X.nox (fun _ _ _ _=>False):=fun _ _ ⟨_,_,_,_,_,_,_,_,_,_,_,_,_,_,q⟩=>q
section
variable {X:Cx} {K:Frag} {e:Expr} {te:TE} {c:Str} {T:String} {D:Addr} {p p' pos:Pos}
theorem iz (hK:X.K=K) (hm:X.mg "isinstance" = none) (hc:X.mg c=some (.ref D)) (he:PE X e te) (hg:Gl X "isinstance" := by rfl) (hg':Gl X c:=by rfl) (hd:(c == ("__debug__" : Str))=false:=by decide)
    (hs:starEach [e,.Name c p'] X.env=(false,eval e X.env)::starEach [.Name c p'] X.env:=by rfl) (hs2:starEach [.Name c p'] X.env=(false,eval (.Name c p') X.env)::starEach [] X.env:=by rfl) (hpl:(backTo pos (starEach [.Name c p'] X.env)).any (·.1)=false:=by rfl) :
    PE X (.Call (.Name "isinstance" p) [e,.Name c p'] [] pos) (tCB (zy K) (gH te (gH (tC (.ref D)) lG))):=by
  subst hK
  exact aX xH hg hm dI (aa he (aa (qo hc hg' hd) ah hs2) hs) (by decide) (by decide) hs hpl
theorem zI {es:List Expr} {ec:Nat} {tpos:Pos} {tl:TA} (hK:X.K=K) (hm:X.mg "isinstance" = none) (he:PE X e te) (ht:PE X (.Tuple es ec tpos) (wm tl)) (hg:Gl X "isinstance" := by rfl)
    (hs:starEach [e,.Tuple es ec tpos] X.env=(false,eval e X.env)::starEach [.Tuple es ec tpos] X.env:=by rfl) (hs2:starEach [.Tuple es ec tpos] X.env=(false,eval (.Tuple es ec tpos) X.env)::starEach [] X.env:=by rfl) (hpl:(backTo pos (starEach [.Tuple es ec tpos] X.env)).any (·.1)=false:=by rfl) :
    PE X (.Call (.Name "isinstance" p) [e,.Tuple es ec tpos] [] pos) (tCB (sU K) (gH te (gH (wm tl) lG))):=by
  subst hK
  exact aX uv hg hm dI (aa he (aa ht ah hs2) hs) (by decide) (by decide) hs hpl
theorem qm {f:Str} {ta:TE} (hK:X.K=K) (he:PE X e ta) (hb:attributeBase e f X.env (eval e X.env)=eval e X.env):PE X (.Attribute e f pos) (yq K ta f):=by
  subst hK
  exact Ck he hb
end
section
variable {K:Frag} {σ : St} {H:Hp} {Q:VK} {D:Ends} {tl:TA} {ta:TE} {sp:Sp} {Ex:St→XK} {C:Addr}
theorem DF (h:tl σ H fun vs H1=>sp vs H1 Q (Ex σ)):yu sp Ex tl σ H Q:=h
def Raises (C:Addr) (Ex:XK) (vs:List V) (H:Hp):Prop:=vs.length≤1000∧Ex (.ref C) none H
theorem Dq (h:tl σ H fun vs H1=>Raises C (Ex σ) vs H1):yo C Ex tl D σ H:=h
theorem AD {E:XK} {v:V} (h:E (.ref C) none H):Raises C E [v] H:=⟨(by show 1≤1000;decide),h⟩
theorem GC {f:Str} (h:ta σ H fun x H1=>JH K f x H1 Q):yq K ta f σ H Q:=h
def fj (K:Frag) (CH:Value) (i:Nat) (th:TS) (Ex:St→XK) (D:Ends):St→XK:=fun σ' C dx H'=>∃ b,exmOne K C CH=some b∧if b=true then ∀ x,H' x=none→th (yj i D) (σ'.set i (some (.ref x))) (upd H' x (gn x C dx)) else Ex σ' C dx H'
theorem iJ {CH C:Value} {i:Nat} {th:TS} {dx:Option Addr} (e:exmOne K C CH=some true) (h:∀ x,H x=none→th (yj i D) (σ.set i (some (.ref x))) (upd H x (gn x C dx))):fj K CH i th Ex D σ C dx H:=⟨true,e,by rw [if_pos rfl];exact h⟩
theorem cO {x C D:Addr} {dx:Option Addr} {b:Bool} (e:ExA K H x C dx) (k:kitOne K (.ref C) (.ref D)=some b) (h:Q (.bl b) H):zy K [.ref x,.ref D] H Q:=⟨x,C,dx,_,b,rfl,e,.inr ⟨D,rfl,k⟩,h⟩
theorem Dy {x C tp:Addr} {dx:Option Addr} {Ds:List Addr} {b:Bool} (e:ExA K H x C dx) (ht:H tp=some (.tup (Ds.map V.ref))) (k:kitAny K (.ref C) (Ds.map Value.ref)=some b) (h:Q (.bl b) H):sU K [.ref x,.ref tp] H Q:=⟨x,C,dx,tp,Ds,b,rfl,e,ht,k,h⟩
theorem Dk {i:Nat} {v:V} (h:D.rt v H):(yj i D).rt v H:=h
end
open Builtin Builtin.ObjectAttr
inductive cP:List Value→Prop
  | base:cP dU
  | own {c:Addr} {r:List Value}:cP r→cP (.ref c::r)
theorem qi (self:Value) {l:List Value} (h:cP l):refuseLoop self "__setattr__" l=pure ():=by
  induction h with
  | base=>exact PySem.F.store_ValueError.passes self
  | own _ ih=>rw [refuseLoop_ref];exact ih
section
variable {prog:Program} {w:World} {A:Around} {E:Value→Shared→Prop} {s:Shared} {K:Frag} {x C:Addr} {ox:Obj} {od:Option Obj} {name:Str} {v:Value} {cd:ClassData}
theorem iK {R:Result→Shared→Prop} {tk:Tok} {r:Option Value} (X:K.In s.heap) (I:InstAt s.heap x ox C od) (G:fG K C) (hc:clsIn K C=some cd) (ho:cP cd.mro) (ht:takerIn K C name=some r)
    (h:∀ b,wpAny (model prog w) A.in1 (match r with | some a=>setByDescriptor a (.ref x) v | none=>storeInOwnDict (.ref x) (.ref C) (.str name tk) name v b)
      (fun fin s'=>match fin with | .done f=>R (.ok f) s' | .again c'=>c'.quiet=true∧codeAny (model prog w) A c' R s') (fun e s'=>R (.error e) s') s) :
    codeAny (model prog w) A (.call (.builtin "object.__setattr__") ⟨[.ref x,.str name tk,v],[]⟩) R s:=by
  have SF:=PySem.F.store_object
  have sub:Looks (model prog w) s.heap (isInstance (.ref x) (.type "object")) true:=I.type.andThen (looks_mroIn X G.ob)
  refine codeAny_call_builtin SF.slot.plain SF.entry (@check_slot (model prog w) _ _ s "object.__setattr__" "object" "__setattr__" (.ref x) [.str name tk,v] [] _ SF.kind SF.split sub (SF.args (.ref x) (.str name tk) v) ?_)
  obtain ⟨attr,ha,hr⟩:=Option.bind_eq_some_iff.mp ht
  have hm:Looks (model prog w) s.heap (mroOf (.ref C)) cd.mro:=(looks_clsIn X hc).andThen .now
  have L3:Looks (model prog w) s.heap (storeTaker? attr) r:=by
    cases attr with
    | none=>cases hr;exact .now
    | some a=>
      obtain ⟨b,hb,rfl⟩:=Option.map_eq_some_iff.mp hr
      refine (looks_takesIn X hb).andThen ?_
      cases b <;> exact .now
  rw [osa_eq,refuse_eq]
  refine wpAny_bind (wpAny_bind (I.type.here (wpAny_bind (hm.here ?_))))
  rw [qi _ ho]
  refine wpAny_pure (wpAny_bind (I.type.here (wpAny_bind ((looks_findIn X ha).here (wpAny_bind (L3.here ?_))))))
  exact h _
theorem AX {Q:Unit→Shared→Prop} {vs:Array Value} (X:K.In s.heap) (I:InstAt s.heap x ox C none) (G:fG K C) (hs:findIn K (.ref C) "__setattr__" = some (some (.builtin "object.__setattr__")))
    (hc:clsIn K C=some cd) (ho:cP cd.mro) (hh:cd.hasDict=true) (ht:takerIn K C name=some none) (hdn:ox.dict=none) (hda:ox.data = .fields vs)
    (h:∀ h' t,h'.get? x=some { ox with dict:=some s.heap.objs.size }→h'.Ns1 s.heap.objs.size (fun y=>if y=name then some v else none)→(∀ b o,b≠x→s.heap.get? b=some o→h'.get? b=some o)→Q () { s with heap:=h',toks:=t }) :
    wpAny (model prog w) A (setAttr (.ref x) name v) Q E s:=by
  refine set_plain X I hs (iK (s:={ s with toks:=s.toks+1 }) (r:=none) X I G hc ho ht fun b=>?_)
  have hx:=I.at_
  have hcl:=I.cls
  obtain ⟨oc,odi,oda,osl⟩:=ox
  dsimp only at hcl hdn hda hx
  subst hcl hdn hda
  refine wpAny_bind (wpAny_pure (wpAny_bind (wpAny_bind (wpAny_loadPart hx (wpAny_bind (PySem.W.Looks.here (s:={ s with toks:=s.toks+1 }) (PySem.W.looks_clsIn X hc) ?_))))))
  rw [hh,if_neg (by decide)]
  have hxs:x≠s.heap.objs.size:=Nat.ne_of_lt (Heap.lt_size hx)
  have hx1:(s.heap.push { cls:=.type "dict",data:=.dict #[] }).get? x=some ⟨.ref C,none,.fields vs,osl⟩:=Heap.get?_push_of_some _ hx
  show wpAny (model prog w) A.in1 (alloc { cls:=Value.type "dict",data:=Data.dict #[] } >>= fun d=>update x (fun o=>{ cls:=o.cls,dict:=some d,data:=o.data,slots:=o.slots }) >>= fun _=>dictMade (.ref C) x d) _ _ _
  refine wpAny_bind (wpAny_alloc' ?_)
  refine wpAny_bind (wpAny_update' hx1 ?_)
  refine wpAny_pure ?_
  have hgd:((s.heap.push { cls:=.type "dict",data:=.dict #[] }).update x fun o=>{ cls:=o.cls,dict:=some s.heap.objs.size,data:=o.data,slots:=o.slots }).get? s.heap.objs.size
      = some { cls:=.type "dict",data:=.dict #[] }:=(Heap.get?_update_ne _ _ _ _ hxs.symm).trans (Heap.get?_push_at rfl rfl)
  have hnd:((s.heap.push { cls:=.type "dict",data:=.dict #[] }).update x fun o=>{ cls:=o.cls,dict:=some s.heap.objs.size,data:=o.data,slots:=o.slots }).Ns s.heap.objs.size (fun _=>none):=
    ⟨_,#[],_,hgd,rfl,fun e he=>absurd he (by simp),fun _=>rfl⟩
  show wpAny _ _ (storeInDict s.heap.objs.size (.str name _) name v) _ _ _
  unfold storeInDict newKeyGuard
  refine wpAny_bind (wpAny_pure (wpAny_bind (wpAny_nsSet1 (Heap.Ns1.of_empty hnd) fun h' hn' sb=>?_)))
  obtain ⟨oD,esD,epD,hoD,hdD,hcD⟩:=hn'.count (PySem.Within.cons name v PySem.Within.nil)
  refine wpAny_bind (wpAny_lookBehind hoD (by rw [hdD];exact pastItsLine_dict (Nat.le_trans hcD (by rw [List.length_cons,List.length_nil,sizeLine_eq];omega))) ?_)
  refine wpAny_pure (h h' _ ?_ hn' fun b o nb hb=>?_)
  · exact (sb.2 x hxs).trans (Heap.get?_update_self _ hx1 rfl)
  · exact (sb.2 b (Nat.ne_of_lt (Heap.lt_size hb))).trans ((Heap.get?_update_ne _ _ _ _ nb).trans (Heap.get?_push_of_some _ hb))
theorem AW {Q:Unit→Shared→Prop} {dx:Addr} {mA:Str→Option Value} {ns:List Str} {oD:Obj} (X:K.In s.heap) (I:InstAt s.heap x ox C (some oD)) (G:fG K C) (hs:findIn K (.ref C) "__setattr__" = some (some (.builtin "object.__setattr__")))
    (hc:clsIn K C=some cd) (ho:cP cd.mro) (hh:cd.hasDict=true) (ht:takerIn K C name=some none) (hdn:ox.dict=some dx) (hN:s.heap.Ns1 dx mA) (hw:PySem.Within mA ns) (hsz:ns.length≤sizeLine)
    (h:∀ h' t,h'.Ns1 dx (fun y=>if y=name then some v else mA y)→Heap.SameBut dx s.heap h'→Q () { s with heap:=h',toks:=t }) :
    wpAny (model prog w) A (setAttr (.ref x) name v) Q E s:=by
  refine set_plain X I hs (iK (s:={ s with toks:=s.toks+1 }) (r:=none) X I G hc ho ht fun b=>?_)
  have hx:=I.at_
  have hcl:=I.cls
  obtain ⟨oc,odi,oda,osl⟩:=ox
  dsimp only at hcl hdn hx
  subst hcl hdn
  refine wpAny_bind (wpAny_pure (wpAny_bind (wpAny_bind (wpAny_loadPart hx (wpAny_bind (PySem.W.Looks.here (s:={ s with toks:=s.toks+1 }) (PySem.W.looks_clsIn X hc) ?_))))))
  rw [hh]
  refine wpAny_pure (a:=some dx) (wpAny_bind (wpAny_pure (wpAny_bind ?_)))
  refine wpAny_nsSet1 (s:={ s with toks:=s.toks+1 }) hN fun h' hn2 hs2=>?_
  obtain ⟨oD,esD,epD,hoD,hdD,hcD⟩:=hn2.count (PySem.Within.cons name v hw)
  refine wpAny_bind (wpAny_lookBehind hoD (by rw [hdD];exact pastItsLine_dict (Nat.le_trans hcD (by rw [List.length_cons];omega))) ?_)
  exact wpAny_pure (h _ _ hn2 hs2)
end
def ExN (x:Addr) (C:Value) (dx:Option Addr):Heap→Prop:=fun h=>∃ oe a0,h.get? x=some oe∧oe.cls=C∧oe.dict=dx∧oe.data = .fields #[.ref a0,.none,.none,.none,.bool false,.none]
abbrev fF (x:Addr) (C:Value) (dx:Option Addr):HO:=.ext (ExN x C dx)
def XdP (d:Addr) (fs:List (Str×V)):Heap→Prop:=fun h=>∃ mA,h.Ns1 d mA∧(∀ f,gG (fs.lookup f) (mA f))∧PySem.Within mA (fs.map (·.1))
abbrev XdO (d:Addr) (fs:List (Str×V)):HO:=.ext (XdP d fs)
def ers (H:Hp) (x:Addr):Hp:=fun b=>if b=x then none else H b
theorem kQ {H:Hp} {x:Addr}:ers H x x=none:=if_pos rfl
theorem fX {H:Hp} {x b:Addr} (h:b≠x):ers H x b=H b:=if_neg h
theorem ExN.stay {x:Addr} {C:Value} {dx:Option Addr}:∀ h1 h2:Heap,ExN x C dx h1→(∀ ob,h1.get? x=some ob→h2.get? x=some ob)→ExN x C dx h2:=fun _ _ ⟨oe,a,e,b⟩ k=>⟨oe,a,k _ e,b⟩
theorem XdP.stay {d:Addr} {fs:List (Str×V)}:∀ h1 h2:Heap,XdP d fs h1→(∀ ob,h1.get? d=some ob→h2.get? d=some ob)→XdP d fs h2:=fun _ _ ⟨mA,N,r⟩ k=>⟨mA,N.at k,r⟩
section
variable {X:Cx} {pins:List (Addr×Obj)} {σ : St} {H:Hp} {s:Shared} {x C:Addr} {dx:Option Addr}
theorem xx {φ : Heap→Prop} (I:Inv X pins σ H s) (e:H x=some (.ext φ)):Inv X pins σ (ers H x) s:=by
  have nn:∀ b,H b=none→ers H x b=none:=fun b n=>by unfold ers;split <;> first | rfl | exact n
  have ne:∀ b u,H b=some u→(∀ ψ,u≠.ext ψ)→b≠x:=fun b u q n z=>by rw [z,e] at q;cases q;exact n _ rfl
  refine ⟨I.ok,I.os,I.bare,⟨I.base.keep,I.base.slot,fun b ob q n hx=>nn _ (I.base.free b ob q n hx),I.base.there,fun b xs q=>?_,fun b ob u q=>?_,fun b ps q=>?_⟩,I.loc,I.cell,nn _ I.free,fun y c q=>nn _ (I.freeC y c q),fun q hq=>?_,fun b u q=>?_,I.len⟩
  · have:=I.base.tups b xs q;rw [fX (ne _ _ this fun _ z=>by cases z)];exact this
  · have:=I.base.gE b ob u q;rw [fX (ne _ _ this fun _ z=>by cases z)];exact this
  · obtain ⟨m,h⟩:=I.base.gM b ps q
    exact ⟨m,by rw [fX (ne _ _ h fun _ z=>by cases z)];exact h⟩
  · obtain ⟨a,b,r⟩:=I.pin q hq
    exact ⟨a,nn _ b,r⟩
  · by_cases z:b=x
    · rw [z,kQ] at q;cases q
    · rw [fX z] at q
      exact (I.hok b u q).stay (fun _ _ _ r=>r) (fun c r=>by rw [fX (ne _ _ r fun _ z=>by cases z)];exact r) fun c xs r=>by rw [fX (ne _ _ r fun _ z=>by cases z)];exact r
end
structure wc (K:Frag) (mg:Str→Option Value) (R:Str) (CR:Addr):Prop where
  gm:mg R=some (.ref CR)
  sg:specialIn K (.ref CR) "__getattribute__" = some (some (.builtin "type.__getattribute__"))
  rd:readsIn K CR (.type "type")=true
  fc:findCls K (.ref CR) (.type "type") "__init__" = some (.val (.builtin "ValueError.__init__"))
def sV (K:Frag):RL:=fun vs H Q=>∃ (x C:Addr) (dx:Option Addr) (rest:List V),vs = .ref x::rest∧H x=some (fF x (.ref C) dx)∧dQ K C dU "ValueError.__new__" = true∧rest.length≤1000∧Q .non H
def yv (K:Frag) (t:TA):TE:=fun σ H Q=>t σ H fun vs H1=>sV K vs H1 Q
theorem Bx {H:Hp} {x:Addr} {o:HO} (h:H x=some o):upd H x o=H:=by
  funext b
  by_cases z:b=x
  · subst z;rw [ay,h]
  · rw [aB z]
section
variable {X:Cx}
theorem qp {R:Str} {CR:Addr} {np apos pos:Pos} {e:Expr} {es:List Expr} {t:TA} {pl:Sem Bool} (B:wc X.K X.mg R CR) (ha:PA X (e::es) t) (hg:Gl X R:=by rfl) (hdb:(R == ("__debug__" : Str))=false:=by decide)
    (hst:starEach (e::es) X.env=(false,eval e X.env)::starEach es X.env:=by rfl) (hpl:(backTo pos (starEach es X.env)).any (·.1)=false:=by rfl)
    (ht:eval (.Call (.Attribute (.Name R np) "__init__" apos) (e::es) [] pos) X.env=(do
      let ov ← eval (.Name R np) X.env
      standAt apos.atName
      let (f,first) ← holding [ov] (getMethod ov "__init__" pl)
      callWith pos f first (backTo pos (starEach (e::es) X.env)) (backToKw pos (keywordEach [] X.env))):=by rfl) :
    PE X (.Call (.Attribute (.Name R np) "__init__" apos) (e::es) [] pos) (yv X.K t):=by
  intro pins s σ H Q I h
  refine PySem.W.methodCall_KW (pl:=pl) (cN I hg B.gm ?_ hdb) ht
  refine method_cls I.kIn B.sg (cls_value I.kIn B.rd B.fc rfl ?_)
  have I0:=I.tok (s.toks+1)
  refine PyProof.Rows.callWith_method1 (first:=[]) (thn (ha pos pins _ σ H _ I0 h) fun us s1 ⟨vs,H1,I1,r,x,C,dx,rest,ev,hx,hC,hz,q⟩=>?_) hst hpl
  subst ev
  cases r with
  | @cons _ u _ us' r0 r1=>
    obtain rfl:u=Value.ref x:=r0
    obtain ⟨⟨oe,a0,e1,e2,e3,e4⟩,_⟩:=(show bL X.prog X.w H1 s1.heap x (fF x (.ref C) dx) from I1.hok x _ hx)
    obtain ⟨nm,q',N,bs,bm,hdct,sn,sub,ab,col,dd,k0,k1,k2,k3,k5,hCC,T⟩:=oJ I1.kIn hC
    have hl:us'.length≤sizeLine:=by rw [← r1.length];exact Nat.le_of_lt (small1000 hz)
    obtain ⟨hp,g,d,tk,os⟩:=s1
    show wpAny (model X.prog X.w) X.A (call (.builtin "ValueError.__init__") (.ref x::us')) _ _ _
    refine qW PySem.F.excBase_ValueError T hCC e1 e2 e4 (Nat.zero_lt_succ _) rfl (fun h3 eh=>?_) hl
    obtain ⟨oc,odd,da,sl⟩:=oe
    dsimp only at e2 e3 e4
    subst e2 e3 e4
    have g3:=Heap.get?_update_self (Obj.mapFields (·.setIfInBounds 0 (.ref hp.objs.size))) (Heap.get?_push_of_some { cls:=.type "tuple",data:=.seq us'.toArray } e1) rfl
    rw [← eh] at g3
    have J:=I1.write (x:=x) (e:=x) (o:=fF x (.ref C) odd) (h':=h3) (t':=tk) (by rw [hx];exact True.intro) (.inl rfl) (fun b u nb hb=>by rw [eh,Heap.get?_update_other _ _ (Ne.symm nb)];exact Heap.get?_push_of_some _ hb) ⟨_,g3⟩ ⟨⟨_,_,g3,rfl,rfl,rfl⟩,⟨_,g3⟩,ExN.stay⟩
    rw [Bx hx] at J
    exact ⟨.non,H1,J,rfl,q⟩
end
structure pB (K:Frag) (C:Addr) (f:Str):Prop where
  g:fG K C
  sa:findIn K (.ref C) "__setattr__" = some (some (.builtin "object.__setattr__"))
  cd:∃ cd,clsIn K C=some cd∧cP cd.mro∧cd.hasDict=true
  tk:takerIn K C f=some none
def D3 (K:Frag) (f:Str) (x y:V) (H:Hp) (R:Hp→Prop):Prop:=∃ a C dx,x = .ref a∧H a=some (fF a (.ref C) dx)∧pB K C f ∧
  (dx=none→∀ d,H d=none→R (upd (upd H a (fF a (.ref C) (some d))) d (XdO d [(f,y)])))∧∀ d,dx=some d→∃ fs,H d=some (XdO d fs)∧fs.length < 1000∧R (upd H d (XdO d (bG f y fs)))
def Em (K:Frag) (ta tv:TE) (f:Str):TS:=fun D σ H=>tv σ H fun y H1=>ta σ H1 fun x H2=>D3 K f x y H2 fun H3=>D.nx σ H3
section
variable {X:Cx} {pins:List (Addr×Obj)} {σ : St} {H:Hp} {s:Shared}
theorem BH {A:Around} {E:Value→Shared→Prop} {f:Str} {a:Addr} {x y:V} {u:Value} {R:Hp→Prop} {Q:Unit→Shared→Prop} (I:Inv X pins σ H s) (ex:x = .ref a) (ry:RelV y u) (h:D3 X.K f x y H R)
    (hq:∀ H' s',Inv X pins σ H' s'→R H'→Q () s'):wpAny (model X.prog X.w) A (setAttr (.ref a) f u) Q E s:=by
  obtain ⟨a',C,dx,ex',ha,P,h0,h1⟩:=h
  rw [ex] at ex'
  cases ex'
  obtain ⟨⟨oe,a0,e1,e2,e3,e4⟩,_⟩:=(show bL X.prog X.w H s.heap a (fF a (.ref C) dx) from I.hok a _ ha)
  obtain ⟨cd,c1,c2,c3⟩:=P.cd
  have nc:notCls oe=true:=by unfold notCls;rw [e4]
  cases dx with
  | none=>
    have J:InstAt s.heap a oe C none:=⟨e1,e2,nc,by rw [e3];trivial⟩
    refine AX I.kIn J P.g P.sa c1 c2 c3 P.tk e3 e4 fun h' t b1 b2 b3=>?_
    have hd:=I.hok.fresh (Nat.le_refl s.heap.objs.size)
    have na:a≠s.heap.objs.size:=Nat.ne_of_lt (Heap.lt_size e1)
    have I1:=I.write (x:=a) (e:=a) (o:=fF a (.ref C) (some s.heap.objs.size)) (h':=h') (t':=t) (by rw [ha];exact True.intro) (.inl rfl) (fun b u nb hb=>b3 b u nb hb) ⟨_,b1⟩ ⟨⟨_,a0,b1,e2,rfl,e4⟩,⟨_,b1⟩,ExN.stay⟩
    have o1:fD X pins (upd H a (fF a (.ref C) (some s.heap.objs.size))) s.heap.objs.size:=fm I (Nat.le_refl _) (by rw [aB na.symm];exact hd)
    have pd:XdP s.heap.objs.size [(f,y)] h':=⟨_,b2,fun g=>by
      show gG (List.lookup g [(f,y)]) (if g=f then some u else none)
      by_cases z:g=f
      · subst z;rw [if_pos rfl,lk_hit];exact ry
      · rw [if_neg z,lk_miss (beq_eq_false_iff_ne.mpr z)];trivial,fun g hg=>by
      by_cases z:g=f
      · rw [z];exact List.mem_cons_self
      · exact absurd (show (if g=f then some u else none)=none by rw [if_neg z]) hg⟩
    have I2:=jd I1 o1 pd (let ⟨o,_,_,e,_⟩:=b2;⟨o,e⟩) XdP.stay
    exact hq _ _ I2 (h0 rfl _ hd)
  | some d=>
    obtain ⟨fs,hd,hz,r⟩:=h1 d rfl
    obtain ⟨⟨mA,N,rel,wi⟩,_⟩:=(show bL X.prog X.w H s.heap d (XdO d fs) from I.hok d _ hd)
    obtain ⟨oD,hoD⟩:∃ o,s.heap.get? d=some o:=let ⟨o,_,_,e,_⟩:=N;⟨o,e⟩
    have J:InstAt s.heap a oe C (some oD):=⟨e1,e2,nc,by rw [e3];exact hoD⟩
    have hz':(fs.map (·.1)).length≤sizeLine:=by rw [List.length_map,sizeLine_eq];omega
    refine AW I.kIn J P.g P.sa c1 c2 c3 P.tk e3 N wi hz' fun h' t b2 sb=>?_
    refine hq _ _ (I.write (x:=d) (e:=d) (o:=XdO d (bG f y fs)) (h':=h') (t':=t) (by rw [hd];exact True.intro) (.inl rfl) (fun b u nb hb=>(sb.2 b nb).trans hb) (let ⟨o,_,_,e,_⟩:=b2;⟨o,e⟩) ⟨⟨_,b2,fun g=>?_,fun g hg=>?_⟩,(let ⟨o,_,_,e,_⟩:=b2;⟨o,e⟩),XdP.stay⟩) r
    · show gG ((bG f y fs).lookup g) (if g=f then some u else mA g)
      rw [fS]
      by_cases z:g=f
      · rw [if_pos z,if_pos z];exact ry
      · rw [if_neg z,if_neg z];exact rel g
    · by_cases z:g=f
      · rw [z];exact (eV f y fs).1
      · refine (eV f y fs).2 g (wi g fun n=>hg ?_)
        show (if g=f then some u else mA g)=none
        rw [if_neg z];exact n
theorem vo {o value:Expr} {f:Str} {pos pos':Pos} {ta tv:TE} (ha:PE X o ta) (hv:PE X value tv) (hs:swapsWith value (some (.Attribute o f pos')) pos.line X.env=pure false):PS X (.Assign [.Attribute o f pos'] value pos) (Em X.K ta tv f):=by
  intro pins s σ H D I h
  refine plainObj_wpAny_Assign_Attribute (thn (hv pins s σ H _ I h) fun u s1 ⟨y,H1,I1,ry,q⟩=>thn (ha pins s1 σ H1 _ I1 q) fun ov s2 ⟨x,H2,I2,rx,q2⟩=>?_) hs
  obtain ⟨a,C,dx,ex,r⟩:=id q2
  subst ex
  obtain rfl:ov=Value.ref a:=rx
  exact BH I2 rfl ry q2 fun H3 s3 I3 q3=>⟨σ,H3,I3,q3⟩
end
structure xV (P:Program) (w:World) (K:Frag) (mg:Str→Option Value) (base:Heap) (x:Str) (C:Addr) (k:Nat) (ps:List Str) (sp:Sp):Prop where
  ok:dQ K C dU "ValueError.__new__" = true
  kp:keepIn K (.ref C)=true
  gm:mg x=some (.ref C)
  fn:∃ f fd,findIn K (.ref C) "__init__" = some (some (.ref f))∧typeIn K (.ref f)=some (.type "function")∧eE P w K mg base (CX1 P w) k f fd ps sp∧Binds K fd ps []
def Rz (C x:Addr) (Ex:XK) (r:V) (H:Hp):Prop:=r = .non∧∃ dx,H x=some (fF x (.ref C) dx)∧(dx=none→Ex (.ref C) none (ers H x))∧∀ d,dx=some d→∃ fs,H d=some (XdO d fs)∧d≠x∧Ex (.ref C) (some d) (upd (ers H x) d (.xd fs))
def uR (C:Addr) (sp:Sp) (Ex:St→XK) (tl:TA):TS:=fun _ σ H=>tl σ H fun vs H1=>vs.length≤1000∧∀ x,H1 x=none→sp (.ref x::vs) (upd H1 x (fF x (.ref C) none)) (Rz C x (Ex σ)) fun _ _ _=>False
theorem mE {X:Cx} {Ex:St→XK} {x:Str} {C:Addr} {k:Nat} {ps:List Str} {sp:Sp} {e:Expr} {es:List Expr} {t:TA} {np cpos pos:Pos} (O:xV X.prog X.w X.K X.mg X.base x C k ps sp) (hr:bR (k+1) X.A) (hc:X.calm=true) (hx:PaX X Ex) (ha:PA X (e::es) t) (hg:Gl X x:=by rfl)
    (hdb:(x == ("__debug__" : Str))=false:=by decide) (he:starEach (e::es) X.env=(false,eval e X.env)::starEach es X.env:=by rfl) (hpl:(backTo cpos (starEach es X.env)).any (·.1)=false:=by rfl) :
    PS X (.Raise (some (.Call (.Name x np) (e::es) [] cpos)) none pos) (uR C sp Ex t):=by
  intro pins s σ H D I h
  obtain ⟨f,fd,fi,ft,F,fb⟩:=O.fn
  obtain ⟨nm,q,N,bs,bm,hdct,sn,sub,ab,col,dd,k0,k1,k2,k3,k5,hC,T⟩:=oJ I.ok.mod.kin O.ok
  rw [arm_exec_Raise]
  refine wpAny_bind (wpAny_standAt (j4 (C:=C) (nm:=nm) (q:=q) (N:=N) (bs:=bs) (bm:=bm) (hdct:=hdct) (sn:=sn) (sub:=sub) (ab:=ab) (col:=col) (dd:=dd) (k0:=k0) (k1:=k1) (k2:=k2) (k3:=k3) (k5:=k5) (newId:="ValueError.__new__") (T.hasType (by decide +kernel)) (I.ok.hd hc) (wpAny_bind ?_)))
  refine wpAny_Call_Name_kw (cN I hg O.gm ?_ hdb)
  refine callWith_K (h₀:=X.base) I.ok.mod.kin O.kp (thn (ha cpos pins s σ H _ I h) fun us s1 ⟨vs,H1,I1,r,hz,qx⟩=>⟨I1.kIn,?_⟩) he hpl
  have hl:us.length≤sizeLine:=by rw [← r.length];exact Nat.le_of_lt (small1000 hz)
  have T1:=T.keeps I1.bk
  have hC1:=I1.bk _ _ hC
  have nx:=I1.hok.fresh (Nat.le_succ s1.heap.objs.size)
  have hq:=qx _ nx
  have I2:=I1.laid (a:=s1.heap.objs.size+1) (o:=fF (s1.heap.objs.size+1) (.ref C) none) (h':=um s1.heap C us) (t':=s1.toks) cR (Nat.le_succ _) ⟨⟨_,_,fW,rfl,rfl,rfl⟩,⟨_,fW⟩,ExN.stay⟩
  have r2:Vals (V.ref (s1.heap.objs.size+1)::vs) (Value.ref (s1.heap.objs.size+1)::us):=.cons rfl r
  have hl2:(Value.ref (s1.heap.objs.size+1)::us).length=ps.length:=by rw [← r2.length];exact F.len _ _ _ _ hq
  have hb':=fb _ (Value.ref (s1.heap.objs.size+1)::us) I2.kIn (by rw [List.append_nil];exact hl2)
  rw [List.append_nil] at hb'
  obtain ⟨hp,g,d,tk,os⟩:=s1
  show wpAny (model X.prog X.w) X.A (call (.ref C) us) _ _ _
  refine qX PySem.F.excBase_ValueError T1 hC1 (looks_findIn I1.kIn fi) (fun self=>bind_fn I1.kIn self ft) ?_ hl
  refine wpAny_call (codeAny_mono (F.run _ X.stack _ _ ⟨Value.ref (hp.objs.size+1)::us,[]⟩ (Value.ref (hp.objs.size+1)::us) _ _ (fun _ _ _=>False) (hr.make C us []) (I2.A3.make C us []) hb' r2 hq) fun r s' hq'=>?_)
  cases r with
  | error e=>exact (tS _ _ _ _ _ hq').elim
  | ok fl=>
    cases fl with
    | ret u=>
      obtain ⟨v,H3,I3,rv,ev,dx,hx3,q0,q1⟩:=I2.after hq'
      subst ev
      refine ⟨rv,?_⟩
      obtain ⟨⟨oe,a0,e1,e2,e3,e4⟩,_⟩:=(show bL X.prog X.w H3 s'.heap (hp.objs.size+1) (fF (hp.objs.size+1) (.ref C) dx) from I3.hok _ _ hx3)
      have ea:ExcAt s'.heap (hp.objs.size+1) (.ref C) dx none .none:=⟨oe,_,e1,e2,e3,e4,rfl,fun t ht=>by cases ht⟩
      have I4:=xx I3 hx3
      have hCs:=I3.bk _ _ hC
      refine wpAny_bind (wpAny_standAt (wpAny_pure ⟨_,oe,_,rfl,hCs,e1,e2,e4,rfl,hx _ _ ?_⟩))
      cases dx with
      | none=>exact ⟨pins,σ,_,hp.objs.size+1,.ref C,none,none,.none,rfl,I4,ea,.inl rfl,fm I1 (Nat.le_succ _) kQ,(fun t ht=>by cases ht),q0 rfl⟩
      | some d=>
        obtain ⟨fs,hd,nd,qd⟩:=q1 d rfl
        obtain ⟨⟨mA,N',rel,_⟩,od,_⟩:=(show bL X.prog X.w H3 s'.heap d (XdO d fs) from I3.hok _ _ hd)
        have hd4:ers H3 (hp.objs.size+1) d=some (XdO d fs):=by rw [fX nd];exact hd
        have I5:=I4.write (x:=d) (e:=d) (o:=.xd fs) (h':=s'.heap) (t':=s'.toks) (by rw [hd4];exact True.intro) (.inl rfl) (fun b u _ hb=>hb) od ⟨mA,N',rel⟩
        exact ⟨pins,σ,_,hp.objs.size+1,.ref C,some d,none,.none,rfl,I5,ea,.inl rfl,fm I1 (Nat.le_succ _) (by rw [aB (Ne.symm nd)];exact kQ),(fun t ht=>by cases ht),qd⟩
    | _=>exact False.elim hq'
structure eL (k:Nat) (A:Around):Prop where
  dp:A.depth+3 * k+5 < recursionLimit
  un:A.units+16 * k+200 < cLine
theorem Ig {k:Nat} {A:Around} (r:bR k A):eL k A:=⟨r.dp,r.un⟩
theorem eL.mono {j k:Nat} {A:Around} (r:eL k A) (h:j≤k):eL j A:=⟨by have:=r.dp;omega,by have:=r.un;omega⟩
theorem eL.deeper {k:Nat} {A:Around} (r:eL (k+1) A) (env:Env):eL k (A.deeper env):=
  ⟨by have:=r.dp;show A.depth+1+3 * k+5 < _;omega,by have:=r.un;show A.units+3+16 * k+200 < _;omega⟩
theorem eL.mark {k:Nat} {A:Around} (r:eL k A) (h:Option Value):eL k (A.mark h):=⟨r.dp,r.un⟩
structure EY (P:Program) (w:World) (K:Frag) (mg:Str→Option Value) (base:Heap) (CX:CXT) (k:Nat) (f:Addr) (fd:FuncData) (ps:List Str) (sp:Sp):Prop where
  len:∀ vs H Q E,sp vs H Q E→vs.length=ps.length
  run:∀ (A:Around) (outer:List Env) (s:Shared) (H:Hp) (args:Args) (us:List Value) (vs:List V) (Q:VK) (E:XK),eL k A→lT P w K mg base A outer s H→BindsTo s fd args (ps.zip us)→Vals vs us→sp vs H Q E →
    codeAny (model P w) A (.call (.ref f) args) (CR CX outer P w H s Q E) s
abbrev cxU (CX:CXT) (P:Program) (w:World) (K:Frag) (mg:Str→Option Value) (base:Heap) (N:List Str) (qual:Str) (scope:Scope) (f:Addr) (cd:Value) (A:Around) (outer:List Env) (s:Shared) (H:Hp) (E:XK):Cx:=
  { aZ CX P w K mg base N qual scope f cd A outer s H E with calm:=false }
section
variable {CX:CXT} {P:Program} {w:World} {K:Frag} {mg:Str→Option Value} {base:Heap} {k:Nat} {f:Addr} {N ps:List Str} {sp:Sp}
theorem tY {qual:Str} {scope:Scope} {cd:Value} {A:Around} {outer:List Env} {s s1:Shared} {H:Hp} {E:XK} {us:List Value} {vs:List V} (S:aq N ps scope) (e0:lT P w K mg base A outer s H) (hl:vs.length=ps.length) (r:Vals vs us)
    (x:InCallC s s.heap.objs.size (bindL (envOfC qual scope s.heap.objs.size f cd).kindOf (ps.zip us) fun _=>none) (cellsFrom (s.heap.objs.size+1) scope.names []) (bindC (envOfC qual scope s.heap.objs.size f cd).kindOf (ps.zip us) fun _=>none) s1) :
    Inv (cxU CX P w K mg base N qual scope f cd A outer s H E) [] (start N vs) H s1:=by
  have e1:lT P w K mg base { A with handled:=none } outer s H:=⟨e0.frames,e0.mod,e0.bs,e0.bsz,e0.fV,e0.frf,e0.hok,e0.bare⟩
  have I:=mR (CX:=CX) (E:=E) S rfl e1 hl r x
  exact ⟨⟨I.ok.mod,I.ok.kind,I.ok.glob,I.ok.blt,I.ok.above,I.ok.inj,I.ok.has,I.ok.cab,(fun z=>absurd z Bool.false_ne_true),Around.frames_deeper e0.frames,I.ok.stk,I.ok.exf,I.ok.bs,I.ok.bsz,I.ok.noex,I.ok.exfs,I.ok.fV,I.ok.frf⟩,I.os,I.bare,I.base,I.loc,I.cell,I.free,I.freeC,I.pin,I.hok,I.len⟩
theorem GN {name qual:Str} {params:Arguments} {body:List Stmt} {scope:Scope} {dV kV doc pm cdv ct oc:Value} {an od:Option Addr} {osl:Array (Option Value)}
    (lk:K.lookup f=some ⟨oc,od,.func (PySem.W.fnOf name qual params body scope dV kV doc pm an cdv ct),osl⟩) (hcd:PySem.W.codeIn K cdv qual=true) (S:aq N ps scope)
    (len:∀ vs H Q E,sp vs H Q E→vs.length=ps.length)
    (hbody:∀ (A:Around) (outer:List Env) (s:Shared) (H:Hp) (vs:List V) (Q:VK) (E:XK),eL k (A.deeper (envOfC qual scope s.heap.objs.size f cdv))→sp vs H Q E →
      ∃ t,PSs (cxU CX P w K mg base N qual scope f cdv A outer s H E) body t∧t { nx:=fun _ H'=>Q .non H',rt:=Q } (start N vs) H) :
    EY P w K mg base CX (k+1) f (PySem.W.fnOf name qual params body scope dV kV doc pm an cdv ct) ps sp:=by
  refine ⟨len,fun A outer s H args us vs Q E hr e0 hb r hsp=>?_⟩
  have hl:=len _ _ _ _ hsp
  have KX:K.In s.heap:=e0.mod.kin.keeps fun b o e=>(e0.bs b o e).1
  have lim:s.heap.NoLimit:=e0.mod.nolimit.keeps fun b o e=>(e0.bs b o e).1
  have hkind:∀ y∈ps.zip us,scope.names.lookup y.1=some .local∨(scope.names.lookup y.1=some .cell∧((cellsFrom (s.heap.objs.size+1) scope.names []).lookup y.1).isSome=true):=fun ⟨n,v⟩ hy=>by
    rcases S.par n (List.of_mem_zip hy).1 with q | q
    · exact .inl q
    · exact .inr ⟨q,PySem.W.cellsFrom_some _ _ _ (.inl q)⟩
  refine codeAny_call_function (by have:=hr.dp;omega) (KX _ _ lk) rfl S.co S.gen rfl (PySem.W.codeRec_of KX hcd) (hb _ _ _ _ ?_)
  refine wpAny_newFunctionEnv_cells S.kind hkind fun env he s1 x=>?_
  subst he
  refine ⟨lim.keeps x.toInCall.keep,codeAny_func ?_⟩
  obtain ⟨t,ht,hq⟩:=hbody A outer s H vs Q E (hr.deeper _) hsp
  have I:Inv (cxU CX P w K mg base N qual scope f cdv A outer s H E) [] (start N vs) H s1:=tY S e0 hl r x
  refine wpAny_mono (ht [] s1 (start N vs) H _ I hq) (fun fl s' hs=>?_) fun e s' hs=>hs
  have fin:∀ {σ':St} {H':Hp} {v:V} {u:Value},Inv (cxU CX P w K mg base N qual scope f cdv A outer s H E) [] σ' H' s'→RelV v u→Q v H'→CE outer P w H s Q u s':=
    fun {σ' H' v u} J rv q=>⟨v,H',J.os,J.bare,J.base,J.hok,rv,q⟩
  cases fl with
  | ret u=>
    obtain ⟨v,σ',H',J,rv,q⟩:=hs
    exact fin J rv q
  | next=>
    obtain ⟨σ',H',J,q⟩:=hs
    exact fin (v:=V.non) (u:=Value.none) J rfl q
  | brk=>
    obtain ⟨_,_,_,q⟩:=hs
    exact False.elim q
  | cont=>
    obtain ⟨_,_,_,q⟩:=hs
    exact False.elim q
end
structure Ea (P:Program) (w:World) (K:Frag) (mg:Str→Option Value) (base:Heap) (CX:CXT) (x:Str) (k:Nat) (ps:List Str) (sp:Sp):Prop where
  ex:∃ f fd,EY P w K mg base CX k f fd ps sp∧Binds K fd ps []∧PySem.W.keepIn K (.ref f)=true∧mg x=some (.ref f)
section
variable {P:Program} {w:World} {K:Frag} {mg:Str→Option Value} {base:Heap} {CX:CXT} {x qual:Str} {st:Stmt} {N ps:List Str} {k:Nat} {sp:Sp}
theorem _root_.L3.Dat.okU (D:Dat K mg x qual st ps) (S:aq N ps (aj st)) (len:∀ vs H Q E,sp vs H Q E→vs.length=ps.length)
    (hbody:∀ (f:Addr) (cdv:Value) (A:Around) (outer:List Env) (s:Shared) (H:Hp) (vs:List V) (Q:VK) (E:XK),eL k (A.deeper (envOfC qual (aj st) s.heap.objs.size f cdv))→sp vs H Q E →
      ∃ t,PSs (cxU CX P w K mg base N qual (aj st) f cdv A outer s H E).nox (bf st) t∧t { nx:=fun _ H'=>Q .non H',rt:=Q } (start N vs) H):Ea P w K mg base CX x (k+1) ps sp:=by
  obtain ⟨f,fd,F,b,m⟩:=D.ex
  have kp:=F.kp
  obtain ⟨oc,od,kV,doc,pm,an,cdv,ct,osl,rfl,lk,hcd⟩:=F.ex
  refine ⟨f,_,GN lk hcd S len fun A outer s H vs Q E hr hsp=>?_,b,kp,m⟩
  obtain ⟨t,h,q⟩:=hbody f cdv A outer s H vs Q E hr hsp
  exact ⟨t,h.nox,q⟩
end
section
variable {X:Cx} {CX:CXT} {k:Nat} {ps:List Str} {sp:Sp} {E:XK} {x:Str} {p pos:Pos} {e:Expr} {es:List Expr} {t:TA}
theorem Fe (C:Ea X.prog X.w X.K X.mg X.base CX x k ps sp) (hr:eL k X.A) (hx:Passes CX X E) (ha:PA X (e::es) t) (hg:Gl X x:=by rfl)
    (hdb:(x == ("__debug__" : Str))=false:=by decide) (he:starEach (e::es) X.env=(false,eval e X.env)::starEach es X.env:=by rfl) (hpl:(backTo pos (starEach es X.env)).any (·.1)=false:=by rfl) :
    PE X (.Call (.Name x p) (e::es) [] pos) (uV sp [] E t):=by
  obtain ⟨f,fd,F,b,kp,m⟩:=C.ex
  intro pins s σ H Q I h
  refine wpAny_Call_Name_kw (cN I hg m ?_ hdb)
  refine PySem.W.callWith_K (h₀:=X.base) I.ok.mod.kin kp (thn (ha pos pins s σ H _ I h) fun us s1 ⟨vs,H1,I1,r,q⟩=>⟨I1.kIn,?_⟩) he hpl
  have q:sp vs H1 Q E:=by have z:sp (vs++[]) H1 Q E:=q;rwa [List.append_nil] at z
  have hl:us.length=ps.length:=by rw [← r.length];exact F.len _ _ _ _ q
  have hb':=b s1 us I1.kIn (by rw [List.append_nil];exact hl)
  rw [List.append_nil] at hb'
  refine wpAny_call (codeAny_mono (F.run X.A X.stack s1 H1 ⟨us,[]⟩ us vs Q E hr I1.A3 hb' r q) fun r s' hq=>?_)
  cases r with
  | error e=>exact hx pins σ H1 s1 e s' I1 hq
  | ok fl=>
    cases fl with
    | ret u=>exact I1.after hq
    | _=>exact False.elim hq
end
theorem nP {α : Type} {o:Option α} {x : α} (e:o=some x):o.isSome=true:=by rw [e];rfl
theorem gA {K:Frag} {C:Addr} {bmB:List Value} {newId:String} (q:excIn K C bmB newId=true):dQ K C bmB newId=true:=by
  unfold excIn at q
  unfold dQ
  split at q
  · rename_i dd cd sl ho
    split at q
    · rename_i C' bm k0 k1 k2 k3 n k5 hm hs
      simp only [Bool.and_eq_true] at q
      simp only [ho,hm,hs,Bool.and_eq_true]
      exact q.1.1
    · cases q
  · cases q
theorem AZ {K:Frag} {C CR:Addr} {newId:String} {dd:Option Addr} {cd:ClassData} {k0 k1 k2 k3 k5:Option Value} (l:K.lookup C=some ⟨.type "type",dd,.cls cd,#[k0,k1,k2,k3,some (.builtin newId),k5]⟩) (hm:cd.mro = .ref C::.ref CR::dU) (Dd:cd.hasDel=false) (q:excIn K CR dU newId=true):dQ K C dU newId=true:=by
  have hv:tailIn K dU dU=true:=by
    show tailIn K dU (.type "ValueError" :: [.type "Exception",.type "BaseException",.type "object"])=true
    unfold tailIn
    rw [show ((Value.type "ValueError" :: [Value.type "Exception",.type "BaseException",.type "object"]) == dU)=true from beq_self_eq_true dU,Bool.true_or]
  have ht:tailIn K dU (.ref CR::dU)=true:=by
    unfold excIn at q
    unfold tailIn
    refine Bool.or_eq_true_iff.mpr (.inr ?_)
    split at q
    · rename_i ho
      split at q
      · simp only [Bool.and_eq_true] at q
        simp only [ho,Bool.and_eq_true]
        exact ⟨⟨q.1.2,q.2⟩,hv⟩
      · cases q
    · cases q
  unfold dQ
  simp only [l,hm]
  simp [Dd,ht]
theorem cP.two {C CR:Addr}:cP (.ref C::.ref CR::dU):=.own (.own .base)
structure uJ (K:Frag) (mg:Str→Option Value) (x qual:Str) (C:Addr) (st:Stmt) (ps:List Str):Prop where
  ok:dQ K C dU "ValueError.__new__" = true
  kp:keepIn K (.ref C)=true
  gm:mg x=some (.ref C)
  ex:∃ f fd,Fun K "__init__" qual st f fd∧Binds K fd ps []∧findIn K (.ref C) "__init__" = some (some (.ref f))∧typeIn K (.ref f)=some (.type "function")
section
variable {P:Program} {w:World} {K:Frag} {mg:Str→Option Value} {base:Heap} {x qual:Str} {C:Addr} {st:Stmt} {N ps:List Str} {k:Nat} {sp:Sp}
theorem DM {h:Heap} (X:K.In h) (G:h.Ns mainGlobals mg) {f:Addr} {oc:Value} {od an:Option Addr} {osl:Array (Option Value)} {kV doc pm cdv ct:Value} (aC:nsIn K mainGlobals x=some (some (.ref C))) (o:dQ K C dU "ValueError.__new__" = true)
    (a:findIn K (.ref C) "__init__" = some (some (.ref f))) (i:typeIn K (.ref f)=some (.type "function"))
    (l:K.lookup f=some ⟨oc,od,.func (fnOf "__init__" qual (bC st) (bf st) (aj st) .none kV doc pm an cdv ct),osl⟩) (c:codeIn K cdv qual=true) (kp:keepIn K (.ref f)=true) (kc:keepIn K (.ref C)=true)
    (b:∀ (kV doc pm:Value) (an:Option Addr) (cdv ct:Value) (us:List Value),us.length=ps.length→bindArgs (fnOf "__init__" qual (bC st) (bf st) (aj st) .none kV doc pm an cdv ct) ⟨us,[]⟩=pure (ps.zip us)):uJ K mg x qual C st ps:=by
  have F:=oH (st:=st) l c kp
  exact ⟨o,kc,mg_of X G aC,f,_,F,F.binds b,a,i⟩
theorem uJ.ok' (D:uJ K mg x qual C st ps) (S:aq N ps (aj st)) (len:∀ vs H Q E,sp vs H Q E→vs.length=ps.length)
    (hbody:∀ (f:Addr) (cdv:Value) (A:Around) (outer:List Env) (s:Shared) (H:Hp) (vs:List V) (Q:VK) (E:XK),bR k (A.deeper (envOfC qual (aj st) s.heap.objs.size f cdv))→sp vs H Q E →
      ∃ t,PSs (aZ (CX1 P w) P w K mg base N qual (aj st) f cdv A outer s H E).nox (bf st) t∧t { nx:=fun _ H'=>Q .non H',rt:=Q } (start N vs) H):xV P w K mg base x C (k+1) ps sp:=by
  obtain ⟨f,fd,F,b,a,i⟩:=D.ex
  exact ⟨D.ok,D.kp,D.gm,f,fd,a,i,kN F S len hbody,b⟩
end
section
variable {K:Frag} {σ : St} {H:Hp} {Q:VK} {D:Ends} {tl:TA} {ta tv:TE} {sp:Sp} {Ex:St→XK} {C:Addr}
theorem DG (h:tl σ H fun vs H1=>sV K vs H1 Q):yv K tl σ H Q:=h
theorem qS {x:Addr} {dx:Option Addr} {v:V} (e:H x=some (fF x (.ref C) dx)) (k:dQ K C dU "ValueError.__new__" = true) (h:Q .non H):sV K [.ref x,v] H Q:=⟨x,C,dx,[v],rfl,e,k,(by show 1≤1000;decide),h⟩
theorem Dm {f:Str} (h:tv σ H fun y H1=>ta σ H1 fun x H2=>D3 K f x y H2 fun H3=>D.nx σ H3):Em K ta tv f D σ H:=h
theorem AA {f:Str} {a:Addr} {y:V} {R:Hp→Prop} (e:H a=some (fF a (.ref C) none)) (P:pB K C f) (h:∀ d,H d=none→R (upd (upd H a (fF a (.ref C) (some d))) d (XdO d [(f,y)]))):D3 K f (.ref a) y H R:=⟨a,C,none,rfl,e,P,fun _=>h,fun d z=>by cases z⟩
def v9 (C:Addr) (sp:Sp) (Ex:XK) (vs:List V) (H:Hp):Prop:=vs.length≤1000∧∀ x,H x=none→sp (.ref x::vs) (upd H x (fF x (.ref C) none)) (Rz C x Ex) fun _ _ _=>False
theorem AB (h:tl σ H fun vs H1=>v9 C sp (Ex σ) vs H1):uR C sp Ex tl D σ H:=h
def iw (C:Addr) (f:Str):Sp:=fun vs H Q _=>∃ x v,vs=[.ref x,v]∧H x=some (fF x (.ref C) none)∧∀ d,H d=none→Q .non (upd (upd H x (fF x (.ref C) (some d))) d (XdO d [(f,v)]))
theorem je {E:XK} {v:V} {f:Str} (h:∀ d H',aK H H'→H' d=some (.xd [(f,v)])→E (.ref C) (some d) H'):v9 C (iw C f) E [v] H:=by
  refine ⟨(by show 1≤1000;decide),fun x nx=>⟨x,v,rfl,ay,fun d nd=>⟨rfl,some d,?_,(fun z=>by cases z),fun d' z=>?_⟩⟩⟩
  · have ne:x≠d:=fun z=>by rw [z,ay] at nd;cases nd
    rw [aB ne,ay]
  · cases z
    have ne:d≠x:=fun z=>by rw [z,ay] at nd;cases nd
    have nd':H d=none:=by rw [aB ne] at nd;exact nd
    refine ⟨_,ay,ne,h d _ (fun b o e=>?_) ay⟩
    rw [aB (aG e nd'),fX (aG e nx),aB (aG e nd'),aB (aG e nx),aB (aG e nx)]
    exact e
end
section
theorem yg {l:PySem.W.OpenLaw} {n k:Nat} {q:Program} {loose:List Str} {XP:(Str→Option Value)→Heap→Prop} {YP:World→Heap→Prop} {d:DefRec} {K:Params→PySem.W.Frag} {CX:Program→World→CXT} {sp:PySem.W.Frag→Sp} {x:Str}
    (hn:l.most=some n) (hn2:n≤sizeLine) (hdf:d.params.defaults=[]) (hr:bR k callerA)
    (hY:∀ (w:World) (h:Heap),YP w h→(K w.params).In h)
    (F:∀ (w:World) (mg:Str→Option Value) (fa:Addr) (h:Heap),(K w.params).In h→h.Ns mainGlobals mg→mg d.name=some (.ref fa) →
      ∃ fd:FuncData,(∀ (s:Shared) (u:Value),BindsTo s fd ⟨[u],[]⟩ [(x,u)]) ∧
        ∀ base:Heap,(K w.params).In base→base.Ns mainGlobals mg→eE l.prog w (K w.params) mg base (CX l.prog w) k fa fd [x] (sp (K w.params)))
    (hsp:∀ (K:PySem.W.Frag) (H:Hp) (a:Addr) (ns:List Int),ns.length≤n→D5 H→SqL K H a (ns.map V.int)→sp K [.ref a] H (fun v _=>v = .bl true) fun _ _ _=>False)
    (hCX:∀ (P:Program) (w:World) (H:Hp) (s:Shared) (e:Value) (s':Shared),CX P w [] H s (fun _ _ _=>False) e s'→False) :
    PySem.W.WalkO q loose XP YP l.row.toRowW d [] (fun f vs=>PySem.call f vs):=
  Bv (K:=K) (CX:=fun w=>CX l.prog w) (sp:=fun w=>sp (K w.params)) hn hn2 hdf hr hY F (fun w H a ns h1 h2 h3=>hsp (K w.params) H a ns h1 h2 h3) fun w H s e s'=>hCX l.prog w H s e s'
end
end L4
namespace L4
open PySem PySem.Spec PyProof.Rows L2 L3
theorem EV {bs:List Bool} {us:List Value} (rv:Vals (bs.map V.bl) us) {i:Nat} {v:Value} (e:us[i]?=some v):∃ b,bs[i]?=some b∧v = .bool b:=by
  have hi:i < bs.length:=by
    have h1:=(List.getElem?_eq_some_iff.mp e).1
    have h2:=rv.length
    rw [List.length_map] at h2
    omega
  obtain ⟨u,hu,ru⟩:=rv.get (i:=i) (x:=V.bl bs[i]) (by rw [List.getElem?_map,List.getElem?_eq_getElem hi];rfl)
  rw [e] at hu
  cases hu
  cases ru
  exact ⟨_,List.getElem?_eq_getElem hi,rfl⟩
theorem sS (bs:List Bool):((List.range bs.length).all fun i=>(bs[i]?).getD true)=bs.all id:=by
  rw [Bool.eq_iff_iff,List.all_eq_true,List.all_eq_true]
  constructor
  · intro h b hb
    obtain ⟨i,hi,e⟩:=List.getElem_of_mem hb
    have:=h i (List.mem_range.mpr hi)
    rw [List.getElem?_eq_getElem hi,Option.getD_some,e] at this
    exact this
  · intro h i hi
    have hi':=List.mem_range.mp hi
    rw [List.getElem?_eq_getElem hi',Option.getD_some]
    exact h _ (List.getElem_mem hi')
theorem sR (bs:List Bool):((List.range bs.length).any fun i=>(bs[i]?).getD false)=bs.any id:=by
  rw [Bool.eq_iff_iff,List.any_eq_true,List.any_eq_true]
  constructor
  · rintro ⟨i,hi,e⟩
    have hi':=List.mem_range.mp hi
    rw [List.getElem?_eq_getElem hi',Option.getD_some] at e
    exact ⟨_,List.getElem_mem hi',e⟩
  · rintro ⟨b,hb,e⟩
    obtain ⟨i,hi,rfl⟩:=List.getElem_of_mem hb
    exact ⟨i,List.mem_range.mpr hi,by rw [List.getElem?_eq_getElem hi,Option.getD_some];exact e⟩
theorem vE {s:Shared} {h':Heap} {o:Obj} (hk:∀ b x,b∉[s.heap.objs.size]→(s.heap.push o).get? b=some x→h'.get? b=some x):∀ b x,s.heap.get? b=some x→h'.get? b=some x:=
  fun b x e=>hk b x (fun hm=>by rw [List.mem_singleton.mp hm] at e;exact Nat.lt_irrefl _ (Heap.lt_size e)) (Heap.get?_push_of_some _ e)
def Ip (K:PySem.W.Frag):RL:=fun xs H Q=>∃ (p:Addr) (bs:List Bool),xs=[.ref p]∧SqL K H p (bs.map V.bl)∧Q (.bl (bs.all id)) H
def Io (K:PySem.W.Frag):RL:=fun xs H Q=>∃ (p:Addr) (bs:List Bool),xs=[.ref p]∧SqL K H p (bs.map V.bl)∧Q (.bl (bs.any id)) H
section
variable {X:Cx}
theorem Bb (hc:X.calm=true):b5 X (.builtin "all") (Ip X.K):=by
  intro pins s σ H xs us Q I r h
  obtain ⟨p,bs,rfl,hq,q⟩:=h
  obtain ⟨u,rfl,rx⟩:=vals1 r
  cases rx
  obtain ⟨its,rv,pl,hz⟩:=I.list hq
  have hl:=pl.isList
  have hlt:p < s.heap.objs.size:=by obtain ⟨_,e,_⟩:=hl;exact Heap.lt_size e
  have hlen:its.length=bs.length:=by rw [← rv.length,List.length_map]
  refine call_all_walk (wpAny_pyIter_list hl ?_)
  refine ⟨s.heap.objs.size,[s.heap.objs.size,p],[s.heap.objs.size],its.toArray.size,_,_,fun i=>(bs[i]?).getD true,rfl,Walks.list (A:=X.A.in1) (I.ok.hd hc) _ p (Nat.ne_of_lt hlt) its.toArray,
    ⟨⟨_,Heap.get?_push_size _ rfl,rfl,rfl⟩,hl.push _⟩,fun i v s' Q' E' hP hQ=>?_,fun h' tk hk=>?_⟩
  · obtain ⟨b,e,rfl⟩:=EV rv (i:=i) (v:=v) (by simpa using hP)
    simp only [e,Option.getD_some] at hQ
    exact wpAny_truthy_bool hQ
  · have e:((List.range its.toArray.size).all fun i=>(bs[i]?).getD true)=bs.all id:=by
      rw [List.size_toArray,hlen];exact sS bs
    rw [e]
    exact ⟨.bl _,H,I.kept (vE hk),rfl,q⟩
theorem Ba (hc:X.calm=true):b5 X (.builtin "any") (Io X.K):=by
  intro pins s σ H xs us Q I r h
  obtain ⟨p,bs,rfl,hq,q⟩:=h
  obtain ⟨u,rfl,rx⟩:=vals1 r
  cases rx
  obtain ⟨its,rv,pl,hz⟩:=I.list hq
  have hl:=pl.isList
  have hlt:p < s.heap.objs.size:=by obtain ⟨_,e,_⟩:=hl;exact Heap.lt_size e
  have hlen:its.length=bs.length:=by rw [← rv.length,List.length_map]
  refine call_any_walk (wpAny_pyIter_list hl ?_)
  refine ⟨s.heap.objs.size,[s.heap.objs.size,p],[s.heap.objs.size],its.toArray.size,_,_,fun i=>(bs[i]?).getD false,rfl,Walks.list (A:=X.A.in1) (I.ok.hd hc) _ p (Nat.ne_of_lt hlt) its.toArray,
    ⟨⟨_,Heap.get?_push_size _ rfl,rfl,rfl⟩,hl.push _⟩,fun i v s' Q' E' hP hQ=>?_,fun h' tk hk=>?_⟩
  · obtain ⟨b,e,rfl⟩:=EV rv (i:=i) (v:=v) (by simpa using hP)
    simp only [e,Option.getD_some] at hQ
    exact wpAny_truthy_bool hQ
  · have e:((List.range its.toArray.size).any fun i=>(bs[i]?).getD false)=bs.any id:=by
      rw [List.size_toArray,hlen];exact sR bs
    rw [e]
    exact ⟨.bl _,H,I.kept (vE hk),rfl,q⟩
theorem ow {K:PySem.W.Frag} (h:X.K=K):IxR X (B8 K):=h▸aF
end
section
variable {K:PySem.W.Frag} {H:Hp} {Q:VK} {p:Addr} {P:Addr→Prop} {H0:Hp} {l:List (Addr×Ob)} {fs:List Pr} {a b:Addr} {xs ys:List V}
theorem GK {bs:List Bool} (s:SqL K H p (bs.map V.bl)) (h:Q (.bl (bs.all id)) H):Ip K [.ref p] H Q:=⟨p,bs,rfl,s,h⟩
theorem GI {bs:List Bool} (s:SqL K H p (bs.map V.bl)) (h:Q (.bl (bs.any id)) H):Io K [.ref p] H Q:=⟨p,bs,rfl,s,h⟩
end
end L4
namespace L4
open PySem PySem.Spec PyProof.Rows L2 L3 PySem.W
structure bz (P:Program) (w:World) (K:Frag) (mg:Str→Option Value) (base:Heap) (CX:CXT) (C:Addr) (m:Str) (k:Nat) (ps:List Str) (sp:Sp):Prop where
  cl:Cls K C
  ex:∃ f fd,Meth K C m f∧eE P w K mg base CX k f fd ps sp∧Binds K fd ps []
section
variable {P:Program} {w:World} {K:Frag} {mg:Str→Option Value} {base:Heap} {CX:CXT} {x qual:Str} {C:Addr} {st:Stmt} {N ps:List Str} {k j:Nat} {sp sp':Sp}
theorem b9 (D:bQ K C x qual st ps) (S:aq N ps (aj st)) (len:∀ vs H Q E,sp vs H Q E→vs.length=ps.length)
    (hbody:∀ (f:Addr) (cdv:Value) (A:Around) (outer:List Env) (s:Shared) (H:Hp) (vs:List V) (Q:VK) (E:XK),bR k (A.deeper (envOfC qual (aj st) s.heap.objs.size f cdv))→sp vs H Q E →
      ∃ t,PSs (aZ CX P w K mg base N qual (aj st) f cdv A outer s H E).nox (bf st) t∧t { nx:=fun _ H'=>Q .non H',rt:=Q } (start N vs) H):bz P w K mg base CX C x (k+1) ps sp:=by
  obtain ⟨f,fd,F,b,m,c⟩:=D.ex
  exact ⟨c,f,fd,m,kN F S len hbody,b⟩
theorem c7 (D:bQ K C x qual st ps) (S:aq N ps (aj st)) (len:∀ vs H Q E,sp vs H Q E→vs.length=ps.length)
    (hbody:∀ (f:Addr) (cdv:Value) (A:Around) (outer:List Env) (s:Shared) (H:Hp) (vs:List V) (Q:VK) (E:XK),bR k (A.deeper (envOfC qual (aj st) s.heap.objs.size f cdv))→sp vs H Q E →
      ∃ t,PSs (xcx (aZ (CX1 P w) P w K mg base N qual (aj st) f cdv A outer s H E) (fun _=>E)) (bf st) t∧t { nx:=fun _ H'=>Q .non H',rt:=Q } (start N vs) H):bz P w K mg base (CX1 P w) C x (k+1) ps sp:=by
  obtain ⟨f,fd,F,b,m,c⟩:=D.ex
  obtain ⟨oc,od,kV,doc,pm,an,cdv,ct,osl,rfl,lk,hcd⟩:=F.ex
  refine ⟨c,f,_,m,qV lk hcd S len fun A outer s H vs Q E hr hsp=>?_,b⟩
  obtain ⟨t,ht,q⟩:=hbody f cdv A outer s H vs Q E hr hsp
  exact ⟨t,L4.PSs.x ht pI,q⟩
theorem bF {f:Addr} {oc:Value} {od an:Option Addr} {osl:Array (Option Value)} {kV doc pm cdv ct:Value} (c:Cls K C) (a:findIn K (.ref C) x=some (some (.ref f))) (i:isFn K (.ref f)=true)
    (l:K.lookup f=some ⟨oc,od,.func (fnOf x qual (bC st) (bf st) (aj st) .none kV doc pm an cdv ct),osl⟩) (cd:codeIn K cdv qual=true) (kp:keepIn K (.ref f)=true)
    (b:∀ (kV doc pm:Value) (an:Option Addr) (cdv ct:Value) (us:List Value),us.length=ps.length→bindArgs (fnOf x qual (bC st) (bf st) (aj st) .none kV doc pm an cdv ct) ⟨us,[]⟩=pure (ps.zip us)):bQ K C x qual st ps:=by
  have F:=oH (st:=st) l cd kp
  exact ⟨f,_,F,F.binds b,⟨a,i,kp⟩,c⟩
end
section
variable {X:Cx} {CX:CXT} {k:Nat} {C:Addr} {ps:List Str} {sp:Sp} {E:XK} {Ex:St→XK} {m:Str} {pos apos:Pos} {e o:Expr} {es:List Expr} {ta:TE} {t:TA}
theorem dY {pl:Sem Bool} (M:bz X.prog X.w X.K X.mg X.base CX C m k ps sp) (hr:bR k X.A) (hx:Passes CX X E) (he:PE X o ta) (ha:PA X (e::es) t)
    (hst:starEach (e::es) X.env=(false,eval e X.env)::starEach es X.env:=by rfl) (hpl:(backTo pos (starEach es X.env)).any (·.1)=false:=by rfl)
    (ht:eval (.Call (.Attribute o m apos) (e::es) [] pos) X.env=(do
      let ov ← eval o X.env
      standAt apos.atName
      let (f,first) ← holding [ov] (getMethod ov m pl)
      callWith pos f first (backTo pos (starEach (e::es) X.env)) (backToKw pos (keywordEach [] X.env))):=by rfl) :
    PE X (.Call (.Attribute o m apos) (e::es) [] pos) (pP C m sp [] E ta t):=by
  obtain ⟨f,fd,hm,F,b⟩:=M.ex
  exact Cf he M.cl hm F hr b .nil hx ha hst hpl ht
theorem bW {pl:Sem Bool} (M:bz X.prog X.w X.K X.mg X.base CX C m k ps sp) (hr:bR k X.A) (hx:Passes CX X E) (he:PE X o ta)
    (ht:eval (.Call (.Attribute o m apos) [] [] pos) X.env=(do
      let ov ← eval o X.env
      standAt apos.atName
      let (f,first) ← holding [ov] (getMethod ov m pl)
      callWith pos f first (backTo pos (starEach [] X.env)) (backToKw pos (keywordEach [] X.env))):=by rfl) :
    PE X (.Call (.Attribute o m apos) [] [] pos) (pP C m sp [] E ta lG):=by
  obtain ⟨f,fd,hm,F,b⟩:=M.ex
  exact zG he M.cl hm F hr b .nil hx ht
def yp (C:Addr) (m:Str) (sp:Sp) (Ex:St→XK) (ta:TE) (t:TA):TE:=fun σ H Q=>ta σ H fun x H1=>∃ a dx fs,x = .ref a∧H1 a=some (.ins C dx fs)∧fs.lookup m=none∧t σ H1 fun vs H2=>sp (x::vs) H2 Q (Ex σ)
theorem j9 {pl:Sem Bool} (M:bz X.prog X.w X.K X.mg X.base (CX1 X.prog X.w) C m k ps sp) (hr:bR k X.A) (hx:PaX X Ex) (he:PE X o ta) (ha:PA X (e::es) t)
    (hst:starEach (e::es) X.env=(false,eval e X.env)::starEach es X.env:=by rfl) (hpl:(backTo pos (starEach es X.env)).any (·.1)=false:=by rfl)
    (ht:eval (.Call (.Attribute o m apos) (e::es) [] pos) X.env=(do
      let ov ← eval o X.env
      standAt apos.atName
      let (f,first) ← holding [ov] (getMethod ov m pl)
      callWith pos f first (backTo pos (starEach (e::es) X.env)) (backToKw pos (keywordEach [] X.env))):=by rfl) :
    PE X (.Call (.Attribute o m apos) (e::es) [] pos) (yp C m sp Ex ta t):=by
  obtain ⟨f,fd,hm,F,b⟩:=M.ex
  intro pins s σ H Q I h
  refine methodCall_KW (pl:=pl) (thn (he pins s σ H _ I h) fun u s1 ⟨x,H1,I1,rx,a,dx,fs,ex,ea,l,q⟩=>?_) ht
  subst ex
  obtain rfl:u=Value.ref a:=rx
  refine gW I1 ea M.cl hm l ?_
  refine callWith_K (first:=[.ref a]) (h₀:=X.base) I.ok.mod.kin hm.kp (thn (ha pos pins s1 σ H1 _ I1 q) fun us s2 ⟨vs,H2,I2,r,q2⟩=>⟨I2.kIn,?_⟩) hst hpl
  exact vh (us:=.ref a::us) (vs:=.ref a::vs) F hr b hx I2 (.cons rfl r) q2
theorem Fd {x:Str} {p:Pos} (M:Mak X.prog X.w X.K X.mg X.base CX x C k ps sp) (hr:bR (k+1) X.A) (hx:Passes CX X E) (hg:Gl X x:=by rfl)
    (hdb:(x == ("__debug__" : Str))=false:=by decide):PE X (.Call (.Name x p) [] [] pos) (jP C sp [] E lG):=by
  obtain ⟨f,fd,m,F,b,g⟩:=M.ex
  exact zH m F hr hg g b .nil hx hdb
def Mth (C:Addr) (m:Str) (sp:Sp) (E:XK) (t:TA) (σ : St) (x:V) (H:Hp) (Q:VK):Prop:=∃ a dx fs,x = .ref a∧H a=some (.ins C dx fs)∧fs.lookup m=none∧t σ H fun vs H2=>sp (x::vs) H2 Q E
theorem Gs {σ : St} {H:Hp} {Q:VK} (h:ta σ H fun x H1=>Mth C m sp E t σ x H1 Q):pP C m sp [] E ta t σ H Q:=by
  have e:(fun x H1=>Mth C m sp E t σ x H1 Q)=fun x H1=>∃ a dx fs,x = .ref a∧H1 a=some (.ins C dx fs)∧fs.lookup m=none∧t σ H1 fun vs H2=>sp (x::(vs++[])) H2 Q E:=by
    funext x H1
    unfold Mth
    simp only [List.append_nil]
  rw [e] at h
  exact h
theorem Dv {σ : St} {H:Hp} {Q:VK} (h:ta σ H fun x H1=>Mth C m sp (Ex σ) t σ x H1 Q):yp C m sp Ex ta t σ H Q:=h
theorem aS {σ : St} {H:Hp} {Q:VK} {a dx:Addr} {fs:List (Str×V)} (hx:H a=some (.ins C dx fs)) (hl:fs.lookup m=none) (h:t σ H fun vs H2=>sp (.ref a::vs) H2 Q E):Mth C m sp E t σ (.ref a) H Q:=⟨a,dx,fs,rfl,hx,hl,h⟩
end
end L4
namespace L4
open PySem PySem.Spec PyProof.Rows L2 L3
section
variable {K:PySem.W.Frag} {P:Addr→Prop} {H0 H:Hp} {l l':List (Addr×Ob)} {fs:List Pr} {Q:VK} {σ : St} {r r':R2} {ta tb tc te:TE} {ts:TO} {tl:TA}
theorem DE (h:ta σ H fun x H1=>tb σ H1 fun y H2=>r x y H2 fun z H3=>IsB z H3 fun k H3=>if k=true then tc σ H3 fun w' H4=>r' y w' H4 Q else Q (.bl false) H3):yt r r' ta tb tc σ H Q:=h
end
def Et (K:PySem.W.Frag):RL:=fun xs H Q=>∃ (p:Addr) (ns:List Int),xs=[.ref p]∧SqL K H p (ns.map V.int)∧0 < ns.length∧∀ M,M∈ns→(∀ a∈ns,M≤a)→Q (.int M) H
section
variable {X:Cx}
theorem GU (hc:X.calm=true):b5 X (.builtin "min") (Et X.K):=by
  intro pins s σ H xs us Q I r h
  obtain ⟨p,ns,rfl,hq,hne,q⟩:=h
  obtain ⟨u,rfl,rx⟩:=vals1 r
  cases rx
  obtain ⟨its,rv,pl,hz⟩:=I.list hq
  have hi:=ints_of rv
  obtain ⟨xs,e⟩:=hi.allInts.items
  have hl:s.heap.IsList p (intItems xs):=e▸pl.isList
  have hns:ns=xs.toList.map (·.1):=by
    rw [← nums_intItems,← e]
    exact (show numsOf its.toArray.toList=ns from hi.numsOf).symm
  have hsz : 0 < xs.size:=by
    have h3:=hne;rw [hns,List.length_map,Array.length_toList] at h3;exact h3
  refine min_intList (I.ok.hd hc) hl hsz fun v h' tk hv hk=>?_
  obtain ⟨t,rfl⟩:=intItems_at hv
  obtain ⟨h1,h2⟩:=argBest_lt (numAt xs) (xs.size - 1)
  refine ⟨.int _,H,I.kept hk,⟨_,rfl⟩,q _ ?_ fun a ha=>?_⟩
  · rw [hns,numAt_eq];exact getD_mem (by rw [List.length_map,Array.length_toList];omega)
  · rw [hns] at ha
    obtain ⟨j,hj,rfl⟩:=mem_getD ha
    rw [List.length_map,Array.length_toList] at hj
    rw [← numAt_eq];exact h2 j (by omega)
end
section
variable {K:PySem.W.Frag} {H:Hp} {Q:VK} {p:Addr} {ns:List Int} {P:Addr→Prop} {H0:Hp} {l:List (Addr×Ob)} {fs:List Pr}
theorem Gq (s:SqL K H p (ns.map V.int)) (hne : 0 < ns.length) (h:∀ M,M∈ns→(∀ a∈ns,M≤a)→Q (.int M) H):Et K [.ref p] H Q:=⟨p,ns,rfl,s,hne,h⟩
end
section
variable {prog:Program} {w:World} {A:Around} {E:Value→Shared→Prop} {s:Shared} {R:Result→Shared→Prop} {I S:Addr} {fp wr:List Addr} {n:Nat} {P:Nat→Value→Prop} {St:Nat→Heap→Prop}
def HJ (val:Nat→Int) (i:Nat) (old:Array Value):Prop:=(old=#[]∧i=0)∨∃ (m:Int) (t:Tok),old=#[.int m t,.int m t]∧1≤i∧(∃ j,j < i∧val j=m)∧∀ j,j < i→val j≤m
theorem C2 (W:Walks prog w A.in1 I fp wr n P St) (val:Nat→Int) (hval:∀ i v,P i v→∃ t,v = .int (val i) t) (hSf:S∉fp) (d:Value) :
    ∀ (r i:Nat) (s:Shared) (old:Array Value) (c:Nat),n - i=r→i≤n→St i s.heap→HJ val i old→s.heap.get? S=some { cls:=.type "list",dict:=none,data:=.seq old c,slots:=#[] } →
    (∀ v h' tk,((n=0∧v=d)∨∃ m t,v = .int m t∧(∃ j,j < n∧val j=m)∧∀ j,j < n→val j≤m)→(∀ b o,b∉wr→b≠S→s.heap.get? b=some o→h'.get? b=some o)→R (.ok (.ret v)) { s with heap:=h',toks:=tk }) →
    codeAny (model prog w) A (.builtin "max.loop" ⟨[.ref I,.none,.ref S],[("default",d)]⟩) R s:=by
  have hSw:S∉wr:=fun h=>hSf (W.sub _ h)
  have hnm:(toString "max" ++ toString ".loop" : String) = "max.loop" := by decide
  have hcmp:=CmpOf.ints_gt (prog:=prog) (w:=w) (A:=A.in1) val hval
  intro r
  induction r with
  | zero=>
    intro i s old c hr hi hst hb hS hR
    have hin:i=n:=by omega
    subst hin
    refine codeAny_builtin F.entry_max_loop ?_
    rw [Around.under_plainId F.plain_max_loop _]
    show wpAny _ A.in1 (seqItems? (.ref S) >>= _) _ _ s
    refine wpAny_bind (wpAny_seqItems hS rfl ?_)
    show wpAny _ A.in1 (tryCatch (pyNext (.ref I)) _ >>= _) _ _ s
    refine wpAny_bind (wpAny_tryCatch (W.done s _ _ hst fun h' tk hk'=>?_))
    have hS':=hk' S _ hSw hS
    rcases hb with ⟨rfl,rfl⟩ | ⟨m,t,rfl,_,hm1,hm2⟩
    · show wpAny _ A.in1 (rule _ >>= _) _ _ _
      refine wpAny_bind (wpAny_rule (wpAny_pure ?_))
      exact hR d _ tk (.inl ⟨rfl,rfl⟩) fun b o hbw _ e=>hk' b o hbw e
    · show wpAny _ A.in1 (updateSeq S (fun _=>#[]) >>= _) _ _ _
      refine wpAny_bind (wpAny_updateSeq hS' rfl (wpAny_bind (wpAny_letGo (wpAny_pure ?_))))
      exact hR _ _ tk (.inr ⟨m,t,rfl,hm1,hm2⟩) fun b o hbw hbS e=>(Heap.get?_update_other _ _ (Ne.symm hbS)).trans (hk' b o hbw e)
  | succ r ih=>
    intro i s old c hr hi hst hb hS hR
    have hlt:i < n:=by omega
    refine codeAny_builtin F.entry_max_loop ?_
    rw [Around.under_plainId F.plain_max_loop _]
    show wpAny _ A.in1 (seqItems? (.ref S) >>= _) _ _ s
    refine wpAny_bind (wpAny_seqItems hS rfl ?_)
    show wpAny _ A.in1 (tryCatch (pyNext (.ref I)) _ >>= _) _ _ s
    refine wpAny_bind (wpAny_tryCatch (W.item i s _ _ hlt hst fun v h' tk hP hst' hk'=>?_))
    have hS':=hk' S _ hSw hS
    obtain ⟨tv,ev⟩:=hval i v hP
    rcases hb with ⟨rfl,rfl⟩ | ⟨m,t,rfl,h1,hm1,hm2⟩
    · show wpAny _ A.in1 (updateSeq S (fun _=>#[v,v]) >>= _) _ _ _
      refine wpAny_bind (wpAny_updateSeq hS' rfl ?_)
      rw [hnm]
      refine wpAny_pure ⟨plainId_quiet F.plain_max_loop _,ih 1 _ _ _ (by omega) hlt (W.frame _ _ _ hst' fun b hbf o e=>(Heap.get?_update_other _ _ (fun h:S=b=>hSf (by rw [h];exact hbf))).trans e) (.inr ⟨val 0,tv,by rw [ev],Nat.le_refl 1,⟨0,Nat.zero_lt_one,rfl⟩,fun j hj=>by rw [show j=0 by omega];exact Int.le_refl _⟩) (Heap.get?_update_self _ hS' rfl) fun v' h2 tk2 hv hk2=>?_⟩
      exact hR v' h2 tk2 hv fun b o hbw hbS e=>hk2 b o hbw hbS ((Heap.get?_update_other _ _ (Ne.symm hbS)).trans (hk' b o hbw e))
    · obtain ⟨jb,hjb,ejb⟩:=hm1
      show wpAny _ A.in1 (tryCatch (holding [v,v] (richCompare .Gt v (.int m t) >>= _)) _ >>= _) _ _ _
      subst ev
      refine wpAny_bind (wpAny_tryCatch (wpAny_holding (wpAny_bind (richCompare_gives (op:=.Gt) (typeIs_int _ _ tv) (typeIs_int _ _ t) F.slot_int_gt F.entry_int_gt (F.args_int_gt_2 _ _) (gives_int_gt _ _ tv t) (fun x=>nomatch x) ?_))))
      refine wpAny_bind (wpAny_holding (wpAny_truthy_bool ?_))
      refine wpAny_bind (wpAny_letGo (wpAny_pure ?_))
      by_cases hgt:val i > m
      · simp only [hgt,decide_true,if_true]
        refine wpAny_bind (wpAny_updateSeq hS' rfl (wpAny_bind (wpAny_letGo ?_)))
        rw [hnm]
        refine wpAny_pure ⟨plainId_quiet F.plain_max_loop _,ih (i+1) _ _ _ (by omega) hlt (W.frame _ _ _ hst' fun b hbf o e=>(Heap.get?_update_other _ _ (fun h:S=b=>hSf (by rw [h];exact hbf))).trans e) (.inr ⟨val i,tv,rfl,by omega,⟨i,Nat.lt_succ_self i,rfl⟩,fun j hj=>?_⟩) (Heap.get?_update_self _ hS' rfl) fun v' h2 tk2 hv hk2=>?_⟩
        · rcases Nat.lt_succ_iff_lt_or_eq.mp hj with z | z
          · have:=hm2 j z;omega
          · rw [z];exact Int.le_refl _
        · exact hR v' h2 tk2 hv fun b o hbw hbS e=>hk2 b o hbw hbS ((Heap.get?_update_other _ _ (Ne.symm hbS)).trans (hk' b o hbw e))
      · simp only [hgt,decide_false,Bool.false_eq_true,if_false]
        refine wpAny_bind (wpAny_letGo ?_)
        rw [hnm]
        refine wpAny_pure ⟨plainId_quiet F.plain_max_loop _,ih (i+1) _ _ c (by omega) hlt hst' (.inr ⟨m,t,rfl,by omega,⟨jb,by omega,ejb⟩,fun j hj=>?_⟩) hS' fun v' h2 tk2 hv hk2=>?_⟩
        · rcases Nat.lt_succ_iff_lt_or_eq.mp hj with z | z
          · exact hm2 j z
          · rw [z];omega
        · exact hR v' h2 tk2 hv fun b o hbw hbS e=>hk2 b o hbw hbS (hk' b o hbw e)
theorem oQ {id:String} {b:Builtin} {args:List Value} {kw:List (Str×Value)} {Q:Value→Shared→Prop} (hk:builtinKind id=none) (hp:plainId id=true) (hb:entryFor table id=some b) (ha:argsOk id ⟨args,kw⟩)
    (hc:wpAny (model prog w) A.in1 (b ⟨args,kw⟩) (fun fin s'=>match fin with
      | .done f=>(match (Except.ok f:Result) with | .ok (.ret v)=>Q v s' | .ok _=>False | .error e=>E e s')
      | .again c'=>c'.quiet=true∧codeAny (model prog w) A c' (fun r s'=>match r with | .ok (.ret v)=>Q v s' | .ok _=>False | .error e=>E e s') s') E s) :
    wpAny (model prog w) A (call (.builtin id) args kw) Q E s:=by
  refine wpAny_call (codeAny_call_builtin hp hb ?_)
  simp only [checkBuiltinCall,hk]
  cases hsig:Manifest.signature? id with
  | none=>exact wpAny_pure hc
  | some sig=>
    have ha':Bind.checkArgs id sig ⟨args,kw⟩=pure ():=by simpa only [argsOk,hsig] using ha
    simp only [ha']
    exact wpAny_pure hc
theorem xQ (a d:Value):argsOk "max" ⟨[a],[("default",d)]⟩:=by unfold argsOk;kernel_rfl
theorem qN {l:Addr} {xs:Array (Int×Tok)} {d:Value} {Q:Value→Shared→Prop} (hh:A.handled=none) (hl:s.heap.IsList l (intItems xs))
    (h:∀ v h' tk,((xs.size=0∧v=d)∨∃ m t,v = .int m t∧(∃ j,j < xs.size∧numAt xs j=m)∧∀ j,j < xs.size→numAt xs j≤m)→(∀ b o,s.heap.get? b=some o→h'.get? b=some o)→Q v { s with heap:=h',toks:=tk }) :
    wpAny (model prog w) A (call (.builtin "max") [.ref l] [("default",d)]) Q E s:=by
  have hnm:(toString "max" ++ toString ".loop" : String) = "max.loop" := by decide
  refine oQ F.kind_max F.plain_max F.entry_max (xQ _ _) ?_
  show wpAny _ A.in1 (Builtin.Builtins.bindParams "max" ["key", "default"] 0 ⟨[],[("default",d)]⟩ >>= _) _ _ s
  refine wpAny_bind (wpAny_of_eq (show Builtin.Builtins.bindParams "max" ["key", "default"] 0 ⟨[],[("default",d)]⟩=pure [none,some d] from rfl) ?_)
  refine wpAny_bind (wpAny_pure ?_)
  refine wpAny_bind (iter_intList hl fun s₂ e st hfp hlI=>?_)
  subst e
  have hsz:(intItems xs).size=xs.size:=by simp [intItems]
  have W:=Walks.list (prog:=prog) (w:=w) (A:=A.in1) hh s.heap.objs.size l hlI (intItems xs)
  refine wpAny_bind (wpAny_newObj_type ?_)
  rw [hnm]
  refine wpAny_pure ⟨plainId_quiet F.plain_max_loop _,C2 W (numAt xs) (fun _ _=>intItems_at) (fun hm=>Nat.lt_irrefl _ (hfp _ hm)) d _ 0 _ #[] _ rfl (Nat.zero_le _) (W.frame _ _ _ st fun b _ o e=>Heap.get?_push_of_some _ e) (.inl ⟨rfl,rfl⟩) (Heap.get?_push_size _ rfl) fun v h' tk hv hk=>?_⟩
  rw [hsz] at hv
  exact h v h' tk hv (old_kept fun b o hbw e=>hk b o hbw (Nat.ne_of_lt (Heap.lt_size e)) (Heap.get?_push_of_some _ e))
end
def zw (K:PySem.W.Frag) (x y:V) (H:Hp) (Q:VK):Prop:=∃ (p:Addr) (ns:List Int) (d:Int),x = .ref p∧y = .int d∧SqL K H p (ns.map V.int)∧(ns=[]→Q (.int d) H)∧∀ M,M∈ns→(∀ a∈ns,a≤M)→Q (.int M) H
def Eg (K:PySem.W.Frag) (te td:TE):TE:=fun σ H Q=>te σ H fun x H1=>td σ H1 fun y H2=>zw K x y H2 Q
section
variable {X:Cx} {p pos kp:Pos} {e d:Expr} {te td:TE}
theorem Cg (hc:X.calm=true) (hg:Gl X "max") (hm:X.mg "max" = none) (he:PE X e te) (hd:PE X d td) (hst:starEach [e] X.env=[(false,eval e X.env)]:=by rfl) :
    PE X (.Call (.Name "max" p) [e] [⟨some "default",d,kp⟩] pos) (Eg X.K te td):=by
  intro pins s σ H Q I h
  refine wpAny_Call_Name_kw (fT I hg hm L3.f7 ?_)
  refine callWith_kw ?_ (by rw [hst];rfl) (by rw [hst];rfl)
  rw [hst]
  show wpAny (model X.prog X.w) X.A (spliced ((false,eval e X.env)::[])) _ X.xe s
  refine Calls.spliced_cons (thn (he pins s σ H _ I h) fun u s1 ⟨x,H1,I1,r1,q1⟩=>Calls.spliced_nil ?_)
  refine kws_cons (thn (hd pins s1 σ H1 _ I1 q1) fun v s2 ⟨y,H2,I2,r2,q2⟩=>kws_nil ?_)
  show wpAny (model X.prog X.w) X.A (call (.builtin "max") [u] [("default",v)]) (EP X pins σ Q) X.xe s2
  obtain ⟨p,ns,d,rfl,rfl,hq,q0,q⟩:=q2
  cases r1
  obtain ⟨t,rfl⟩:=r2
  obtain ⟨its,rv,pl,hz⟩:=I2.list hq
  have hi:=ints_of rv
  obtain ⟨xs,e⟩:=hi.allInts.items
  have hl:s2.heap.IsList p (intItems xs):=e▸pl.isList
  have hns:ns=xs.toList.map (·.1):=by
    rw [← nums_intItems,← e]
    exact (show numsOf its.toArray.toList=ns from hi.numsOf).symm
  refine qN (I.ok.hd hc) hl fun v h' tk hv hk=>?_
  rcases hv with ⟨h0,rfl⟩ | ⟨m,t,rfl,⟨j,hj,ej⟩,hm⟩
  · exact ⟨.int d,H2,I2.kept hk,⟨_,rfl⟩,q0 (by rw [hns,List.map_eq_nil_iff];exact List.eq_nil_of_length_eq_zero (by rw [Array.length_toList];exact h0))⟩
  · refine ⟨.int m,H2,I2.kept hk,⟨_,rfl⟩,q m ?_ fun a ha=>?_⟩
    · rw [hns,← ej,numAt_eq];exact getD_mem (by rw [List.length_map,Array.length_toList];exact hj)
    · rw [hns] at ha
      obtain ⟨j,hj,rfl⟩:=mem_getD ha
      rw [List.length_map,Array.length_toList] at hj
      rw [← numAt_eq];exact hm j hj
end
section
variable {K:PySem.W.Frag} {H:Hp} {Q:VK} {p:Addr} {ns:List Int} {d:Int} {te td:TE} {σ : St}
theorem Gu (h:te σ H fun x H1=>td σ H1 fun y H2=>zw K x y H2 Q):Eg K te td σ H Q:=h
theorem Gv (s:SqL K H p (ns.map V.int)) (h0:ns=[]→Q (.int d) H) (h:∀ M,M∈ns→(∀ a∈ns,a≤M)→Q (.int M) H):zw K (.ref p) (.int d) H Q:=⟨p,ns,d,rfl,rfl,s,h0,h⟩
theorem AH {xs:List V} {i:Int} {v:V} (hs:SqT K H p xs) (e:atI xs i=some v) (h:Q v H):B8 K (.ref p) (.int i) H Q:=⟨p,xs,i,v,rfl,rfl,hs,e,h⟩
end
def bJ:List Str→List Str→List Str
  | acc,[]=>acc
  | acc,x::xs=>bJ (if x∈acc then acc else acc++[x]) xs
theorem k6:∀ (xs ys acc:List Str),bJ acc (xs++ys)=bJ (bJ acc xs) ys
  | [],_,_=>rfl
  | x::xs,ys,acc=>k6 xs ys _
theorem jz {xs:List Str} {i:Nat} {x:Str} (h:xs[i]?=some x):bJ [] (xs.take (i+1))=if x∈bJ [] (xs.take i) then bJ [] (xs.take i) else bJ [] (xs.take i)++[x]:=by
  rw [List.take_add_one,h,k6];rfl
theorem kZ:∀ (xs acc:List Str),(bJ acc xs).length≤acc.length+xs.length
  | [],_=>Nat.le_refl _
  | x::xs,acc=>by
    have:=kZ xs (if x∈acc then acc else acc++[x])
    show (bJ (if x∈acc then acc else acc++[x]) xs).length≤_
    rw [List.length_cons]
    by_cases c:x∈acc
    · rw [if_pos c] at this ⊢;omega
    · rw [if_neg c] at this ⊢;rw [List.length_append,List.length_singleton] at this;omega
theorem k7:∀ (xs acc:List Str),xs.Nodup→(∀ x∈xs,¬ x∈acc)→(bJ acc xs).length=acc.length+xs.length
  | [],_,_,_=>rfl
  | x::xs,acc,h,hn=>by
    rw [List.nodup_cons] at h
    show (bJ (if x∈acc then acc else acc++[x]) xs).length=_
    rw [if_neg (hn x List.mem_cons_self),k7 xs (acc++[x]) h.2 fun y hy z=>?_]
    · rw [List.length_append,List.length_singleton,List.length_cons];omega
    · rcases List.mem_append.mp z with z | z
      · exact hn y (List.mem_cons_of_mem _ hy) z
      · rw [List.mem_singleton.mp z] at hy;exact h.1 hy
section
variable {prog:Program} {w:World} {A:Around} {E:Value→Shared→Prop} {s:Shared} {R:Result→Shared→Prop} {I S:Addr} {fp wr:List Addr} {G:Array GenState→Array GenState→Prop} {P:Nat→Value→Prop} {St:Nat→Shared→Prop} {xs:List Str}
theorem mC {h h':Heap} {f:Str→Bool} {c:Nat} (hS:h.SetOf (strKind prog w) S f c) (k:∀ o,h.get? S=some o→h'.get? S=some o):h'.SetOf (strKind prog w) S f c:=by
  obtain ⟨o,es,ep,t,ho,rest⟩:=hS
  exact ⟨o,es,ep,t,k o ho,rest⟩
theorem BG (W:WalksS prog w A.in1 I fp wr G xs.length P St) (hSf:S∉fp) (hval:∀ i v,P i v→∃ x t,xs[i]?=some x∧v = .str x t) (hb:xs.length+1 < scanBound) :
    ∀ (r i:Nat) (s:Shared),xs.length - i=r→i≤xs.length→St i s→s.heap.SetOf (strKind prog w) S (fun k=>decide (k∈bJ [] (xs.take i))) (bJ [] (xs.take i)).length →
      (∀ s',Moved (S::wr) G s s'→s'.heap.SetOf (strKind prog w) S (fun k=>decide (k∈bJ [] xs)) (bJ [] xs).length→R (.ok (.ret .none)) s') →
      codeAny (model prog w) A (.builtin "set.update.loop" ⟨[.ref S,.ref I],[]⟩) R s:=by
  have hSw:S∉wr:=fun h=>hSf (W.sub _ h)
  have up:∀ b∈wr,b∈S::wr:=fun b hb=>List.mem_cons_of_mem _ hb
  intro r
  induction r with
  | zero=>
    intro i s hr hi st hS k
    obtain rfl:i=xs.length:=by omega
    rw [List.take_length] at hS
    refine codeAny_builtin F.entry_set_update_loop ?_
    rw [Around.under_plainId F.plain_set_update_loop _]
    show wpAny _ A.in1 (pyNext (.ref I) >>= _) _ _ s
    refine wpAny_bind (W.done s _ _ st fun s' hm=>?_)
    exact wpAny_pure (k s' (hm.mono up) (mC hS fun o e=>hm.heap S o hSw e))
  | succ r ih=>
    intro i s hr hi st hS k
    have hlt:i < xs.length:=by omega
    refine codeAny_builtin F.entry_set_update_loop ?_
    rw [Around.under_plainId F.plain_set_update_loop _]
    show wpAny _ A.in1 (pyNext (.ref I) >>= _) _ _ s
    refine wpAny_bind (W.item i s _ _ hlt st fun v s1 hP st1 hm=>?_)
    obtain ⟨x,t,hx,rfl⟩:=hval i v hP
    have hS1:=mC hS fun o e=>hm.heap S o hSw e
    have hl:=kZ (xs.take i) []
    rw [List.length_take] at hl
    show wpAny _ A.in1 (holding [Value.str x t] (setAdd S (.str x t)) >>= _) _ _ s1
    refine wpAny_bind (wpAny_holding ?_)
    unfold setAdd
    refine wpAny_holding (wpAny_bind ((strKind prog w).pyHash (k:=x) (strKind_is _ _ _ _) ?_))
    refine wpAny_setAddHashed_of (knd:=strKind prog w) (s:={ s1 with toks:=s1.toks+1 }) (strKind_is _ _ _ _) rfl hS1 (by simp at hl;omega) fun h2 same hS2=>?_
    have hS3:h2.SetOf (strKind prog w) S (fun k=>decide (k∈bJ [] (xs.take (i+1)))) (bJ [] (xs.take (i+1))).length:=by
      refine SetOf_congr hS2 (fun k'=>?_) ?_
      · rw [jz hx]
        by_cases c:x∈bJ [] (xs.take i)
        · rw [if_pos c]
          by_cases e:k'=x
          · subst e;simp [c]
          · simp [e]
        · rw [if_neg c];simp [List.mem_append]
      · rw [jz hx]
        by_cases c:x∈bJ [] (xs.take i)
        · rw [if_pos c,if_pos (decide_eq_true c)]
        · rw [if_neg c,if_neg (by rw [decide_eq_false c];exact Bool.false_ne_true),List.length_append,List.length_singleton]
    refine wpAny_pure ⟨plainId_quiet F.plain_set_update_loop _,ih (i+1) _ (by omega) hlt (W.frame _ s1 _ _ st1 (Nat.le_succ _) fun b hb o e=>?_) hS3 fun s' hm' hS'=>?_⟩
    · rw [same.2 b (fun h:b=S=>hSf (by rw [← h];exact hb))];exact e
    · refine k s' (Moved.trans W.gtrans ((hm.mono up).then_heap (Nat.le_succ _) fun b o hb e=>?_) hm') hS'
      rw [same.2 b (fun h:b=S=>hb (by rw [h];exact List.mem_cons_self))];exact e
set_option maxRecDepth 100000 in
set_option maxHeartbeats 3200000 in
theorem wu {l:Addr} {items:Array Value} {Q:Value→Shared→Prop} (hh:A.handled=none) (hl:s.heap.IsList l items) (hn:items.size=xs.length) (hi:∀ (i:Nat) (v:Value),items[i]?=some v→∃ x t,xs[i]?=some x∧v=Value.str x t) (hb:xs.length+1 < scanBound)
    (h:∀ (h':Heap) (tk:Nat),h'.SetOf (strKind prog w) s.heap.objs.size (fun k=>decide (k∈bJ [] xs)) (bJ [] xs).length→(∀ b o,s.heap.get? b=some o→h'.get? b=some o)→Q (.ref s.heap.objs.size) { s with heap:=h',toks:=tk }) :
    wpAny (model prog w) A (call (.type "set") [.ref l]) Q E s:=by
  obtain ⟨c,tl,hmro⟩:=F.called_set.mro
  have hmade:=F.called_set.made
  have hsub:=F.called_set.sub
  have h1:=F.called_set.notType
  have h2:=F.called_set.canCreate
  have hct:=F.typeCall_set_1 (.ref l)
  refine wpAny_call (codeAny_of_tree ?_)
  show wpAny _ _ (callAny (.type "set") _) _ _ _
  refine wpAny_pure ⟨Code.quiet_builtin _ (by decide +kernel),codeAny_builtin F.entry_type_call ?_⟩
  rw [Around.under_plain (weight_type_call_type "set" [.ref l] []) rfl]
  repeat (any_goals (first | assumption | wp_step))
  refine codeAny_mono (code_set_new_1 (.ref l) (E:=E) (Q₁:=fun obj s₁=>∃ led:Bool,obj = .ref s.heap.objs.size∧s₁={ s with heap:=s.heap.push { cls:=.type "set",dict:=none,data:=.set #[] 0 (.fresh 0 0 led) } }) fun led=>⟨led,rfl,rfl⟩) fun r s₁ hr=>?_
  rcases r with e | fl
  · exact hr
  cases fl with
  | ret obj=>
    obtain ⟨led,rfl,rfl⟩:=hr
    generalize ho:({ cls:=.type "set",dict:=none,data:=.set #[] 0 (.fresh 0 0 led) }:Obj)=so at *
    have hS:(s.heap.push so).get? s.heap.objs.size=some so:=Heap.get?_push_size _ (by rw [← ho];rfl)
    have hT:Shared.TypeIs { s with heap:=s.heap.push so } (.ref s.heap.objs.size) "set" := ⟨_,hS,by rw [← ho]⟩
    have hli:=F.called_set.init.lookup
    have hbi:=F.called_set.init.bind (.ref s.heap.objs.size)
    repeat (any_goals (first | assumption | wp_step))
    refine codeAny_mono (codeAny_call_builtin (R:=wants (fun r s₂=>r = .none∧∃ h' tk,s₂={ s with heap:=h',toks:=tk }∧h'.SetOf (strKind prog w) s.heap.objs.size (fun k=>decide (k∈bJ [] xs)) (bJ [] xs).length∧∀ b o,s.heap.get? b=some o→h'.get? b=some o) E) F.called_set.init.plain F.entry_set_init (check_set_init_1 hT ?_)) fun r₂ s₂ hr₂=>?_
    · have hlS:l < s.heap.objs.size:=by obtain ⟨_,e,_⟩:=hl;exact Heap.lt_size e
      subst ho
      have hl1:=hl.push { cls:=.type "set",dict:=none,data:=.set #[] 0 (.fresh 0 0 led) }
      obtain ⟨⟨lc,ld,ldat,lsl⟩,e1,e2,nl,e3⟩:=id hl1
      simp only at e2 e3
      subst e2 e3
      have Ky:=F.sub_list_set
      have Kz:=F.sub_list_frozenset
      have hne:(Value.type "list" == Value.type "dict")=false:=by decide
      unfold Builtin.«set.__init__» noKeywords Builtin.Frozenset.updateFrom
      generalize hPI:pyIter=PI
      wp_walk
      subst hPI
      refine wpAny_pyIter_list hl1 ?_
      refine wpAny_bind (wpAny_runValue ?_)
      have hsz:(s.heap.push { cls:=.type "set",dict:=none,data:=.set #[] 0 (.fresh 0 0 led) }).objs.size=s.heap.objs.size+1:=Heap.size_push ..
      have W:=(Walks.list (prog:=prog) (w:=w) (A:=A.in1.in1.in1) (by simp [hh]) (s.heap.push { cls:=.type "set",dict:=none,data:=.set #[] 0 (.fresh 0 0 led) }).objs.size l (by rw [hsz];exact Nat.ne_of_lt (Nat.lt_succ_of_lt hlS)) items).toS
      rw [hn] at W
      refine BG (xs:=xs) W (by rw [hsz];simp only [List.mem_cons,List.not_mem_nil,or_false,not_or];exact ⟨Nat.ne_of_lt (Nat.lt_succ_self _),Nat.ne_of_gt hlS⟩) (fun i v hv=>hi i v hv) hb _ 0 _ rfl (Nat.zero_le _) ⟨⟨_,Heap.get?_push_size _ rfl,rfl,rfl⟩,hl1.push _⟩ ?_ fun s' hm hS'=>?_
      · exact SetOf_congr ((setObjOf_fresh (knd:=strKind prog w) led).setOf (Heap.get?_push_of_some _ hS) (by unfold scanBound;decide)) (fun _=>rfl) rfl
      · obtain ⟨h',g',d',tk',os'⟩:=s'
        obtain rfl:g'=s.gens:=hm.gens
        obtain rfl:d'=s.drawn:=hm.drawn
        obtain rfl:os'=s.os:=hm.os
        refine wpAny_pure (wpAny_pure ⟨rfl,h',tk',rfl,hS',fun b o e=>?_⟩)
        have hb1:=Heap.lt_size e
        exact hm.heap b o (by rw [hsz];simp only [List.mem_cons,List.not_mem_nil,or_false,not_or];exact ⟨Nat.ne_of_lt hb1,Nat.ne_of_lt (Nat.lt_succ_of_lt hb1)⟩) (Heap.get?_push_of_some _ (Heap.get?_push_of_some _ e))
    · rcases r₂ with e | fl₂
      · exact hr₂
      cases fl₂ with
      | ret r=>
        obtain ⟨rfl,h',tk,rfl,hS',hk'⟩:=hr₂
        repeat (any_goals (first | assumption | wp_step))
        exact h _ _ hS' hk'
      | _=>exact hr₂.elim
  | _=>exact hr.elim
end
def nX (K:PySem.W.Frag) (x:V) (H:Hp) (Q:VK):Prop:=∃ (a:Addr) (xs:List Str),x = .ref a∧SqL K H a (xs.map V.str)∧xs.length≤1000∧Q (.int (((bJ [] xs).length:Nat):Int)) H
def uT (K:PySem.W.Frag) (te:TE):TE:=fun σ H Q=>te σ H fun x H1=>nX K x H1 Q
section
variable {X:Cx} {e:Expr} {te:TE} {p p2 pos pos2:Pos}
theorem wN (hc:X.calm=true) (hg:Gl X "len") (hg2:Gl X "set") (hm:X.mg "len" = none) (hm2:X.mg "set" = none) (he:PE X e te) (hs1:starEach [.Call (.Name "set" p2) [e] [] pos2] X.env=[(false,eval (.Call (.Name "set" p2) [e] [] pos2) X.env)]:=by rfl) (hs2:starEach [e] X.env=[(false,eval e X.env)]:=by rfl) :
    PE X (.Call (.Name "len" p) [.Call (.Name "set" p2) [e] [] pos2] [] pos) (uT X.K te):=by
  intro pins s σ H Q I h
  refine wpAny_Call_Name_kw (fT I hg hm L3.cS ?_)
  refine PyProof.Rows.callWith_builtin1 ?_ (by rw [hs1];rfl) (by rfl)
  rw [hs1]
  show wpAny (model X.prog X.w) X.A (spliced ((false,eval (.Call (.Name "set" p2) [e] [] pos2) X.env)::[])) _ X.xe s
  refine Calls.spliced_cons (wpAny_Call_Name_kw (fT I hg2 hm2 L3.G1 ?_))
  refine PyProof.Rows.callWith_type1 ?_ (by rw [hs2];rfl) (by rfl)
  rw [hs2]
  show wpAny (model X.prog X.w) X.A (spliced ((false,eval e X.env)::[])) _ X.xe s
  refine Calls.spliced_cons (thn (he pins s σ H _ I h) fun u s1 ⟨x,H1,I1,r1,q1⟩=>Calls.spliced_nil ?_)
  obtain ⟨a,xs,rfl,hq,h1000,q⟩:=q1
  cases r1
  obtain ⟨its,rv,pl,hz⟩:=I1.list hq
  have hlen:its.length=xs.length:=by rw [← rv.length,List.length_map]
  have hsb:xs.length+1 < scanBound:=by unfold scanBound;omega
  refine wu (I.ok.hd hc) pl.isList (by rw [List.size_toArray];exact hlen) (fun i v hv=>?_) hsb fun h' tk hS hk=>?_
  · have hv':its[i]?=some v:=by simpa using hv
    have hi:i < xs.length:=by
      have:=(List.getElem?_eq_some_iff.mp hv').1
      omega
    obtain ⟨u,hu,ru⟩:=rv.get (i:=i) (x:=V.str xs[i]) (by rw [List.getElem?_map,List.getElem?_eq_getElem hi];rfl)
    rw [hv'] at hu
    cases hu
    obtain ⟨t,rfl⟩:=ru
    exact ⟨_,t,List.getElem?_eq_getElem hi,rfl⟩
  · have I2:=I1.kept (t':=tk) hk
    refine Calls.spliced_nil ?_
    obtain ⟨o,es,ep,t,ho,hex,hd,_,_,hb,hf,hn⟩:=hS
    have h63:(es.size:Int) < 2 ^ 63:=by unfold scanBound at hb;omega
    exact call_len_set ho hex hd hf h63 ⟨.int es.size,H1,I2.tok _,⟨_,rfl⟩,by rw [hn];exact q⟩
theorem AF {K:PySem.W.Frag} {σ : St} {H:Hp} {Q:VK} (h:te σ H fun x H1=>nX K x H1 Q):uT K te σ H Q:=h
theorem xB {K:PySem.W.Frag} {H:Hp} {Q:VK} {a:Addr} {xs:List Str} (s:SqL K H a (xs.map V.str)) (hl:xs.length≤1000) (h:Q (.int (((bJ [] xs).length:Nat):Int)) H):nX K (.ref a) H Q:=⟨a,xs,rfl,s,hl,h⟩
end
structure nh (K:PySem.W.Frag) (mg:Str→Option Value) (x qual:Str) (C:Addr) (st:Stmt) (ps:List Str):Prop where
  ex:∃ (f:Addr) (oc dV kV doc pm cdv ct:Value) (od an:Option Addr) (osl:Array (Option Value)),K.lookup f=some ⟨oc,od,.func (PySem.W.fnOf "__init__" qual (bC st) (bf st) (aj st) dV kV doc pm an cdv ct),osl⟩∧PySem.W.codeIn K cdv qual=true ∧
    Binds K (PySem.W.fnOf "__init__" qual (bC st) (bf st) (aj st) dV kV doc pm an cdv ct) ps []∧mg x=some (.ref C)∧Mk K C f
  cl:Cls K C
section
variable {P:Program} {w:World} {K:PySem.W.Frag} {mg:Str→Option Value} {base:Heap} {CX:CXT} {x qual:Str} {C:Addr} {st:Stmt} {N ps:List Str} {k:Nat} {sp:Sp}
theorem nh.ok (D:nh K mg x qual C st ps) (S:aq N ps (aj st)) (len:∀ vs H Q E,sp vs H Q E→vs.length=ps.length)
    (hbody:∀ (f:Addr) (cdv:Value) (A:Around) (outer:List Env) (s:Shared) (H:Hp) (vs:List V) (Q:VK) (E:XK),bR k (A.deeper (envOfC qual (aj st) s.heap.objs.size f cdv))→sp vs H Q E →
      ∃ t,PSs (aZ CX P w K mg base N qual (aj st) f cdv A outer s H E).nox (bf st) t∧t { nx:=fun _ H'=>Q .non H',rt:=Q } (start N vs) H):Mak P w K mg base CX x C (k+1) ps sp:=by
  obtain ⟨f,oc,dV,kV,doc,pm,cdv,ct,od,an,osl,lk,hcd,b,m,mk⟩:=D.ex
  refine ⟨f,_,mk,qV lk hcd S len fun A outer s H vs Q E hr hsp=>?_,b,m⟩
  obtain ⟨t,h,q⟩:=hbody f cdv A outer s H vs Q E hr hsp
  exact ⟨t,h.nox,q⟩
theorem A8 {h:Heap} (X:K.In h) (G:h.Ns mainGlobals mg) {f T:Addr} {oc tc:Value} {od td an:Option Addr} {osl tsl:Array (Option Value)} {its:Array Value} {tn:Nat} {kV doc pm cdv ct:Value} (aC:PySem.W.nsIn K mainGlobals x=some (some (.ref C)))
    (a:PySem.W.findIn K (.ref C) "__init__" = some (some (.ref f))) (i:PySem.W.isFn K (.ref f)=true)
    (l:K.lookup f=some ⟨oc,od,.func (PySem.W.fnOf "__init__" qual (bC st) (bf st) (aj st) (.ref T) kV doc pm an cdv ct),osl⟩) (tl:K.lookup T=some ⟨tc,td,.seq its tn,tsl⟩) (c:PySem.W.codeIn K cdv qual=true)
    (pg:PySem.W.plainGet K C Str.empty=true) (hd:PySem.W.hasDictIn K C=true) (po:PySem.W.plainOver K C=true) (sa:PySem.W.findIn K (.ref C) "__setattr__" = some (some (.builtin "object.__setattr__"))) (mk:PySem.W.makesIn K C=true) (kc:PySem.W.keepIn K (.ref C)=true)
    (b:∀ (T:Addr) (kV doc pm:Value) (an:Option Addr) (cdv ct:Value) (us:List Value),us.length=ps.length→∃ k:Option (Array Value)→Sem (List (Str×Value)),bindArgs (PySem.W.fnOf "__init__" qual (bC st) (bf st) (aj st) (.ref T) kV doc pm an cdv ct) ⟨us,[]⟩=(seqItems? (.ref T) >>= k)∧k (some its)=pure (ps.zip us)):nh K mg x qual C st ps:=
  ⟨⟨f,oc,.ref T,kV,doc,pm,cdv,ct,od,an,osl,l,c,fun s us hK hl=>by
    rw [List.append_nil] at hl ⊢
    obtain ⟨k,h1,h2⟩:=b T kV doc pm an cdv ct us hl
    exact BindsTo.of_defaults (T:=T) rfl (hK _ _ tl) rfl h1 h2,PySem.W.mg_of X G aC,⟨mk,a,i,kc⟩⟩,⟨pg,hd,po,sa⟩⟩
end
def zA (K:PySem.W.Frag):RL:=fun vs H Q=>∃ (x:V) (t:Value) (tp:Addr) (Ts:List String) (b:Bool),vs=[x,.ref tp]∧gF K H x t∧H tp=some (.tup (Ts.map V.ty))∧PySem.W.kitAny K t (Ts.map Value.type)=some b∧Q (.bl b) H
theorem pJ:∀ {Ts:List String} {us:List Value},Vals (Ts.map V.ty) us→us=Ts.map Value.type
  | [],_,.nil=>rfl
  | T::Ts,_,.cons r t=>by rw [List.map_cons,pJ t];cases (show _=Value.type T from r);rfl
section
variable {X:Cx}
theorem xJ:b5 X (.builtin "isinstance") (zA X.K):=by
  intro pins s σ H xs us Q I r h
  obtain ⟨x,t,tp,Ts,b,rfl,ty,ht,e,q⟩:=h
  obtain ⟨u,w',rfl,rx,rc⟩:=vals2 r
  cases (show w'=Value.ref tp from rc)
  obtain ⟨_,its,rv,⟨⟨oc,od',da,sl⟩,h1,h2,n,h3⟩⟩:=(show bL X.prog X.w H s.heap tp (.tup (Ts.map V.ty)) from I.hok tp _ ht)
  have ei:=pJ rv
  subst ei
  dsimp only at h2 h3
  subst h2 h3
  have fin:∀ tk,EP X pins σ Q (.bool b) { s with toks:=tk }:=fun tk=>⟨.bl b,H,I.tok _,rfl,q⟩
  cases ty with
  | non=>cases (show u=Value.none from rx);exact PySem.W.kia_tup PySem.W.kitx_none I.kIn True.intro h1 e (fun z=>nomatch z) fin
  | bl y=>cases (show u=Value.bool y from rx);exact PySem.W.kia_tup PySem.W.kitx_bool I.kIn True.intro h1 e (fun z=>nomatch z) fin
  | int i=>obtain ⟨t,q⟩:=(show ∃ t,u=Value.int i t from rx);cases q;exact PySem.W.kia_tup PySem.W.kitx_int I.kIn True.intro h1 e (fun z=>nomatch z) fin
  | str y=>obtain ⟨t,q⟩:=(show ∃ t,u=Value.str y t from rx);cases q;exact PySem.W.kia_tup PySem.W.kitx_str I.kIn True.intro h1 e (fun z=>nomatch z) fin
  | flt y=>obtain ⟨t,q⟩:=(show ∃ t,u=Value.float y t from rx);cases q;exact PySem.W.kia_tup PySem.W.kitx_float I.kIn True.intro h1 e (fun z=>nomatch z) fin
  | @lst a xs ea=>
    cases (show u=Value.ref a from rx)
    obtain ⟨_,_,n,_,h4⟩:=(show bL X.prog X.w H s.heap a (.lst xs) from I.hok a _ ea)
    exact PySem.W.kia_tup PySem.W.kitx_list I.kIn ⟨_,h4,rfl⟩ h1 e (fun z=>nomatch z) fin
  | @frz a ob xs ea=>
    cases (show u=Value.ref a from rx)
    obtain ⟨_,_,_,n,_,h4⟩:=(show bL X.prog X.w H s.heap a (.frz ob (.lst xs)) from I.hok a _ ea)
    exact PySem.W.kia_tup PySem.W.kitx_list I.kIn ⟨_,h4,rfl⟩ h1 e (fun z=>nomatch z) fin
  | @tup a xs ea=>
    cases (show u=Value.ref a from rx)
    obtain ⟨_,_,_,p⟩:=(show bL X.prog X.w H s.heap a (.tup xs) from I.hok a _ ea)
    obtain ⟨o,h4,h5,_⟩:=p
    exact PySem.W.kia_tup PySem.W.kitx_tuple I.kIn ⟨o,h4,h5⟩ h1 e (fun z=>nomatch z) fin
  | @dK a kvs ea=>
    cases (show u=Value.ref a from rx)
    obtain ⟨_,_,vs,_,p⟩:=(show bL X.prog X.w H s.heap a (.dK kvs) from I.hok a _ ea)
    obtain ⟨o,es,ep,h4,h5,_⟩:=p
    exact PySem.W.kia_tup PySem.W.kitx_dict I.kIn ⟨o,h4,h5.1⟩ h1 e (fun z=>nomatch z) fin
  | @dT a kvs ea=>
    cases (show u=Value.ref a from rx)
    obtain ⟨_,_,xs,_,o,es,ep,h4,h5,_⟩:=(show bL X.prog X.w H s.heap a (.dT kvs) from I.hok a _ ea)
    exact PySem.W.kia_tup PySem.W.kitx_dict I.kIn ⟨o,h4,h5.1⟩ h1 e (fun z=>nomatch z) fin
  | @ins a C dx fs ea cl ha hn htk hm=>
    cases (show u=Value.ref a from rx)
    obtain ⟨mA,O,_⟩:=iH I.hok ea
    obtain ⟨od,J,_⟩:=O.look
    exact PySem.W.kia_tup (PySem.W.kitx_own (cl.get _) cl.hd ha hn htk hm) I.kIn J h1 e (fun z=>nomatch z) fin
theorem Ci {e:Expr} {te:TE} {p pos:Pos} {es:List Expr} {ec:Nat} {tpos:Pos} {tl:TA} (hm:X.mg "isinstance" = none) (he:PE X e te) (ht:PE X (.Tuple es ec tpos) (wm tl)) (hg:Gl X "isinstance" := by rfl)
    (hs:starEach [e,.Tuple es ec tpos] X.env=(false,eval e X.env)::starEach [.Tuple es ec tpos] X.env:=by rfl) (hs2:starEach [.Tuple es ec tpos] X.env=(false,eval (.Tuple es ec tpos) X.env)::starEach [] X.env:=by rfl) (hpl:(backTo pos (starEach [.Tuple es ec tpos] X.env)).any (·.1)=false:=by rfl) :
    PE X (.Call (.Name "isinstance" p) [e,.Tuple es ec tpos] [] pos) (tCB (zA X.K) (gH te (gH (wm tl) lG))):=
  aX xJ hg hm dI (aa he (aa ht ah hs2) hs) (by decide) (by decide) hs hpl
end
theorem C8 (z:Str) (ws:List Str):inV (.str z) (ws.map V.str)=decide (z∈ws):=by
  unfold inV
  rw [List.any_map,Bool.eq_iff_iff,List.any_eq_true,decide_eq_true_iff]
  constructor
  · rintro ⟨x,hx,e⟩
    have e:(x == z)=true:=e
    exact (eq_of_beq e)▸hx
  · intro h
    exact ⟨z,h,by show (z == z)=true;exact beq_self_eq_true z⟩
theorem AU (ws:List Str):(ws.map V.str).all cH=true:=by
  rw [List.all_map,List.all_eq_true]
  intro _ _;rfl
section
variable {K:PySem.W.Frag} {H:Hp} {Q:VK} {p a:Addr} {z:Str} {ws:List Str} {P:Addr→Prop} {H0:Hp} {l:List (Addr×Ob)} {fs:List Pr}
theorem Gz {x:V} {t:Value} {tp:Addr} {b:Bool} (Ts:List String) (ty:gF K H x t) (ht:H tp=some (.tup (Ts.map V.ty))) (e:PySem.W.kitAny K t (Ts.map Value.type)=some b) (h:Q (.bl b) H):zA K [x,.ref tp] H Q:=⟨x,t,tp,Ts,b,rfl,ty,ht,e,h⟩
theorem AJ (s:SqT K H p (ws.map V.str)) (h:Q (.bl (decide (z∈ws))) H):rIn K false (.str z) (.ref p) H Q:=
  ⟨p,_,rfl,.inr s,rfl,AU ws,by rw [if_neg Bool.false_ne_true,C8];exact h⟩
theorem Dl (L:Led P H0 H l fs) (s:SqL K H p (ws.map V.str)) (hl:ws.length < 64) (h:∀ (b:Addr) (ms:List Str) (H':Hp),H b=none→ms.Perm ws→sortedS ms=true→Led P H0 H' ((b,Eo (.lst (ms.map V.str)))::l) fs→aK H H'→Q (.ref b) H'):zu K [.ref p] H Q:=
  ⟨p,ws,rfl,s,hl,fun b ms nb pm pw=>h b ms _ nb pm pw (L.Fx nb rfl) (cU nb)⟩
theorem Ay {ys:List V} (L:Led P H0 H l fs) (s:SqL K H p ys) (h:∀ (t:Addr) (H':Hp),H t=none→Led P H0 H' l (bg t ys::fs)→aK H H'→Q (.ref t) H'):zq K [.ref p] H Q:=
  ⟨p,ys,rfl,.inl ⟨s,fun t nt=>h t _ nt (L.IC nt) (cU nt)⟩⟩
end
end L4
namespace LS
open PySem PySem.W PyProof.Rows
structure Pm (n:Nat) (p:Array Nat):Prop where
  size:p.size=n
  perm:p.toList.Perm (List.range n)
end LS
set_option hygiene false
local macro_rules | `(tactic| walk_at "put")=>`(tactic| first | exact L4.Put.head | (apply L4.Put.tail;walk_at "put"))
local macro_rules | `(tactic| walk_at "mem")=>`(tactic| first | exact List.mem_cons_self | (refine List.mem_cons_of_mem _ ?_;walk_at "mem"))
local macro_rules | `(tactic| walk_at "lk")=>`(tactic| first | exact L4.lk_hit | (refine (L4.lk_miss (by decide +kernel)).trans ?_;walk_at "lk"))
local macro_rules | `(tactic| walk_at "sz")=>`(tactic| first | (show (_:Nat)≤sizeLine;exact Nat.le_of_lt (L2.small1000 (by first | decide | omega | (simp only [List.length_cons,List.length_nil,List.length_append,List.length_map];omega)))) | exact L2.small1000 (by first | decide | omega | (simp only [List.length_cons,List.length_nil,List.length_append,List.length_map];omega)))
local macro_rules | `(tactic| walk_at "side")=>`(tactic| first
  | omega
  | (show (0:Int) < _;first | omega | decide)
  | (refine ⟨⟨?_,?_⟩,?_,?_⟩ <;> first | omega | decide)
  | (refine ⟨?_,?_⟩ <;> first | omega | decide)
  | (refine ⟨?_,?_,?_⟩ <;> first | omega | decide))
local macro_rules | `(tactic| walk_at "g0")=>`(tactic| first
  | (with_reducible refine L4.Jp ?_)
  | (with_reducible refine L4.IQ (by with_unfolding_all exact rfl) ?_)
  | (with_reducible refine L4.g_c ?_)
  | (with_reducible refine L4.GF ?_)
  | (with_reducible refine L4.IY ?_)
  | (with_reducible refine L4.Kl ?_)
  | (with_reducible refine L4.IW ?_)
  | (with_reducible refine L4.Km ?_)
  | (with_reducible refine L4.F8 ?_)
  | (with_reducible refine L4.Jg ?_)
  | (with_reducible refine L4.Jm ?_)
  | (with_reducible refine L4.Jl ?_)
  | (with_reducible refine L4.g_eqB ?_)
  | (with_reducible refine L4.Ja ?_)
  | (with_reducible refine L4.IZ ?_)
  | (with_reducible refine L4.GH ?_)
  | (with_reducible refine L4.Kn ?_)
  | (with_reducible refine L4.IV ?_)
  | (with_reducible refine L4.Gj ?_)
  | (with_reducible refine L4.GD ?_)
  | (with_reducible refine L4.g_b ?_)
  | (with_reducible refine L4.Jq ?_)
  | (with_reducible refine L4.Kh ?_)
  | (with_reducible refine L4.IX ?_)
  | (with_reducible refine L4.GJ ?_)
  | (with_reducible refine L4.g_orV ?_)
  | (with_reducible refine L4.Gg ?_)
  | (with_reducible refine L4.Jf ?_)
  | (with_reducible refine L4.Gh ?_)
  | (with_reducible refine L4.g_un ?_)
  | (with_reducible refine L4.g_rU ?_)
  | (with_reducible refine L4.IT ?_)
  | (with_reducible refine L4.Jd ?_)
  | (with_reducible refine L4.Jk ?_)
  | (with_reducible refine L4.Gx ?_)
  | (with_reducible refine L4.Ga ?_)
  | (with_reducible refine L4.Jh ?_)
  | (with_reducible refine L4.Kg ?_)
  | (with_reducible refine L4.AE ?_)
  | (with_reducible refine L4.Gf ?_)
  | (with_reducible refine L4.Dr ?_)
  | (with_reducible refine L4.g_gCons ?_)
  | (with_reducible refine L4.g_gNil ?_)
  | (with_reducible refine L4.GB ?_)
  | (with_reducible refine L4.g_retN ?_)
  | (with_reducible refine L4.g_break ?_)
  | (with_reducible refine L4.g_cont ?_)
  | (with_reducible refine L4.AK ?_)
  | (with_reducible refine L4.AQ ?_)
  | (with_reducible refine L4.Dz ?_)
  | (with_reducible refine L4.DA ?_)
  | (with_reducible refine L4.Ko ?_)
  | (with_reducible refine L4.Jo ?_)
  | (with_reducible refine L4.Jj ?_)
  | (with_reducible refine L4.Gd ?_)
  | (with_reducible refine L4.Gb ?_)
  | (with_reducible refine L4.IP ?_)
  | (with_reducible refine L4.g_wkT ?_)
  | (with_reducible refine L4.g_zip ?_)
  | (with_reducible refine L4.g_enum ?_)
  | (with_reducible refine L4.Gs ?_)
  | (with_reducible refine L4.Dv ?_)
  | (with_reducible refine L4.GG ?_)
  | (with_reducible refine L4.DB ?_)
  | (with_reducible refine L4.F9 ?_)
  | (with_reducible refine L4.g_rev ?_)
  | (with_reducible refine L4.Gu ?_)
  | (with_reducible refine L4.AF ?_)
  | (with_reducible refine L4.DE ?_)
  | (with_reducible refine L4.g_revSq (by assumption) (L2.SqL.of (L4.Led.eo (by assumption) (by walk_at "put"))) fun l' H' n' L' _=>?_)
  | (with_reducible refine L4.g_divm (by assumption) (by constructor <;> omega) fun t' H' n' L' _=>?_)
  | (with_reducible refine L4.g_tTru ?_)
  | (with_reducible refine L4.oG (by walk_at "sz") ?_)
  | (with_reducible refine L4.g_lenStr (by first | assumption | walk_at "sz") ?_)
  | (with_reducible refine L4.Gp (by refine ⟨?_,?_,?_⟩ <;> first | omega | decide) ?_)
  | (with_reducible refine L4.g_cat (by assumption) (by walk_at "put") (by walk_at "put") (by first | assumption | walk_at "sz") fun l' H' n' L' _=>?_)
  | (with_reducible refine L4.g_slI (by assumption) (by assumption) (by first | exact not_false | assumption) fun l' H' n' L' _=>?_)
  | (with_reducible refine L4.DF ?_)
  | (with_reducible refine L4.g_makeX ?_)
  | (with_reducible refine L4.Dq ?_)
  | (with_reducible refine L4.AD ?_)
  | (with_reducible refine L4.DG ?_)
  | (with_reducible refine L4.Dm ?_)
  | (with_reducible refine L4.AB ?_)
  | (with_reducible refine L4.g_undo ?_)
  | (with_reducible refine L4.Dk ?_)
  | (with_reducible refine L4.g_tryAs ?_)
  | (with_reducible refine L4.g_try ?_)
  | (with_reducible refine L4.GC ?_)
  | (with_reducible refine L4.Jc ?_)
  | (with_reducible refine L4.Gw ?_)
  | (with_reducible refine L4.g_isBlB ?_)
  | (with_reducible refine L4.g_isNotBlB ?_)
  | (with_reducible refine L4.GA ?_)
  | (with_reducible refine L4.g_neB ?_)
  | (with_reducible refine L4.Jb ?_)
  | ((with_reducible refine L4.Dp ?_ ?_);(focus (walk_at "side";done)))
  | ((with_reducible refine L4.Dn ?_ ?_);(focus (walk_at "side";done)))
  | (with_reducible refine L4.EL (L2.SqL.of (L4.Led.eo (by assumption) (by walk_at "put"))) ?_)
  | (with_reducible refine L4.IS ?_)
  | (with_reducible refine L4.c9 (L2.SqL.of (L4.Led.eo (by assumption) (by walk_at "put"))) ?_)
  | (with_reducible refine L4.g_wkTv (L2.SqT.of (L4.Led.tup (by assumption) (by walk_at "mem"))) ?_)
  | (with_reducible refine L4.g_lenI (by assumption) (by assumption) (by first | exact not_false | assumption) ?_)
  | (with_reducible refine L4.dc (L2.SqL.of (L4.Led.eo (by assumption) (by walk_at "put"))) ?_)
  | (with_reducible refine L4.g_lenTu (L2.SqT.of (L4.Led.tup (by assumption) (by walk_at "mem"))) ?_)
  | (with_reducible refine L4.qT (by assumption) (by walk_at "put") (by walk_at "sz") fun H' L' _=>?_)
  | (with_reducible refine L4.Gk (by assumption) (by walk_at "sz") fun t' H' n' L' _=>?_)
  | (with_reducible refine L4.Gm (by assumption) (by walk_at "sz") fun l' H' n' L' _=>?_)
  | ((with_reducible refine L4.Ge ?_ ?_);(focus (walk_at "side";done)))
  | (with_reducible refine L4.g_gTup (by assumption) (by walk_at "mem") (by with_unfolding_all exact rfl) ?_)
  | (with_reducible refine L4.g_geT2 (L4.Led.tup (by assumption) (by walk_at "mem")) (L4.Led.tup (by assumption) (by walk_at "mem")) ?_)
  | (with_reducible refine L4.g_leT2 (L4.Led.tup (by assumption) (by walk_at "mem")) (L4.Led.tup (by assumption) (by walk_at "mem")) ?_)
  | (with_reducible refine L4.AI (by assumption) (by walk_at "put") (by with_unfolding_all exact rfl) ?_)
  | (with_reducible refine L4.Je (by assumption) (by walk_at "mem") (by with_unfolding_all exact rfl) ?_)
  | (with_reducible refine L4.AH (by assumption) (by with_unfolding_all exact rfl) ?_)
  | (with_reducible refine L4.g_fldL (by assumption) (by walk_at "put") (by assumption) (by assumption) (by walk_at "lk") ?_)
  | (with_reducible refine L4.kK (by first | omega | assumption | exact rfl | (simp only [List.length_cons,List.length_nil,List.length_append,List.length_map];omega)) ?_)
  | (with_reducible refine L4.dP (by first | omega | assumption | exact rfl | (simp only [List.length_cons,List.length_nil,List.length_append,List.length_map];omega)) ?_)
  | (with_reducible refine L4.AM (by first | omega | assumption | exact rfl | (simp only [List.length_cons,List.length_nil,List.length_append,List.length_map];omega)) ?_)
  | (with_reducible refine L4.AN (by first | omega | assumption | exact rfl | (simp only [List.length_cons,List.length_nil,List.length_append,List.length_map];omega)) ?_))
local macro_rules | `(tactic| walk_at "g1")=>`(tactic| first | (with_reducible refine L4.g_seq ?_) | walk_at "g0")
local macro_rules | `(tactic| walk_at "one")=>`(tactic| repeat walk_at "g0")
local macro_rules | `(tactic| walk_at "go")=>`(tactic| repeat walk_at "g1")
local macro_rules | `(tactic| walk_at "s")=>`(tactic| exact ⟨rfl,rfl,rfl,by decide +kernel,rfl,by decide +kernel,by decide +kernel⟩)
local macro_rules | `(tactic| walk_at "d")=>`(tactic| refine D.ok S (fun vs H Q E h=>?_) (fun f cdv A outer s H vs Q E hr h=>?_))
namespace Law
open PySem PySem.Spec PyProof.Rows L2 L3 L4
abbrev St:=L2.St
def top (i:Nat):Stmt:=PySem.Challenge.pw_risemarks_k56_readings_refused.main.body.getD i (.Pass ⟨0,0,0,0⟩)
theorem HK:(10:Int) ^ Int.toNat 29=10 ^ 29:=rfl
theorem dD {t u:TS} {D:Ends} {σ : St} {H:Hp} (P:St→Hp→Prop) (h1:∀ nx:St→Hp→Prop,(∀ σ H,P σ H→nx σ H)→t { D with nx:=nx } σ H) (h2:∀ σ H,P σ H→u D σ H):E2 t u D σ H:=h1 (u D) h2
def Oth (p:Addr) (H H':Hp):Prop:=∀ q o,H q=some o→q≠p→H' q=some o
theorem Oth.refl (p:Addr) (H:Hp):Oth p H H:=fun _ _ h _=>h
theorem Oth.trans {p:Addr} {H H1 H2:Hp} (a:Oth p H H1) (b:Oth p H1 H2):Oth p H H2:=fun q o h n=>b q o (a q o h n) n
theorem Oth.upd {p:Addr} {H H1:Hp} (a:Oth p H H1) (o:HO):Oth p H (upd H1 p o):=fun q u h n=>by rw [aB n];exact a q u h n
theorem Oth.same {p:Addr} {H0 H H':Hp} (a:Oth p H H') (s:aK H0 H) (n:H0 p=none):aK H0 H':=fun q o h=>a q o (s q o h) (aG h n)
theorem bS {H:Hp} {p:Addr} (h:H p=none) (o:HO):aK H (upd H p o):=fun b u q=>by rw [aB (aG q h)];exact q
def aY (H:Hp) (p:Addr) (n:Int):Prop:=∃ a b c:Int,H p=some (.lst [.int a,.int b,.int c])∧0≤a∧a < 10 ^ 121∧0≤b∧b≤n
theorem aY.mono {H:Hp} {p:Addr} {n m:Int} (h:aY H p n) (l:n≤m):aY H p m:=by
 obtain ⟨a,b,c,e,h1,h2,h3,h4⟩:=h
 exact ⟨a,b,c,e,h1,h2,h3,Int.le_trans h4 l⟩
theorem aY.same {H H':Hp} {p:Addr} {n:Int} (h:aY H p n) (o:aK H H'):aY H' p n:=by
 obtain ⟨a,b,c,e,r⟩:=h
 exact ⟨a,b,c,o _ _ e,r⟩
section
variable {P:Program} {w:World} {K:PySem.W.Frag} {mg:Str→Option Value} {base:Heap} {CX:CXT}
theorem Dat.none {x qual:Str} {st:Stmt} {ps:List Str} {sp:Sp} (D:Dat K mg x qual st ps) (no:∀ vs H Q E,¬ sp vs H Q E):Cal P w K mg base CX x 0 ps sp:=by
 obtain ⟨f,fd,F,b,m⟩:=D.ex
 exact ⟨f,fd,⟨fun vs H Q E h=>absurd h (no vs H Q E),fun A outer s H args us vs Q E _ _ _ _ h=>absurd h (no vs H Q E)⟩,b,F.kp,m⟩
end
section
variable {P:Program} {w:World} {K:PySem.W.Frag} {mg:Str→Option Value} {base:Heap} {CX:CXT}
theorem BX:aq ["_law_script", "_law_k", "_law_hand_here"] ["_law_script", "_law_k"] (aj (top 68)):=by walk_at "s"
def nJ (K:PySem.W.Frag):Sp:=fun vs H Q _=>∃ (a:Addr) (ns:List Int) (k:Int),vs=[.ref a,.int k]∧SqL K H a (ns.map V.int)∧ns.length≤63∧0≤k ∧
 ∀ (p:Addr) (H':Hp),H p=none→aY H' p 0→aK H H'→Q (.ref p) H'
theorem rF {ns:List Int} {k:Int} (h0 : 0≤k) (h:k < (ns.length:Int)):∃ v:Int,atI (ns.map V.int) k=some (.int v):=by
 have hk:k.toNat < ns.length:=by omega
 have ek:k=((k.toNat:Nat):Int):=by omega
 have q:atI (ns.map V.int) ((k.toNat:Nat):Int)=some (.int ns[k.toNat]):=cj (by rw [List.getElem?_map,List.getElem?_eq_getElem hk] <;> rfl)
 rw [← ek] at q
 exact ⟨_,q⟩
theorem CJ (D:Dat K mg "_law_hand" "_law_hand" (top 68) ["_law_script", "_law_k"]) (BT:Bt mg):Cal P w K mg base CX "_law_hand" 1 ["_law_script", "_law_k"] (nJ K):=by
 have S:=BX
 walk_at "d"
 ·obtain ⟨a,ns,k,rfl,_⟩:=h
  rfl
 obtain ⟨a,ns,k,rfl,hS,h63,h0,q⟩:=h
 refine ⟨_,(ak (aM (i:=2) S.nd rfl (by first | exact Or.inl rfl | exact Or.inr rfl) (bM (aa ai (aa ai (aa ai ah)))))
   (ak (bq (aO qv (pv 1) (aX eK rfl BT.len L3.cS (aa (pv 0) ah)) (aQ _)) (ao (gP (aL dZ (az bA (pv 0) (pv 1) (fun _ _=>rfl)) (aL cZ (aL fR ai ai) (aL fR ai ai))) (gQ (pv 2) ai set_list))) aJ)
   (ak (bq (PW.pt (nY (aO EC (az bA (pv 2) ai (fun _ _=>rfl)) (aL fR ai ai) (aQ _)) (jM (aO bX (aL dZ (az bA (pv 0) ai (fun _ _=>rfl)) ai) ai (aQ _))))) (ao (gP ai (gQ (pv 2) ai set_list))) aJ)
   (ak (bq (aO bX (pv 1) ai (aQ _)) (ao (gP (aL iC (az bA (pv 2) ai (fun _ _=>rfl)) ai) (gQ (pv 2) ai set_list))) aJ)
   (ao (au (pv 2))))))),?_⟩
 have hl:(ns.map V.int).length=ns.length:=List.length_map _
 refine ⟨(by show 3≤sizeLine;decide),fun p hp=>?_⟩
 have sq:∀ o,SqL K (upd H p o) a (ns.map V.int):=fun o=>(bS hp o).seq hS
 -- the number
 dsimp only [bK]
 refine dD (fun σ H'=>∃ x:Int,σ=[some (.ref a),some (.int k),some (.ref p)]∧H'=upd H p (.lst [.int x,.int 0,.int 1])∧0≤x∧x < 10 ^ 121∧(x=0∨k < (ns.length:Int))) (fun nx kk=>?_) ?_
 ·refine ⟨_,rfl,_,rfl,a,_,rfl,.inl (sq _),_,_,rfl,rfl,_,rfl,?_⟩
  refine xr (fun c=>?_) (fun c=>?_)
  ·have c':k < ((ns.map V.int).length:Int):=of_decide_eq_true c
   rw [hl] at c'
   obtain ⟨v,hv⟩:=rF h0 c'
   refine ⟨_,rfl,_,rfl,a,_,_,_,rfl,rfl,sq _,hv,_,_,rfl,rfl,⟨by decide,by decide,by decide⟩,_,_,rfl,rfl,⟨by decide,by decide,by decide⟩,_,_,rfl,rfl,⟨⟨by decide,by decide⟩,by decide,by decide⟩,_,_,rfl,rfl,(by show (0:Int) < _;decide),?_⟩
   refine ⟨_,rfl,p,_,_,0,rfl,rfl,ay,rfl,?_⟩
   refine kk _ _ ⟨_,rfl,eF,?_,?_,.inr c'⟩
   ·exact Int.emod_nonneg _ (by decide)
   ·exact Int.lt_trans (Int.emod_lt_of_pos _ (by decide)) (by decide)
  ·exact kk _ _ ⟨0,rfl,rfl,by decide,by decide,.inl rfl⟩
 rintro σ H' ⟨x,rfl,rfl,x0,x1,xk⟩
 -- the way
 refine dD (fun σ H'=>∃ m:Int,σ=[some (.ref a),some (.int k),some (.ref p)]∧H'=upd H p (.lst [.int x,.int 0,.int m])) (fun nx kk=>?_) ?_
 ·refine ⟨_,rfl,p,_,_,_,rfl,rfl,SqL.of ay,rfl,_,_,rfl,rfl,⟨by decide,by decide,by decide⟩,_,_,rfl,rfl,_,rfl,?_⟩
  refine xr (fun c=>?_) (fun c=>?_)
  ·have c':(10:Int) ^ 18≤x:=of_decide_eq_true c
   have hk:k < (ns.length:Int):=by
    rcases xk with z | z
    ·rw [z] at c';exact absurd c' (by decide)
    ·exact z
   obtain ⟨v,hv⟩:=rF (k:=0) (ns:=ns) (Int.le_refl 0) (by omega)
   refine ⟨_,rfl,a,_,_,_,rfl,rfl,sq _,hv,_,_,rfl,rfl,(by show (0:Int) < _;decide),rfl,_,rfl,?_⟩
   refine xr (fun c=>?_) (fun c=>?_)
   ·refine ⟨_,rfl,p,_,_,2,rfl,rfl,ay,rfl,?_⟩
    exact kk _ _ ⟨0,rfl,eF⟩
   ·exact kk _ _ ⟨1,rfl,rfl⟩
  ·refine JZ ?_
   exact kk _ _ ⟨1,rfl,rfl⟩
 rintro σ H' ⟨m,rfl,rfl⟩
 refine dD (fun σ H'=>∃ y:Int,σ=[some (.ref a),some (.int k),some (.ref p)]∧H'=upd H p (.lst [.int y,.int 0,.int m])∧0≤y∧y < 10 ^ 121) (fun nx kk=>?_) ?_
 ·refine ⟨_,rfl,rfl,_,rfl,?_⟩
  refine xr (fun c=>?_) (fun c=>?_)
  ·refine ⟨_,rfl,p,_,_,_,rfl,rfl,SqL.of ay,rfl,_,_,rfl,rfl,⟨by decide,by decide⟩,_,rfl,p,_,_,0,rfl,rfl,ay,rfl,?_⟩
   exact kk _ _ ⟨x / 2,rfl,eF,by omega,by omega⟩
  ·exact kk _ _ ⟨x,rfl,rfl,x0,x1⟩
 rintro σ H' ⟨y,rfl,rfl,y0,y1⟩
 refine ⟨_,rfl,?_⟩
 exact q p _ hp ⟨y,0,m,ay,y0,y1,Int.le_refl _,Int.le_refl _⟩ (bS hp _)
theorem BQ:aq ["_law_hand_here", "_law_many", "_law_found", "_law_low", "_law_by", "_law_one", "_law_two"] ["_law_hand_here", "_law_many"] (aj (top 69)):=by walk_at "s"
def lim (n:Nat):Int:=10 ^ (6+5 * n)
def BD:Nat→Sp
 | 0=>fun _ _ _ _=>False
 | n+1=>fun vs H Q _=>∃ (p:Addr) (many b:Int),vs=[.ref p,.int many]∧0 < many∧many≤lim n∧aY H p b∧b+2 ^ n≤2 ^ 60∧n≤12 ∧
  ∀ (r:Int) (H':Hp),0≤r→r < many→aY H' p (b+2 ^ n)→Oth p H H'→Q (.int r) H'
theorem Ag {n:Nat} {m:Int} (h0 : 0 < m) (h:m≤lim (n+1)):m / 1000000+1≤lim n:=by
 have e:lim (n+1)=100000 * lim n:=by
  unfold lim
  rw [show 6+5 * (n+1)=(6+5 * n)+5 from by omega,Int.pow_add]
  rw [show (10:Int) ^ 5=100000 from by decide,Int.mul_comm]
 have e1:(1000000:Int)≤lim n:=by
  unfold lim
  rw [Int.pow_add]
  have:(0:Int) < 10 ^ (5 * n):=Int.pow_pos (by decide)
  rw [show (10:Int) ^ 6=1000000 from by decide]
  have h1:(1:Int)≤10 ^ (5 * n):=this
  have:=Int.mul_le_mul_of_nonneg_left h1 (show (0:Int)≤1000000 by decide)
  rw [Int.mul_one] at this
  exact this
 omega
theorem C5 {n:Nat}:(1000000:Int)≤lim n:=by
 unfold lim
 rw [Int.pow_add]
 have:(0:Int) < 10 ^ (5 * n):=Int.pow_pos (by decide)
 rw [show (10:Int) ^ 6=1000000 from by decide]
 have h1:(1:Int)≤10 ^ (5 * n):=this
 have:=Int.mul_le_mul_of_nonneg_left h1 (show (0:Int)≤1000000 by decide)
 rw [Int.mul_one] at this
 exact this
theorem Ah {n:Nat} (h:n≤12):lim n < 2 ^ 250:=by
 unfold lim
 refine Int.lt_of_le_of_lt (b:=10 ^ 66) ?_ (by decide)
 have:(10:Nat) ^ (6+5 * n)≤10 ^ 66:=Nat.pow_le_pow_right (by decide) (by omega)
 exact_mod_cast this
theorem Fy {u v A B:Int} (h1 : 0≤u) (h2:u≤A) (h3 : 0≤v) (h4:v≤B) : 0≤u * v∧u * v≤A * B:=
 ⟨Int.mul_nonneg h1 h3,Int.le_trans (Int.mul_le_mul_of_nonneg_right h2 h3) (Int.mul_le_mul_of_nonneg_left h4 (Int.le_trans h1 h2))⟩
theorem EA {n:Nat} (h:n≤12):(1:Int)≤2 ^ n∧(2:Int) ^ n≤1048576:=by
 have h1 : 1≤2 ^ n:=Nat.one_le_two_pow
 have h2 : 2 ^ n≤2 ^ 20:=Nat.pow_le_pow_right (by decide) (by omega)
 have e:((2:Int) ^ n)=((2 ^ n:Nat):Int):=by norm_cast
 rw [e]
 omega
theorem qA (D:Dat K mg "_law_pick" "_law_pick" (top 69) ["_law_hand_here", "_law_many"]) (NE:bh CX):∀ n:Nat,Cal P w K mg base CX "_law_pick" n ["_law_hand_here", "_law_many"] (BD n)
 | 0=>Dat.none D fun _ _ _ _ h=>h
 | n+1=>by
  have aH:=qA D NE n
  have S:=BQ
  walk_at "d"
  ·obtain ⟨p,many,b,rfl,_⟩:=h
   rfl
  obtain ⟨p,many,b,rfl,hm,hlm,hh,hb,hn,q⟩:=h
  have hm6:=Int.lt_of_le_of_lt hlm (Ah hn)
  refine ⟨_,(ak (bq (aO bX (az bA (pv 0) ai (fun _ _=>rfl)) ai (aQ _)) (ak (aM (i:=2) S.nd rfl (by first | exact Or.inl rfl | exact Or.inr rfl) (aL dZ (az bA (pv 0) ai (fun _ _=>rfl)) (pv 1)))
    (ak (gP (aL iC (az bA (pv 0) ai (fun _ _=>rfl)) (pv 1)) (gQ (pv 0) ai set_list))
    (ao (au (pv 2))))) aJ)
   (ak (bq (aO iB (pv 1) ai (aQ _)) (ak (aM (i:=3) S.nd rfl (by first | exact Or.inl rfl | exact Or.inr rfl) (aI aH (hr.mono (by first | decide | omega)) NE.pass (aa (pv 0) (aa ai ah))))
    (ao (au (aL dZ (aL bB (pv 3) (aL cZ ai (aI aH (hr.mono (by first | decide | omega)) NE.pass (aa (pv 0) (aa (aL bB (aL iC (pv 1) ai) ai) ah))))) (pv 1))))) aJ)
   (ak (gP (aL bB (az bA (pv 0) ai (fun _ _=>rfl)) ai) (gQ (pv 0) ai set_list))
   (ak (aM (i:=4) S.nd rfl (by first | exact Or.inl rfl | exact Or.inr rfl) (aL bB ai (aL cZ (aL cZ ai (az bA (pv 0) ai (fun _ _=>rfl))) (az bA (pv 0) ai (fun _ _=>rfl)))))
   (ak (aM (i:=5) S.nd rfl (by first | exact Or.inl rfl | exact Or.inr rfl) (aL dZ (aL cZ (aL bB (aL dZ (az bA (pv 0) ai (fun _ _=>rfl)) ai) ai) (pv 4)) ai))
   (ak (aM (i:=6) S.nd rfl (by first | exact Or.inl rfl | exact Or.inr rfl) (aL dZ (aL bB (aL cZ (pv 5) (pv 5)) (aL cZ ai (pv 5))) ai))
   (ao (au (aL dZ (aL iC (aL dZ (aL cZ (pv 6) ai) ai) ai) (pv 1)))))))))),?_⟩
  obtain ⟨a,d,c,hp,a0,a1,d0,d1⟩:=id hh
  have p20:=EA hn
  refine ⟨_,rfl,p,_,_,_,rfl,rfl,SqL.of hp,rfl,rfl,_,rfl,?_⟩
  refine xr (fun cc=>?_) (fun cc=>?_)
  ·refine ⟨_,rfl,p,_,_,_,rfl,rfl,SqL.of hp,rfl,_,rfl,_,_,rfl,rfl,hm,?_⟩
   refine ⟨_,rfl,p,_,_,_,rfl,rfl,SqL.of hp,rfl,_,rfl,_,_,rfl,rfl,⟨hm,hm6⟩,_,rfl,p,_,_,0,rfl,rfl,hp,rfl,_,rfl,?_⟩
   refine q _ _ (Int.emod_nonneg _ (by omega)) (Int.emod_lt_of_pos _ hm) ⟨a / many,d,c,ay,Int.ediv_nonneg a0 (by omega),Int.lt_of_le_of_lt (Int.ediv_le_self _ a0) a1,d0,by omega⟩ ((Oth.refl p H).upd _)
  refine ⟨_,rfl,_,_,rfl,rfl,_,rfl,?_⟩
  refine xr (fun cg=>?_) (fun cg=>?_)
  ·have cg':(1000000:Int) < many:=of_decide_eq_true cg
   -- two smaller ones
   cases n with
   | zero=>
    have:many≤1000000:=hlm
    omega
   | succ n=>
    have p21:=EA (n:=n) (by omega)
    have e2:(2:Int) ^ (n+1)=2 * 2 ^ n:=by rw [Int.pow_succ,Int.mul_comm]
    have hm2:=Ag hm hlm
    have hm3:=Ah (n:=n) (by omega)
    have hm4:=Int.ediv_nonneg (Int.le_of_lt hm) (show (0:Int)≤1000000 by decide)
    rw [e2] at hb
    refine ⟨_,rfl,p,1000000,b,rfl,by decide,C5,hh,by omega,by omega,fun r1 H1 r10 r11 hh1 o1=>?_⟩
    refine ⟨_,rfl,_,rfl,_,rfl,_,_,rfl,rfl,⟨by decide,by decide⟩,_,_,rfl,rfl,p,_,_,rfl,by omega,hm2,hh1,by omega,by omega,fun r2 H2 r20 r21 hh2 o2=>?_⟩
    ·refine ⟨_,_,rfl,rfl,⟨⟨by decide,by decide⟩,by omega,by omega⟩,_,_,rfl,rfl,_,rfl,_,_,rfl,rfl,hm,?_⟩
     refine q _ _ (Int.emod_nonneg _ (by omega)) (Int.emod_lt_of_pos _ hm) (hh2.mono ?_) (o1.trans o2)
     show b+2 ^ n+2 ^ n≤b+2 ^ (n+1)
     omega
  ·have KD:b≤1152921504606846976:=by omega
   refine ⟨_,rfl,p,_,_,_,rfl,rfl,SqL.of hp,rfl,_,_,rfl,rfl,_,rfl,p,_,_,1,rfl,rfl,hp,rfl,?_⟩
   have hp1:(upd H p (HO.lst [.int a,.int (d+1),.int c])) p=some (.lst [.int a,.int (d+1),.int c]):=ay
   have m1:=Fy (u:=39916801 * (d+1)) (v:=d+1) (A:=2 ^ 90) (B:=2 ^ 62) (by omega) (by omega) (by omega) (by omega)
   have m0:=Int.emod_nonneg a (show (2147483629:Int)≠0 by decide)
   have m0':=Int.emod_lt_of_pos a (show (0:Int) < 2147483629 by decide)
   refine ⟨_,rfl,p,_,_,_,rfl,rfl,SqL.of hp1,rfl,_,_,rfl,rfl,⟨⟨by decide,by decide⟩,by omega,by omega⟩,_,rfl,p,_,_,_,rfl,rfl,SqL.of hp1,rfl,_,_,rfl,rfl,⟨⟨by omega,by omega⟩,by omega,by omega⟩,_,_,rfl,rfl,?_⟩
   refine ⟨_,rfl,p,_,_,_,rfl,rfl,SqL.of hp1,rfl,_,_,rfl,rfl,(by show (0:Int) < _;decide),_,_,rfl,rfl,_,rfl,_,_,rfl,rfl,⟨⟨by omega,by omega⟩,by omega,by omega⟩,_,_,rfl,rfl,(by show (0:Int) < _;decide),?_⟩
   generalize hx:(a % 2147483629+11) * (716151937+39916801 * (d+1) * (d+1)) % 998244353=x
   have x0 : 0≤x:=hx▸Int.emod_nonneg _ (by decide)
   have x1:x < 998244353:=hx▸Int.emod_lt_of_pos _ (by decide)
   refine ⟨_,rfl,_,rfl,_,_,rfl,rfl,⟨⟨by omega,by omega⟩,by omega,by omega⟩,_,rfl,_,_,rfl,rfl,⟨⟨by decide,by decide⟩,by omega,by omega⟩,_,_,rfl,rfl,_,_,rfl,rfl,(by show (0:Int) < _;decide),?_⟩
   generalize hy:(x * x+48271 * x) % 1000000007=y
   have y0 : 0≤y:=hy▸Int.emod_nonneg _ (by decide)
   have y1:y < 1000000007:=hy▸Int.emod_lt_of_pos _ (by decide)
   refine ⟨_,rfl,_,_,rfl,rfl,⟨⟨by omega,by omega⟩,by decide,by decide⟩,_,_,rfl,rfl,(by show (0:Int) < _;decide),_,_,rfl,rfl,⟨by decide,by decide⟩,_,rfl,_,_,rfl,rfl,hm,?_⟩
   exact q _ _ (Int.emod_nonneg _ (by omega)) (Int.emod_lt_of_pos _ hm) ⟨a,d+1,c,hp1,a0,a1,by omega,by omega⟩ ((Oth.refl p H).upd _)
def fJ:Sp:=fun vs H Q _=>∃ (p:Addr) (many b:Int),vs=[.ref p,.int many]∧0 < many∧many≤10 ^ 50∧aY H p b∧b≤1000000000 ∧
  ∀ (r:Int) (H':Hp),0≤r→r < many→aY H' p (b+1024)→Oth p H H'→Q (.int r) H'
theorem Cz (D:Dat K mg "_law_pick" "_law_pick" (top 69) ["_law_hand_here", "_law_many"]) (NE:bh CX):Cal P w K mg base CX "_law_pick" 11 ["_law_hand_here", "_law_many"] fJ:=
 (qA D NE 11).imp fun vs H Q E ⟨p,many,b,e,h1,h2,hh,hb,q⟩=>⟨p,many,b,e,h1,Int.le_trans h2 (by decide),hh,(by show b+1024≤1152921504606846976;omega),by decide,q⟩
end
def bw (n:Int):Ob:=⟨fun _ o=>∃ a b c:Int,o = .lst [.int a,.int b,.int c]∧0≤a∧a < 10 ^ 121∧0≤b∧b≤n,fun _ h=>h⟩
theorem bw.at {n:Int} {H:Hp} {p:Addr} (h:∃ o,H p=some o∧(bw n).p H o):aY H p n:=by
 obtain ⟨o,e,a,b,c,rfl,r⟩:=h
 exact ⟨a,b,c,e,r⟩
theorem aY.ob {n:Int} {H:Hp} {p:Addr} (h:aY H p n):∃ o,H p=some o∧(bw n).p H o:=by
 obtain ⟨a,b,c,e,r⟩:=h
 exact ⟨_,e,a,b,c,rfl,r⟩
theorem aY.ts {n:Int} {H H':Hp} {p:Addr} (h:aY H p n) (o:Oth p H H'):Chg p H H':=by
 obtain ⟨a,b,c,e,_⟩:=h
 exact ⟨o,fun q xs hq=>o q _ hq fun z=>by rw [z,e] at hq;cases hq⟩
section
variable {K:PySem.W.Frag} {P:Addr→Prop} {H0 H:Hp} {l l':List (Addr×Ob)} {fs:List Pr} {p:Addr} {Q:VK} {E:XK}
theorem ie {a:Addr} {ns:List Int} {k:Int} (L:Led P H0 H l fs) (hS:SqL K H a (ns.map V.int)) (h63:ns.length≤63) (h0 : 0≤k)
  (q:∀ p H',H p=none→Led P H0 H' ((p,bw 0)::l) fs→aK H H'→Q (.ref p) H'):nJ K [.ref a,.int k] H Q E:=
 ⟨a,ns,k,rfl,hS,h63,h0,fun p H' np hh s=>q p H' np ⟨fun x hx=>by
   rcases List.mem_cons.mp hx with rfl | hx
   ·exact hh.ob
   ·exact (L.keep s).at_ x hx,
  by
   rw [List.map_cons,List.nodup_cons]
   refine ⟨fun z=>?_,L.nd⟩
   obtain ⟨x,hx,e⟩:=List.mem_map.mp z
   exact (L.fresh np).1 x hx e,
  fun x hx=>by
   rcases List.mem_cons.mp hx with rfl | hx
   ·exact (L.fresh np).2
   ·exact L.own x hx,(L.keep s).fr,(L.keep s).st⟩ s⟩
theorem br {many b:Int} (L:Led P H0 H l fs) (m:Put p (bw b) (bw (b+1024)) l l') (h0 : 0 < many) (h1:many≤10 ^ 50) (hb:b≤1000000000)
  (q:∀ r H',0≤r→r < many→Led P H0 H' l' fs→Chg p H H'→Q (.int r) H'):fJ [.ref p,.int many] H Q E:=
 have hh:=bw.at (L.at_ _ m.mem)
 ⟨p,many,b,rfl,h0,h1,hh,hb,fun r H' r0 r1 hh' o=>q r H' r0 r1 (L.set m (hh.ts o) hh'.ob) (hh.ts o)⟩
theorem bT {b:Int} (h:aY H p b):Led (·=p) H H [(p,bw b)] []:=
 ⟨fun x hx=>by rw [List.mem_singleton.mp hx];exact h.ob,by simp,fun x hx=>.inl (by rw [List.mem_singleton.mp hx]),fun _ _ h _=>h,fun _ h=>by simp at h⟩
end
structure ShN (c s:Int):Prop where
 c1 : 1≤c
 c2:c≤1000
 s1 : 1≤s
 s2:s≤1000
theorem Ju:¬ (("counts" : Str) = "slots"):=by decide +kernel
def shF (c s:Int):List (Str×V):=[("counts",.int c),("slots",.int s)]
theorem BF (c s:Int):bG "slots" (.int s) (bG "counts" (.int c) [])=shF c s:=by
 show (if ("counts" : Str) = "slots" then _ else (("counts" : Str),V.int c)::[(("slots" : Str),V.int s)])=_
 rw [if_neg Ju]
 rfl
theorem El (c s:Int):(shF c s).lookup ("counts" : Str)=some (.int c):=by unfold shF;walk_at "lk"
theorem yQ (c s:Int):(shF c s).lookup ("slots" : Str)=some (.int s):=by unfold shF;walk_at "lk"
def Bf (C:Addr) (c s:Int):Ob:=⟨fun _ o=>∃ dx,o = .ins C dx (shF c s),fun _ h=>h⟩
structure ShC (K:PySem.W.Frag) (C:Addr):Prop where
 cl:Cls K C
 nc:aT K C "counts"
 ns:aT K C "slots"
section
variable {P:Program} {w:World} {K:PySem.W.Frag} {mg:Str→Option Value} {base:Heap} {CX:CXT} {C:Addr}
theorem yS:aq ["thing"] ["thing"] (aj (top 16)):=by walk_at "s"
def ir:Sp:=fun vs H Q _=>∃ i:Int,vs=[.int i]∧Q (.bl true) H
theorem kI {H:Hp} {Q:VK} {x:V} {t:Value} {T:String} {b:Bool} (ty:gF K H x t) (e:PySem.W.kitOne K t (.type T)=some b) (h:Q (.bl b) H):Fb K [x,.ty T] H Q:=⟨x,_,t,b,rfl,ty,.inl ⟨T,rfl,e⟩,h⟩
theorem zM (D:Dat K mg "is_whole" "is_whole" (top 16) ["thing"]) (BT:Bt mg):Cal P w K mg base CX "is_whole" 1 ["thing"] ir:=by
 have S:=yS
 walk_at "d"
 ·obtain ⟨i,rfl,_⟩:=h
  rfl
 obtain ⟨i,rfl,q⟩:=h
 refine ⟨_,(ao (au (fQ (kg BT.isinstance BT.int_ L3.uC (pv 0)) (fP (zE (kg BT.isinstance BT.bool_ L3.vX (pv 0))))))),?_⟩
 dsimp only [aZ]
 walk_at "go"
 refine kI (.int i) rfl ?_
 walk_at "go"
 refine kI (.int i) rfl ?_
 walk_at "go"
 exact q
theorem BY:aq ["thing", "least"] ["thing", "least"] (aj (top 17)):=by walk_at "s"
def nK:Sp:=fun vs H Q _=>∃ i n:Int,vs=[.int i,.int n]∧Q (.bl (decide (n≤i))) H
theorem CK (D:Dat K mg "is_whole_from" "is_whole_from" (top 17) ["thing", "least"]) (NE:bh CX) (uy:Cal P w K mg base CX "is_whole" 1 ["thing"] ir):Cal P w K mg base CX "is_whole_from" 2 ["thing", "least"] nK:=by
 have S:=BY
 walk_at "d"
 ·obtain ⟨i,n,rfl,_⟩:=h
  rfl
 obtain ⟨i,n,rfl,q⟩:=h
 refine ⟨_,(ao (au (fQ (aI uy (hr.mono (by first | decide | omega)) NE.pass (aa (pv 0) ah)) (fP (cB ki (pv 1) (pv 0) (aQ _)))))),?_⟩
 walk_at "go"
 refine ⟨i,rfl,?_⟩
 walk_at "go"
 exact q
theorem BN:aq ["thing"] ["thing"] (aj (top 18)):=by walk_at "s"
def yF:Sp:=fun vs H Q _=>∃ i:Int,vs=[.int i]∧1≤i∧i≤1000∧Q (.bl true) H
theorem Cv (D:Dat K mg "is_side" "is_side" (top 18) ["thing"]) (NE:bh CX) (jD:GlV mg "GREATEST_SIDE" (.int 1000)) (dR:Cal P w K mg base CX "is_whole_from" 2 ["thing", "least"] nK):Cal P w K mg base CX "is_side" 3 ["thing"] yF:=by
 have S:=BN
 walk_at "d"
 ·obtain ⟨i,rfl,_⟩:=h
  rfl
 obtain ⟨i,rfl,h1,h2,q⟩:=h
 refine ⟨_,(ao (au (fQ (aI dR (hr.mono (by first | decide | omega)) NE.pass (aa (pv 0) (aa ai ah))) (fP (cB ki (pv 0) (wO jD) (aQ _)))))),?_⟩
 walk_at "go"
 refine ⟨i,1,rfl,?_⟩
 rw [decide_eq_true h1]
 walk_at "go"
 rw [decide_eq_true h2]
 exact q
theorem yW:aq ["self", "counts", "slots"] ["self", "counts", "slots"] (aj (inClass (top 19) 0)):=by walk_at "s"
def jJ (C:Addr):Sp:=fun vs H Q _=>∃ (p dx:Addr) (c s:Int),vs=[.ref p,.int c,.int s]∧ShN c s∧H p=some (.ins C dx [])∧∀ H',H' p=some (.ins C dx (shF c s))→(∀ q o,H q=some o→q≠p→H' q=some o)→Q .non H'
theorem zR (D:lW K mg "Shape" "Shape.__init__" C (inClass (top 19) 0) ["self", "counts", "slots"]) (SC:ShC K C) (NE:bh CX) (mY:Cal P w K mg base CX "is_side" 3 ["thing"] yF):Mak P w K mg base CX "Shape" C 4 ["self", "counts", "slots"] (jJ C):=by
 have S:=yW
 walk_at "d"
 ·obtain ⟨p,dx,c,s,rfl,_⟩:=h
  rfl
 obtain ⟨p,dx,c,sl,rfl,n,hp,q⟩:=h
 refine ⟨_,(ak (bq (PW.pt (qk (cY (bZ (aI mY (hr.mono (by first | decide | omega)) NE.pass (aa (pv 1) ah)))) (j5 (cY (bZ (aI mY (hr.mono (by first | decide | omega)) NE.pass (aa (pv 2) ah))))))) (ao fM) aJ)
   (ak (cQ (pv 0) (pv 1) rfl)
   (ao (cQ (pv 0) (pv 2) rfl)))),?_⟩
 dsimp only [aZ]
 walk_at "go"
 refine ⟨c,rfl,n.c1,n.c2,?_⟩
 walk_at "go"
 refine ⟨sl,rfl,n.s1,n.s2,?_⟩
 walk_at "go"
 refine ⟨p,C,dx,[],rfl,hp,SC.cl,SC.nc,by decide,?_⟩
 walk_at "go"
 refine ⟨p,C,dx,_,rfl,ay,SC.cl,SC.ns,(by show 1 < 1000;decide),?_⟩
 rw [eF,BF]
 exact q _ ay fun x o h z=>by rw [aB z];exact h
theorem wg {PP:Addr→Prop} {H0 H:Hp} {l:List (Addr×Ob)} {fs:List Pr} {Q:VK} {E:XK} {c s:Int} (L:Led PP H0 H l fs) (n:ShN c s) (q:∀ x H',H x=none→Led PP H0 H' ((x,Bf C c s)::l) fs→aK H H'→Q (.ref x) H'):Made C (jJ C) E [.int c,.int s] H Q:=by
 intro x dx nx nd ne
 refine ⟨x,dx,c,s,rfl,n,ay,fun H' h1 h2=>⟨rfl,?_⟩⟩
 have sm:aK H H':=fun b o e=>h2 b o (by rw [aB (aG e nx),aB (aG e nd)];exact e) (aG e nx)
 exact q x H' nx (L.add sm nx ⟨_,h1,dx,rfl⟩) sm
def mk (c s m l k:Int):Int:=(m * s+l) * c+k
def D0 (C:Addr) (H:Hp) (p:Addr) (c s:Int):Prop:=∃ dx,H p=some (.ins C dx (shF c s))
theorem BS:aq ["shape", "moment", "slot", "count"] ["shape", "moment", "slot", "count"] (aj (top 20)):=by walk_at "s"
def yK (C:Addr):Sp:=fun vs H Q _=>∃ (p:Addr) (c s m l k:Int),vs=[.ref p,.int m,.int l,.int k]∧ShN c s∧D0 C H p c s∧Q (.int (mk c s m l k)) H
theorem CC (D:Dat K mg "mark_of" "mark_of" (top 20) ["shape", "moment", "slot", "count"]) (SC:ShC K C):Cal P w K mg base CX "mark_of" 1 ["shape", "moment", "slot", "count"] (yK C):=by
 have S:=BS
 walk_at "d"
 ·obtain ⟨p,c,s,m,l,k,rfl,_⟩:=h
  rfl
 obtain ⟨p,c,sl,m,l,k,rfl,n,⟨dx,hp⟩,q⟩:=h
 obtain ⟨c1,c2,s1,s2⟩:=n
 refine ⟨_,(ao (au (aL bB (aL zK (aL bB (aL zK (pv 1) (aP (pv 0) rfl)) (pv 2)) (aP (pv 0) rfl)) (pv 3)))),?_⟩
 dsimp only [aZ]
 walk_at "go"
 refine ⟨p,C,dx,_,_,rfl,hp,SC.cl,SC.ns,yQ c sl,?_⟩
 refine Ge (show Br _ _ from .inr ⟨by omega,by omega⟩) ?_
 walk_at "go"
 refine ⟨p,C,dx,_,_,rfl,hp,SC.cl,SC.nc,El c sl,?_⟩
 refine Ge (show Br _ _ from .inr ⟨by omega,by omega⟩) ?_
 walk_at "go"
 exact q
end
def ju:List Str:=["ahead", "apart", "ends", "once", "spoken"]
structure RuN (ws:List Str):Prop where
 sub:∀ x∈ws,x∈ju
 nd:ws.Nodup
def stF (sh:V) (far room term:Int) (tr:Addr):List (Str×V):=[("shape",sh),("far",.int far),("room",.int room),("term",.int term),("rules",.ref tr)]
structure StC (K:PySem.W.Frag) (C:Addr):Prop where
 cl:Cls K C
 n1:aT K C "shape"
 n2:aT K C "far"
 n3:aT K C "room"
 n4:aT K C "term"
 n5:aT K C "rules"
def rG (C:Addr) (H:Hp) (p:Addr) (sh:V) (far room term:Int) (ws:List Str):Prop:=∃ (dx tr:Addr) (ms:List Str),H p=some (.ins C dx (stF sh far room term tr))∧H tr=some (.tup (ms.map V.str))∧ms.Perm ws
structure StN (far room term:Int):Prop where
 f0 : 0≤far
 f1:far≤1000000000000
 r0 : 1≤room
 r1:room≤1000000000000
 t0 : 1≤term
 t1:term≤1000000000000
theorem BA (sh:V) (far room term:Int) (tr:Addr):bG "rules" (.ref tr) (bG "term" (.int term) (bG "room" (.int room) (bG "far" (.int far) (bG "shape" sh []))))=stF sh far room term tr:=by
 have a1:¬ (("shape" : Str) = "far"):=by decide +kernel
 have a2:¬ (("shape" : Str) = "room"):=by decide +kernel
 have a3:¬ (("shape" : Str) = "term"):=by decide +kernel
 have a4:¬ (("shape" : Str) = "rules"):=by decide +kernel
 have b2:¬ (("far" : Str) = "room"):=by decide +kernel
 have b3:¬ (("far" : Str) = "term"):=by decide +kernel
 have b4:¬ (("far" : Str) = "rules"):=by decide +kernel
 have c3:¬ (("room" : Str) = "term"):=by decide +kernel
 have c4:¬ (("room" : Str) = "rules"):=by decide +kernel
 have d4:¬ (("term" : Str) = "rules"):=by decide +kernel
 simp only [bG,if_neg a1,if_neg a2,if_neg a3,if_neg a4,if_neg b2,if_neg b3,if_neg b4,if_neg c3,if_neg c4,if_neg d4]
 rfl
theorem cX (f:Str) (v:V):∀ fs:List (Str×V),(bG f v fs).length≤fs.length+1
 | []=>Nat.le_refl 1
 | (g,x)::r=>by
  show (if g=f then (g,v)::r else (g,x)::bG f v r).length≤_
  have:=cX f v r
  by_cases c:g=f
  ·rw [if_pos c,List.length_cons,List.length_cons];omega
  ·rw [if_neg c,List.length_cons,List.length_cons];omega
theorem l6 (sh:V) (far room term:Int) (tr:Addr):(stF sh far room term tr).lookup ("rules" : Str)=some (.ref tr):=by unfold stF;walk_at "lk"
theorem iW (sh:V) (far room term:Int) (tr:Addr):(stF sh far room term tr).lookup ("shape" : Str)=some sh:=by unfold stF;walk_at "lk"
theorem BB (sh:V) (far room term:Int) (tr:Addr):(stF sh far room term tr).lookup ("far" : Str)=some (.int far):=by unfold stF;walk_at "lk"
theorem yy (sh:V) (far room term:Int) (tr:Addr):(stF sh far room term tr).lookup ("room" : Str)=some (.int room):=by unfold stF;walk_at "lk"
theorem yx (sh:V) (far room term:Int) (tr:Addr):(stF sh far room term tr).lookup ("term" : Str)=some (.int term):=by unfold stF;walk_at "lk"
section
variable {P:Program} {w:World} {K:PySem.W.Frag} {mg:Str→Option Value} {base:Heap} {CX:CXT} {C aR:Addr}
theorem BL:aq ["thing", "least"] ["thing", "least"] (aj (top 42)):=by walk_at "s"
def yE:Sp:=fun vs H Q _=>∃ i n:Int,vs=[.int i,.int n]∧n≤i∧i≤1000000000000∧Q (.bl true) H
theorem Ct (D:Dat K mg "is_span" "is_span" (top 42) ["thing", "least"]) (NE:bh CX) (jC:GlV mg "GREATEST_SPAN" (.int 1000000000000)) (dR:Cal P w K mg base CX "is_whole_from" 2 ["thing", "least"] nK):Cal P w K mg base CX "is_span" 3 ["thing", "least"] yE:=by
 have S:=BL
 walk_at "d"
 ·obtain ⟨i,n,rfl,_⟩:=h
  rfl
 obtain ⟨i,n,rfl,h1,h2,q⟩:=h
 refine ⟨_,(ao (au (fQ (aI dR (hr.mono (by first | decide | omega)) NE.pass (aa (pv 0) (aa (pv 1) ah))) (fP (cB ki (pv 0) (wO jC) (aQ _)))))),?_⟩
 try dsimp only [aZ]
 walk_at "go"
 refine ⟨i,n,rfl,?_⟩
 rw [decide_eq_true h1]
 walk_at "go"
 rw [decide_eq_true h2]
 exact q
theorem BO:aq ["thing"] ["thing"] (aj (top 43)):=by walk_at "s"
def yI:Sp:=fun vs H Q _=>∃ z:Str,vs=[.str z]∧z∈ju∧Q (.bl true) H
theorem Cw (D:Dat K mg "is_rule" "is_rule" (top 43) ["thing"]) (BT:Bt mg) (eH:GlV mg "RULES" (.ref aR)) (hR:∀ H,SqT K H aR (ju.map V.str)):Cal P w K mg base CX "is_rule" 1 ["thing"] yI:=by
 have S:=BO
 walk_at "d"
 ·obtain ⟨z,rfl,_⟩:=h
  rfl
 obtain ⟨z,rfl,hz,q⟩:=h
 refine ⟨_,(ao (au (fQ (kg BT.isinstance BT.str_ L3.uA (pv 0)) (fP (cB ja (pv 0) (wO eH) (by with_unfolding_all rfl)))))),?_⟩
 try dsimp only [aZ]
 walk_at "go"
 refine kI (.str z) rfl ?_
 walk_at "go"
 refine AJ (hR _) ?_
 rw [decide_eq_true hz]
 exact q
theorem yX:aq ["thing"] ["thing"] (aj (top 44)):=by walk_at "s"
theorem zo {ws:List Str} (h:RuN ws):ws.length≤5:=by
 have:∀ (xs ys:List Str),xs.Nodup→(∀ x∈xs,x∈ys)→xs.length≤ys.length:=by
  intro xs
  induction xs with
  | nil=>intro ys _ _;exact Nat.zero_le _
  | cons x xs ih=>
   intro ys hn hs
   rw [List.nodup_cons] at hn
   have hx:=hs x List.mem_cons_self
   have:=ih (ys.erase x) hn.2 fun y hy=>(List.mem_erase_of_ne (fun e=>hn.1 (by rw [← e];exact hy))).mpr (hs y (List.mem_cons_of_mem _ hy))
   rw [List.length_erase_of_mem hx] at this
   have hp:=List.length_pos_of_mem hx
   rw [List.length_cons];omega
 exact this ws ju h.nd h.sub
def jZ:Sp:=fun vs H Q _=>∃ (a:Addr) (ws:List Str),vs=[.ref a]∧H a=some (.lst (ws.map V.str))∧RuN ws∧∀ H',aK H H'→Q (.bl true) H'
theorem zS (D:Dat K mg "are_rules" "are_rules" (top 44) ["thing"]) (BT:Bt mg) (NE:bh CX) (xO:Cal P w K mg base CX "is_rule" 1 ["thing"] yI):Cal P w K mg base CX "are_rules" 3 ["thing"] jZ:=by
 have S:=yX
 walk_at "d"
 ·obtain ⟨a,ws,rfl,_⟩:=h
  rfl
 obtain ⟨a,ws,rfl,ha,hw,q⟩:=h
 refine ⟨_,(ak (bq (gO (i7 (pv 0))) (ao (au dS)) aJ)
   (ak (bq (cY (bZ (Ci BT.isinstance (pv 0) (bx (aa (nZ (v:=(V.ty "list")) rfl BT.list_ L3.gC rfl) (aa (nZ (v:=(V.ty "tuple")) rfl BT.tuple_ L3.rD rfl) ah)))))) (ao (au dS)) aJ)
   (ak (bq (cY (bZ (aX (Bb rfl) rfl BT.all L3.G4 (aa (iA (g:=(bK 0)) rfl (cA (pv 0)) (f9 (own:=["word"]) (cap:=[]) (aj (top 44)).names ["thing"] rfl rfl rfl (by decide +kernel)) (fun _ _ _ _=>(bV (i:=0) (show (kY ["thing"] ["word"] []).Nodup by decide +kernel) rfl (by first | exact Or.inl rfl | exact Or.inr rfl))) (fun _ _ _ _=>eT) (fun _ _ _ _=>(aI xO (hr.mono (by first | decide | omega)) NE.pass (aa (pv 0) ah)))) ah)))) (ao (au dS)) aJ)
   (ao (au (cB bX (wN rfl rfl rfl BT.len BT.set_ (pv 0)) (aX eK rfl BT.len L3.cS (aa (pv 0) ah)) (aQ _))))))),?_⟩
 try dsimp only [aZ]
 have hl5:=zo hw
 have L:=Led.start H (fun _=>False)
 walk_at "go"
 refine bN (fun z=>nomatch z) fun _=>?_
 walk_at "go"
 have s1:=L'.same
 refine Gz ["list", "tuple"] (.lst (s1 _ _ ha)) (L'.tup (by walk_at "mem")) rfl ?_
 clear L L'
 rename Hp=>H1
 walk_at "go"
 refine c9 (SqL.of (s1 _ _ ha)) ?_
 refine fB (ws.map V.str) (fun i ys Hx=>ys=(List.replicate i true).map V.bl∧Hx=H1) ⟨rfl,rfl⟩ (fun i ys Hx hi ⟨e,e2⟩=>⟨e2▸SqL.of (s1 _ _ ha),by
  rw [e,List.length_map,List.length_replicate]
  rw [List.length_map] at hi
  exact Nat.le_of_lt (small1000 (by omega))⟩) ?_ ?_
 ·rintro i v ys H2 hv ⟨rfl,rfl⟩
  obtain ⟨z,hz,rfl⟩:∃ z,z∈ws∧v = .str z:=by
   obtain ⟨z,hz,e⟩:=List.mem_map.mp (List.mem_of_getElem? hv)
   exact ⟨z,hz,e.symm⟩
  try dsimp only [bK]
  walk_at "go"
  refine ⟨z,rfl,hw.sub z hz,?_⟩
  exact ⟨by rw [List.replicate_succ',List.map_append];rfl,rfl⟩
 ·rintro ys H2 ⟨rfl,rfl⟩ lc nlc
  rw [List.length_map]
  have s2:aK H2 (upd H2 lc (.lst ((List.replicate ws.length true).map V.bl))):=bS nlc _
  walk_at "go"
  refine GK (bs:=List.replicate ws.length true) (SqL.of ay) ?_
  rw [show (List.replicate ws.length true).all id=true by rw [List.all_eq_true];intro b hb;exact (List.mem_replicate.mp hb).2]
  walk_at "go"
  refine xB (SqL.of (s2 _ _ (s1 _ _ ha))) (by omega) ?_
  walk_at "go"
  refine dc (SqL.of (s2 _ _ (s1 _ _ ha))) ?_
  walk_at "go"
  have e:decide ((((bJ [] ws).length:Nat):Int)=(((ws.map V.str).length:Nat):Int))=true:=decide_eq_true (by rw [k7 ws [] hw.nd (fun _ _ h=>by simp at h),List.length_nil,Nat.zero_add,List.length_map])
  rw [e]
  exact q _ (s1.trans s2)
theorem p5:aq ["self", "shape", "far", "room", "term", "rules"] ["self", "shape", "far", "room", "term", "rules"] (aj (inClass (top 45) 0)):=by walk_at "s"
def fk (C:Addr):Sp:=fun vs H Q _=>∃ (p dx a:Addr) (sh:V) (far room term:Int) (ws:List Str),vs=[.ref p,sh,.int far,.int room,.int term,.ref a]∧StN far room term∧H a=some (.lst (ws.map V.str))∧RuN ws∧H p=some (.ins C dx []) ∧
 ∀ (tr:Addr) (ms:List Str) (H':Hp),ms.Perm ws→H' p=some (.ins C dx (stF sh far room term tr))→H' tr=some (.tup (ms.map V.str))→(∀ q o,H q=some o→q≠p→H' q=some o)→Q .non H'
theorem qz (D:nh K mg "Settings" "Settings.__init__" C (inClass (top 45) 0) ["self", "shape", "far", "room", "term", "rules"]) (SC:StC K C) (BT:Bt mg) (NE:bh CX) (eH:GlV mg "RULES" (.ref aR)) (jk:Cal P w K mg base CX "is_span" 3 ["thing", "least"] yE) (rB:Cal P w K mg base CX "are_rules" 3 ["thing"] jZ):Mak P w K mg base CX "Settings" C 4 ["self", "shape", "far", "room", "term", "rules"] (fk C):=by
 have S:=p5
 walk_at "d"
 ·obtain ⟨p,dx,a,sh,far,room,term,ws,rfl,_⟩:=h
  rfl
 obtain ⟨p,dx,a,sh,far,room,term,ws,rfl,n,ha,hw,hp,q⟩:=h
 refine ⟨_,(ak (bq (cY (bZ (aI jk (hr.mono (by first | decide | omega)) NE.pass (aa (pv 2) (aa ai ah))))) (ao fM) aJ)
   (ak (bq (cY (bZ (aI jk (hr.mono (by first | decide | omega)) NE.pass (aa (pv 3) (aa ai ah))))) (ao fM) aJ)
   (ak (bq (cY (bZ (aI jk (hr.mono (by first | decide | omega)) NE.pass (aa (pv 4) (aa ai ah))))) (ao fM) aJ)
   (ak (bq (cY (bZ (aI rB (hr.mono (by first | decide | omega)) NE.pass (aa (pv 5) ah)))) (ao fM) aJ)
   (ak (cQ (pv 0) (pv 1) rfl)
   (ak (cQ (pv 0) (pv 2) rfl)
   (ak (cQ (pv 0) (pv 3) rfl)
   (ak (cQ (pv 0) (pv 4) rfl)
   (ao (cQ (pv 0) (eU (gO (i7 (pv 5))) (wO eH) (cC DQ rfl BT.tuple_ L3.rD (aa (aX DS rfl BT.sorted L3.xP (aa (pv 5) ah)) ah))) rfl)))))))))),?_⟩
 try dsimp only [aZ]
 have hl5:=zo hw
 walk_at "go"
 refine ⟨far,0,rfl,n.f0,n.f1,?_⟩
 walk_at "go"
 refine ⟨room,1,rfl,n.r0,n.r1,?_⟩
 walk_at "go"
 refine ⟨term,1,rfl,n.t0,n.t1,?_⟩
 walk_at "go"
 refine ⟨a,ws,rfl,ha,hw,fun H1 s1=>?_⟩
 have ha1:=s1 _ _ ha
 have hp1:=s1 _ _ hp
 have npa:a≠p:=fun z=>by rw [z,hp] at ha;cases ha
 have k1:=cX ("shape" : Str) sh []
 have k2:=cX ("far" : Str) (.int far) (bG "shape" sh [])
 have k3:=cX ("room" : Str) (.int room) (bG "far" (.int far) (bG "shape" sh []))
 have k4:=cX ("term" : Str) (.int term) (bG "room" (.int room) (bG "far" (.int far) (bG "shape" sh [])))
 rw [List.length_nil] at k1
 walk_at "go"
 refine ⟨p,C,dx,[],rfl,hp1,SC.cl,SC.n1,by decide,?_⟩
 walk_at "go"
 refine ⟨p,C,dx,_,rfl,ay,SC.cl,SC.n2,by omega,?_⟩
 rw [eF]
 walk_at "go"
 refine ⟨p,C,dx,_,rfl,ay,SC.cl,SC.n3,by omega,?_⟩
 rw [eF]
 walk_at "go"
 refine ⟨p,C,dx,_,rfl,ay,SC.cl,SC.n4,by omega,?_⟩
 rw [eF]
 have key:=fun tr=>BA sh far room term tr
 generalize bG ("term" : Str) (.int term) (bG "room" (.int room) (bG "far" (.int far) (bG "shape" sh [])))=fs at *
 have hpc:(upd H1 p (.ins C dx fs)) p=some (.ins C dx fs):=ay
 have hac:(upd H1 p (.ins C dx fs)) a=some (.lst (ws.map V.str)):=by rw [aB npa];exact ha1
 have oc:∀ q o,H q=some o→q≠p→(upd H1 p (.ins C dx fs)) q=some o:=fun q o e z=>by rw [aB z];exact s1 _ _ e
 generalize upd H1 p (.ins C dx fs)=Hc at *
 have L:=Led.start Hc (fun _=>False)
 walk_at "go"
 refine bN (fun z=>nomatch z) fun _=>?_
 walk_at "go"
 refine Dl L (SqL.of hac) (by omega) fun lb ms H2 nb pm _ L s2=>?_
 walk_at "go"
 refine Ay L (SqL.of (L.eo (p:=lb) .head)) fun tr H3 nt L s3=>?_
 walk_at "go"
 have hp3:=s3 _ _ (s2 _ _ hpc)
 have htr:=L.tup (r:=tr) (xs:=ms.map V.str) (by walk_at "mem")
 have JS:tr≠p:=fun z=>by rw [z,hp3] at htr;cases htr
 refine ⟨p,C,dx,fs,rfl,hp3,SC.cl,SC.n5,by omega,?_⟩
 refine q tr ms _ pm (by rw [ay,key]) (by rw [aB JS];exact htr) fun x o e z=>by rw [aB z];exact s3 _ _ (s2 _ _ (oc x o e z))
theorem nj {PP:Addr→Prop} {H0 H:Hp} {l:List (Addr×Ob)} {fs:List Pr} {Q:VK} {E:XK} {a:Addr} {sh:V} {far room term:Int} {ws:List Str} (n:StN far room term) (ha:H a=some (.lst (ws.map V.str))) (hw:RuN ws) (q:∀ x H',H x=none→rG C H' x sh far room term ws→aK H H'→Q (.ref x) H'):Made C (fk C) E [sh,.int far,.int room,.int term,.ref a] H Q:=by
 intro x dx nx nd ne
 have sm0:∀ b o,H b=some o→(upd (upd H dx (.own x)) x (.ins C dx [])) b=some o:=fun b o e=>by rw [aB (aG e nx),aB (aG e nd)];exact e
 refine ⟨x,dx,a,sh,far,room,term,ws,rfl,n,sm0 _ _ ha,hw,ay,fun tr ms H' pm h1 h2 h3=>⟨rfl,?_⟩⟩
 exact q x H' nx ⟨dx,tr,ms,h1,h2,pm⟩ fun b o e=>h3 b o (sm0 _ _ e) (aG e nx)
theorem sL:aq ["settings", "word"] ["settings", "word"] (aj (top 46)):=by walk_at "s"
def iZ (C:Addr):Sp:=fun vs H Q _=>∃ (p:Addr) (sh:V) (far room term:Int) (ws:List Str) (z:Str),vs=[.ref p,.str z]∧rG C H p sh far room term ws∧Q (.bl (decide (z∈ws))) H
theorem tN (D:Dat K mg "has_rule" "has_rule" (top 46) ["settings", "word"]) (SC:StC K C):Cal P w K mg base CX "has_rule" 1 ["settings", "word"] (iZ C):=by
 have S:=sL
 walk_at "d"
 ·obtain ⟨p,sh,far,room,term,ws,z,rfl,_⟩:=h
  rfl
 obtain ⟨p,sh,far,room,term,ws,z,rfl,⟨dx,tr,ms,hp,ht,pm⟩,q⟩:=h
 refine ⟨_,(ao (au (cB ja (pv 1) (aP (pv 0) rfl) (by with_unfolding_all rfl)))),?_⟩
 try dsimp only [aZ]
 walk_at "go"
 refine ⟨p,C,dx,_,_,rfl,hp,SC.cl,SC.n5,l6 sh far room term tr,?_⟩
 refine AJ (SqT.of ht) ?_
 rw [show decide (z∈ms)=decide (z∈ws) from decide_eq_decide.mpr pm.mem_iff]
 exact q
end
def rV (H:Hp) (t:Addr) (x y z:Int):Prop:=H t=some (.tup [.int x,.int y,.int z])
section
variable {P:Program} {w:World} {K:PySem.W.Frag} {mg:Str→Option Value} {base:Heap} {CX:CXT} {C:Addr}
theorem su:aq ["area"] ["area"] (aj (top 22)):=by walk_at "s"
def pX:Sp:=fun vs H Q _=>∃ (t:Addr) (x y z:Int),vs=[.ref t]∧rV H t x y z∧Q (.int x) H
def vf:Sp:=fun vs H Q _=>∃ (t:Addr) (x y z:Int),vs=[.ref t]∧rV H t x y z∧Q (.int y) H
def pW:Sp:=fun vs H Q _=>∃ (t:Addr) (x y z:Int),vs=[.ref t]∧rV H t x y z∧Q (.int z) H
theorem kj (D:Dat K mg "slot_of" "slot_of" (top 22) ["area"]):Cal P w K mg base CX "slot_of" 1 ["area"] pX:=by
 have S:=su
 walk_at "d"
 ·obtain ⟨t,x,y,z,rfl,_⟩:=h
  rfl
 obtain ⟨t,x,y,z,rfl,ht,q⟩:=h
 refine ⟨_,(ao (au (az aF (pv 0) ai (fun _ _=>rfl)))),?_⟩
 dsimp only [aZ]
 have L:=(Led.start H (fun _=>False)).more (bg t [.int x,.int y,.int z]) ht
 walk_at "go"
 exact q
theorem qb:aq ["area"] ["area"] (aj (top 23)):=by walk_at "s"
theorem jx (D:Dat K mg "first_of" "first_of" (top 23) ["area"]):Cal P w K mg base CX "first_of" 1 ["area"] vf:=by
 have S:=qb
 walk_at "d"
 ·obtain ⟨t,x,y,z,rfl,_⟩:=h
  rfl
 obtain ⟨t,x,y,z,rfl,ht,q⟩:=h
 refine ⟨_,(ao (au (az aF (pv 0) ai (fun _ _=>rfl)))),?_⟩
 dsimp only [aZ]
 have L:=(Led.start H (fun _=>False)).more (bg t [.int x,.int y,.int z]) ht
 walk_at "go"
 exact q
theorem wJ:aq ["area"] ["area"] (aj (top 24)):=by walk_at "s"
theorem mG (D:Dat K mg "end_of" "end_of" (top 24) ["area"]):Cal P w K mg base CX "end_of" 1 ["area"] pW:=by
 have S:=wJ
 walk_at "d"
 ·obtain ⟨t,x,y,z,rfl,_⟩:=h
  rfl
 obtain ⟨t,x,y,z,rfl,ht,q⟩:=h
 refine ⟨_,(ao (au (az aF (pv 0) ai (fun _ _=>rfl)))),?_⟩
 dsimp only [aZ]
 have L:=(Led.start H (fun _=>False)).more (bg t [.int x,.int y,.int z]) ht
 walk_at "go"
 exact q
end
inductive Ln
 | took (g sl f e:Int)
 | held (m:Int)
 | heard (m:Int)
 | ends (g e:Int)
inductive g9 (H:Hp) (t:Addr):Ln→Prop
 | took {g sl f e:Int} {ar:Addr} (h:H t=some (.tup [.str "took",.int g,.ref ar])) (ha:H ar=some (.tup [.int sl,.int f,.int e])):g9 H t (.took g sl f e)
 | held {m:Int} (h:H t=some (.tup [.str "held",.int m])):g9 H t (.held m)
 | heard {m:Int} (h:H t=some (.tup [.str "heard",.int m])):g9 H t (.heard m)
 | ends {g e:Int} (h:H t=some (.tup [.str "ends",.int g,.int e])):g9 H t (.ends g e)
theorem g9.ts {H H':Hp} {t:Addr} {l:Ln} (h:g9 H t l) (s:cI H H'):g9 H' t l:=by
 cases h with
 | took h ha=>exact .took (s _ _ h) (s _ _ ha)
 | held h=>exact .held (s _ _ h)
 | heard h=>exact .heard (s _ _ h)
 | ends h=>exact .ends (s _ _ h)
theorem g9.same {H H':Hp} {t:Addr} {l:Ln} (h:g9 H t l) (s:aK H H'):g9 H' t l:=h.ts (cu s)
def lnD:Ln→Dt
 | .took g sl f e=>.tup [.str "took",.int g,.tup [.int sl,.int f,.int e]]
 | .held m=>.tup [.str "held",.int m]
 | .heard m=>.tup [.str "heard",.int m]
 | .ends g e=>.tup [.str "ends",.int g,.int e]
theorem g9.at {K:PySem.W.Frag} {H:Hp} {t:Addr} {l:Ln} (h:g9 H t l):At K H (.ref t) (lnD l):=by
 cases h with
 | took h ha=>exact .tup (SqT.of h) (.cons (.str _) (.cons (.int _) (.cons (.tup (SqT.of ha) (.cons (.int _) (.cons (.int _) (.cons (.int _) .nil)))) .nil)))
 | held h=>exact .tup (SqT.of h) (.cons (.str _) (.cons (.int _) .nil))
 | heard h=>exact .tup (SqT.of h) (.cons (.str _) (.cons (.int _) .nil))
 | ends h=>exact .tup (SqT.of h) (.cons (.str _) (.cons (.int _) (.cons (.int _) .nil)))
theorem FJ (l:Ln):dep (lnD l)≤2:=by
 cases l <;> simp [lnD,dep,deps]
abbrev Lns:=List (Addr×Ln)
def lnV (ls:Lns):List V:=ls.map fun x=>.ref x.1
def dg (H:Hp) (ls:Lns):Prop:=∀ x∈ls,g9 H x.1 x.2
theorem dg.ts {H H':Hp} {ls:Lns} (h:dg H ls) (s:cI H H'):dg H' ls:=fun x hx=>(h x hx).ts s
theorem dg.same {H H':Hp} {ls:Lns} (h:dg H ls) (s:aK H H'):dg H' ls:=fun x hx=>(h x hx).same s
theorem vB {K:PySem.W.Frag} {H:Hp}:∀ {ls:Lns},dg H ls→Ats K H (lnV ls) (ls.map fun x=>lnD x.2)
 | [],_=>.nil
 | x::ls,h=>.cons (h x List.mem_cons_self).at (vB fun y hy=>h y (List.mem_cons_of_mem _ hy))
theorem vA:∀ (ls:Lns),deps (ls.map fun x=>lnD x.2)≤2
 | []=>Nat.zero_le _
 | x::ls=>by
  rw [List.map_cons,deps]
  exact Nat.max_le.mpr ⟨FJ x.2,vA ls⟩
theorem FI {K:PySem.W.Frag} {H:Hp} {ls:Lns} {a:Addr} (s:SqL K H a (lnV ls)) (h:dg H ls):At K H (.ref a) (.lst (ls.map fun x=>lnD x.2)):=.lst s (vB h)
theorem gy (ls:Lns):(lnV ls).length=ls.length:=List.length_map ..
theorem oq {ls:Lns} {i:Nat} {v:V} (h:(lnV ls)[i]?=some v):∃ x,ls[i]?=some x∧v = .ref x.1:=by
 unfold lnV at h
 rw [List.getElem?_map] at h
 cases e:ls[i]? with
 | none=>rw [e] at h;cases h
 | some x=>rw [e] at h;cases h;exact ⟨x,rfl,rfl⟩
theorem Af {ls:Lns} {x:Addr×Ln}:lnV (ls++[x])=lnV ls++[.ref x.1]:=by
 unfold lnV;rw [List.map_append];rfl
theorem take_snoc {α : Type} {gs:List α} {i:Nat} {x : α} (h:gs[i]?=some x):gs.take (i+1)=gs.take i++[x]:=by
 rw [List.take_add_one,h];rfl
structure Nt where
 g:Int
 ar:Option (Int×Int×Int)
 hd:Int
 hr:Int
def Nt.nil:Nt:=⟨0,none,0,0⟩
def Nt.step (n:Nt):Ln→Nt
 | .took g sl f e=>⟨g,some (sl,f,e),n.hd,n.hr⟩
 | .held m=>⟨n.g,n.ar,max n.hd m,n.hr⟩
 | .heard m=>⟨n.g,n.ar,n.hd,max n.hr m⟩
 | .ends g e=>if g=n.g then ⟨n.g,n.ar.map fun x=>(x.1,x.2.1,min x.2.2 e),n.hd,n.hr⟩ else n
def kO (n:Nt) (ls:Lns):Nt:=ls.foldl (fun n x=>n.step x.2) n
theorem l5 (n:Nt) (g e:Int):n.step (.ends g e)=if g=n.g then ⟨n.g,n.ar.map fun x=>(x.1,x.2.1,min x.2.2 e),n.hd,n.hr⟩ else n:=rfl
theorem uf {n:Nt} {ls:Lns} {i:Nat} {x:Addr×Ln} (h:ls[i]?=some x):kO n (ls.take (i+1))=(kO n (ls.take i)).step x.2:=by
 unfold kO
 rw [take_snoc h,List.foldl_append];rfl
theorem DI {α : Type} {p : α→Bool} {xs:List α} {i:Nat} {x : α} (h:xs[i]?=some x) (b:p x=true):(xs.take (i+1)).filter p=(xs.take i).filter p++[x]:=by
 rw [take_snoc h,List.filter_append,List.filter_cons_of_pos (by exact b),List.filter_nil]
theorem GO {α : Type} {p : α→Bool} {xs:List α} {i:Nat} {x : α} (h:xs[i]?=some x) (b:p x=false):(xs.take (i+1)).filter p=(xs.take i).filter p:=by
 rw [take_snoc h,List.filter_append,List.filter_cons_of_neg (by rw [b];exact Bool.false_ne_true),List.filter_nil,List.append_nil]
def isT (x:Addr×Ln):Bool:=match x.2 with
 | .took ..=>true
 | _=>false
def gOf (x:Addr×Ln):Int:=match x.2 with
 | .took g ..=>g
 | _=>0
def gts (ls:Lns):List Int:=(ls.filter isT).map gOf
theorem kP:∀ (T:List Int) (z:Int),z≤T.foldl max z∧(∀ a∈T,a≤T.foldl max z)∧(T.foldl max z=z∨T.foldl max z∈T)
 | [],z=>⟨Int.le_refl _,(fun _ h=>by simp at h),.inl rfl⟩
 | x::T,z=>by
  obtain ⟨h1,h2,h3⟩:=kP T (max z x)
  rw [List.foldl_cons]
  refine ⟨by omega,fun a ha=>?_,?_⟩
  ·rcases List.mem_cons.mp ha with rfl | ha
   ·omega
   ·exact h2 a ha
  ·rcases h3 with h3 | h3
   ·by_cases c:z≤x
    ·exact .inr (by rw [h3,show max z x=x by omega];exact List.mem_cons_self)
    ·exact .inl (by rw [h3];omega)
   ·exact .inr (List.mem_cons_of_mem _ h3)
theorem DH {T:List Int} {z M:Int} (h1:M=z∨M∈T) (h2:∀ a∈T,a≤M) (h3:z≤M):T.foldl max z=M:=by
 obtain ⟨k1,k2,k3⟩:=kP T z
 refine Int.le_antisymm ?_ ?_
 ·rcases k3 with k | k
  ·omega
  ·exact h2 _ k
 ·rcases h1 with rfl | h
  ·exact k1
  ·exact k2 _ h
def rJ:Ln→Prop
 | .took g _ _ _=>1≤g
 | .ends g _=>1≤g
 | _=>True
def eB (ls:Lns):Prop:=∀ x∈ls,rJ x.2
structure xU (n:Nt):Prop where
 no:n.ar=none→n.g=0
 yes:n.ar.isSome=true→1≤n.g
theorem Nt.Cs {n:Nt} {l:Ln} (h:xU n) (g:rJ l):xU (n.step l):=by
 cases l with
 | took g' sl f e=>exact ⟨(fun z=>by cases z),fun _=>g⟩
 | held m=>exact ⟨h.no,h.yes⟩
 | heard m=>exact ⟨h.no,h.yes⟩
 | ends g' e=>
  rw [l5]
  by_cases c:g'=n.g
  ·rw [if_pos c]
   exact ⟨fun z=>h.no (Option.map_eq_none_iff.mp z),fun z=>h.yes (by simpa using z)⟩
  ·rw [if_neg c];exact h
theorem qU:∀ {ls:Lns} {n:Nt},xU n→eB ls→xU (kO n ls)
 | [],_,h,_=>h
 | x::ls,n,h,g=>qU (ls:=ls) (Nt.Cs h (g x List.mem_cons_self)) fun y hy=>g y (List.mem_cons_of_mem _ hy)
theorem Fq:xU Nt.nil:=⟨fun _=>rfl,fun z=>by cases z⟩
def oZ (K:PySem.W.Frag) (H:Hp) (t:Addr) (n:Nt):Prop:=∃ v,SqT K H t [.int n.g,v,.int n.hd,.int n.hr]∧((n.ar=none∧v = .non)∨∃ (a:Addr) (sl f e:Int),n.ar=some (sl,f,e)∧v = .ref a∧H a=some (.tup [.int sl,.int f,.int e]))
theorem qf {K:PySem.W.Frag} {H H':Hp} {a:Addr} {xs:List V} (e:aK H H') (h:SqT K H a xs):SqT K H' a xs:=by
 rcases h with (h | ⟨o,h⟩) | h
 ·exact .inl (.inl (e _ _ h))
 ·exact .inl (.inr ⟨o,e _ _ h⟩)
 ·exact .inr h
theorem oZ.same {K:PySem.W.Frag} {H H':Hp} {t:Addr} {n:Nt} (h:oZ K H t n) (s:aK H H'):oZ K H' t n:=by
 obtain ⟨v,hs,hv⟩:=h
 refine ⟨v,qf s hs,?_⟩
 rcases hv with z | ⟨a,sl,f,e,ea,ev,ha⟩
 ·exact .inl z
 ·exact .inr ⟨a,sl,f,e,ea,ev,s _ _ ha⟩
section
variable {P:Program} {w:World} {K:PySem.W.Frag} {mg:Str→Option Value} {base:Heap} {CX:CXT}
theorem zk:aq ["area", "end"] ["area", "end"] (aj (top 25)):=by walk_at "s"
def nM:Sp:=fun vs H Q _=>∃ (t:Addr) (sl f e x:Int),vs=[.ref t,.int x]∧rV H t sl f e∧∀ t' H',H' t'=some (.tup [.int sl,.int f,.int x])→aK H H'→Q (.ref t') H'
theorem qG (D:Dat K mg "ended_at" "ended_at" (top 25) ["area", "end"]) (NE:bh CX) (cD:Cal P w K mg base CX "slot_of" 1 ["area"] pX) (er:Cal P w K mg base CX "first_of" 1 ["area"] vf):Cal P w K mg base CX "ended_at" 2 ["area", "end"] nM:=by
 have S:=zk
 walk_at "d"
 ·obtain ⟨t,sl,f,e,x,rfl,_⟩:=h
  rfl
 obtain ⟨t,sl,f',e,x,rfl,ht,q⟩:=h
 refine ⟨_,(ao (au (bx (aa (aI cD (hr.mono (by first | decide | omega)) NE.pass (aa (pv 0) ah)) (aa (aI er (hr.mono (by first | decide | omega)) NE.pass (aa (pv 0) ah)) (aa (pv 1) ah)))))),?_⟩
 try dsimp only [aZ]
 have L:=Led.start H (fun _=>False)
 walk_at "go"
 refine ⟨t,_,_,_,rfl,ht,?_⟩
 walk_at "go"
 refine ⟨t,_,_,_,rfl,ht,?_⟩
 walk_at "go"
 exact q _ _ (L'.tup (by walk_at "mem")) L'.same
theorem wC:aq ["told", "line"] ["told", "line"] (aj (top 34)):=by walk_at "s"
def pS (K:PySem.W.Frag):Sp:=fun vs H Q _=>∃ (t l:Addr) (n:Nt) (ln:Ln),vs=[.ref t,.ref l]∧oZ K H t n∧xU n∧g9 H l ln∧rJ ln∧∀ t' H',oZ K H' t' (n.step ln)→aK H H'→Q (.ref t') H'
theorem wV (D:Dat K mg "read_on" "read_on" (top 34) ["told", "line"]) (BT:Bt mg) (NE:bh CX) (dM:Cal P w K mg base CX "end_of" 1 ["area"] pW) (gZ:Cal P w K mg base CX "ended_at" 2 ["area", "end"] nM):Cal P w K mg base CX "read_on" 3 ["told", "line"] (pS K):=by
 have S:=wC
 walk_at "d"
 ·obtain ⟨t,l,n,ln,rfl,_⟩:=h
  rfl
 obtain ⟨t,l,n,ln,rfl,hn,hok,hl,hg,q⟩:=h
 refine ⟨_,(ak (bq (aO bX (az aF (pv 1) ai (fun _ _=>rfl)) aV (aQ _)) (ao (au (bx (aa (az aF (pv 1) ai (fun _ _=>rfl)) (aa (az aF (pv 1) ai (fun _ _=>rfl)) (aa (az aF (pv 0) ai (fun _ _=>rfl)) (aa (az aF (pv 0) ai (fun _ _=>rfl)) ah))))))) aJ)
   (ak (bq (aO bX (az aF (pv 1) ai (fun _ _=>rfl)) aV (aQ _)) (ao (au (bx (aa (az aF (pv 0) ai (fun _ _=>rfl)) (aa (az aF (pv 0) ai (fun _ _=>rfl)) (aa (aX (rz rfl) rfl BT.max L3.f7 (aa (az aF (pv 0) ai (fun _ _=>rfl)) (aa (az aF (pv 1) ai (fun _ _=>rfl)) ah))) (aa (az aF (pv 0) ai (fun _ _=>rfl)) ah))))))) aJ)
   (ak (bq (aO bX (az aF (pv 1) ai (fun _ _=>rfl)) aV (aQ _)) (ao (au (bx (aa (az aF (pv 0) ai (fun _ _=>rfl)) (aa (az aF (pv 0) ai (fun _ _=>rfl)) (aa (az aF (pv 0) ai (fun _ _=>rfl)) (aa (aX (rz rfl) rfl BT.max L3.f7 (aa (az aF (pv 0) ai (fun _ _=>rfl)) (aa (az aF (pv 1) ai (fun _ _=>rfl)) ah))) ah))))))) aJ)
   (ak (bq (aO qu (az aF (pv 1) ai (fun _ _=>rfl)) (az aF (pv 0) ai (fun _ _=>rfl)) (aQ _)) (ao (au (pv 0))) aJ)
   (ao (au (bx (aa (az aF (pv 0) ai (fun _ _=>rfl)) (aa (aI gZ (hr.mono (by first | decide | omega)) NE.pass (aa (az aF (pv 0) ai (fun _ _=>rfl)) (aa (aX (ET rfl) rfl BT.min L3.uB (aa (aI dM (hr.mono (by first | decide | omega)) NE.pass (aa (az aF (pv 0) ai (fun _ _=>rfl)) ah)) (aa (az aF (pv 1) ai (fun _ _=>rfl)) ah))) ah))) (aa (az aF (pv 0) ai (fun _ _=>rfl)) (aa (az aF (pv 0) ai (fun _ _=>rfl)) ah))))))))))),?_⟩
 try dsimp only [aZ]
 obtain ⟨v,hs,hv⟩:=id hn
 have x1:¬ (("held" : Str) = "took"):=by decide +kernel
 have x2:¬ (("heard" : Str) = "took"):=by decide +kernel
 have x3:¬ (("ends" : Str) = "took"):=by decide +kernel
 have x4:¬ (("heard" : Str) = "held"):=by decide +kernel
 have x5:¬ (("ends" : Str) = "held"):=by decide +kernel
 have x6:¬ (("ends" : Str) = "heard"):=by decide +kernel
 cases hl with
 | took h ha=>
  have L:=(Led.start H (fun _=>False)).more (bg l [_,_,_]) h
  walk_at "go"
  exact q _ _ ⟨_,SqT.of (L'.tup (by walk_at "mem")),.inr ⟨_,_,_,_,rfl,rfl,L'.same _ _ ha⟩⟩ L'.same
 | held h=>
  have L:=(Led.start H (fun _=>False)).more (bg l [_,_]) h
  walk_at "go"
  refine q _ _ ⟨v,SqT.of (L'.tup (by walk_at "mem")),?_⟩ L'.same
  rcases hv with z | ⟨a,sl,f',e,ea,ev,ha⟩
  ·exact .inl z
  ·exact .inr ⟨a,sl,f',e,ea,ev,L'.same _ _ ha⟩
 | heard h=>
  have L:=(Led.start H (fun _=>False)).more (bg l [_,_]) h
  walk_at "go"
  refine q _ _ ⟨v,SqT.of (L'.tup (by walk_at "mem")),?_⟩ L'.same
  rcases hv with z | ⟨a,sl,f',e,ea,ev,ha⟩
  ·exact .inl z
  ·exact .inr ⟨a,sl,f',e,ea,ev,L'.same _ _ ha⟩
 | @ends g' e' h=>
  have L:=(Led.start H (fun _=>False)).more (bg l [_,_,_]) h
  have g1 : 1≤g':=hg
  rw [l5] at q
  walk_at "go"
  refine kJ (fun z=>?_) (fun z=>?_)
  ·rw [if_pos z] at q
   rcases hv with ⟨e,rfl⟩ | ⟨a,sl,f',e,ea,rfl,ha⟩
   ·exact absurd (hok.no e) (by omega)
   rw [ea] at q
   walk_at "go"
   refine ⟨a,_,_,_,rfl,ha,?_⟩
   walk_at "go"
   refine ⟨a,_,_,_,_,rfl,ha,fun t2 H2 ht2 s2=>?_⟩
   have hs2:=qf s2 hs
   have M:=(Led.start H2 (fun _=>False)).more (bg t2 [_,_,_]) ht2
   clear L
   walk_at "go"
   exact q _ _ ⟨_,SqT.of (L'.tup (by walk_at "mem")),.inr ⟨t2,sl,f',_,rfl,rfl,L'.tup (r:=t2) (by walk_at "mem")⟩⟩ (s2.trans L'.same)
  ·rw [if_neg z] at q
   walk_at "go"
   exact q _ _ hn (aK.refl _)
theorem yY:aq ["lines", "told", "line"] ["lines"] (aj (top 35)):=by walk_at "s"
def jK (K:PySem.W.Frag):Sp:=fun vs H Q _=>∃ (a:Addr) (ls:Lns),vs=[.ref a]∧SqL K H a (lnV ls)∧dg H ls∧eB ls∧∀ t H',oZ K H' t (kO Nt.nil ls)→aK H H'→Q (.ref t) H'
theorem zT {aN:Addr} (D:Dat K mg "read_note" "read_note" (top 35) ["lines"]) (NE:bh CX) (eX:GlV mg "NOTHING" (.ref aN)) (hN:∀ H,SqT K H aN [.int 0,.non,.int 0,.int 0]) (xM:Cal P w K mg base CX "read_on" 3 ["told", "line"] (pS K)):Cal P w K mg base CX "read_note" 4 ["lines"] (jK K):=by
 have S:=yY
 walk_at "d"
 ·obtain ⟨a,ls,rfl,_⟩:=h
  rfl
 obtain ⟨a,ls,rfl,hS,hL,hg,q⟩:=h
 refine ⟨_,(ak (aM (i:=1) S.nd rfl (by first | exact Or.inl rfl | exact Or.inr rfl) (wO eX))
   (ak (fN PassesOwn.never rfl (cA (pv 0)) (bV (i:=2) S.nd rfl (by first | exact Or.inl rfl | exact Or.inr rfl)) (ao (aM (i:=1) S.nd rfl (by first | exact Or.inl rfl | exact Or.inr rfl) (aI xM (hr.mono (by first | decide | omega)) NE.pass (aa (pv 1) (aa (pv 2) ah))))))
   (ao (au (pv 1))))),?_⟩
 try dsimp only [aZ]
 walk_at "go"
 refine c9 hS ?_
 refine jf (lnV ls) (fun i σ H'=>∃ (t:Addr) (u2:Option V),σ=[some (.ref a),some (.ref t),u2]∧oZ K H' t (kO Nt.nil (ls.take i))∧aK H H') ⟨aN,_,rfl,⟨.non,hN H,.inl ⟨rfl,rfl⟩⟩,aK.refl _⟩ (fun i σ H' _ ⟨_,_,_,_,sm⟩=>sm.seq hS) ?_ ?_
 ·rintro i v σ HG hv ⟨t,u2,rfl,hn,sm⟩
  obtain ⟨x,hx,rfl⟩:=oq hv
  have xm:=List.mem_of_getElem? hx
  try dsimp only [bK]
  walk_at "go"
  refine ⟨t,x.1,_,x.2,rfl,hn,qU Fq fun y hy=>hg y (List.mem_of_mem_take hy),(hL x xm).same sm,hg x xm,fun t2 H2 hn2 s2=>?_⟩
  walk_at "go"
  exact ⟨t2,_,rfl,by rw [uf hx];exact hn2,sm.trans s2⟩
 ·rintro σ HG ⟨t,u2,rfl,hn,sm⟩
  rw [gy,List.take_length] at hn
  walk_at "go"
  exact q _ _ hn sm
theorem yT:aq ["lines"] ["lines"] (aj (top 37)):=by walk_at "s"
def uY (K:PySem.W.Frag):Sp:=fun vs H Q _=>∃ (a:Addr) (ls:Lns),vs=[.ref a]∧SqL K H a (lnV ls)∧dg H ls∧ls.length≤400∧∀ l H',H l=none→H' l=some (.lst (lnV (ls.filter isT)))→aK H H'→Q (.ref l) H'
theorem mQ {H:Hp} {x:Addr×Ln} (h:g9 H x.1 x.2):(isT x=true∧∃ g ar,H x.1=some (.tup [.str "took",.int g,.ref ar])∧gOf x=g)∨(isT x=false∧∃ w v,¬ (w=("took" : Str))∧H x.1=some (.tup (.str w::v))):=by
 obtain ⟨t,l⟩:=x
 cases h with
 | took h ha=>exact .inl ⟨rfl,_,_,h,rfl⟩
 | held h=>exact .inr ⟨rfl,_,_,by decide +kernel,h⟩
 | heard h=>exact .inr ⟨rfl,_,_,by decide +kernel,h⟩
 | ends h=>exact .inr ⟨rfl,_,_,by decide +kernel,h⟩
theorem DX {v:V} {xs:List V}:atI (v::xs) 0=some v:=cj (j:=0) rfl
theorem zO (D:Dat K mg "tooks_of" "tooks_of" (top 37) ["lines"]):Cal P w K mg base CX "tooks_of" 2 ["lines"] (uY K):=by
 have S:=yT
 walk_at "d"
 ·obtain ⟨a,ls,rfl,_⟩:=h
  rfl
 obtain ⟨a,ls,rfl,hS,hL,h100,q⟩:=h
 refine ⟨_,(ao (au (iA (g:=(bK 0)) rfl (cA (pv 0)) (f9 (own:=["line"]) (cap:=[]) (aj (top 37)).names ["lines"] rfl rfl rfl (by decide +kernel)) (fun _ _ _ _=>(bV (i:=0) (show (kY ["lines"] ["line"] []).Nodup by decide +kernel) rfl (by first | exact Or.inl rfl | exact Or.inr rfl))) (fun _ _ _ _=>ql (aO bX (az (ow (K:=K) rfl) (pv 0) ai (fun _ _=>rfl)) aV (aQ _))) (fun _ _ _ _=>(pv 0))))),?_⟩
 try dsimp only [aZ]
 walk_at "go"
 refine c9 hS ?_
 refine fB (lnV ls) (fun i ys H'=>ys=lnV ((ls.take i).filter isT)∧H'=H) ⟨rfl,rfl⟩ (fun i ys H' hi ⟨e,e2⟩=>⟨e2▸hS,by
  rw [e,gy]
  have h1:=List.length_filter_le isT (ls.take i)
  rw [List.length_take] at h1
  exact Nat.le_of_lt (small1000 (by omega))⟩) ?_ ?_
 ·rintro i v ys H1 hv ⟨rfl,rfl⟩
  obtain ⟨x,hx,rfl⟩:=oq hv
  try dsimp only [bK]
  rcases mQ (hL x (List.mem_of_getElem? hx)) with ⟨b,g,ar,ht,_⟩ | ⟨b,wd,vs,nw,ht⟩
  ·have L:=(Led.start H1 (fun _=>False)).more (bg x.1 [_,_,_]) ht
   walk_at "go"
   exact ⟨by rw [DI hx b,Af],rfl⟩
  ·walk_at "go"
   refine AH (SqT.of ht) DX ?_
   walk_at "go"
   exact ⟨by rw [GO hx b],rfl⟩
 ·rintro ys H1 ⟨rfl,rfl⟩ lc nlc
  rw [gy,List.take_length]
  exact q _ _ nlc ay (bS nlc _)
theorem p9:aq ["lines"] ["lines"] (aj (top 38)):=by walk_at "s"
def jX (K:PySem.W.Frag):Sp:=fun vs H Q _=>∃ (a:Addr) (ls:Lns),vs=[.ref a]∧SqL K H a (lnV ls)∧dg H ls∧eB ls∧ls.length≤400∧∀ H',aK H H'→Q (.int ((gts ls).foldl max 0)) H'
theorem Di {ls:Lns} (h:eB ls):∀ a∈gts ls,1≤a:=fun a ha=>by
 obtain ⟨x,hx,rfl⟩:=List.mem_map.mp ha
 obtain ⟨hm,hb⟩:=List.mem_filter.mp hx
 have:=h x hm
 obtain ⟨t,l⟩:=x
 cases l with
 | took g sl f e=>exact this
 | held m=>cases hb
 | heard m=>cases hb
 | ends g e=>cases hb
theorem qF (D:Dat K mg "greatest_taken" "greatest_taken" (top 38) ["lines"]) (BT:Bt mg) (NE:bh CX) (uw:Cal P w K mg base CX "tooks_of" 2 ["lines"] (uY K)):Cal P w K mg base CX "greatest_taken" 3 ["lines"] (jX K):=by
 have S:=p9
 walk_at "d"
 ·obtain ⟨a,ls,rfl,_⟩:=h
  rfl
 obtain ⟨a,ls,rfl,hS,hL,hg,h100,q⟩:=h
 refine ⟨_,(ao (au (Cg rfl rfl BT.max (iA (g:=(bK 0)) rfl (cA (aI uw (hr.mono (by first | decide | omega)) NE.pass (aa (pv 0) ah))) (f9 (own:=["line"]) (cap:=[]) (aj (top 38)).names ["lines"] rfl rfl rfl (by decide +kernel)) (fun _ _ _ _=>(bV (i:=0) (show (kY ["lines"] ["line"] []).Nodup by decide +kernel) rfl (by first | exact Or.inl rfl | exact Or.inr rfl))) (fun _ _ _ _=>eT) (fun _ _ _ _=>(az (ow (K:=K) rfl) (pv 0) ai (fun _ _=>rfl)))) ai))),?_⟩
 try dsimp only [aZ]
 walk_at "go"
 refine ⟨a,ls,rfl,hS,hL,h100,fun l1 H1 nl1 hl1 s1=>?_⟩
 walk_at "go"
 refine c9 (SqL.of hl1) ?_
 have hfl:=List.length_filter_le isT ls
 refine fB (lnV (ls.filter isT)) (fun i ys H'=>ys=(((ls.filter isT).take i).map gOf).map V.int∧H'=H1) ⟨rfl,rfl⟩ (fun i ys H' hi ⟨e,e2⟩=>⟨e2▸SqL.of hl1,by
  rw [e,List.length_map,List.length_map,List.length_take]
  exact Nat.le_of_lt (small1000 (by omega))⟩) ?_ ?_
 ·rintro i v ys H2 hv ⟨rfl,rfl⟩
  obtain ⟨x,hx,rfl⟩:=oq hv
  obtain ⟨xm,xb⟩:=List.mem_filter.mp (List.mem_of_getElem? hx)
  try dsimp only [bK]
  rcases mQ ((hL x xm).same s1) with ⟨b,g,ar,ht,eg⟩ | ⟨b,_⟩
  ·have L:=(Led.start H2 (fun _=>False)).more (bg x.1 [_,_,_]) ht
   walk_at "go"
   exact ⟨by rw [take_snoc hx,List.map_append,List.map_append,← eg];rfl,rfl⟩
  ·rw [xb] at b;cases b
 ·rintro ys H2 ⟨rfl,rfl⟩ lc nlc
  rw [gy,List.take_length]
  walk_at "go"
  have sx:=s1.trans (bS nlc (.lst (((ls.filter isT).map gOf).map V.int)))
  have hp:=Di hg
  refine Gv (ns:=gts ls) (SqL.of ay) (fun e=>?_) (fun M hM hx=>?_)
  ·have:=q _ sx
   rw [e] at this
   exact this
  ·have:=q _ sx
   rw [DH (.inr hM) hx (by have:=hp M hM;omega)] at this
   exact this
end
def pO (H:Hp) (t:Addr) (x y:Int):Prop:=H t=some (.tup [.int x,.int y])
def bnd (m c:Int):Int:=if c=0 then m else m+1
theorem xo {m c b:Int} (c0 : 0≤c):HT.lexLt [m,c] [b,0]=decide (m < b):=by
 rw [HT.gS]
 by_cases h:m=b
 ·rw [if_pos h,HT.gS,decide_eq_false (show ¬ m < b by omega)]
  by_cases h2:c=0
  ·rw [if_pos h2];rfl
  ·rw [if_neg h2,decide_eq_false (show ¬ c < 0 by omega)]
 ·rw [if_neg h]
section
variable {P:Program} {w:World} {K:PySem.W.Frag} {mg:Str→Option Value} {base:Heap} {CX:CXT} {C:Addr}
theorem qc:aq ["place"] ["place"] (aj (top 27)):=by walk_at "s"
def nO:Sp:=fun vs H Q _=>∃ (t:Addr) (m c:Int),vs=[.ref t]∧pO H t m c∧Q (.int (bnd m c)) H
theorem qH (D:Dat K mg "bound_of" "bound_of" (top 27) ["place"]):Cal P w K mg base CX "bound_of" 1 ["place"] nO:=by
 have S:=qc
 walk_at "d"
 ·obtain ⟨t,m,c,rfl,_⟩:=h
  rfl
 obtain ⟨t,m,c,rfl,ht,q⟩:=h
 refine ⟨_,(ao (au (eU (aO bX (az aF (pv 0) ai (fun _ _=>rfl)) ai (aQ _)) (az aF (pv 0) ai (fun _ _=>rfl)) (aL bB (az aF (pv 0) ai (fun _ _=>rfl)) ai)))),?_⟩
 try dsimp only [aZ]
 have L:=(Led.start H (fun _=>False)).more (bg t [.int m,.int c]) ht
 walk_at "go"
 unfold bnd at q
 refine bN (fun cc=>?_) (fun cc=>?_)
 ·rw [if_pos cc] at q
  walk_at "go"
  exact q
 ·rw [if_neg cc] at q
  walk_at "go"
  exact q
theorem wD:aq ["place", "bound"] ["place", "bound"] (aj (top 28)):=by walk_at "s"
def jR:Sp:=fun vs H Q _=>∃ (t:Addr) (m c b:Int),vs=[.ref t,.int b]∧pO H t m c∧0≤c∧∀ r H',pO H' r (if m < b then b else m) (if m < b then 0 else c)→aK H H'→Q (.ref r) H'
theorem wW (D:Dat K mg "raised" "raised" (top 28) ["place", "bound"]) (BT:Bt mg):Cal P w K mg base CX "raised" 1 ["place", "bound"] jR:=by
 have S:=wD
 walk_at "d"
 ·obtain ⟨t,m,c,b,rfl,_⟩:=h
  rfl
 obtain ⟨t,m,c,b,rfl,ht,c0,q⟩:=h
 refine ⟨_,(ao (au (aX (GV rfl (IE hr)) rfl BT.max L3.f7 (aa (pv 0) (aa (bx (aa (pv 1) (aa ai ah))) ah))))),?_⟩
 try dsimp only [aZ]
 have L:=(Led.start H (fun _=>False)).more (bg t [.int m,.int c]) ht
 walk_at "go"
 refine Dw (L'.tup (by walk_at "mem")) (L'.tup (by walk_at "mem")) ?_
 rw [xo c0]
 refine q _ _ ?_ L'.same
 by_cases h:m < b
 ·rw [if_pos h,if_pos h,if_pos (decide_eq_true h)]
  exact L'.tup (by walk_at "mem")
 ·rw [if_neg h,if_neg h,if_neg (by rw [decide_eq_false h];exact Bool.false_ne_true)]
  exact L'.tup (by walk_at "mem")
theorem lI:aq ["shape", "place"] ["shape", "place"] (aj (top 29)):=by walk_at "s"
def yJ (C:Addr):Sp:=fun vs H Q _=>∃ (p t:Addr) (c s m k:Int),vs=[.ref p,.ref t]∧D0 C H p c s∧pO H t m k∧∀ r H',pO H' r (if k+1=c then m+1 else m) (if k+1=c then 0 else k+1)→aK H H'→Q (.ref r) H'
theorem lM (D:Dat K mg "next_place" "next_place" (top 29) ["shape", "place"]) (SC:ShC K C):Cal P w K mg base CX "next_place" 1 ["shape", "place"] (yJ C):=by
 have S:=lI
 walk_at "d"
 ·obtain ⟨p,t,c,s,m,k,rfl,_⟩:=h
  rfl
 obtain ⟨p,t,c,s',m,k,rfl,⟨dx,hp⟩,ht,q⟩:=h
 refine ⟨_,(ak (bq (aO bX (aL bB (az aF (pv 1) ai (fun _ _=>rfl)) ai) (aP (pv 0) rfl) (aQ _)) (ao (au (bx (aa (aL bB (az aF (pv 1) ai (fun _ _=>rfl)) ai) (aa ai ah))))) aJ)
   (ao (au (bx (aa (az aF (pv 1) ai (fun _ _=>rfl)) (aa (aL bB (az aF (pv 1) ai (fun _ _=>rfl)) ai) ah)))))),?_⟩
 try dsimp only [aZ]
 have L:=(Led.start H (fun _=>False)).more (bg t [.int m,.int k]) ht
 walk_at "go"
 refine ⟨p,C,dx,_,_,rfl,hp,SC.cl,SC.nc,El c s',?_⟩
 walk_at "go"
 refine bN (fun cc=>?_) (fun cc=>?_)
 ·walk_at "go"
  refine q _ _ ?_ L'.same
  rw [if_pos cc,if_pos cc]
  exact L'.tup (by walk_at "mem")
 ·walk_at "go"
  refine q _ _ ?_ L'.same
  rw [if_neg cc,if_neg cc]
  exact L'.tup (by walk_at "mem")
end
section
variable {P:Program} {w:World} {K:PySem.W.Frag} {mg:Str→Option Value} {base:Heap} {C CW CR CN:Addr}
theorem B5:aq ["self", "reading"] ["self", "reading"] (aj (inClass (top 9) 0)):=by walk_at "s"
theorem CY (D:uJ K mg "Wait" "Wait.__init__" CW (inClass (top 9) 0) ["self", "reading"]) (gp:wc K mg "RiseError" CR) (EP:pB K CW "reading"):xV P w K mg base "Wait" CW 1 ["self", "reading"] (iw CW "reading"):=by
 have S:=B5
 refine D.ok' S (fun vs H Q E h=>?_) (fun f cdv A outer s H vs Q E hr h=>?_)
 ·obtain ⟨x,v,rfl,_⟩:=h
  rfl
 obtain ⟨x,v,rfl,hx,q⟩:=h
 refine ⟨_,(ak (bE (qp gp (aa (pv 0) (aa aV ah))))
   (ao (vo (pv 0) (pv 1) rfl))),?_⟩
 try dsimp only [aZ]
 walk_at "go"
 refine qS hx D.ok ?_
 walk_at "go"
 exact AA hx EP fun d nd=>q d nd
theorem nT:aq ["area", "place", "reading"] ["area", "place", "reading"] (aj (top 30)):=by walk_at "s"
def due (m f r:Int):Int:=max (max m r) f
def jT:Sp:=fun vs H Q _=>∃ (a t:Addr) (sl f e m k r:Int),vs=[.ref a,.ref t,.int r]∧rV H a sl f e∧pO H t m k∧Q (.int (due m f r)) H
theorem n9 {CX:CXT} (D:Dat K mg "moment_at" "moment_at" (top 30) ["area", "place", "reading"]) (BT:Bt mg) (NE:bh CX) (er:Cal P w K mg base CX "first_of" 1 ["area"] vf):Cal P w K mg base CX "moment_at" 2 ["area", "place", "reading"] jT:=by
 have S:=nT
 walk_at "d"
 ·obtain ⟨a,t,sl,f,e,m,k,r,rfl,_⟩:=h
  rfl
 obtain ⟨a,t,sl,f',e,m,k,r,rfl,ha,ht,q⟩:=h
 refine ⟨_,(ao (au (aX (GW rfl) rfl BT.max L3.f7 (aa (az aF (pv 1) ai (fun _ _=>rfl)) (aa (pv 2) (aa (aI er (hr.mono (by first | decide | omega)) NE.pass (aa (pv 0) ah)) ah)))))),?_⟩
 try dsimp only [aZ]
 have L:=((Led.start H (fun _=>False)).more (bg t [.int m,.int k]) ht).more (bg a [.int sl,.int f',.int e]) ha
 walk_at "go"
 refine ⟨a,sl,f',e,rfl,ha,?_⟩
 walk_at "go"
 exact q
theorem BU:aq ["shape", "far", "area", "place", "reading", "moment", "count", "mark"] ["shape", "far", "area", "place", "reading"] (aj (top 31)):=by walk_at "s"
def cnt (m f r k:Int):Int:=if due m f r=m then k else 0
def yL (C CN CW:Addr):Sp:=fun vs H Q E=>∃ (p a t:Addr) (c s sl f e m k r fa:Int),vs=[.ref p,.int fa,.ref a,.ref t,.int r]∧ShN c s∧D0 C H p c s∧rV H a sl f e∧pO H t m k ∧
 (e≤due m f r→E (.ref CN) none H)∧(¬ e≤due m f r→r+fa < due m f r→∀ d H',aK H H'→H' d=some (.xd [("reading",.int (due m f r - fa))])→E (.ref CW) (some d) H') ∧
 (¬ e≤due m f r→¬ r+fa < due m f r→∀ x y H',H' x=some (.tup [.int (mk c s (due m f r) sl (cnt m f r k)),.ref y])→pO H' y (if cnt m f r k+1=c then due m f r+1 else due m f r) (if cnt m f r k+1=c then 0 else cnt m f r k+1)→aK H H'→Q (.ref x) H')
theorem CF (D:Dat K mg "made" "made" (top 31) ["shape", "far", "area", "place", "reading"]) (BT:Bt mg) (NE:bh (CX1 P w)) (k9:lU K mg "NoRoom" CN) (uG:xV P w K mg base "Wait" CW 1 ["self", "reading"] (iw CW "reading"))
  (fZ:Cal P w K mg base (CX1 P w) "moment_at" 2 ["area", "place", "reading"] jT) (dM:Cal P w K mg base (CX1 P w) "end_of" 1 ["area"] pW) (cD:Cal P w K mg base (CX1 P w) "slot_of" 1 ["area"] pX)
  (xN:Cal P w K mg base (CX1 P w) "mark_of" 1 ["shape", "moment", "slot", "count"] (yK C)) (oS:Cal P w K mg base (CX1 P w) "next_place" 1 ["shape", "place"] (yJ C)):Cal P w K mg base (CX1 P w) "made" 3 ["shape", "far", "area", "place", "reading"] (yL C CN CW):=by
 have S:=BU
 refine D.okR S (fun vs H Q E h=>?_) (fun f cdv A outer s H vs Q E hr h=>?_)
 ·obtain ⟨p,a,t,c,s,sl,f,e,m,k,r,fa,rfl,_⟩:=h
  rfl
 obtain ⟨p,a,t,c,s',sl,f',e,m,k,r,fa,rfl,N,hp,ha,ht,q1,q2,q3⟩:=h
 refine ⟨_,(ak (aM (i:=5) S.nd rfl (by first | exact Or.inl rfl | exact Or.inr rfl) (aI fZ (hr.mono (by first | decide | omega)) NE.pass (aa (pv 2) (aa (pv 3) (aa (pv 4) ah)))))
   (ak (bq (aO EC (pv 5) (aI dM (hr.mono (by first | decide | omega)) NE.pass (aa (pv 2) ah)) (aQ _)) (ao (fK k9 rfl bu (aa aV ah))) aJ)
   (ak (bq (aO iB (pv 5) (aL bB (pv 4) (pv 1)) (aQ _)) (ao (mE uG (hr.mono (by first | decide | omega)) rfl bu (aa (aL i9 (pv 5) (pv 1)) ah))) aJ)
   (ak (aM (i:=6) S.nd rfl (by first | exact Or.inl rfl | exact Or.inr rfl) (eU (aO bX (pv 5) (az aF (pv 3) ai (fun _ _=>rfl)) (aQ _)) (az aF (pv 3) ai (fun _ _=>rfl)) ai))
   (ak (aM (i:=7) S.nd rfl (by first | exact Or.inl rfl | exact Or.inr rfl) (aI xN (hr.mono (by first | decide | omega)) NE.pass (aa (pv 0) (aa (pv 5) (aa (aI cD (hr.mono (by first | decide | omega)) NE.pass (aa (pv 2) ah)) (aa (pv 6) ah))))))
   (ao (au (bx (aa (pv 7) (aa (aI oS (hr.mono (by first | decide | omega)) NE.pass (aa (pv 0) (aa (bx (aa (pv 5) (aa (pv 6) ah))) ah))) ah)))))))))),?_⟩
 try dsimp only [aZ]
 have L:=((Led.start H (fun _=>False)).more (bg t [.int m,.int k]) ht).more (bg a [.int sl,.int f',.int e]) ha
 walk_at "go"
 refine ⟨a,t,sl,f',e,m,k,r,rfl,ha,ht,?_⟩
 have sh:=N
 have F0:cnt m f' r k=if due m f' r=m then k else 0:=rfl
 generalize due m f' r=du at *
 generalize cnt m f' r k=cn at *
 walk_at "go"
 refine ⟨a,sl,f',e,rfl,ha,?_⟩
 walk_at "go"
 refine bN (fun b1=>?_) (fun b1=>?_)
 ·walk_at "go"
  exact q1 b1
 walk_at "go"
 refine bN (fun b2=>?_) (fun b2=>?_)
 ·walk_at "go"
  exact je fun d H' sm hd=>q2 (by omega) b2 d H' sm hd
 walk_at "go"
 refine bN (fun b3=>?_) (fun b3=>?_)
 all_goals (walk_at "go")
 all_goals (first | rw [if_pos b3] at F0 | rw [if_neg b3] at F0)
 all_goals subst F0
 all_goals (refine ⟨a,sl,f',e,rfl,ha,?_⟩;walk_at "go")
 all_goals (refine ⟨p,c,s',_,sl,_,rfl,sh,hp,?_⟩;walk_at "go")
 all_goals (refine ⟨p,_,c,s',_,_,rfl,hp.elim fun dx h=>⟨dx,L'.same _ _ h⟩,L'.tup (by walk_at "mem"),fun y HY hy sY=>?_⟩)
 all_goals (have L:=L'.keep sY;walk_at "go")
 all_goals exact q3 (by omega) (by omega) _ y _ (L'.tup (by walk_at "mem")) (by have z:=L'.same;first | exact L'.st _ (by walk_at "mem") | exact (show aK HY _ by assumption) _ _ hy) L'.same
end
def ff (H:Hp) (v:V) (pl:Option (Int×Int)):Prop:=(pl=none∧v = .non)∨∃ (t:Addr) (m k:Int),pl=some (m,k)∧v = .ref t∧H t=some (.tup [.int m,.int k])
theorem ff.same {H H':Hp} {v:V} {pl:Option (Int×Int)} (h:ff H v pl) (s:aK H H'):ff H' v pl:=by
 rcases h with h | ⟨t,m,k,e,ev,ht⟩
 ·exact .inl h
 ·exact .inr ⟨t,m,k,e,ev,s _ _ ht⟩
def e9 (K:PySem.W.Frag) (H:Hp) (s:Addr) (pl:Option (Int×Int)) (n:Nt) (g:Int):Prop:=∃ (v:V) (t:Addr),H s=some (.tup [v,.ref t,.int g])∧ff H v pl∧oZ K H t n
theorem e9.same {K:PySem.W.Frag} {H H':Hp} {s:Addr} {pl:Option (Int×Int)} {n:Nt} {g:Int} (h:e9 K H s pl n g) (sm:aK H H'):e9 K H' s pl n g:=by
 obtain ⟨v,t,hs,hp,hn⟩:=h
 exact ⟨v,t,sm _ _ hs,hp.same sm,hn.same sm⟩
theorem rG.same {C:Addr} {H H':Hp} {p:Addr} {sh:V} {far room term:Int} {ws:List Str} (h:rG C H p sh far room term ws) (sm:aK H H'):rG C H' p sh far room term ws:=by
 obtain ⟨dx,tr,ms,h1,h2,pm⟩:=h
 exact ⟨dx,tr,ms,sm _ _ h1,sm _ _ h2,pm⟩
def Bs (H:Hp) (v:V) (ar:Option (Int×Int×Int)):Prop:=(ar=none∧v = .non)∨∃ (a:Addr) (sl f e:Int),ar=some (sl,f,e)∧v = .ref a∧H a=some (.tup [.int sl,.int f,.int e])
section
variable {P:Program} {w:World} {K:PySem.W.Frag} {mg:Str→Option Value} {base:Heap} {CX:CXT} {CD CA CU CS:Addr}
theorem sI:aq ["stand"] ["stand"] (aj (top 49)):=by walk_at "s"
def pV (K:PySem.W.Frag):Sp:=fun vs H Q _=>∃ (s:Addr) (pl:Option (Int×Int)) (n:Nt) (g:Int),vs=[.ref s]∧e9 K H s pl n g∧Q (.int n.hd) H
theorem tL (D:Dat K mg "held_in" "held_in" (top 49) ["stand"]):Cal P w K mg base CX "held_in" 1 ["stand"] (pV K):=by
 have S:=sI
 walk_at "d"
 ·obtain ⟨s,pl,n,g,rfl,_⟩:=h
  rfl
 obtain ⟨s,pl,n,g,rfl,⟨v,t,hs,hp,av,hn,hv⟩,q⟩:=h
 refine ⟨_,(ao (au (az aF (az aF (pv 0) ai (fun _ _=>rfl)) ai (fun _ _=>rfl)))),?_⟩
 try dsimp only [aZ]
 have L:=(Led.start H (fun _=>False)).more (bg s [_,_,_]) hs
 walk_at "go"
 exact q
theorem p7:aq ["stand"] ["stand"] (aj (top 50)):=by walk_at "s"
def mw (K:PySem.W.Frag):Sp:=fun vs H Q _=>∃ (s:Addr) (pl:Option (Int×Int)) (n:Nt) (g:Int),vs=[.ref s]∧e9 K H s pl n g∧Q (.int n.hr) H
theorem qC (D:Dat K mg "heard_in" "heard_in" (top 50) ["stand"]):Cal P w K mg base CX "heard_in" 1 ["stand"] (mw K):=by
 have S:=p7
 walk_at "d"
 ·obtain ⟨s,pl,n,g,rfl,_⟩:=h
  rfl
 obtain ⟨s,pl,n,g,rfl,⟨v,t,hs,hp,av,hn,hv⟩,q⟩:=h
 refine ⟨_,(ao (au (az aF (az aF (pv 0) ai (fun _ _=>rfl)) ai (fun _ _=>rfl)))),?_⟩
 try dsimp only [aZ]
 have L:=(Led.start H (fun _=>False)).more (bg s [_,_,_]) hs
 walk_at "go"
 exact q
theorem sP:aq ["stand"] ["stand"] (aj (top 48)):=by walk_at "s"
def jY (K:PySem.W.Frag):Sp:=fun vs H Q _=>∃ (s:Addr) (pl:Option (Int×Int)) (n:Nt) (g:Int),vs=[.ref s]∧e9 K H s pl n g∧∀ v,Bs H v n.ar→Q v H
theorem tR (D:Dat K mg "area_in" "area_in" (top 48) ["stand"]):Cal P w K mg base CX "area_in" 1 ["stand"] (jY K):=by
 have S:=sP
 walk_at "d"
 ·obtain ⟨s,pl,n,g,rfl,_⟩:=h
  rfl
 obtain ⟨s,pl,n,g,rfl,⟨v,t,hs,hp,av,hn,hv⟩,q⟩:=h
 refine ⟨_,(ao (au (az aF (az aF (pv 0) ai (fun _ _=>rfl)) ai (fun _ _=>rfl)))),?_⟩
 try dsimp only [aZ]
 have L:=(Led.start H (fun _=>False)).more (bg s [_,_,_]) hs
 walk_at "go"
 exact q av hv
theorem pZ:aq ["note"] ["note"] (aj (top 51)):=by walk_at "s"
def iX (K:PySem.W.Frag):Sp:=fun vs H Q _=>∃ (t:Addr) (n:Nt),vs=[.ref t]∧oZ K H t n∧∀ p H',H' p=some (.tup [.int (max n.hd n.hr),.int 0])→aK H H'→Q (.ref p) H'
theorem qy (D:Dat K mg "start_by" "start_by" (top 51) ["note"]) (BT:Bt mg):Cal P w K mg base CX "start_by" 1 ["note"] (iX K):=by
 have S:=pZ
 walk_at "d"
 ·obtain ⟨t,n,rfl,_⟩:=h
  rfl
 obtain ⟨t,n,rfl,⟨av,hn,hv⟩,q⟩:=h
 refine ⟨_,(ao (au (bx (aa (aX (rz rfl) rfl BT.max L3.f7 (aa (az aF (pv 0) ai (fun _ _=>rfl)) (aa (az aF (pv 0) ai (fun _ _=>rfl)) ah))) (aa ai ah))))),?_⟩
 try dsimp only [aZ]
 have L:=Led.start H (fun _=>False)
 walk_at "go"
 exact q _ _ (L'.tup (by walk_at "mem")) L'.same
theorem sC:aq ["place"] ["place"] (aj (top 52)):=by walk_at "s"
def eS (CD:Addr):Sp:=fun vs H Q E=>∃ (v:V) (pl:Option (Int×Int)),vs=[v]∧ff H v pl∧(pl=none→E (.ref CD) none H)∧(pl.isSome=true→Q .non H)
theorem tD (D:Dat K mg "need_up" "need_up" (top 52) ["place"]) (NE:bh (CX1 P w)) (G6:lU K mg "Down" CD):Cal P w K mg base (CX1 P w) "need_up" 1 ["place"] (eS CD):=by
 have S:=sC
 refine D.okR S (fun vs H Q E h=>?_) (fun f cdv A outer s H vs Q E hr h=>?_)
 ·obtain ⟨v,pl,rfl,_⟩:=h
  rfl
 obtain ⟨v,pl,rfl,hp,qe,qq⟩:=h
 refine ⟨_,(ao (bq (gO (i7 (pv 0))) (ao (fK G6 rfl bu (aa aV ah))) aJ)),?_⟩
 try dsimp only [aZ]
 walk_at "go"
 rcases hp with ⟨e,rfl⟩ | ⟨t,m,k,e,rfl,ht⟩
 ·refine kK rfl ?_
  walk_at "go"
  exact qe e
 ·refine bN (fun z=>nomatch z) fun _=>?_
  walk_at "go"
  exact qq (by rw [e];rfl)
theorem nR:aq ["area"] ["area"] (aj (top 53)):=by walk_at "s"
def jS (CA:Addr):Sp:=fun vs H Q E=>∃ (v:V) (ar:Option (Int×Int×Int)),vs=[v]∧Bs H v ar∧(ar=none→E (.ref CA) none H)∧(ar.isSome=true→Q .non H)
theorem n8 (D:Dat K mg "need_area" "need_area" (top 53) ["area"]) (NE:bh (CX1 P w)) (Bh:lU K mg "NoArea" CA):Cal P w K mg base (CX1 P w) "need_area" 1 ["area"] (jS CA):=by
 have S:=nR
 refine D.okR S (fun vs H Q E h=>?_) (fun f cdv A outer s H vs Q E hr h=>?_)
 ·obtain ⟨v,ar,rfl,_⟩:=h
  rfl
 obtain ⟨v,ar,rfl,hp,qe,qq⟩:=h
 refine ⟨_,(ao (bq (gO (i7 (pv 0))) (ao (fK Bh rfl bu (aa aV ah))) aJ)),?_⟩
 try dsimp only [aZ]
 walk_at "go"
 rcases hp with ⟨e,rfl⟩ | ⟨a,sl,f',e',e,rfl,ht⟩
 ·refine kK rfl ?_
  walk_at "go"
  exact qe e
 ·refine bN (fun z=>nomatch z) fun _=>?_
  walk_at "go"
  exact qq (by rw [e];rfl)
def gb (H0 H:Hp) (t:Addr) (v:V) (ls:Lns) (pv:V):Prop:=∃ l,H t=some (.tup [v,.ref l,pv])∧H0 l=none∧H l=some (.lst (lnV ls))∧dg H ls
theorem sN:aq ["stand"] ["stand"] (aj (top 54)):=by walk_at "s"
def mz (K:PySem.W.Frag) (CD:Addr):Sp:=fun vs H Q E=>∃ (s:Addr) (pl:Option (Int×Int)) (n:Nt) (g:Int),vs=[.ref s]∧e9 K H s pl n g∧(pl=none→E (.ref CD) none H)∧(pl.isSome=true→∀ t H',gb H H' t .non [] .non→aK H H'→Q (.ref t) H')
theorem tP (D:Dat K mg "falling" "falling" (top 54) ["stand"]) (NE:bh (CX1 P w)) (bI:Cal P w K mg base (CX1 P w) "need_up" 1 ["place"] (eS CD)):Cal P w K mg base (CX1 P w) "falling" 2 ["stand"] (mz K CD):=by
 have S:=sN
 refine D.okR S (fun vs H Q E h=>?_) (fun f cdv A outer s H vs Q E hr h=>?_)
 ·obtain ⟨s,pl,n,g,rfl,_⟩:=h
  rfl
 obtain ⟨s,pl,n,g,rfl,⟨v,t,hs,hp,hn⟩,qe,qq⟩:=h
 refine ⟨_,(ak (bE (dh bI (hr.mono (by first | decide | omega)) bu (aa (az aF (pv 0) ai (fun _ _=>rfl)) ah)))
   (ao (au (bx (aa j8 (aa (bM ah) (aa j8 ah))))))),?_⟩
 try dsimp only [aZ]
 have L:=(Led.start H (fun _=>False)).more (bg s [_,_,_]) hs
 walk_at "go"
 refine ⟨v,pl,rfl,hp,qe,fun hsome=>?_⟩
 walk_at "go"
 exact qq hsome _ _ ⟨_,L'.tup (by walk_at "mem"),by assumption,L'.eo .head,fun _ h=>by simp at h⟩ L'.same
theorem wB:aq ["stand"] ["stand"] (aj (top 55)):=by walk_at "s"
def pR (K:PySem.W.Frag) (CU:Addr):Sp:=fun vs H Q E=>∃ (s:Addr) (pl:Option (Int×Int)) (n:Nt) (g:Int),vs=[.ref s]∧e9 K H s pl n g∧(pl.isSome=true→E (.ref CU) none H)∧(pl=none→∀ t p H',gb H H' t .non [] (.ref p)→H' p=some (.tup [.int (max n.hd n.hr),.int 0])→aK H H'→Q (.ref t) H')
theorem wU (D:Dat K mg "rising" "rising" (top 55) ["stand"]) (NE:bh (CX1 P w)) (Ku:lU K mg "Up" CU) (dm:Cal P w K mg base (CX1 P w) "start_by" 1 ["note"] (iX K)):Cal P w K mg base (CX1 P w) "rising" 2 ["stand"] (pR K CU):=by
 have S:=wB
 refine D.okR S (fun vs H Q E h=>?_) (fun f cdv A outer s H vs Q E hr h=>?_)
 ·obtain ⟨s,pl,n,g,rfl,_⟩:=h
  rfl
 obtain ⟨s,pl,n,g,rfl,⟨v,t,hs,hp,hn⟩,qe,qq⟩:=h
 refine ⟨_,(ak (bq (gO (vq (az aF (pv 0) ai (fun _ _=>rfl)))) (ao (fK Ku rfl bu (aa aV ah))) aJ)
   (ao (au (bx (aa j8 (aa (bM ah) (aa (aI dm (hr.mono (by first | decide | omega)) NE.pass (aa (az aF (pv 0) ai (fun _ _=>rfl)) ah)) ah))))))),?_⟩
 try dsimp only [aZ]
 have L:=(Led.start H (fun _=>False)).more (bg s [_,_,_]) hs
 walk_at "go"
 rcases hp with ⟨e,rfl⟩ | ⟨t2,m,k,e,rfl,ht⟩
 ·refine AN rfl ?_
  walk_at "go"
  obtain ⟨lx,elx⟩:∃ z,z=l':=⟨_,rfl⟩
  subst elx
  have nlx:H lx=none:=n'
  have M:=L'
  clear L L'
  refine ⟨t,n,rfl,hn.same M.same,fun p H2 hp2 s2=>?_⟩
  have N:=(M.keep s2).more (bg p [_,_]) hp2
  clear M
  walk_at "go"
  exact qq e _ p _ ⟨lx,L'.tup (by walk_at "mem"),nlx,L'.eo .head,fun _ h=>by simp at h⟩ (L'.tup (r:=p) (by walk_at "mem")) L'.same
 ·refine AM (fun z=>nomatch z) ?_
  walk_at "go"
  exact qe (by rw [e];rfl)
theorem wA:aq ["settings", "stand", "grant", "area", "place"] ["settings", "stand", "grant", "area"] (aj (top 56)):=by walk_at "s"
def jv (m k b:Int):Int×Int:=(if m < b then b else m,if m < b then 0 else k)
def pQ (K:PySem.W.Frag) (CD CS:Addr):Sp:=fun vs H Q E=>∃ (p s a:Addr) (sh:V) (far room term:Int) (ws:List Str) (pl:Option (Int×Int)) (n:Nt) (g gr sl f e:Int),vs=[.ref p,.ref s,.int gr,.ref a]∧rG CS H p sh far room term ws∧e9 K H s pl n g∧(∀ m k,pl=some (m,k)→0≤k)∧H a=some (.tup [.int sl,.int f,.int e]) ∧
 (pl=none→E (.ref CD) none H) ∧
 (∀ m k,pl=some (m,k)→("once" : Str)∈ws→gr≤g→∀ t v H',ff H' v pl→gb H H' t (.bl false) [] v→aK H H'→Q (.ref t) H') ∧
 (∀ m k,pl=some (m,k)→¬ (("once" : Str)∈ws∧gr≤g)→∀ t l v H',ff H' v (some (jv m k (bnd m k)))→gb H H' t (.bl true) [(l,.took gr sl f e)] v→aK H H'→Q (.ref t) H')
theorem wR (D:Dat K mg "taking" "taking" (top 56) ["settings", "stand", "grant", "area"]) (NE:bh (CX1 P w)) (bI:Cal P w K mg base (CX1 P w) "need_up" 1 ["place"] (eS CD)) (ef:Cal P w K mg base (CX1 P w) "has_rule" 1 ["settings", "word"] (iZ CS)) (g4:Cal P w K mg base (CX1 P w) "bound_of" 1 ["place"] nO) (e8:Cal P w K mg base (CX1 P w) "raised" 1 ["place", "bound"] jR):Cal P w K mg base (CX1 P w) "taking" 2 ["settings", "stand", "grant", "area"] (pQ K CD CS):=by
 have S:=wA
 refine D.okR S (fun vs H Q E h=>?_) (fun f cdv A outer s H vs Q E hr h=>?_)
 ·obtain ⟨p,s,a,sh,far,room,term,ws,pl,n,g,gr,sl,f,e,rfl,_⟩:=h
  rfl
 obtain ⟨p,s,a,sh,far,room,term,ws,pl,n,g,gr,sl,f',e,rfl,hst,⟨v,t,hs,hp,hn⟩,hk,ha,qe,q0,q1⟩:=h
 refine ⟨_,(ak (aM (i:=4) S.nd rfl (by first | exact Or.inl rfl | exact Or.inr rfl) (az aF (pv 1) ai (fun _ _=>rfl)))
   (ak (bE (dh bI (hr.mono (by first | decide | omega)) bu (aa (pv 4) ah)))
   (ak (bq (PW.pt (nY (bZ (aI ef (hr.mono (by first | decide | omega)) NE.pass (aa (pv 0) (aa aV ah)))) (jM (aO ki (pv 2) (az aF (pv 1) ai (fun _ _=>rfl)) (aQ _))))) (ao (au (bx (aa dS (aa (bM ah) (aa (pv 4) ah)))))) aJ)
   (ao (au (bx (aa dS (aa (bM (aa (bx (aa aV (aa (pv 2) (aa (pv 3) ah)))) ah)) (aa (aI e8 (hr.mono (by first | decide | omega)) NE.pass (aa (pv 4) (aa (aI g4 (hr.mono (by first | decide | omega)) NE.pass (aa (pv 4) ah)) ah))) ah))))))))),?_⟩
 try dsimp only [aZ]
 have L:=((Led.start H (fun _=>False)).more (bg s [_,_,_]) hs).more (bg a [_,_,_]) ha
 walk_at "go"
 refine ⟨v,pl,rfl,hp,qe,fun hsome=>?_⟩
 rcases id hp with ⟨e1,rfl⟩ | ⟨tp,m,k,epl,rfl,htp⟩
 ·rw [e1] at hsome;cases hsome
 have q0:=q0 m k epl
 have q1:=q1 m k epl
 have k0:=hk m k epl
 walk_at "one"
 try dsimp only [bK]
 refine dD (fun σ H'=>H'=H∧σ=[some (.ref p),some (.ref s),some (.int gr),some (.ref a),some (.ref tp)]∧¬ (("once" : Str)∈ws∧gr≤g)) (fun nx kk=>?_) ?_
 ·walk_at "go"
  refine ⟨p,sh,far,room,term,ws,_,rfl,hst,?_⟩
  walk_at "go"
  refine bN (fun c1=>?_) (fun c1=>?_)
  ·walk_at "go"
   refine bN (fun c2=>?_) (fun c2=>?_)
   ·walk_at "go"
    exact q0 c1 c2 _ _ _ (hp.same L'.same) ⟨_,L'.tup (by walk_at "mem"),by assumption,L'.eo .head,fun _ h=>by simp at h⟩ L'.same
   ·walk_at "go"
    exact kk _ _ ⟨rfl,rfl,fun z=>c2 z.2⟩
  ·walk_at "go"
   exact kk _ _ ⟨rfl,rfl,fun z=>c1 z.1⟩
 rintro σ HA ⟨rfl,rfl,hno⟩
 walk_at "go"
 obtain ⟨lx,tk,elx,etk⟩:∃ z y,z=l'∧y=t':=⟨_,_,rfl,rfl⟩
 subst elx etk
 have M:=L'
 clear L L'
 have nlx:HA lx=none:=(M.own (lx,_) List.mem_cons_self).elim (fun z=>absurd z id) id
 refine ⟨tp,m,k,rfl,M.same _ _ htp,?_⟩
 walk_at "go"
 refine ⟨tp,m,k,_,rfl,M.same _ _ htp,k0,fun r H2 hr2 s2=>?_⟩
 have N:=(M.keep s2).more (bg r [_,_]) hr2
 clear M
 walk_at "go"
 exact q1 hno _ tk (.ref r) _ (.inr ⟨r,_,_,rfl,rfl,L'.tup (r:=r) (by walk_at "mem")⟩) ⟨lx,L'.tup (by walk_at "mem"),nlx,L'.eo .head,fun z hz=>by
  rw [List.mem_singleton.mp hz]
  exact .took (L'.tup (r:=tk) (by walk_at "mem")) (L'.tup (r:=a) (by walk_at "mem"))⟩ L'.same
theorem sJ:aq ["settings", "stand", "bound", "is_written"] ["settings", "stand", "bound"] (aj (top 59)):=by walk_at "s"
def mq (K:PySem.W.Frag) (CD CS:Addr):Sp:=fun vs H Q E=>∃ (p s:Addr) (sh:V) (far room term:Int) (ws:List Str) (pl:Option (Int×Int)) (n:Nt) (g b:Int),vs=[.ref p,.ref s,.int b]∧rG CS H p sh far room term ws∧e9 K H s pl n g∧(∀ m k,pl=some (m,k)→0≤k) ∧
 (pl=none→E (.ref CD) none H) ∧
 (∀ m k,pl=some (m,k)→∀ t v ls H',((("spoken" : Str)∈ws∧n.hr < b∧∃ l,ls=[(l,.heard b)])∨(¬ (("spoken" : Str)∈ws∧n.hr < b)∧ls=[]))→ff H' v (some (jv m k b))→gb H H' t .non ls v→aK H H'→Q (.ref t) H')
theorem tM (D:Dat K mg "hearing" "hearing" (top 59) ["settings", "stand", "bound"]) (NE:bh (CX1 P w)) (bI:Cal P w K mg base (CX1 P w) "need_up" 1 ["place"] (eS CD)) (ef:Cal P w K mg base (CX1 P w) "has_rule" 1 ["settings", "word"] (iZ CS)) (gX:Cal P w K mg base (CX1 P w) "heard_in" 1 ["stand"] (mw K)) (e8:Cal P w K mg base (CX1 P w) "raised" 1 ["place", "bound"] jR):Cal P w K mg base (CX1 P w) "hearing" 2 ["settings", "stand", "bound"] (mq K CD CS):=by
 have S:=sJ
 refine D.okR S (fun vs H Q E h=>?_) (fun f cdv A outer s H vs Q E hr h=>?_)
 ·obtain ⟨p,s,sh,far,room,term,ws,pl,n,g,b,rfl,_⟩:=h
  rfl
 obtain ⟨p,s,sh,far,room,term,ws,pl,n,g,b,rfl,hst,hsd,hk,qe,q1⟩:=h
 obtain ⟨v,t,hs,hp,hn⟩:=id hsd
 refine ⟨_,(ak (bE (dh bI (hr.mono (by first | decide | omega)) bu (aa (az aF (pv 1) ai (fun _ _=>rfl)) ah)))
   (ak (aM (i:=3) S.nd rfl (by first | exact Or.inl rfl | exact Or.inr rfl) (fQ (aI ef (hr.mono (by first | decide | omega)) NE.pass (aa (pv 0) (aa aV ah))) (fP (cB iB (pv 2) (aI gX (hr.mono (by first | decide | omega)) NE.pass (aa (pv 1) ah)) (aQ _)))))
   (ao (au (bx (aa j8 (aa (eU (bZ (pv 3)) (bM (aa (bx (aa aV (aa (pv 2) ah))) ah)) (bM ah)) (aa (aI e8 (hr.mono (by first | decide | omega)) NE.pass (aa (az aF (pv 1) ai (fun _ _=>rfl)) (aa (pv 2) ah))) ah)))))))),?_⟩
 try dsimp only [aZ]
 have L:=(Led.start H (fun _=>False)).more (bg s [_,_,_]) hs
 walk_at "go"
 refine ⟨v,pl,rfl,hp,qe,fun hsome=>?_⟩
 rcases id hp with ⟨e1,rfl⟩ | ⟨tp,m,k,epl,rfl,htp⟩
 ·rw [e1] at hsome;cases hsome
 have q1:=q1 m k epl
 have k0:=hk m k epl
 walk_at "one"
 try dsimp only [bK]
 refine dD (fun σ H'=>H'=H∧σ=[some (.ref p),some (.ref s),some (.int b),some (.bl (decide (("spoken" : Str)∈ws∧n.hr < b)))]) (fun nx kk=>?_) ?_
 ·walk_at "go"
  refine ⟨p,sh,far,room,term,ws,_,rfl,hst,?_⟩
  walk_at "go"
  refine bN (fun c1=>?_) (fun c1=>?_)
  ·walk_at "go"
   refine ⟨s,pl,n,g,rfl,hsd,?_⟩
   walk_at "go"
   exact kk _ _ ⟨rfl,by rw [show decide (("spoken" : Str)∈ws∧n.hr < b)=decide (n.hr < b) from decide_eq_decide.mpr ⟨fun z=>z.2,fun z=>⟨c1,z⟩⟩];rfl⟩
  ·exact kk _ _ ⟨rfl,by rw [decide_eq_false (fun z=>c1 z.1)];rfl⟩
 rintro σ HA ⟨rfl,rfl⟩
 walk_at "go"
 refine bN (fun c=>?_) (fun c=>?_)
 ·walk_at "go"
  obtain ⟨lx,tk,elx,etk⟩:∃ z y,z=l'∧y=t':=⟨_,_,rfl,rfl⟩
  subst elx etk
  have M:=L'
  clear L L'
  have nlx:HA lx=none:=(M.own (lx,_) List.mem_cons_self).elim (fun z=>absurd z id) id
  refine ⟨tp,m,k,_,rfl,M.same _ _ htp,k0,fun r H2 hr2 s2=>?_⟩
  have N:=(M.keep s2).more (bg r [_,_]) hr2
  clear M
  walk_at "go"
  exact q1 _ (.ref r) [(tk,.heard b)] _ (.inl ⟨c.1,c.2,tk,rfl⟩) (.inr ⟨r,_,_,rfl,rfl,L'.tup (r:=r) (by walk_at "mem")⟩) ⟨lx,L'.tup (by walk_at "mem"),nlx,L'.eo .head,fun z hz=>by
   rw [List.mem_singleton.mp hz]
   exact .heard (L'.tup (r:=tk) (by walk_at "mem"))⟩ L'.same
 ·walk_at "go"
  obtain ⟨lx,elx⟩:∃ z,z=l':=⟨_,rfl⟩
  subst elx
  have M:=L'
  clear L L'
  have nlx:HA lx=none:=(M.own (lx,_) List.mem_cons_self).elim (fun z=>absurd z id) id
  refine ⟨tp,m,k,_,rfl,M.same _ _ htp,k0,fun r H2 hr2 s2=>?_⟩
  have N:=(M.keep s2).more (bg r [_,_]) hr2
  clear M
  walk_at "go"
  exact q1 _ (.ref r) [] _ (.inr ⟨c,rfl⟩) (.inr ⟨r,_,_,rfl,rfl,L'.tup (r:=r) (by walk_at "mem")⟩) ⟨lx,L'.tup (by walk_at "mem"),nlx,L'.eo .head,fun z hz=>by simp at hz⟩ L'.same
def Aw (f m k hd:Int):Int:=max (max f (bnd m k)) hd
theorem EW {H:Hp} {v:V} {sl f e:Int} (h:Bs H v (some (sl,f,e))):∃ a,v = .ref a∧H a=some (.tup [.int sl,.int f,.int e]):=by
 rcases h with ⟨z,_⟩ | ⟨a,_,_,_,z,ev,ha⟩
 ·cases z
 ·cases z;exact ⟨a,ev,ha⟩
end
def MkE (CD CA CN CW:Addr) (H:Hp) (pl:Option (Int×Int)) (n:Nt) (far r:Int) (E:XK):Prop:=(pl=none→E (.ref CD) none H)∧(pl.isSome=true→n.ar=none→E (.ref CA) none H) ∧
 (∀ m k sl f e,pl=some (m,k)→n.ar=some (sl,f,e)→e≤due m f r→E (.ref CN) none H) ∧
 (∀ m k sl f e,pl=some (m,k)→n.ar=some (sl,f,e)→¬ e≤due m f r→r+far < due m f r→∀ d H',aK H H'→H' d=some (.xd [("reading",.int (due m f r - far))])→E (.ref CW) (some d) H')
def nxP (c m f r k:Int):Int×Int:=(if cnt m f r k+1=c then due m f r+1 else due m f r,if cnt m f r k+1=c then 0 else cnt m f r k+1)
def k8 (C CS:Addr) (H:Hp) (p sp:Addr) (c s far room term:Int) (ws:List Str):Prop:=rG CS H p (.ref sp) far room term ws∧D0 C H sp c s∧ShN c s
theorem k8.same {C CS:Addr} {H H':Hp} {p sp:Addr} {c s far room term:Int} {ws:List Str} (h:k8 C CS H p sp c s far room term ws) (sm:aK H H'):k8 C CS H' p sp c s far room term ws:=
 ⟨h.1.same sm,h.2.1.elim fun dx e=>⟨dx,sm _ _ e⟩,h.2.2⟩
section
variable {P:Program} {w:World} {K:PySem.W.Frag} {mg:Str→Option Value} {base:Heap} {C CD CA CN CW CT CS CR:Addr}
theorem E7:aq ["settings", "stand", "reading"] ["settings", "stand", "reading"] (aj (top 57)):=by walk_at "s"
def Ej (K:PySem.W.Frag) (C CD CA CN CW CS:Addr):Sp:=fun vs H Q E=>∃ (p s sp:Addr) (c s' far room term:Int) (ws:List Str) (pl:Option (Int×Int)) (n:Nt) (g r:Int),vs=[.ref p,.ref s,.int r]∧k8 C CS H p sp c s' far room term ws∧e9 K H s pl n g∧MkE CD CA CN CW H pl n far r E ∧
 (∀ m k sl f e,pl=some (m,k)→n.ar=some (sl,f,e)→¬ e≤due m f r→¬ r+far < due m f r→∀ x y H',H' x=some (.tup [.int (mk c s' (due m f r) sl (cnt m f r k)),.ref y])→ff H' (.ref y) (some (nxP c m f r k))→aK H H'→Q (.ref x) H')
theorem Ft (D:Dat K mg "mark_and_place" "mark_and_place" (top 57) ["settings", "stand", "reading"]) (SS:StC K CS) (NE:bh (CX1 P w)) (bI:Cal P w K mg base (CX1 P w) "need_up" 1 ["place"] (eS CD)) (fY:Cal P w K mg base (CX1 P w) "need_area" 1 ["area"] (jS CA)) (dB:Cal P w K mg base (CX1 P w) "area_in" 1 ["stand"] (jY K))
  (ux:Cal P w K mg base (CX1 P w) "made" 3 ["shape", "far", "area", "place", "reading"] (yL C CN CW)):Cal P w K mg base (CX1 P w) "mark_and_place" 4 ["settings", "stand", "reading"] (Ej K C CD CA CN CW CS):=by
 have S:=E7
 refine D.okR S (fun vs H Q E h=>?_) (fun f cdv A outer s H vs Q E hr h=>?_)
 ·obtain ⟨p,s,sp,c,s',far,room,term,ws,pl,n,g,r,rfl,_⟩:=h
  rfl
 obtain ⟨p,s,sp,c,s',far,room,term,ws,pl,n,g,r,rfl,⟨⟨dx,tr,ms,hp0,htr,pm⟩,hsh,shn⟩,hsd,⟨qd,qa,qn,qw⟩,q1⟩:=h
 obtain ⟨v,t,hs,hp,hn⟩:=id hsd
 refine ⟨_,(ak (bE (dh bI (hr.mono (by first | decide | omega)) bu (aa (az aF (pv 1) ai (fun _ _=>rfl)) ah)))
   (ak (bE (dh fY (hr.mono (by first | decide | omega)) bu (aa (aI dB (hr.mono (by first | decide | omega)) NE.pass (aa (pv 1) ah)) ah)))
   (ao (au (dh ux (hr.mono (by first | decide | omega)) bu (aa (aP (pv 0) rfl) (aa (aP (pv 0) rfl) (aa (aI dB (hr.mono (by first | decide | omega)) NE.pass (aa (pv 1) ah)) (aa (az aF (pv 1) ai (fun _ _=>rfl)) (aa (pv 2) ah)))))))))),?_⟩
 try dsimp only [aZ]
 have L:=(Led.start H (fun _=>False)).more (bg s [_,_,_]) hs
 walk_at "go"
 refine ⟨v,pl,rfl,hp,qd,fun hsome=>?_⟩
 rcases id hp with ⟨e1,rfl⟩ | ⟨tp,m,k,epl,rfl,htp⟩
 ·rw [e1] at hsome;cases hsome
 walk_at "go"
 refine ⟨s,pl,n,g,rfl,hsd,fun av hav=>?_⟩
 walk_at "go"
 refine ⟨av,n.ar,rfl,hav,qa hsome,fun hars=>?_⟩
 obtain ⟨⟨sl,f',e⟩,ear⟩:=Option.isSome_iff_exists.mp hars
 have qn:=qn m k sl f' e epl ear
 have qw:=qw m k sl f' e epl ear
 have q1:=q1 m k sl f' e epl ear
 walk_at "go"
 refine ⟨p,CS,dx,_,_,rfl,hp0,SS.cl,SS.n1,iW _ far room term tr,?_⟩
 walk_at "go"
 refine ⟨p,CS,dx,_,_,rfl,hp0,SS.cl,SS.n2,BB _ far room term tr,?_⟩
 walk_at "go"
 refine ⟨s,pl,n,g,rfl,hsd,fun av2 hav2=>?_⟩
 rw [ear] at hav2
 obtain ⟨a2,rfl,ha2⟩:=EW hav2
 walk_at "go"
 exact ⟨sp,a2,tp,c,s',sl,f',e,m,k,r,far,rfl,shn,hsh,ha2,htp,qn,qw,fun b1 b2 x y H' hx hy sm=>q1 b1 b2 x y H' hx (.inr ⟨y,_,_,rfl,rfl,hy⟩) sm⟩
theorem sr:aq ["settings", "stand", "reading", "ahead"] ["settings", "stand", "reading"] (aj (top 58)):=by walk_at "s"
def l7 (K:PySem.W.Frag) (C CD CA CN CW CS:Addr):Sp:=fun vs H Q E=>∃ (p s sp:Addr) (c s' far room term:Int) (ws:List Str) (pl:Option (Int×Int)) (n:Nt) (g r:Int),vs=[.ref p,.ref s,.int r]∧k8 C CS H p sp c s' far room term ws∧e9 K H s pl n g∧MkE CD CA CN CW H pl n far r E ∧
 (∀ m k sl f e,pl=some (m,k)→n.ar=some (sl,f,e)→¬ e≤due m f r→¬ r+far < due m f r→∀ t v ls H',(n.hd < due m f r+room∧(∃ l,ls=[(l,.held (due m f r+room))])∨¬ n.hd < due m f r+room∧ls=[])→ff H' v pl→gb H H' t (.int (max n.hd (due m f r+room))) ls v→aK H H'→Q (.ref t) H')
theorem sZ (D:Dat K mg "writing" "writing" (top 58) ["settings", "stand", "reading"]) (SS:StC K CS) (NE:bh (CX1 P w)) (jj:Cal P w K mg base (CX1 P w) "mark_and_place" 4 ["settings", "stand", "reading"] (Ej K C CD CA CN CW CS)) (dB:Cal P w K mg base (CX1 P w) "area_in" 1 ["stand"] (jY K)) (gB:Cal P w K mg base (CX1 P w) "held_in" 1 ["stand"] (pV K))
  (fZ:Cal P w K mg base (CX1 P w) "moment_at" 2 ["area", "place", "reading"] jT):Cal P w K mg base (CX1 P w) "writing" 5 ["settings", "stand", "reading"] (l7 K C CD CA CN CW CS):=by
 have S:=sr
 refine D.okR S (fun vs H Q E h=>?_) (fun f cdv A outer s H vs Q E hr h=>?_)
 ·obtain ⟨p,s,sp,c,s',far,room,term,ws,pl,n,g,r,rfl,_⟩:=h
  rfl
 obtain ⟨p,s,sp,c,s',far,room,term,ws,pl,n,g,r,rfl,hss,hsd,he,q1⟩:=h
 refine ⟨_,(ak (bE (dh jj (hr.mono (by first | decide | omega)) bu (aa (pv 0) (aa (pv 1) (aa (pv 2) ah)))))
   (ak (aM (i:=3) S.nd rfl (by first | exact Or.inl rfl | exact Or.inr rfl) (aL bB (aI fZ (hr.mono (by first | decide | omega)) NE.pass (aa (aI dB (hr.mono (by first | decide | omega)) NE.pass (aa (pv 1) ah)) (aa (az aF (pv 1) ai (fun _ _=>rfl)) (aa (pv 2) ah)))) (aP (pv 0) rfl)))
   (ak (bq (aO iB (pv 3) (aI gB (hr.mono (by first | decide | omega)) NE.pass (aa (pv 1) ah)) (aQ _)) (ao (au (bx (aa (pv 3) (aa (bM (aa (bx (aa aV (aa (pv 3) ah))) ah)) (aa (az aF (pv 1) ai (fun _ _=>rfl)) ah)))))) aJ)
   (ao (au (bx (aa (aI gB (hr.mono (by first | decide | omega)) NE.pass (aa (pv 1) ah)) (aa (bM ah) (aa (az aF (pv 1) ai (fun _ _=>rfl)) ah))))))))),?_⟩
 try dsimp only [aZ]
 walk_at "go"
 refine ⟨p,s,sp,c,s',far,room,term,ws,pl,n,g,r,rfl,hss,hsd,he,fun m k sl f' e epl ear b1 b2 x y H1 hx hy s1=>?_⟩
 have q1:=q1 m k sl f' e epl ear b1 b2
 have C9:=hsd.same s1
 obtain ⟨v,t,hs,hp,hn⟩:=id C9
 obtain ⟨⟨dx,tr,ms,hp0,htr,pm⟩,hsh,shn⟩:=hss.same s1
 rcases id hp with ⟨e1,rfl⟩ | ⟨tp,m2,k2,epl2,rfl,htp⟩
 ·rw [epl] at e1;cases e1
 rw [epl] at epl2
 cases epl2
 have L:=(Led.start H1 (fun _=>False)).more (bg s [_,_,_]) hs
 walk_at "go"
 refine ⟨s,pl,n,g,rfl,C9,fun av2 hav2=>?_⟩
 rw [ear] at hav2
 obtain ⟨a2,rfl,ha2⟩:=EW hav2
 walk_at "go"
 refine ⟨a2,tp,sl,f',e,m,k,r,rfl,ha2,htp,?_⟩
 generalize due m f' r=du at *
 walk_at "go"
 refine ⟨p,CS,dx,_,_,rfl,hp0,SS.cl,SS.n3,yy _ far room term tr,?_⟩
 walk_at "go"
 refine ⟨s,pl,n,g,rfl,C9,?_⟩
 walk_at "go"
 refine bN (fun c=>?_) (fun c=>?_)
 ·rw [show max n.hd (du+room)=du+room by omega] at q1
  walk_at "go"
  exact q1 _ (.ref tp) [(_,.held _)] _ (.inl ⟨c,_,rfl⟩) (hp.same L'.same) ⟨l',L'.tup (by walk_at "mem"),(by
   cases e0:H l' with
   | none=>rfl
   | some o=>exact absurd (s1 _ _ e0) (by rw [(L'.own (l',_) List.mem_cons_self).elim (fun z=>absurd z id) id];exact fun z=>nomatch z)),L'.eo .head,fun z hz=>by
   rw [List.mem_singleton.mp hz]
   exact .held (L'.tup (by walk_at "mem"))⟩ (s1.trans L'.same)
 ·rw [show max n.hd (du+room)=n.hd by omega] at q1
  walk_at "go"
  refine ⟨s,pl,n,g,rfl,C9,?_⟩
  walk_at "go"
  exact q1 _ (.ref tp) [] _ (.inr ⟨c,rfl⟩) (hp.same L'.same) ⟨l',L'.tup (by walk_at "mem"),(by
   cases e0:H l' with
   | none=>rfl
   | some o=>exact absurd (s1 _ _ e0) (by rw [(L'.own (l',_) List.mem_cons_self).elim (fun z=>absurd z id) id];exact fun z=>nomatch z)),L'.eo .head,fun z hz=>by simp at hz⟩ (s1.trans L'.same)
end
end Law
namespace L4
open PySem PySem.Spec PyProof.Rows L2 L3
structure uH (P:Program) (w:World) (K:PySem.W.Frag) (mg:Str→Option Value) (base:Heap) (CX:CXT) (x:Str) (C:Addr) (k:Nat) (ps:List Str) (sp:Sp):Prop where
 ex:∃ f fd,Mk K C f∧eE P w K mg base CX k f fd ps sp∧Binds K fd ps [.none]∧mg x=some (.ref C)
structure jA (K:PySem.W.Frag) (mg:Str→Option Value) (x qual:Str) (C:Addr) (st:Stmt) (ps:List Str):Prop where
 ex:∃ (f:Addr) (oc dV kV doc pm cdv ct:Value) (od an:Option Addr) (osl:Array (Option Value)),K.lookup f=some ⟨oc,od,.func (PySem.W.fnOf "__init__" qual (bC st) (bf st) (aj st) dV kV doc pm an cdv ct),osl⟩∧PySem.W.codeIn K cdv qual=true ∧
  Binds K (PySem.W.fnOf "__init__" qual (bC st) (bf st) (aj st) dV kV doc pm an cdv ct) ps []∧Binds K (PySem.W.fnOf "__init__" qual (bC st) (bf st) (aj st) dV kV doc pm an cdv ct) ps [.none]∧mg x=some (.ref C)∧Mk K C f
 cl:Cls K C
section
variable {P:Program} {w:World} {K:PySem.W.Frag} {mg:Str→Option Value} {base:Heap} {CX:CXT} {x qual:Str} {C:Addr} {st:Stmt} {N ps:List Str} {k:Nat} {sp:Sp}
theorem jA.ok (D:jA K mg x qual C st ps) (S:aq N ps (aj st)) (len:∀ vs H Q E,sp vs H Q E→vs.length=ps.length)
  (hbody:∀ (f:Addr) (cdv:Value) (A:Around) (outer:List Env) (s:Shared) (H:Hp) (vs:List V) (Q:VK) (E:XK),bR k (A.deeper (envOfC qual (aj st) s.heap.objs.size f cdv))→sp vs H Q E →
   ∃ t,PSs (aZ CX P w K mg base N qual (aj st) f cdv A outer s H E).nox (bf st) t∧t { nx:=fun _ H'=>Q .non H',rt:=Q } (start N vs) H):Mak P w K mg base CX x C (k+1) ps sp∧uH P w K mg base CX x C (k+1) ps sp:=by
 obtain ⟨f,oc,dV,kV,doc,pm,cdv,ct,od,an,osl,lk,hcd,b,b1,m,mk⟩:=D.ex
 have F:eE P w K mg base CX (k+1) f _ ps sp:=qV lk hcd S len fun A outer s H vs Q E hr hsp=>by
  obtain ⟨t,h,q⟩:=hbody f cdv A outer s H vs Q E hr hsp
  exact ⟨t,h.nox,q⟩
 exact ⟨⟨f,_,mk,F,b,m⟩,⟨f,_,mk,F,b1,m⟩⟩
theorem rj {h:Heap} (X:K.In h) (G:h.Ns mainGlobals mg) {f T:Addr} {oc tc:Value} {od td an:Option Addr} {osl tsl:Array (Option Value)} {its:Array Value} {tn:Nat} {kV doc pm cdv ct:Value} (aC:PySem.W.nsIn K mainGlobals x=some (some (.ref C)))
  (a:PySem.W.findIn K (.ref C) "__init__" = some (some (.ref f))) (i:PySem.W.isFn K (.ref f)=true)
  (l:K.lookup f=some ⟨oc,od,.func (PySem.W.fnOf "__init__" qual (bC st) (bf st) (aj st) (.ref T) kV doc pm an cdv ct),osl⟩) (tl:K.lookup T=some ⟨tc,td,.seq its tn,tsl⟩) (c:PySem.W.codeIn K cdv qual=true)
  (pg:PySem.W.plainGet K C Str.empty=true) (hd:PySem.W.hasDictIn K C=true) (po:PySem.W.plainOver K C=true) (sa:PySem.W.findIn K (.ref C) "__setattr__" = some (some (.builtin "object.__setattr__"))) (mk:PySem.W.makesIn K C=true) (kc:PySem.W.keepIn K (.ref C)=true)
  (b:∀ (T:Addr) (kV doc pm:Value) (an:Option Addr) (cdv ct:Value) (us:List Value),us.length=ps.length→∃ k:Option (Array Value)→Sem (List (Str×Value)),bindArgs (PySem.W.fnOf "__init__" qual (bC st) (bf st) (aj st) (.ref T) kV doc pm an cdv ct) ⟨us,[]⟩=(seqItems? (.ref T) >>= k)∧k (some its)=pure (ps.zip us))
  (b1:∀ (T:Addr) (kV doc pm:Value) (an:Option Addr) (cdv ct:Value) (us:List Value),us.length+1=ps.length→∃ k:Option (Array Value)→Sem (List (Str×Value)),bindArgs (PySem.W.fnOf "__init__" qual (bC st) (bf st) (aj st) (.ref T) kV doc pm an cdv ct) ⟨us,[]⟩=(seqItems? (.ref T) >>= k)∧k (some its)=pure (ps.zip (us++[.none]))):jA K mg x qual C st ps:=
 ⟨⟨f,oc,.ref T,kV,doc,pm,cdv,ct,od,an,osl,l,c,(fun s us hK hl=>by
  rw [List.append_nil] at hl ⊢
  obtain ⟨k,h1,h2⟩:=b T kV doc pm an cdv ct us hl
  exact BindsTo.of_defaults (T:=T) rfl (hK _ _ tl) rfl h1 h2),(fun s us hK hl=>by
  rw [List.length_append,List.length_singleton] at hl
  obtain ⟨k,h1,h2⟩:=b1 T kV doc pm an cdv ct us hl
  exact BindsTo.of_defaults (T:=T) rfl (hK _ _ tl) rfl h1 h2),PySem.W.mg_of X G aC,⟨mk,a,i,kc⟩⟩,⟨pg,hd,po,sa⟩⟩
end
section
variable {X:Cx} {CX:CXT} {k:Nat} {ps:List Str} {sp:Sp} {E:XK} {x:Str} {C:Addr} {p pos:Pos} {e:Expr} {es:List Expr} {t:TA}
theorem zF (M:uH X.prog X.w X.K X.mg X.base CX x C k ps sp) (hr:bR (k+1) X.A) (hx:Passes CX X E) (ha:PA X (e::es) t) (hg:Gl X x:=by rfl)
  (hdb:(x == ("__debug__" : Str))=false:=by decide) (he:starEach (e::es) X.env=(false,eval e X.env)::starEach es X.env:=by rfl) (hpl:(backTo pos (starEach es X.env)).any (·.1)=false:=by rfl) :
  PE X (.Call (.Name x p) (e::es) [] pos) (jP C sp [.non] E t):=by
 obtain ⟨f,fd,m,F,b,g⟩:=M.ex
 exact vp m F hr hg g b (.cons rfl .nil) hx ha hdb he hpl
theorem vN {H:Hp} {σ : St} {Q:VK} (h:t σ H fun vs H1=>Made C sp E (vs++[.non]) H1 Q):jP C sp [.non] E t σ H Q:=h
end
end L4
namespace Law
open PySem PySem.Spec PyProof.Rows L2 L3 L4
structure Hd where
 p:Addr
 l:Addr
 ps:Addr
 sp:Addr
 nm:Str
 c:Int
 s:Int
 far:Int
 room:Int
 term:Int
 ws:List Str
def hdF (nm:Str) (ps l:Addr) (sv:V):List (Str×V):=[("name",.str nm),("settings",.ref ps),("lines",.ref l),("spot",sv)]
structure HdC (K:PySem.W.Frag) (CH:Addr):Prop where
 cl:Cls K CH
 n1:aT K CH "name"
 n2:aT K CH "settings"
 n3:aT K CH "lines"
 n4:aT K CH "spot"
theorem De (nm:Str) (ps l:Addr) (sv sv':V):bG "spot" sv' (hdF nm ps l sv)=hdF nm ps l sv':=by
 have a1:¬ (("name" : Str) = "spot"):=by decide +kernel
 have a2:¬ (("settings" : Str) = "spot"):=by decide +kernel
 have a3:¬ (("lines" : Str) = "spot"):=by decide +kernel
 unfold hdF
 simp only [bG,if_neg a1,if_neg a2,if_neg a3,if_pos]
theorem FZ (nm:Str) (ps l:Addr) (sv:V):bG "spot" sv (bG "lines" (.ref l) (bG "settings" (.ref ps) (bG "name" (.str nm) [])))=hdF nm ps l sv:=by
 have a1:¬ (("name" : Str) = "spot"):=by decide +kernel
 have a2:¬ (("settings" : Str) = "spot"):=by decide +kernel
 have a3:¬ (("lines" : Str) = "spot"):=by decide +kernel
 have b1:¬ (("name" : Str) = "lines"):=by decide +kernel
 have b2:¬ (("settings" : Str) = "lines"):=by decide +kernel
 have c1:¬ (("name" : Str) = "settings"):=by decide +kernel
 simp only [bG,if_neg a1,if_neg a2,if_neg a3,if_neg b1,if_neg b2,if_neg c1]
 rfl
theorem qR (nm:Str) (ps l:Addr) (sv:V):(hdF nm ps l sv).lookup ("lines" : Str)=some (.ref l):=by unfold hdF;walk_at "lk"
theorem qQ (nm:Str) (ps l:Addr) (sv:V):(hdF nm ps l sv).lookup ("spot" : Str)=some sv:=by unfold hdF;walk_at "lk"
theorem t7 (nm:Str) (ps l:Addr) (sv:V):(hdF nm ps l sv).lookup ("settings" : Str)=some (.ref ps):=by unfold hdF;walk_at "lk"
theorem kG (nm:Str) (ps l:Addr) (sv:V):(hdF nm ps l sv).lookup ("name" : Str)=some (.str nm):=by unfold hdF;walk_at "lk"
theorem vC (f:Str) (v:V):∀ fs:List (Str×V),(bG f v fs).lookup f=some v
 | []=>lk_hit
 | (g,x)::r=>by
  show (if g=f then (g,v)::r else (g,x)::bG f v r).lookup f=some v
  by_cases c:g=f
  ·rw [if_pos c,c];exact lk_hit
  ·rw [if_neg c,lk_miss (by rw [beq_eq_false_iff_ne];exact fun z=>c z.symm)]
   exact vC f v r
def bH (C CS CH:Addr) (H:Hp) (d:Hd) (ls:Lns) (pl:Option (Int×Int)):Prop:=(∃ dx sv,H d.p=some (.ins CH dx (hdF d.nm d.ps d.l sv))∧ff H sv pl)∧H d.l=some (.lst (lnV ls))∧dg H ls∧k8 C CS H d.ps d.sp d.c d.s d.far d.room d.term d.ws
theorem bH.same {C CS CH:Addr} {H H':Hp} {d:Hd} {ls:Lns} {pl:Option (Int×Int)} (h:bH C CS CH H d ls pl) (s:aK H H'):bH C CS CH H' d ls pl:=by
 obtain ⟨⟨dx,sv,h1,h2⟩,h3,h4,h5⟩:=h
 exact ⟨⟨dx,sv,s _ _ h1,h2.same s⟩,s _ _ h3,h4.same s,h5.same s⟩
structure eu (ls:Lns) (pl:Option (Int×Int)):Prop where
 good:eB ls
 k0:∀ m k,pl=some (m,k)→0≤k
 len:ls.length≤398
def Fr2 (p l:Addr) (H H':Hp):Prop:=∀ q o,H q=some o→q≠p→q≠l→H' q=some o
theorem Fr2.trans {p l:Addr} {H H1 H2:Hp} (a:Fr2 p l H H1) (b:Fr2 p l H1 H2):Fr2 p l H H2:=fun q o h n1 n2=>b q o (a q o h n1 n2) n1 n2
theorem Fr2.of {p l:Addr} {H H1:Hp} (a:aK H H1):Fr2 p l H H1:=fun q o h _ _=>a q o h
def nt (ls:Lns):Nt:=kO Nt.nil ls
def gmx (ls:Lns):Int:=(gts ls).foldl max 0
section
variable {P:Program} {w:World} {K:PySem.W.Frag} {mg:Str→Option Value} {base:Heap} {CX:CXT} {C CS CH CD CU CA CN CW CT:Addr}
theorem sO:aq ["lines"] ["lines"] (aj (top 36)):=by walk_at "s"
def pY (K:PySem.W.Frag):Sp:=fun vs H Q _=>∃ (a:Addr) (ls:Lns),vs=[.ref a]∧SqL K H a (lnV ls)∧dg H ls∧eB ls∧∀ v H',Bs H' v (nt ls).ar→aK H H'→Q v H'
theorem tQ (D:Dat K mg "area_of" "area_of" (top 36) ["lines"]) (NE:bh CX) (dJ:Cal P w K mg base CX "read_note" 4 ["lines"] (jK K)):Cal P w K mg base CX "area_of" 5 ["lines"] (pY K):=by
 have S:=sO
 walk_at "d"
 ·obtain ⟨a,ls,rfl,_⟩:=h
  rfl
 obtain ⟨a,ls,rfl,hS,hL,hg,q⟩:=h
 refine ⟨_,(ao (au (az aF (aI dJ (hr.mono (by first | decide | omega)) NE.pass (aa (pv 0) ah)) ai (fun _ _=>rfl)))),?_⟩
 try dsimp only [aZ]
 walk_at "go"
 refine ⟨a,ls,rfl,hS,hL,hg,fun t H' ⟨av,hn,hv⟩ sm=>?_⟩
 walk_at "go"
 exact q av H' hv sm
theorem zh:aq ["self", "name", "settings", "lines"] ["self", "name", "settings", "lines"] (aj (inClass (top 61) 0)):=by walk_at "s"
def AL (H:Hp) (v:V) (ls:Lns):Prop:=(v = .non∧ls=[])∨∃ a,v = .ref a∧H a=some (.lst (lnV ls))
def gw (CH:Addr):Sp:=fun vs H Q _=>∃ (p dx ps:Addr) (nm:Str) (v:V) (ls:Lns),vs=[.ref p,.str nm,.ref ps,v]∧AL H v ls∧dg H ls∧eB ls∧ls.length≤398∧H p=some (.ins CH dx []) ∧
 ∀ (l:Addr) (sv:V) (H':Hp),H l=none→H' p=some (.ins CH dx (hdF nm ps l sv))→ff H' sv (some (max (nt ls).hd (nt ls).hr,0))→H' l=some (.lst (lnV ls))→(∀ q o,H q=some o→q≠p→H' q=some o)→Q .non H'
theorem z5 (D:jA K mg "Hand" "Hand.__init__" CH (inClass (top 61) 0) ["self", "name", "settings", "lines"]) (SC:HdC K CH) (BT:Bt mg) (NE:bh CX) (dJ:Cal P w K mg base CX "read_note" 4 ["lines"] (jK K)) (dm:Cal P w K mg base CX "start_by" 1 ["note"] (iX K)):Mak P w K mg base CX "Hand" CH 5 ["self", "name", "settings", "lines"] (gw CH)∧uH P w K mg base CX "Hand" CH 5 ["self", "name", "settings", "lines"] (gw CH):=by
 have S:=zh
 walk_at "d"
 ·obtain ⟨p,dx,ps,nm,v,ls,rfl,_⟩:=h
  rfl
 obtain ⟨p,dx,ps,nm,v,ls,rfl,hal,hL,hg,hlen,hp,q⟩:=h
 refine ⟨_,(ak (cQ (pv 0) (pv 1) rfl)
   (ak (cQ (pv 0) (pv 2) rfl)
   (ak (cQ (pv 0) (eU (gO (i7 (pv 3))) (bM ah) (cC f6 rfl BT.list_ L3.gC (aa (pv 3) ah))) rfl)
   (ao (cQ (pv 0) (aI dm (hr.mono (by first | decide | omega)) NE.pass (aa (aI dJ (hr.mono (by first | decide | omega)) NE.pass (aa (aP (pv 0) rfl) ah)) ah)) rfl))))),?_⟩
 try dsimp only [aZ]
 have k1:=cX ("name" : Str) (.str nm) []
 have k2:=cX ("settings" : Str) (.ref ps) (bG "name" (.str nm) [])
 rw [List.length_nil] at k1
 walk_at "go"
 refine ⟨p,CH,dx,[],rfl,hp,SC.cl,SC.n1,by decide,?_⟩
 walk_at "go"
 refine ⟨p,CH,dx,_,rfl,ay,SC.cl,SC.n2,by omega,?_⟩
 rw [eF]
 have key:=fun l sv=>FZ nm ps l sv
 generalize bG ("settings" : Str) (.ref ps) (bG "name" (.str nm) [])=fs at *
 have k3:∀ l,(bG ("lines" : Str) (.ref l) fs).length≤fs.length+1:=fun l=>cX _ _ _
 have hpc:(upd H p (.ins CH dx fs)) p=some (.ins CH dx fs):=ay
 have oc:∀ q o,H q=some o→q≠p→(upd H p (.ins CH dx fs)) q=some o:=fun q o e z=>by rw [aB z];exact e
 have hLc:dg (upd H p (.ins CH dx fs)) ls:=hL.ts (rW hp fun xs z=>nomatch z)
 have ic:∀ q,(upd H p (.ins CH dx fs)) q=none→H q=none:=fun q e=>by
  by_cases z:q=p
  ·rw [z,ay] at e;cases e
  ·rwa [aB z] at e
 have hac:AL (upd H p (.ins CH dx fs)) v ls:=by
  rcases hal with z | ⟨a,rfl,ha⟩
  ·exact .inl z
  ·exact .inr ⟨a,rfl,oc _ _ ha fun z=>by rw [z,hp] at ha;cases ha⟩
 generalize upd H p (.ins CH dx fs)=Hc at *
 try dsimp only [bK]
 refine dD (fun σ H'=>∃ l,Hc l=none∧H' p=some (.ins CH dx (bG "lines" (.ref l) fs))∧H' l=some (.lst (lnV ls))∧dg H' ls∧(∀ q o,Hc q=some o→q≠p→H' q=some o)∧σ=[some (.ref p),some (.str nm),some (.ref ps),some v]) (fun nx kk=>?_) ?_
 ·have L:=Led.start Hc (fun _=>False)
  walk_at "go"
  rcases hac with ⟨rfl,rfl⟩ | ⟨a,rfl,ha⟩
  ·refine kK rfl ?_
   walk_at "go"
   have np:p≠l':=fun z=>by rw [z,n'] at hpc;cases hpc
   refine ⟨p,CH,dx,fs,rfl,L'.same _ _ hpc,SC.cl,SC.n3,by omega,?_⟩
   exact kk _ _ ⟨l',n',ay,by rw [aB (Ne.symm np)];exact L'.eo .head,fun _ h=>by simp at h,fun q o e z=>by rw [aB z];exact L'.same _ _ e,rfl⟩
  ·refine bN (fun z=>nomatch z) fun _=>?_
   walk_at "go"
   refine fU L (.inl (SqL.of ha)) fun b HB nb L' sB=>?_
   have np:p≠b:=fun z=>by rw [z,nb] at hpc;cases hpc
   walk_at "go"
   refine ⟨p,CH,dx,fs,rfl,sB _ _ hpc,SC.cl,SC.n3,by omega,?_⟩
   exact kk _ _ ⟨b,nb,ay,by rw [aB (Ne.symm np)];exact L'.eo .head,(hLc.same sB).ts (rW (sB _ _ hpc) fun xs z=>nomatch z),fun q o e z=>by rw [aB z];exact sB _ _ e,rfl⟩
 rintro σ H1 ⟨l,nl,hp1,hl1,hL1,o1,rfl⟩
 walk_at "go"
 refine ⟨p,CH,dx,_,_,rfl,hp1,SC.cl,SC.n3,vC _ _ _,?_⟩
 walk_at "go"
 refine ⟨l,ls,rfl,SqL.of hl1,hL1,hg,fun t H2 hn s2=>?_⟩
 walk_at "go"
 refine ⟨t,_,rfl,hn,fun pt H3 hpt s3=>?_⟩
 walk_at "go"
 have hp3:=s3 _ _ (s2 _ _ hp1)
 have k4:=k3 l
 refine ⟨p,CH,dx,_,rfl,hp3,SC.cl,SC.n4,by omega,?_⟩
 rw [key]
 have npl:l≠p:=fun z=>by rw [z,hpc] at nl;cases nl
 have JT:pt≠p:=fun z=>by rw [z,hp3] at hpt;cases hpt
 exact q l (.ref pt) _ (ic _ nl) ay (.inr ⟨pt,_,_,rfl,rfl,by rw [aB JT];exact hpt⟩) (by rw [aB npl];exact s3 _ _ (s2 _ _ hl1)) fun x o e z=>by rw [aB z];exact s3 _ _ (s2 _ _ (o1 x o (oc x o e z) z))
theorem rT {C CS:Addr} {H:Hp} {Q:VK} {E:XK} {ps sp:Addr} {nm:Str} {v:V} {ls:Lns} {c s far room term:Int} {ws:List Str} (ha:AL H v ls) (hL:dg H ls) (hg:eB ls) (hl:ls.length≤398) (hs:k8 C CS H ps sp c s far room term ws)
  (q:∀ x l H',H x=none→H l=none→bH C CS CH H' ⟨x,l,ps,sp,nm,c,s,far,room,term,ws⟩ ls (some (max (nt ls).hd (nt ls).hr,0))→aK H H'→Q (.ref x) H'):Made CH (gw CH) E [.str nm,.ref ps,v] H Q:=by
 intro x dx nx nd ne
 have sm0:aK H (upd (upd H dx (.own x)) x (.ins CH dx [])):=fun b o e=>by rw [aB (aG e nx),aB (aG e nd)];exact e
 have ha':AL (upd (upd H dx (.own x)) x (.ins CH dx [])) v ls:=by
  rcases ha with z | ⟨a,rfl,h⟩
  ·exact .inl z
  ·exact .inr ⟨a,rfl,sm0 _ _ h⟩
 refine ⟨x,dx,ps,nm,v,ls,rfl,ha',hL.same sm0,hg,hl,ay,fun l sv H' nl h1 h2 h3 h4=>⟨rfl,?_⟩⟩
 have sm:aK H H':=fun b o e=>h4 b o (sm0 _ _ e) (aG e nx)
 have nl':H l=none:=by
  cases e:H l with
  | none=>rfl
  | some o=>rw [sm0 _ _ e] at nl;cases nl
 exact q x l H' nx nl' ⟨⟨dx,sv,h1,h2⟩,h3,hL.same sm,hs.same sm⟩ sm
end
theorem fu {m:Str} {nm:Str} {ps l:Addr} {sv:V} (a1:(m == ("name" : Str))=false) (a2:(m == ("settings" : Str))=false) (a3:(m == ("lines" : Str))=false) (a4:(m == ("spot" : Str))=false):(hdF nm ps l sv).lookup m=none:=by
 unfold hdF
 rw [lk_miss a1,lk_miss a2,lk_miss a3,lk_miss a4];rfl
section
variable {P:Program} {w:World} {K:PySem.W.Frag} {mg:Str→Option Value} {base:Heap} {CX:CXT} {C CS CH CD CU CA CN CW CT:Addr}
theorem zg:aq ["self"] ["self"] (aj (inClass (top 61) 1)):=by walk_at "s"
def jV (C CS CH:Addr):Sp:=fun vs H Q _=>∃ (d:Hd) (ls:Lns) (pl:Option (Int×Int)),vs=[.ref d.p]∧bH C CS CH H d ls pl∧Q (.bl pl.isSome) H
theorem z4 (D:bQ K CH "is_up" "Hand.is_up" (inClass (top 61) 1) ["self"]) (SC:HdC K CH):bz P w K mg base CX CH "is_up" 1 ["self"] (jV C CS CH):=by
 have S:=zg
 refine b9 D S (fun vs H Q E h=>?_) (fun f cdv A outer s H vs Q E hr h=>?_)
 ·obtain ⟨d,ls,pl,rfl,_⟩:=h
  rfl
 obtain ⟨d,ls,pl,rfl,⟨⟨dx,sv,hp,hpl⟩,hl,hL,hss⟩,q⟩:=h
 refine ⟨_,(ao (au (Ff (vq (aP (pv 0) rfl))))),?_⟩
 try dsimp only [aZ]
 walk_at "go"
 refine ⟨d.p,CH,dx,_,_,rfl,hp,SC.cl,SC.n4,qQ _ _ _ _,?_⟩
 walk_at "go"
 rcases hpl with ⟨rfl,rfl⟩ | ⟨t,m,k,rfl,rfl,_⟩
 ·exact q
 ·exact q
theorem za:aq ["self"] ["self"] (aj (inClass (top 61) 2)):=by walk_at "s"
def nG (C CS CH:Addr):Sp:=fun vs H Q _=>∃ (d:Hd) (ls:Lns) (pl:Option (Int×Int)),vs=[.ref d.p]∧bH C CS CH H d ls pl∧∀ v,ff H v pl→Q v H
theorem zW (D:bQ K CH "place" "Hand.place" (inClass (top 61) 2) ["self"]) (SC:HdC K CH):bz P w K mg base CX CH "place" 1 ["self"] (nG C CS CH):=by
 have S:=za
 refine b9 D S (fun vs H Q E h=>?_) (fun f cdv A outer s H vs Q E hr h=>?_)
 ·obtain ⟨d,ls,pl,rfl,_⟩:=h
  rfl
 obtain ⟨d,ls,pl,rfl,⟨⟨dx,sv,hp,hpl⟩,hl,hL,hss⟩,q⟩:=h
 refine ⟨_,(ao (au (aP (pv 0) rfl))),?_⟩
 try dsimp only [aZ]
 walk_at "go"
 refine ⟨d.p,CH,dx,_,_,rfl,hp,SC.cl,SC.n4,qQ _ _ _ _,?_⟩
 exact q sv hpl
theorem BR:aq ["self"] ["self"] (aj (inClass (top 61) 3)):=by walk_at "s"
def rZ (C CS CH:Addr):Sp:=fun vs H Q _=>∃ (d:Hd) (ls:Lns) (pl:Option (Int×Int)),vs=[.ref d.p]∧bH C CS CH H d ls pl∧∀ b H',H b=none→H' b=some (.lst (lnV ls))→aK H H'→Q (.ref b) H'
theorem CB (D:bQ K CH "note" "Hand.note" (inClass (top 61) 3) ["self"]) (SC:HdC K CH) (BT:Bt mg):bz P w K mg base CX CH "note" 1 ["self"] (rZ C CS CH):=by
 have S:=BR
 refine b9 D S (fun vs H Q E h=>?_) (fun f cdv A outer s H vs Q E hr h=>?_)
 ·obtain ⟨d,ls,pl,rfl,_⟩:=h
  rfl
 obtain ⟨d,ls,pl,rfl,⟨⟨dx,sv,hp,hpl⟩,hl,hL,hss⟩,q⟩:=h
 refine ⟨_,(ao (au (cC f6 rfl BT.list_ L3.gC (aa (aP (pv 0) rfl) ah)))),?_⟩
 try dsimp only [aZ]
 walk_at "go"
 refine ⟨d.p,CH,dx,_,_,rfl,hp,SC.cl,SC.n3,qR _ _ _ _,?_⟩
 walk_at "go"
 refine fU (Led.start H (fun _=>False)) (.inl (SqL.of hl)) fun b HB nb L sB=>?_
 walk_at "go"
 exact q b HB nb (L.eo .head) sB
theorem B4:aq ["self"] ["self"] (aj (inClass (top 61) 4)):=by walk_at "s"
def yP (C CS CH:Addr):Sp:=fun vs H Q _=>∃ (d:Hd) (ls:Lns) (pl:Option (Int×Int)),vs=[.ref d.p]∧bH C CS CH H d ls pl∧eB ls∧∀ v H',Bs H' v (nt ls).ar→aK H H'→Q v H'
theorem CV (D:bQ K CH "area" "Hand.area" (inClass (top 61) 4) ["self"]) (SC:HdC K CH) (NE:bh CX) (jo:Cal P w K mg base CX "area_of" 5 ["lines"] (pY K)):bz P w K mg base CX CH "area" 6 ["self"] (yP C CS CH):=by
 have S:=B4
 refine b9 D S (fun vs H Q E h=>?_) (fun f cdv A outer s H vs Q E hr h=>?_)
 ·obtain ⟨d,ls,pl,rfl,_⟩:=h
  rfl
 obtain ⟨d,ls,pl,rfl,⟨⟨dx,sv,hp,hpl⟩,hl,hL,hss⟩,hg,q⟩:=h
 refine ⟨_,(ao (au (aI jo (hr.mono (by first | decide | omega)) NE.pass (aa (aP (pv 0) rfl) ah)))),?_⟩
 try dsimp only [aZ]
 walk_at "go"
 refine ⟨d.p,CH,dx,_,_,rfl,hp,SC.cl,SC.n3,qR _ _ _ _,?_⟩
 walk_at "go"
 exact ⟨d.l,ls,rfl,SqL.of hl,hL,hg,q⟩
theorem yU:aq ["self"] ["self"] (aj (inClass (top 61) 5)):=by walk_at "s"
def gu (K:PySem.W.Frag) (C CS CH:Addr):Sp:=fun vs H Q _=>∃ (d:Hd) (ls:Lns) (pl:Option (Int×Int)),vs=[.ref d.p]∧bH C CS CH H d ls pl∧eu ls pl∧∀ t H',e9 K H' t pl (nt ls) (gmx ls)→aK H H'→Q (.ref t) H'
theorem zP (D:bQ K CH "stand" "Hand.stand" (inClass (top 61) 5) ["self"]) (SC:HdC K CH) (NE:bh CX) (dJ:Cal P w K mg base CX "read_note" 4 ["lines"] (jK K)) (jm:Cal P w K mg base CX "greatest_taken" 3 ["lines"] (jX K)):bz P w K mg base CX CH "stand" 5 ["self"] (gu K C CS CH):=by
 have S:=yU
 refine b9 D S (fun vs H Q E h=>?_) (fun f cdv A outer s H vs Q E hr h=>?_)
 ·obtain ⟨d,ls,pl,rfl,_⟩:=h
  rfl
 obtain ⟨d,ls,pl,rfl,⟨⟨dx,sv,hp,hpl⟩,hl,hL,hss⟩,⟨hg,k0,hlen⟩,q⟩:=h
 refine ⟨_,(ao (au (bx (aa (aP (pv 0) rfl) (aa (aI dJ (hr.mono (by first | decide | omega)) NE.pass (aa (aP (pv 0) rfl) ah)) (aa (aI jm (hr.mono (by first | decide | omega)) NE.pass (aa (aP (pv 0) rfl) ah)) ah)))))),?_⟩
 try dsimp only [aZ]
 walk_at "go"
 refine ⟨d.p,CH,dx,_,_,rfl,hp,SC.cl,SC.n4,qQ _ _ _ _,?_⟩
 walk_at "go"
 refine ⟨d.p,CH,dx,_,_,rfl,hp,SC.cl,SC.n3,qR _ _ _ _,?_⟩
 walk_at "go"
 refine ⟨d.l,ls,rfl,SqL.of hl,hL,hg,fun t H1 hn s1=>?_⟩
 walk_at "go"
 refine ⟨d.p,CH,dx,_,_,rfl,s1 _ _ hp,SC.cl,SC.n3,qR _ _ _ _,?_⟩
 walk_at "go"
 refine ⟨d.l,ls,rfl,SqL.of (s1 _ _ hl),hL.same s1,hg,by omega,fun H2 s2=>?_⟩
 have L:=Led.start H2 (fun _=>False)
 walk_at "go"
 exact q _ _ ⟨sv,t,L'.tup (by walk_at "mem"),hpl.same ((s1.trans s2).trans L'.same),hn.same (s2.trans L'.same)⟩ ((s1.trans s2).trans L'.same)
theorem Ic:aq ["self", "step"] ["self", "step"] (aj (inClass (top 61) 6)):=by walk_at "s"
def sd (C CS CH:Addr):Sp:=fun vs H Q _=>∃ (d:Hd) (ls ls2:Lns) (pl pl2:Option (Int×Int)) (H0:Hp) (t:Addr) (v pv:V),vs=[.ref d.p,.ref t]∧bH C CS CH H d ls pl∧ls.length≤398∧ls2.length≤1∧H0 d.l≠none∧gb H0 H t v ls2 pv∧ff H pv pl2∧∀ H',bH C CS CH H' d (ls++ls2) pl2→Fr2 d.p d.l H H'→Q v H'
theorem Ia {C CS CH:Addr} {H H':Hp} {d:Hd} {ls:Lns} {pl:Option (Int×Int)} (h:bH C CS CH H d ls pl) (f:Fr2 d.p d.l H H'):k8 C CS H' d.ps d.sp d.c d.s d.far d.room d.term d.ws:=by
 obtain ⟨⟨dx,sv,hp,hpl⟩,hl,hL,⟨dy,tr,ms,h1,h2,pm⟩,⟨dz,h3⟩,hn⟩:=h
 have ne:∀ {u:Addr} {fs:List (Str×V)} (sv:V),stF (.ref d.sp) d.far d.room d.term u≠hdF d.nm d.ps d.l sv:=fun sv z=>by
  have:=congrArg (fun x=>(x.headD ("",.non)).1) z
  exact absurd this (by show ¬ (("shape" : Str) = "name");decide +kernel)
 have ne2:shF d.c d.s≠hdF d.nm d.ps d.l sv:=fun z=>by
  have:=congrArg (fun x=>(x.headD ("",.non)).1) z
  exact absurd this (by show ¬ (("counts" : Str) = "name");decide +kernel)
 refine ⟨⟨dy,tr,ms,f _ _ h1 ?_ ?_,f _ _ h2 ?_ ?_,pm⟩,⟨dz,f _ _ h3 ?_ ?_⟩,hn⟩
 ·intro z
  rw [z,hp] at h1
  cases h1
 ·intro z
  rw [z,hl] at h1
  cases h1
 ·intro z
  rw [z,hp] at h2
  cases h2
 ·intro z
  rw [z,hl] at h2
  cases h2
 ·intro z
  rw [z,hp] at h3
  cases h3
 ·intro z
  rw [z,hl] at h3
  cases h3
theorem Js {C CS CH:Addr} {H H':Hp} {d:Hd} {ls:Lns} {pl:Option (Int×Int)} (h:bH C CS CH H d ls pl) (f:Fr2 d.p d.l H H'):cI H H':=fun q xs e=>f q _ e (fun z=>by
  obtain ⟨⟨dx,sv,hp,hpl⟩,hl,_⟩:=h
  rw [z,hp] at e;cases e) (fun z=>by
  obtain ⟨⟨dx,sv,hp,hpl⟩,hl,_⟩:=h
  rw [z,hl] at e;cases e)
theorem ff.ts {H H':Hp} {v:V} {pl:Option (Int×Int)} (h:ff H v pl) (s:cI H H'):ff H' v pl:=by
 rcases h with h | ⟨t,m,k,e,ev,ht⟩
 ·exact .inl h
 ·exact .inr ⟨t,m,k,e,ev,s _ _ ht⟩
theorem Iz (D:bQ K CH "go" "Hand.go" (inClass (top 61) 6) ["self", "step"]) (SC:HdC K CH):bz P w K mg base CX CH "go" 1 ["self", "step"] (sd C CS CH):=by
 have S:=Ic
 refine b9 D S (fun vs H Q E h=>?_) (fun f cdv A outer s H vs Q E hr h=>?_)
 ·obtain ⟨d,ls,ls2,pl,pl2,H0,t,v,sw,rfl,_⟩:=h
  rfl
 obtain ⟨d,ls,ls2,pl,pl2,H0,t,v,sw,rfl,hd,hlen,hl2,h0,⟨lx,ht,nlx,hlx,hL2⟩,hpv,q⟩:=h
 obtain ⟨⟨dx,sv,hp,hpl⟩,hl,hL,hss⟩:=id hd
 have nxl:lx≠d.l:=fun z=>h0 (z▸nlx)
 have npl:d.p≠d.l:=fun z=>by rw [z,hl] at hp;cases hp
 refine ⟨_,(ak (bE (jw PySem.F.plainAttrs_list PySem.F.slot_list_extend PySem.F.type_list_extend xg (aP (pv 0) rfl) (aa (az aF (pv 1) ai (fun _ _=>rfl)) ah)))
   (ak (cQ (pv 0) (az aF (pv 1) ai (fun _ _=>rfl)) rfl)
   (ao (au (az aF (pv 1) ai (fun _ _=>rfl)))))),?_⟩
 try dsimp only [aZ]
 have L:=(Led.start H (fun _=>False)).more (bg t [_,_,_]) ht
 walk_at "go"
 refine ⟨d.p,CH,dx,_,_,rfl,hp,SC.cl,SC.n3,qR _ _ _ _,?_⟩
 walk_at "go"
 refine EL (SqL.of hl) ?_
 walk_at "go"
 refine ⟨d.l,lx,lnV ls,lnV ls2,rfl,rfl,hl,hlx,Nat.le_of_lt (small1000 (by rw [gy,gy];omega)),?_⟩
 have e2:lnV ls++lnV ls2=lnV (ls++ls2):=by unfold lnV;rw [List.map_append]
 rw [e2]
 have c1:Chg d.l H (upd H d.l (.lst (lnV (ls++ls2)))):=Chg.upd hl fun xs z=>nomatch z
 have hp1:(upd H d.l (.lst (lnV (ls++ls2)))) d.p=some (.ins CH dx (hdF d.nm d.ps d.l sv)):=by rw [aB npl];exact hp
 have hl1:(upd H d.l (.lst (lnV (ls++ls2)))) d.l=some (.lst (lnV (ls++ls2))):=ay
 have ht1:=c1.ts _ _ ht
 have f1:Fr2 d.p d.l H (upd H d.l (.lst (lnV (ls++ls2)))):=fun q o e _ z=>by rw [aB z];exact e
 generalize upd H d.l (.lst (lnV (ls++ls2)))=H1 at *
 have M:=(Led.start H1 (fun _=>False)).more (bg t [_,_,_]) ht1
 clear L
 walk_at "go"
 refine ⟨d.p,CH,dx,_,rfl,hp1,SC.cl,SC.n4,(by show 4 < 1000;decide),?_⟩
 rw [De]
 have f2:Fr2 d.p d.l H (upd H1 d.p (.ins CH dx (hdF d.nm d.ps d.l sw))):=fun q o e z1 z2=>by rw [aB z1];exact f1 q o e z1 z2
 have t2:=Js hd f2
 have M2:=(Led.start (upd H1 d.p (.ins CH dx (hdF d.nm d.ps d.l sw))) (fun _=>False)).more (bg t [_,_,_]) (t2 _ _ ht)
 clear M
 walk_at "go"
 refine q _ ⟨⟨dx,sw,ay,hpv.ts t2⟩,by rw [aB (Ne.symm npl)];exact hl1,fun x hx=>?_,Ia hd f2⟩ f2
 rcases List.mem_append.mp hx with hx | hx
 ·exact (hL x hx).ts t2
 ·exact (hL2 x hx).ts t2
end
theorem Au {nm:Str} {ps l:Addr} {sv:V}:(hdF nm ps l sv).lookup ("go" : Str)=none:=fu (by decide +kernel) (by decide +kernel) (by decide +kernel) (by decide +kernel)
theorem iI {nm:Str} {ps l:Addr} {sv:V}:(hdF nm ps l sv).lookup ("stand" : Str)=none:=fu (by decide +kernel) (by decide +kernel) (by decide +kernel) (by decide +kernel)
section
variable {P:Program} {w:World} {K:PySem.W.Frag} {mg:Str→Option Value} {base:Heap} {CX:CXT} {C CS CH CD CU CA CN CW CT:Addr}
theorem iV {d:Hd} {ls ls2:Lns} {pl pl2:Option (Int×Int)} {H1 H:Hp} {t:Addr} {v pv:V} {Q:VK} {E:XK} (hd:bH C CS CH H d ls pl) (hd1:bH C CS CH H1 d ls pl) (hlen:ls.length≤398) (h2:ls2.length≤1) (ht:gb H1 H t v ls2 pv) (hp:ff H pv pl2)
  (q:∀ H',bH C CS CH H' d (ls++ls2) pl2→Fr2 d.p d.l H H'→Q v H'):sd C CS CH [.ref d.p,.ref t] H Q E:=
 ⟨d,ls,ls2,pl,pl2,H1,t,v,pv,rfl,hd,hlen,h2,(by rw [hd1.2.1];exact fun z=>nomatch z),ht,hp,q⟩
theorem B0:aq ["self"] ["self"] (aj (inClass (top 61) 7)):=by walk_at "s"
def sf (C CS CH CD:Addr):Sp:=fun vs H Q E=>∃ (d:Hd) (ls:Lns) (pl:Option (Int×Int)),vs=[.ref d.p]∧bH C CS CH H d ls pl∧eu ls pl∧(pl=none→∀ H',aK H H'→E (.ref CD) none H')∧(pl.isSome=true→∀ H',bH C CS CH H' d ls none→Fr2 d.p d.l H H'→Q .non H')
theorem CO (D:bQ K CH "fall" "Hand.fall" (inClass (top 61) 7) ["self"]) (SC:HdC K CH) (NE:bh (CX1 P w)) (cE:bz P w K mg base (CX1 P w) CH "go" 1 ["self", "step"] (sd C CS CH)) (bO:bz P w K mg base (CX1 P w) CH "stand" 5 ["self"] (gu K C CS CH)) (jn:Cal P w K mg base (CX1 P w) "falling" 2 ["stand"] (mz K CD)):bz P w K mg base (CX1 P w) CH "fall" 6 ["self"] (sf C CS CH CD):=by
 have S:=B0
 refine c7 D S (fun vs H Q E h=>?_) (fun f cdv A outer s H vs Q E hr h=>?_)
 ·obtain ⟨d,ls,pl,rfl,_⟩:=h
  rfl
 obtain ⟨d,ls,pl,rfl,hd,hok,qe,q⟩:=h
 obtain ⟨⟨dx,sv,hp,hpl⟩,hl,hL,hss⟩:=id hd
 refine ⟨_,(ao (au (dY cE (hr.mono (by first | decide | omega)) NE.pass (pv 0) (aa (dh jn (hr.mono (by first | decide | omega)) bu (aa (bW bO (hr.mono (by first | decide | omega)) NE.pass (pv 0)) ah)) ah)))),?_⟩
 try dsimp only [aZ]
 walk_at "go"
 refine aS hp Au ?_
 walk_at "go"
 refine aS hp iI ?_
 walk_at "go"
 refine ⟨d,ls,pl,rfl,hd,hok,fun t H1 hst s1=>?_⟩
 walk_at "go"
 refine ⟨t,pl,_,_,rfl,hst,fun e=>qe e H1 s1,fun hs t2 H2 ht2 s2=>?_⟩
 walk_at "go"
 exact iV (hd.same (s1.trans s2)) (hd.same s1) hok.len (by simp) ht2 (.inl ⟨rfl,rfl⟩) fun H3 hd3 f3=>q hs H3 (by rw [List.append_nil] at hd3;exact hd3) ((Fr2.of (s1.trans s2)).trans f3)
theorem BP:aq ["self"] ["self"] (aj (inClass (top 61) 8)):=by walk_at "s"
def rX (C CS CH CU:Addr):Sp:=fun vs H Q E=>∃ (d:Hd) (ls:Lns) (pl:Option (Int×Int)),vs=[.ref d.p]∧bH C CS CH H d ls pl∧eu ls pl∧(pl.isSome=true→∀ H',aK H H'→E (.ref CU) none H')∧(pl=none→∀ H',bH C CS CH H' d ls (some (max (nt ls).hd (nt ls).hr,0))→Fr2 d.p d.l H H'→Q .non H')
theorem Cy (D:bQ K CH "rise" "Hand.rise" (inClass (top 61) 8) ["self"]) (SC:HdC K CH) (NE:bh (CX1 P w)) (cE:bz P w K mg base (CX1 P w) CH "go" 1 ["self", "step"] (sd C CS CH)) (bO:bz P w K mg base (CX1 P w) CH "stand" 5 ["self"] (gu K C CS CH)) (kU:Cal P w K mg base (CX1 P w) "rising" 2 ["stand"] (pR K CU)):bz P w K mg base (CX1 P w) CH "rise" 6 ["self"] (rX C CS CH CU):=by
 have S:=BP
 refine c7 D S (fun vs H Q E h=>?_) (fun f cdv A outer s H vs Q E hr h=>?_)
 ·obtain ⟨d,ls,pl,rfl,_⟩:=h
  rfl
 obtain ⟨d,ls,pl,rfl,hd,hok,qe,q⟩:=h
 obtain ⟨⟨dx,sv,hp,hpl⟩,hl,hL,hss⟩:=id hd
 refine ⟨_,(ao (au (dY cE (hr.mono (by first | decide | omega)) NE.pass (pv 0) (aa (dh kU (hr.mono (by first | decide | omega)) bu (aa (bW bO (hr.mono (by first | decide | omega)) NE.pass (pv 0)) ah)) ah)))),?_⟩
 try dsimp only [aZ]
 walk_at "go"
 refine aS hp Au ?_
 walk_at "go"
 refine aS hp iI ?_
 walk_at "go"
 refine ⟨d,ls,pl,rfl,hd,hok,fun t H1 hst s1=>?_⟩
 walk_at "go"
 refine ⟨t,pl,_,_,rfl,hst,fun e=>qe e H1 s1,fun hs t2 pt H2 ht2 hpt s2=>?_⟩
 walk_at "go"
 exact iV (hd.same (s1.trans s2)) (hd.same s1) hok.len (by simp) ht2 (.inr ⟨pt,_,_,rfl,rfl,hpt⟩) fun H3 hd3 f3=>q hs H3 (by rw [List.append_nil] at hd3;exact hd3) ((Fr2.of (s1.trans s2)).trans f3)
theorem BK:aq ["self", "grant", "area"] ["self", "grant", "area"] (aj (inClass (top 61) 9)):=by walk_at "s"
def nF (C CS CH CD:Addr):Sp:=fun vs H Q E=>∃ (d:Hd) (ls:Lns) (pl:Option (Int×Int)) (gr sl f e:Int) (a:Addr),vs=[.ref d.p,.int gr,.ref a]∧bH C CS CH H d ls pl∧eu ls pl∧H a=some (.tup [.int sl,.int f,.int e])∧(pl=none→∀ H',aK H H'→E (.ref CD) none H') ∧
 (∀ m k,pl=some (m,k)→("once" : Str)∈d.ws→gr≤gmx ls→∀ H',bH C CS CH H' d ls pl→Fr2 d.p d.l H H'→Q (.bl false) H') ∧
 (∀ m k,pl=some (m,k)→¬ (("once" : Str)∈d.ws∧gr≤gmx ls)→∀ l H',bH C CS CH H' d (ls++[(l,.took gr sl f e)]) (some (jv m k (bnd m k)))→Fr2 d.p d.l H H'→Q (.bl true) H')
theorem Cr (D:bQ K CH "take" "Hand.take" (inClass (top 61) 9) ["self", "grant", "area"]) (SC:HdC K CH) (NE:bh (CX1 P w)) (cE:bz P w K mg base (CX1 P w) CH "go" 1 ["self", "step"] (sd C CS CH)) (bO:bz P w K mg base (CX1 P w) CH "stand" 5 ["self"] (gu K C CS CH)) (kT:Cal P w K mg base (CX1 P w) "taking" 2 ["settings", "stand", "grant", "area"] (pQ K CD CS)):bz P w K mg base (CX1 P w) CH "take" 6 ["self", "grant", "area"] (nF C CS CH CD):=by
 have S:=BK
 refine c7 D S (fun vs H Q E h=>?_) (fun f cdv A outer s H vs Q E hr h=>?_)
 ·obtain ⟨d,ls,pl,gr,sl,f,e,a,rfl,_⟩:=h
  rfl
 obtain ⟨d,ls,pl,gr,sl,f',e,a,rfl,hd,hok,ha,qe,q0,q1⟩:=h
 obtain ⟨⟨dx,sv,hp,hpl⟩,hl,hL,hss⟩:=id hd
 refine ⟨_,(ao (au (dY cE (hr.mono (by first | decide | omega)) NE.pass (pv 0) (aa (dh kT (hr.mono (by first | decide | omega)) bu (aa (aP (pv 0) rfl) (aa (bW bO (hr.mono (by first | decide | omega)) NE.pass (pv 0)) (aa (pv 1) (aa (pv 2) ah))))) ah)))),?_⟩
 try dsimp only [aZ]
 walk_at "go"
 refine aS hp Au ?_
 walk_at "go"
 refine ⟨d.p,CH,dx,_,_,rfl,hp,SC.cl,SC.n2,t7 _ _ _ _,?_⟩
 walk_at "go"
 refine aS hp iI ?_
 walk_at "go"
 refine ⟨d,ls,pl,rfl,hd,hok,fun t H1 hst s1=>?_⟩
 walk_at "go"
 refine ⟨d.ps,t,a,_,d.far,d.room,d.term,d.ws,pl,_,_,gr,sl,f',e,rfl,(hss.same s1).1,hst,hok.k0,s1 _ _ ha,fun e=>qe e H1 s1,fun m k epl c1 c2 t2 v H2 hv ht2 s2=>?_,fun m k epl c1 t2 l v H2 hv ht2 s2=>?_⟩
 ·walk_at "go"
  exact iV (hd.same (s1.trans s2)) (hd.same s1) hok.len (by simp) ht2 hv fun H3 hd3 f3=>q0 m k epl c1 c2 H3 (by rw [List.append_nil] at hd3;exact hd3) ((Fr2.of (s1.trans s2)).trans f3)
 ·walk_at "go"
  exact iV (hd.same (s1.trans s2)) (hd.same s1) hok.len (by simp) ht2 hv fun H3 hd3 f3=>q1 m k epl c1 l H3 hd3 ((Fr2.of (s1.trans s2)).trans f3)
theorem yR:aq ["self", "reading"] ["self", "reading"] (aj (inClass (top 61) 10)):=by walk_at "s"
def uX (C CS CH CD CA CN CW:Addr):Sp:=fun vs H Q E=>∃ (d:Hd) (ls:Lns) (pl:Option (Int×Int)) (r:Int),vs=[.ref d.p,.int r]∧bH C CS CH H d ls pl∧eu ls pl∧(∀ H',aK H H'→MkE CD CA CN CW H' pl (nt ls) d.far r E) ∧
 (∀ m k sl f e,pl=some (m,k)→(nt ls).ar=some (sl,f,e)→¬ e≤due m f r→¬ r+d.far < due m f r→∀ ls2 H',((nt ls).hd < due m f r+d.room∧(∃ l,ls2=[(l,.held (due m f r+d.room))])∨¬ (nt ls).hd < due m f r+d.room∧ls2=[])→bH C CS CH H' d (ls++ls2) pl→Fr2 d.p d.l H H'→Q (.int (max (nt ls).hd (due m f r+d.room))) H')
theorem zL (D:bQ K CH "write" "Hand.write" (inClass (top 61) 10) ["self", "reading"]) (SC:HdC K CH) (NE:bh (CX1 P w)) (cE:bz P w K mg base (CX1 P w) CH "go" 1 ["self", "step"] (sd C CS CH)) (bO:bz P w K mg base (CX1 P w) CH "stand" 5 ["self"] (gu K C CS CH)) (jh:Cal P w K mg base (CX1 P w) "writing" 5 ["settings", "stand", "reading"] (l7 K C CD CA CN CW CS)):bz P w K mg base (CX1 P w) CH "write" 6 ["self", "reading"] (uX C CS CH CD CA CN CW):=by
 have S:=yR
 refine c7 D S (fun vs H Q E h=>?_) (fun f cdv A outer s H vs Q E hr h=>?_)
 ·obtain ⟨d,ls,pl,r,rfl,_⟩:=h
  rfl
 obtain ⟨d,ls,pl,r,rfl,hd,hok,qe,q1⟩:=h
 obtain ⟨⟨dx,sv,hp,hpl⟩,hl,hL,hss⟩:=id hd
 refine ⟨_,(ao (au (dY cE (hr.mono (by first | decide | omega)) NE.pass (pv 0) (aa (dh jh (hr.mono (by first | decide | omega)) bu (aa (aP (pv 0) rfl) (aa (bW bO (hr.mono (by first | decide | omega)) NE.pass (pv 0)) (aa (pv 1) ah)))) ah)))),?_⟩
 try dsimp only [aZ]
 walk_at "go"
 refine aS hp Au ?_
 walk_at "go"
 refine ⟨d.p,CH,dx,_,_,rfl,hp,SC.cl,SC.n2,t7 _ _ _ _,?_⟩
 walk_at "go"
 refine aS hp iI ?_
 walk_at "go"
 refine ⟨d,ls,pl,rfl,hd,hok,fun t H1 hst s1=>?_⟩
 walk_at "go"
 refine ⟨d.ps,t,d.sp,d.c,d.s,d.far,d.room,d.term,d.ws,pl,_,_,r,rfl,hss.same s1,hst,qe H1 s1,fun m k sl f' e epl ear b1 b2 t2 v ls2 H2 hls hv ht2 s2=>?_⟩
 have hl2:ls2.length≤1:=by
  rcases hls with ⟨_,l,rfl⟩ | ⟨_,rfl⟩ <;> simp
 walk_at "go"
 exact iV (hd.same (s1.trans s2)) (hd.same s1) hok.len hl2 ht2 hv fun H3 hd3 f3=>q1 m k sl f' e epl ear b1 b2 ls2 H3 hls hd3 ((Fr2.of (s1.trans s2)).trans f3)
theorem BW:aq ["self", "bound"] ["self", "bound"] (aj (inClass (top 61) 12)):=by walk_at "s"
def nI (C CS CH CD:Addr):Sp:=fun vs H Q E=>∃ (d:Hd) (ls:Lns) (pl:Option (Int×Int)) (b:Int),vs=[.ref d.p,.int b]∧bH C CS CH H d ls pl∧eu ls pl∧(pl=none→∀ H',aK H H'→E (.ref CD) none H') ∧
 (∀ m k,pl=some (m,k)→∀ ls2 H',((("spoken" : Str)∈d.ws∧(nt ls).hr < b∧∃ l,ls2=[(l,.heard b)])∨(¬ (("spoken" : Str)∈d.ws∧(nt ls).hr < b)∧ls2=[]))→bH C CS CH H' d (ls++ls2) (some (jv m k b))→Fr2 d.p d.l H H'→Q .non H')
theorem CI (D:bQ K CH "hear" "Hand.hear" (inClass (top 61) 12) ["self", "bound"]) (SC:HdC K CH) (NE:bh (CX1 P w)) (cE:bz P w K mg base (CX1 P w) CH "go" 1 ["self", "step"] (sd C CS CH)) (bO:bz P w K mg base (CX1 P w) CH "stand" 5 ["self"] (gu K C CS CH)) (jl:Cal P w K mg base (CX1 P w) "hearing" 2 ["settings", "stand", "bound"] (mq K CD CS)):bz P w K mg base (CX1 P w) CH "hear" 6 ["self", "bound"] (nI C CS CH CD):=by
 have S:=BW
 refine c7 D S (fun vs H Q E h=>?_) (fun f cdv A outer s H vs Q E hr h=>?_)
 ·obtain ⟨d,ls,pl,b,rfl,_⟩:=h
  rfl
 obtain ⟨d,ls,pl,b,rfl,hd,hok,qe,q1⟩:=h
 obtain ⟨⟨dx,sv,hp,hpl⟩,hl,hL,hss⟩:=id hd
 refine ⟨_,(ao (au (dY cE (hr.mono (by first | decide | omega)) NE.pass (pv 0) (aa (dh jl (hr.mono (by first | decide | omega)) bu (aa (aP (pv 0) rfl) (aa (bW bO (hr.mono (by first | decide | omega)) NE.pass (pv 0)) (aa (pv 1) ah)))) ah)))),?_⟩
 try dsimp only [aZ]
 walk_at "go"
 refine aS hp Au ?_
 walk_at "go"
 refine ⟨d.p,CH,dx,_,_,rfl,hp,SC.cl,SC.n2,t7 _ _ _ _,?_⟩
 walk_at "go"
 refine aS hp iI ?_
 walk_at "go"
 refine ⟨d,ls,pl,rfl,hd,hok,fun t H1 hst s1=>?_⟩
 walk_at "go"
 refine ⟨d.ps,t,_,d.far,d.room,d.term,d.ws,pl,_,_,b,rfl,(hss.same s1).1,hst,hok.k0,fun e=>qe e H1 s1,fun m k epl t2 v ls2 H2 hls hv ht2 s2=>?_⟩
 have hl2:ls2.length≤1:=by
  rcases hls with ⟨_,_,l,rfl⟩ | ⟨_,rfl⟩ <;> simp
 walk_at "go"
 exact iV (hd.same (s1.trans s2)) (hd.same s1) hok.len hl2 ht2 hv fun H3 hd3 f3=>q1 m k epl ls2 H3 hls hd3 ((Fr2.of (s1.trans s2)).trans f3)
theorem BJ:aq ["self"] ["self"] (aj (inClass (top 61) 13)):=by walk_at "s"
def yD (C CS CH CD:Addr):Sp:=fun vs H Q E=>∃ (d:Hd) (ls:Lns) (pl:Option (Int×Int)),vs=[.ref d.p]∧bH C CS CH H d ls pl∧(pl=none→E (.ref CD) none H)∧(∀ m k,pl=some (m,k)→Q (.int (bnd m k)) H)
theorem Cq (D:bQ K CH "tell" "Hand.tell" (inClass (top 61) 13) ["self"]) (SC:HdC K CH) (NE:bh (CX1 P w)) (bI:Cal P w K mg base (CX1 P w) "need_up" 1 ["place"] (eS CD)) (g4:Cal P w K mg base (CX1 P w) "bound_of" 1 ["place"] nO):bz P w K mg base (CX1 P w) CH "tell" 2 ["self"] (yD C CS CH CD):=by
 have S:=BJ
 refine c7 D S (fun vs H Q E h=>?_) (fun f cdv A outer s H vs Q E hr h=>?_)
 ·obtain ⟨d,ls,pl,rfl,_⟩:=h
  rfl
 obtain ⟨d,ls,pl,rfl,⟨⟨dx,sv,hp,hpl⟩,hl,hL,hss⟩,qe,q⟩:=h
 refine ⟨_,(ak (bE (dh bI (hr.mono (by first | decide | omega)) bu (aa (aP (pv 0) rfl) ah)))
   (ao (au (aI g4 (hr.mono (by first | decide | omega)) NE.pass (aa (aP (pv 0) rfl) ah))))),?_⟩
 try dsimp only [aZ]
 walk_at "go"
 refine ⟨d.p,CH,dx,_,_,rfl,hp,SC.cl,SC.n4,qQ _ _ _ _,?_⟩
 walk_at "go"
 refine ⟨sv,pl,rfl,hpl,qe,fun hsome=>?_⟩
 walk_at "go"
 refine ⟨d.p,CH,dx,_,_,rfl,hp,SC.cl,SC.n4,qQ _ _ _ _,?_⟩
 rcases hpl with ⟨rfl,rfl⟩ | ⟨t,m,k,rfl,rfl,ht⟩
 ·cases hsome
 walk_at "go"
 exact ⟨t,m,k,rfl,ht,q m k rfl⟩
end
open PySem.W in
structure ExW (K:Frag) (mg:Str→Option Value) (x qual:Str) (C:Addr) (st:Stmt) (ps:List Str):Prop where
 dat:uJ K mg x qual C st ps
 get:fG K C
 hd:hasDictIn K C=true
 ov:∃ cd,clsIn K C=some cd∧cP cd.mro∧cd.hasDict=true
 sa:findIn K (.ref C) "__setattr__" = some (some (.builtin "object.__setattr__"))
open PySem.W in
theorem ExW.put {K:Frag} {mg:Str→Option Value} {x qual f:Str} {C:Addr} {st:Stmt} {ps:List Str} (W:ExW K mg x qual C st ps) (t:takerIn K C f=some none):pB K C f:=⟨W.get,W.sa,W.ov,t⟩
open PySem.W in
theorem AV {K:Frag} {h:Heap} {mg:Str→Option Value} {x qual:Str} {CW CR f:Addr} {st:Stmt} {ps:List Str} {cbW:ClassData} {dd od an:Option Addr} {k0 k1 k2 k3 k5:Option Value} {oc kV doc pm cdv ct:Value} {osl:Array (Option Value)} (X:K.In h) (G:h.Ns mainGlobals mg)
  (a1:nsIn K mainGlobals x=some (some (.ref CW))) (g6:specialIn K (.builtin "object.__class__") "__get__" = some (some (.builtin "getset_descriptor.__get__"))) (g7:takesIn K (.builtin "object.__class__")=some true)
  (v1:findIn K (.ref CW) "__getattribute__" = some (some (.builtin "BaseException.__getattribute__"))) (v2:findIn K (.ref CW) "__getattr__" = some none) (v3:mroIn K CW (.type "BaseException")=some true) (v4:mroIn K CW (.type "object")=some true)
  (v5:findIn K (.ref CW) "__class__" = some (some (.builtin "object.__class__"))) (v8:clsIn K CW=some cbW) (r0:excIn K CR dU "ValueError.__new__" = true)
  (u1:findIn K (.ref CW) "__setattr__" = some (some (.builtin "object.__setattr__"))) (u3:K.lookup CW=some ⟨.type "type",dd,.cls cbW,#[k0,k1,k2,k3,some (.builtin "ValueError.__new__"),k5]⟩) (u4:cbW.mro = .ref CW::.ref CR::dU) (u5:cbW.hasDel=false) (u6:cbW.hasDict=true)
  (i1:findIn K (.ref CW) "__init__" = some (some (.ref f))) (i2:typeIn K (.ref f)=some (.type "function")) (i3:K.lookup f=some ⟨oc,od,.func (fnOf "__init__" qual (bC st) (bf st) (aj st) .none kV doc pm an cdv ct),osl⟩) (i4:codeIn K cdv qual=true) (i5:keepIn K (.ref f)=true) (i6:keepIn K (.ref CW)=true)
  (b:∀ (kV doc pm:Value) (an:Option Addr) (cdv ct:Value) (us:List Value),us.length=ps.length→bindArgs (fnOf "__init__" qual (bC st) (bf st) (aj st) .none kV doc pm an cdv ct) ⟨us,[]⟩=pure (ps.zip us)) (x1:hasDictIn K CW=true):ExW K mg x qual CW st ps:=
 ⟨DM X G a1 (AZ u3 u4 u5 r0) i1 i2 i3 i4 i5 i6 b,⟨v1,v2,v3,v4,v5,g6,g7,nP v8⟩,x1,⟨cbW,v8,u4▸cP.two,u6⟩,u1⟩
def ers (CD CU CA CN CW CT:Addr):List Addr:=[CD,CU,CA,CN,CW,CT]
structure Hu (K:PySem.W.Frag) (mg:Str→Option Value) (CD CU CA CN CW CT CR:Addr):Prop where
 d:lU K mg "Down" CD
 u:lU K mg "Up" CU
 a:lU K mg "NoArea" CA
 n:lU K mg "NoRoom" CN
 w:uJ K mg "Wait" "Wait.__init__" CW (inClass (top 9) 0) ["self", "reading"]
 pw:pB K CW "reading"
 b:wc K mg "RiseError" CR
 hR:mg "RiseError" = some (.ref CR)
 hD:mg "Down" = some (.ref CD)
 hU:mg "Up" = some (.ref CU)
 hA:mg "NoArea" = some (.ref CA)
 hN:mg "NoRoom" = some (.ref CN)
 hW:mg "Wait" = some (.ref CW)
 et:∀ c∈ers CD CU CA CN CW CT,PySem.W.exmOne K (.ref c) (.ref CR)=some true
open PySem.W in
theorem Dc {K:Frag} {h:Heap} {mg:Str→Option Value} {CD CU CA CN CW CR:Addr} {R:Addr→Addr→Addr→Addr→Addr→Addr→Addr→Prop} (X:K.In h) (G:h.Ns mainGlobals mg)
  (WW:ExW K mg "Wait" "Wait.__init__" CW (inClass (top 9) 0) ["self", "reading"]) (tw:takerIn K CW "reading" = some none)
  (aD:nsIn K mainGlobals "Down" = some (some (.ref CD))) (aU:nsIn K mainGlobals "Up" = some (some (.ref CU))) (aA:nsIn K mainGlobals "NoArea" = some (some (.ref CA))) (aN:nsIn K mainGlobals "NoRoom" = some (some (.ref CN))) (aW:nsIn K mainGlobals "Wait" = some (some (.ref CW))) (aR:nsIn K mainGlobals "RiseError" = some (some (.ref CR)))
  (d1:excIn K CD dU "ValueError.__new__" = true) (d2:findIn K (.ref CD) "__init__" = some (some (.builtin "ValueError.__init__"))) (d3:keepIn K (.ref CD)=true)
  (u1:excIn K CU dU "ValueError.__new__" = true) (u2:findIn K (.ref CU) "__init__" = some (some (.builtin "ValueError.__init__"))) (u3:keepIn K (.ref CU)=true)
  (c1:excIn K CA dU "ValueError.__new__" = true) (c2:findIn K (.ref CA) "__init__" = some (some (.builtin "ValueError.__init__"))) (c3:keepIn K (.ref CA)=true)
  (n1:excIn K CN dU "ValueError.__new__" = true) (n2:findIn K (.ref CN) "__init__" = some (some (.builtin "ValueError.__init__"))) (n3:keepIn K (.ref CN)=true)
  (r1:specialIn K (.ref CR) "__getattribute__" = some (some (.builtin "type.__getattribute__"))) (r2:readsIn K CR (.type "type")=true) (r3:findCls K (.ref CR) (.type "type") "__init__" = some (.val (.builtin "ValueError.__init__")))
  (m1:exmOne K (.ref CD) (.ref CR)=some true) (m2:exmOne K (.ref CU) (.ref CR)=some true) (m3:exmOne K (.ref CA) (.ref CR)=some true) (m4:exmOne K (.ref CN) (.ref CR)=some true) (m5:exmOne K (.ref CW) (.ref CR)=some true)
  (hR:R CD CU CA CN CW CD CR):∃ CD CU CA CN CW CT CR:Addr,Hu K mg CD CU CA CN CW CT CR∧R CD CU CA CN CW CT CR:=
 ⟨CD,CU,CA,CN,CW,CD,CR,⟨⟨gA d1,d2,d3,mg_of X G aD⟩,⟨gA u1,u2,u3,mg_of X G aU⟩,⟨gA c1,c2,c3,mg_of X G aA⟩,⟨gA n1,n2,n3,mg_of X G aN⟩,WW.dat,WW.put tw,⟨mg_of X G aR,r1,r2,r3⟩,mg_of X G aR,mg_of X G aD,mg_of X G aU,mg_of X G aA,mg_of X G aN,mg_of X G aW,fun c hc=>by
  simp only [ers,List.mem_cons,List.not_mem_nil,or_false] at hc
  rcases hc with rfl | rfl | rfl | rfl | rfl | rfl
  ·exact m1
  ·exact m2
  ·exact m3
  ·exact m4
  ·exact m5
  ·exact m1⟩,hR⟩
structure JF (K:PySem.W.Frag) (mg:Str→Option Value) (CH:Addr):Prop where
 is_up:bQ K CH "is_up" "Hand.is_up" (inClass (top 61) 1) ["self"]
 place:bQ K CH "place" "Hand.place" (inClass (top 61) 2) ["self"]
 note:bQ K CH "note" "Hand.note" (inClass (top 61) 3) ["self"]
 area:bQ K CH "area" "Hand.area" (inClass (top 61) 4) ["self"]
 stand:bQ K CH "stand" "Hand.stand" (inClass (top 61) 5) ["self"]
 go:bQ K CH "go" "Hand.go" (inClass (top 61) 6) ["self", "step"]
 fall:bQ K CH "fall" "Hand.fall" (inClass (top 61) 7) ["self"]
 rise:bQ K CH "rise" "Hand.rise" (inClass (top 61) 8) ["self"]
 take:bQ K CH "take" "Hand.take" (inClass (top 61) 9) ["self", "grant", "area"]
 write:bQ K CH "write" "Hand.write" (inClass (top 61) 10) ["self", "reading"]
 hear:bQ K CH "hear" "Hand.hear" (inClass (top 61) 12) ["self", "bound"]
 tell:bQ K CH "tell" "Hand.tell" (inClass (top 61) 13) ["self"]
structure JG (K:PySem.W.Frag) (mg:Str→Option Value):Prop where
 d_is_whole:Dat K mg "is_whole" "is_whole" (top 16) ["thing"]
 d_is_whole_from:Dat K mg "is_whole_from" "is_whole_from" (top 17) ["thing", "least"]
 d_is_side:Dat K mg "is_side" "is_side" (top 18) ["thing"]
 d_mark_of:Dat K mg "mark_of" "mark_of" (top 20) ["shape", "moment", "slot", "count"]
 d_is_span:Dat K mg "is_span" "is_span" (top 42) ["thing", "least"]
 d_is_rule:Dat K mg "is_rule" "is_rule" (top 43) ["thing"]
 d_are_rules:Dat K mg "are_rules" "are_rules" (top 44) ["thing"]
 d_has_rule:Dat K mg "has_rule" "has_rule" (top 46) ["settings", "word"]
 d_slot_of:Dat K mg "slot_of" "slot_of" (top 22) ["area"]
 d_first_of:Dat K mg "first_of" "first_of" (top 23) ["area"]
 d_end_of:Dat K mg "end_of" "end_of" (top 24) ["area"]
 d_ended_at:Dat K mg "ended_at" "ended_at" (top 25) ["area", "end"]
 d_read_on:Dat K mg "read_on" "read_on" (top 34) ["told", "line"]
 d_read_note:Dat K mg "read_note" "read_note" (top 35) ["lines"]
 d_tooks_of:Dat K mg "tooks_of" "tooks_of" (top 37) ["lines"]
 d_greatest_taken:Dat K mg "greatest_taken" "greatest_taken" (top 38) ["lines"]
 d_bound_of:Dat K mg "bound_of" "bound_of" (top 27) ["place"]
 d_raised:Dat K mg "raised" "raised" (top 28) ["place", "bound"]
 d_next_place:Dat K mg "next_place" "next_place" (top 29) ["shape", "place"]
 d_moment_at:Dat K mg "moment_at" "moment_at" (top 30) ["area", "place", "reading"]
 d_made:Dat K mg "made" "made" (top 31) ["shape", "far", "area", "place", "reading"]
 d_area_in:Dat K mg "area_in" "area_in" (top 48) ["stand"]
 d_held_in:Dat K mg "held_in" "held_in" (top 49) ["stand"]
 d_heard_in:Dat K mg "heard_in" "heard_in" (top 50) ["stand"]
 d_start_by:Dat K mg "start_by" "start_by" (top 51) ["note"]
 d_need_up:Dat K mg "need_up" "need_up" (top 52) ["place"]
 d_need_area:Dat K mg "need_area" "need_area" (top 53) ["area"]
 d_falling:Dat K mg "falling" "falling" (top 54) ["stand"]
 d_rising:Dat K mg "rising" "rising" (top 55) ["stand"]
 d_taking:Dat K mg "taking" "taking" (top 56) ["settings", "stand", "grant", "area"]
 d_hearing:Dat K mg "hearing" "hearing" (top 59) ["settings", "stand", "bound"]
 d_mark_and_place:Dat K mg "mark_and_place" "mark_and_place" (top 57) ["settings", "stand", "reading"]
 d_writing:Dat K mg "writing" "writing" (top 58) ["settings", "stand", "reading"]
 d_area_of:Dat K mg "area_of" "area_of" (top 36) ["lines"]
 d__law_hand:Dat K mg "_law_hand" "_law_hand" (top 68) ["_law_script", "_law_k"]
 d__law_pick:Dat K mg "_law_pick" "_law_pick" (top 69) ["_law_hand_here", "_law_many"]
structure Kw (P:Program) (w:World) (K:PySem.W.Frag) (mg:Str→Option Value) (base:Heap) (C CS CH CD CU CA CN CW CT:Addr):Prop where
 cV:Cal P w K mg base (CX1 P w) "_law_hand" 1 ["_law_script", "_law_k"] (nJ K)
 aH:Cal P w K mg base (CX1 P w) "_law_pick" 11 ["_law_hand_here", "_law_many"] fJ
 iD:Mak P w K mg base (CX1 P w) "Shape" C 4 ["self", "counts", "slots"] (jJ C)
 d7:Mak P w K mg base (CX1 P w) "Settings" CS 4 ["self", "shape", "far", "room", "term", "rules"] (fk CS)
 m_Hand:Mak P w K mg base (CX1 P w) "Hand" CH 5 ["self", "name", "settings", "lines"] (gw CH)
 iE:uH P w K mg base (CX1 P w) "Hand" CH 5 ["self", "name", "settings", "lines"] (gw CH)
 bP:bz P w K mg base (CX1 P w) CH "is_up" 1 ["self"] (jV C CS CH)
 fE:bz P w K mg base (CX1 P w) CH "place" 1 ["self"] (nG C CS CH)
 gg:bz P w K mg base (CX1 P w) CH "note" 1 ["self"] (rZ C CS CH)
 M_Hand_area:bz P w K mg base (CX1 P w) CH "area" 6 ["self"] (yP C CS CH)
 gj:bz P w K mg base (CX1 P w) CH "fall" 6 ["self"] (sf C CS CH CD)
 gf:bz P w K mg base (CX1 P w) CH "rise" 6 ["self"] (rX C CS CH CU)
 gc:bz P w K mg base (CX1 P w) CH "take" 6 ["self", "grant", "area"] (nF C CS CH CD)
 M_Hand_write:bz P w K mg base (CX1 P w) CH "write" 6 ["self", "reading"] (uX C CS CH CD CA CN CW)
 gi:bz P w K mg base (CX1 P w) CH "hear" 6 ["self", "bound"] (nI C CS CH CD)
 M_Hand_tell:bz P w K mg base (CX1 P w) CH "tell" 2 ["self"] (yD C CS CH CD)
section
variable {P:Program} {w:World} {K:PySem.W.Frag} {mg:Str→Option Value} {base:Heap} {C CS CH CD CU CA CN CW CT CR aR aN:Addr}
theorem Dg (BT:Bt mg) (NE:bh (CX1 P w)) (D:JG K mg) (M:JF K mg CH) (ER:Hu K mg CD CU CA CN CW CT CR) (DSh:lW K mg "Shape" "Shape.__init__" C (inClass (top 19) 0) ["self", "counts", "slots"]) (SC:ShC K C) (DSt:nh K mg "Settings" "Settings.__init__" CS (inClass (top 45) 0) ["self", "shape", "far", "room", "term", "rules"]) (SS:StC K CS)
  (DHd:jA K mg "Hand" "Hand.__init__" CH (inClass (top 61) 0) ["self", "name", "settings", "lines"]) (HC:HdC K CH) (uc:GlV mg "GREATEST_SIDE" (.int 1000)) (ua:GlV mg "GREATEST_SPAN" (.int 1000000000000)) (eH:GlV mg "RULES" (.ref aR)) (hR:∀ H,SqT K H aR (ju.map V.str)) (eX:GlV mg "NOTHING" (.ref aN)) (hN:∀ H,SqT K H aN [.int 0,.non,.int 0,.int 0]):Kw P w K mg base C CS CH CD CU CA CN CW CT:=by
 have DP:=zM (P:=P) (w:=w) (base:=base) (CX:=CX1 P w) D.d_is_whole BT
 have Bd:=CK D.d_is_whole_from NE DP
 have iD:=zR DSh SC NE (Cv D.d_is_side NE uc Bd)
 have GX:=CC (P:=P) (w:=w) (base:=base) (CX:=CX1 P w) D.d_mark_of SC
 have DT:=zS D.d_are_rules BT NE (Cw (P:=P) (w:=w) (base:=base) (CX:=CX1 P w) D.d_is_rule BT eH hR)
 have d7:=qz DSt SS BT NE eH (Ct D.d_is_span NE ua Bd) DT
 have mZ:=tN (P:=P) (w:=w) (base:=base) (CX:=CX1 P w) D.d_has_rule SS
 have ji:=kj (P:=P) (w:=w) (base:=base) (CX:=CX1 P w) D.d_slot_of
 have iP:=jx (P:=P) (w:=w) (base:=base) (CX:=CX1 P w) D.d_first_of
 have rA:=mG (P:=P) (w:=w) (base:=base) (CX:=CX1 P w) D.d_end_of
 have oR:=zT D.d_read_note NE eX hN (wV D.d_read_on BT NE rA (qG D.d_ended_at NE ji iP))
 have DU:=qF D.d_greatest_taken BT NE (zO (P:=P) (w:=w) (base:=base) (CX:=CX1 P w) D.d_tooks_of)
 have vW:=qH (P:=P) (w:=w) (base:=base) (CX:=CX1 P w) D.d_bound_of
 have e8:=wW (P:=P) (w:=w) (base:=base) (CX:=CX1 P w) D.d_raised BT
 have GS:=lM (P:=P) (w:=w) (base:=base) (CX:=CX1 P w) D.d_next_place SC
 have rq:=n9 D.d_moment_at BT NE iP
 have uG:=CY (P:=P) (w:=w) (base:=base) ER.w ER.b ER.pw
 have ux:=CF D.d_made BT NE ER.n uG rq rA ji GX GS
 have gB:=tL (P:=P) (w:=w) (base:=base) (CX:=CX1 P w) D.d_held_in
 have gX:=qC (P:=P) (w:=w) (base:=base) (CX:=CX1 P w) D.d_heard_in
 have dB:=tR (P:=P) (w:=w) (base:=base) (CX:=CX1 P w) D.d_area_in
 have dm:=qy (P:=P) (w:=w) (base:=base) (CX:=CX1 P w) D.d_start_by BT
 have bI:=tD (P:=P) (w:=w) (base:=base) D.d_need_up NE ER.d
 have fY:=n8 (P:=P) (w:=w) (base:=base) D.d_need_area NE ER.a
 have jn:=tP D.d_falling NE bI
 have kU:=wU D.d_rising NE ER.u dm
 have kT:=wR D.d_taking NE bI mZ vW e8
 have jl:=tM D.d_hearing NE bI mZ gX e8
 have Jw:=Ft D.d_mark_and_place SS NE bI fY dB ux
 have jh:=sZ D.d_writing SS NE Jw dB gB rq
 have jo:=tQ D.d_area_of NE oR
 obtain ⟨m_Hand,iE⟩:=z5 DHd HC BT NE oR dm
 have D8:=z4 (P:=P) (w:=w) (mg:=mg) (base:=base) (CX:=CX1 P w) (C:=C) (CS:=CS) M.is_up HC
 have D7:=zW (P:=P) (w:=w) (mg:=mg) (base:=base) (CX:=CX1 P w) (C:=C) (CS:=CS) M.place HC
 have Hh:=CB (P:=P) (w:=w) (mg:=mg) (base:=base) (CX:=CX1 P w) (C:=C) (CS:=CS) M.note HC BT
 have Ht:=CV (C:=C) (CS:=CS) M.area HC NE jo
 have iS:=zP (C:=C) (CS:=CS) M.stand HC NE oR DU
 have Bk:=Iz (P:=P) (w:=w) (mg:=mg) (base:=base) (CX:=CX1 P w) (C:=C) (CS:=CS) M.go HC
 have Hq:=CO M.fall HC NE Bk iS jn
 have Hg:=Cy M.rise HC NE Bk iS kU
 have G8:=Cr M.take HC NE Bk iS kT
 have D6:=zL M.write HC NE Bk iS jh
 have Hj:=CI M.hear HC NE Bk iS jl
 have G7:=Cq (C:=C) (CS:=CS) M.tell HC NE bI vW
 have G0:=CJ (P:=P) (w:=w) (base:=base) (CX:=CX1 P w) D.d__law_hand BT
 have GR:=Cz (P:=P) (w:=w) (base:=base) (CX:=CX1 P w) D.d__law_pick NE
 exact ⟨G0,GR,iD,d7,m_Hand,iE,D8,D7,Hh,Ht,Hq,Hg,G8,D6,Hj,G7⟩
end
structure Gr where
 g:Addr
 ar:Addr
 n:Int
 nm:Str
 sl:Int
 f:Int
 e:Int
def lu (H:Hp) (x:Gr):Prop:=H x.g=some (.tup [.int x.n,.str x.nm,.ref x.ar])∧rV H x.ar x.sl x.f x.e
theorem lu.ts {H H':Hp} {x:Gr} (h:lu H x) (s:cI H H'):lu H' x:=⟨s _ _ h.1,s _ _ h.2⟩
theorem lu.same {H H':Hp} {x:Gr} (h:lu H x) (s:aK H H'):lu H' x:=⟨s _ _ h.1,s _ _ h.2⟩
def grV (gs:List Gr):List V:=gs.map fun x=>.ref x.g
theorem eG (gs:List Gr):(grV gs).length=gs.length:=List.length_map ..
theorem vM {gs:List Gr} {i:Nat} {v:V} (h:(grV gs)[i]?=some v):∃ x,gs[i]?=some x∧v = .ref x.g:=by
 unfold grV at h
 rw [List.getElem?_map] at h
 cases e:gs[i]? with
 | none=>rw [e] at h;cases h
 | some x=>rw [e] at h;cases h;exact ⟨x,rfl,rfl⟩
def cM (H:Hp) (gs:List Gr):Prop:=∀ x∈gs,lu H x
theorem cM.same {H H':Hp} {gs:List Gr} (h:cM H gs) (s:aK H H'):cM H' gs:=fun x hx=>(h x hx).same s
theorem cM.ts {H H':Hp} {gs:List Gr} (h:cM H gs) (s:cI H H'):cM H' gs:=fun x hx=>(h x hx).ts s
def grD (x:Gr):Dt:=.tup [.int x.n,.str x.nm,.tup [.int x.sl,.int x.f,.int x.e]]
theorem lu.at {K:PySem.W.Frag} {H:Hp} {x:Gr} (h:lu H x):At K H (.ref x.g) (grD x):=.tup (SqT.of h.1) (.cons (.int _) (.cons (.str _) (.cons (.tup (SqT.of h.2) (.cons (.int _) (.cons (.int _) (.cons (.int _) .nil)))) .nil)))
theorem vL {K:PySem.W.Frag} {H:Hp}:∀ {gs:List Gr},cM H gs→Ats K H (grV gs) (gs.map grD)
 | [],_=>.nil
 | x::gs,h=>.cons (h x List.mem_cons_self).at (vL fun y hy=>h y (List.mem_cons_of_mem _ hy))
theorem vK:∀ (gs:List Gr),deps (gs.map grD)≤2
 | []=>Nat.zero_le _
 | x::gs=>by
  rw [List.map_cons,deps]
  exact Nat.max_le.mpr ⟨by unfold grD;simp [dep,deps],vK gs⟩
theorem F7 {K:PySem.W.Frag} {H:Hp} {gs:List Gr} {a:Addr} (s:SqL K H a (grV gs)) (h:cM H gs):At K H (.ref a) (.lst (gs.map grD)):=.lst s (vL h)
end Law
namespace Law
theorem snoc_ind {α : Type} {p:List α→Prop} (nil:p []) (snoc:∀ (l:List α) (a : α),p l→p (l++[a])) (l:List α):p l:=by
 have h:∀ l:List α,p l.reverse:=fun l=>by
  induction l with
  | nil=>exact nil
  | cons a l ih=>rw [List.reverse_cons];exact snoc _ _ ih
 have:=h l.reverse
 rwa [List.reverse_reverse] at this
def di (gs:List Gr) (s b:Int):Int:=gs.foldl (fun m x=>if x.sl=s then max m x.e else m) b
theorem eZ (gs:List Gr) (x:Gr) (s b:Int):di (gs++[x]) s b=if x.sl=s then max (di gs s b) x.e else di gs s b:=by
 unfold di;rw [List.foldl_append];rfl
theorem DL (gs:List Gr) (s b:Int):b≤di gs s b:=by
 induction gs using snoc_ind with
 | nil=>exact Int.le_refl b
 | snoc gs x ih=>
  rw [eZ]
  by_cases c:x.sl=s
  ·rw [if_pos c];omega
  ·rw [if_neg c];exact ih
theorem A5 (gs:List Gr) (s:Int) {b c:Int} (h:c≤b):max (di gs s c) b=di gs s b:=by
 induction gs using snoc_ind with
 | nil=>show max c b=b;omega
 | snoc gs x ih=>
  rw [eZ,eZ]
  by_cases c:x.sl=s
  ·rw [if_pos c,if_pos c,← ih];omega
  ·rw [if_neg c,if_neg c];exact ih
theorem A4 {gs:List Gr} {s b:Int}:di gs s b=b∨∃ x∈gs,x.sl=s∧di gs s b=x.e:=by
 induction gs using snoc_ind with
 | nil=>exact .inl rfl
 | snoc gs x ih=>
  rw [eZ]
  by_cases c:x.sl=s
  ·rw [if_pos c]
   by_cases d:x.e≤di gs s b
   ·rw [Int.max_eq_left d]
    rcases ih with ih | ⟨y,hy,h1,h2⟩
    ·exact .inl ih
    ·exact .inr ⟨y,by simp [hy],h1,h2⟩
   ·rw [Int.max_eq_right (by omega)]
    exact .inr ⟨x,by simp,c,rfl⟩
  ·rw [if_neg c]
   rcases ih with ih | ⟨y,hy,h1,h2⟩
   ·exact .inl ih
   ·exact .inr ⟨y,by simp [hy],h1,h2⟩
structure NxJ (gs:List Gr) (slots:Nat) (b:Int) (j:Nat):Prop where
 lt:j < slots
 le:∀ k:Nat,k < slots→di gs j b≤di gs k b
 fst:∀ k:Nat,k < j→di gs j b < di gs k b
def Nx (apart:Bool) (gs:List Gr) (slots:Nat) (b s f:Int):Prop:=if apart=true then ∃ j:Nat,NxJ gs slots b j∧s=j∧f=di gs j b else s=(gs.length:Int) % slots∧f=b
theorem Nx.ge {apart:Bool} {gs:List Gr} {slots:Nat} {b s f:Int} (h:Nx apart gs slots b s f):b≤f:=by
 unfold Nx at h
 cases apart with
 | true=>
  rw [if_pos rfl] at h
  obtain ⟨i,h1,rfl,rfl⟩:=h
  exact DL ..
 | false=>
  rw [if_neg Bool.false_ne_true] at h
  rw [h.2];exact Int.le_refl _
end Law
namespace L4
open PySem PySem.Spec PyProof.Rows L2 L3
def B9:V→List V→Hp→VK→Prop:=fun x vs H Q=>∃ (l:Addr) (ns:List Int) (k:Int) (j:Nat),x = .ref l∧vs=[.int k]∧H l=some (.lst (ns.map V.int))∧ns.length≤1000∧ns[j]?=some k∧(∀ m,m < j→ns[m]?≠some k)∧Q (.int (j:Int)) H
def isIn (k:Int):Value→Bool
 | .int b _=>b == k
 | _=>false
theorem Bw:∀ {ns:List Int} {us:List Value},Vals (ns.map V.int) us→∀ (i:Nat) (n:Int),ns[i]?=some n→∃ t,us[i]?=some (.int n t)
 | _,_,h,i,n,e=>by
  obtain ⟨u,hu,ru⟩:=h.get (x:=.int n) (by rw [List.getElem?_map,e];rfl)
  obtain ⟨t,rfl⟩:=ru
  exact ⟨t,hu⟩
section
variable {X:Cx}
theorem w6:MtM X "list.index" B9:=by
 intro pins s σ H x vs v us Q I rx rv h
 obtain ⟨l,ns,k,j,rfl,rfl,hH,hz,hk,hb,q⟩:=h
 cases rx
 obtain ⟨u,rfl,ru⟩:=rv.one
 obtain ⟨tk,rfl⟩:=ru
 obtain ⟨z,its,n,r,hl,e⟩:=I.qO hH
 have hlen:ns.length=its.length:=by have:=r.length;rw [List.length_map] at this;exact this
 obtain ⟨hj,hje⟩:=List.getElem?_eq_some_iff.mp hk
 have at':∀ i (hi:i < its.length),∃ t,its[i] = .int (ns[i]'(by omega)) t:=fun i hi=>by
  obtain ⟨t,ht⟩:=Bw r i _ (List.getElem?_eq_getElem (by omega:i < ns.length))
  rw [List.getElem?_eq_getElem hi] at ht
  exact ⟨t,Option.some.inj ht⟩
 refine call_meets F.slot_list_index ⟨_,e,rfl⟩ F.entry_list_index (F.args_list_index_2 _ _) (PySem.SeqAt.list_indexAt l _ n _ _ (.int k tk) (isIn k) j (by simpa using (hlen▸hj)) (by omega) ?_ ?_) ⟨e,fun y hy=>?_,?_⟩
 ·obtain ⟨t,ht⟩:=at' j (hlen▸hj)
  simp only [List.getElem_toArray,ht,isIn,hje,beq_self_eq_true]
 ·intro m hm hlt
  obtain ⟨t,ht⟩:=at' m (by omega)
  simp only [List.getElem_toArray,ht,isIn]
  have:¬ (ns[m]'(by omega)=k):=fun z=>hb m hlt (by rw [List.getElem?_eq_getElem (by omega),z])
  simpa using this
 ·obtain ⟨i,hi,rfl⟩:=List.getElem_of_mem (List.mem_toArray.mp hy)
  obtain ⟨t,ht⟩:=at' i hi
  rw [ht]
  exact PySem.SeqAt.EqAt.int_int _ t k tk
 ·exact ⟨.int _,H,I.tok _,⟨_,rfl⟩,q⟩
end
end L4
namespace Law
open PySem PySem.Spec PyProof.Rows L2 L3 L4
theorem yz {K:PySem.W.Frag} {H H':Hp} {a:Addr} {xs:List V} (e:aK H H') (h:SqT K H a xs):SqT K H' a xs:=by
 rcases h with (h | ⟨o,h⟩) | h
 ·exact .inl (.inl (e _ _ h))
 ·exact .inl (.inr ⟨o,e _ _ h⟩)
 ·exact .inr h
def StB (K:PySem.W.Frag) (C:Addr) (H:Hp) (p:Addr) (sh:V) (far room term:Int) (ws:List Str):Prop:=∃ (dx tr:Addr) (ms:List Str),H p=some (.ins C dx (stF sh far room term tr))∧SqT K H tr (ms.map V.str)∧ms.Perm ws
section
variable {P:Program} {w:World} {K:PySem.W.Frag} {mg:Str→Option Value} {base:Heap} {CX:CXT} {C aR:Addr}
theorem StB.same {H H':Hp} {p:Addr} {sh:V} {far room term:Int} {ws:List Str} (h:StB K C H p sh far room term ws) (s:aK H H'):StB K C H' p sh far room term ws:=by
 obtain ⟨dx,tr,ms,h1,h2,h3⟩:=h
 exact ⟨dx,tr,ms,s _ _ h1,yz s h2,h3⟩
theorem p8:aq ["settings", "word"] ["settings", "word"] (aj (top 46)):=by walk_at "s"
def jW (K:PySem.W.Frag) (C:Addr):Sp:=fun vs H Q _=>∃ (p:Addr) (sh:V) (far room term:Int) (ws:List Str) (z:Str),vs=[.ref p,.str z]∧StB K C H p sh far room term ws∧Q (.bl (decide (z∈ws))) H
theorem qE (D:Dat K mg "has_rule" "has_rule" (top 46) ["settings", "word"]) (SC:StC K C):Cal P w K mg base CX "has_rule" 1 ["settings", "word"] (jW K C):=by
 have S:=p8
 walk_at "d"
 ·obtain ⟨p,sh,far,room,term,ws,z,rfl,_⟩:=h
  rfl
 obtain ⟨p,sh,far,room,term,ws,z,rfl,⟨dx,tr,ms,hp,ht,pm⟩,q⟩:=h
 refine ⟨_,(ao (au (cB ja (pv 1) (aP (pv 0) rfl) (by with_unfolding_all rfl)))),?_⟩
 try dsimp only [aZ]
 walk_at "go"
 refine ⟨p,C,dx,_,_,rfl,hp,SC.cl,SC.n5,l6 sh far room term tr,?_⟩
 refine AJ ht ?_
 rw [show decide (z∈ms)=decide (z∈ws) from decide_eq_decide.mpr pm.mem_iff]
 exact q
end
structure Ld where
 p:Addr
 l:Addr
 ps:Addr
 sp:Addr
 c:Int
 s:Nat
 far:Int
 room:Int
 term:Int
 ws:List Str
def ldF (ps l:Addr):List (Str×V):=[("settings",.ref ps),("lent",.ref l)]
structure LdC (K:PySem.W.Frag) (CL:Addr):Prop where
 cl:Cls K CL
 n1:aT K CL "settings"
 n2:aT K CL "lent"
theorem FN (ps l:Addr):bG "lent" (.ref l) (bG "settings" (.ref ps) [])=ldF ps l:=by
 have a1:¬ (("settings" : Str) = "lent"):=by decide +kernel
 simp only [bG,if_neg a1]
 rfl
theorem vD (ps l:Addr):(ldF ps l).lookup ("settings" : Str)=some (.ref ps):=by unfold ldF;walk_at "lk"
theorem gI (ps l:Addr):(ldF ps l).lookup ("lent" : Str)=some (.ref l):=by unfold ldF;walk_at "lk"
theorem gU {m:Str} {ps l:Addr} (a1:(m == ("settings" : Str))=false) (a2:(m == ("lent" : Str))=false):(ldF ps l).lookup m=none:=by
 unfold ldF
 rw [lk_miss a1,lk_miss a2];rfl
structure oY (K:PySem.W.Frag) (C CS:Addr) (H:Hp) (ps sp:Addr) (c:Int) (s:Nat) (far room term:Int) (ws:List Str):Prop where
 st:StB K CS H ps (.ref sp) far room term ws
 sh:∃ dx,H sp=some (.ins C dx (shF c s))
 ok:ShN c s
 n:StN far room term
theorem oY.same {K:PySem.W.Frag} {C CS:Addr} {H H':Hp} {ps sp:Addr} {c:Int} {s:Nat} {far room term:Int} {ws:List Str} (h:oY K C CS H ps sp c s far room term ws) (m:aK H H'):oY K C CS H' ps sp c s far room term ws:=
 ⟨h.st.same m,h.sh.elim fun dx e=>⟨dx,m _ _ e⟩,h.ok,h.n⟩
structure dN (gs:List Gr) (slots:Nat):Prop where
 sl:∀ x∈gs,0≤x.sl∧x.sl < slots
 len:gs.length≤63
def cK (K:PySem.W.Frag) (C CS CL:Addr) (H:Hp) (d:Ld) (gs:List Gr):Prop:=(∃ dx,H d.p=some (.ins CL dx (ldF d.ps d.l)))∧H d.l=some (.lst (grV gs))∧cM H gs∧oY K C CS H d.ps d.sp d.c d.s d.far d.room d.term d.ws
theorem cK.same {K:PySem.W.Frag} {C CS CL:Addr} {H H':Hp} {d:Ld} {gs:List Gr} (h:cK K C CS CL H d gs) (m:aK H H'):cK K C CS CL H' d gs:=
 ⟨h.1.elim fun dx e=>⟨dx,m _ _ e⟩,m _ _ h.2.1,h.2.2.1.same m,h.2.2.2.same m⟩
theorem BC {K:PySem.W.Frag} {H H':Hp} {q t:Addr} {xs ys:List V} (hq:H q=some (.lst xs)) (c:Chg q H H') (h:SqT K H t ys):SqT K H' t ys:=by
 rcases h with (h | ⟨o,h⟩) | h
 ·exact .inl (.inl (c.oth _ _ h fun z=>by rw [z,hq] at h;cases h))
 ·exact .inl (.inr ⟨o,c.oth _ _ h fun z=>by rw [z,hq] at h;cases h⟩)
 ·exact .inr h
theorem oY.chg {K:PySem.W.Frag} {C CS q:Addr} {H H':Hp} {ps sp:Addr} {c:Int} {s:Nat} {far room term:Int} {ws:List Str} {xs:List V} (h:oY K C CS H ps sp c s far room term ws) (hq:H q=some (.lst xs)) (ch:Chg q H H'):oY K C CS H' ps sp c s far room term ws:=by
 obtain ⟨⟨dx,tr,ms,h1,h2,h3⟩,⟨dy,h4⟩,h5,h6⟩:=h
 exact ⟨⟨dx,tr,ms,ch.oth _ _ h1 (fun z=>by rw [z,hq] at h1;cases h1),BC hq ch h2,h3⟩,⟨dy,ch.oth _ _ h4 fun z=>by rw [z,hq] at h4;cases h4⟩,h5,h6⟩
theorem cK.chg {K:PySem.W.Frag} {C CS CL q:Addr} {H H':Hp} {d:Ld} {gs:List Gr} {xs:List V} (h:cK K C CS CL H d gs) (hq:H q=some (.lst xs)) (n:d.l≠q) (ch:Chg q H H'):cK K C CS CL H' d gs:=by
 obtain ⟨⟨dx,h1⟩,h2,h3,h4⟩:=h
 exact ⟨⟨dx,ch.oth _ _ h1 fun z=>by rw [z,hq] at h1;cases h1⟩,ch.oth _ _ h2 n,h3.ts ch.ts,h4.chg hq ch⟩
theorem cK.put {K:PySem.W.Frag} {C CS CL:Addr} {H H':Hp} {d:Ld} {gs gs':List Gr} (h:cK K C CS CL H d gs) (ch:Chg d.l H H') (e:H' d.l=some (.lst (grV gs'))) (g:cM H' gs'):cK K C CS CL H' d gs':=by
 obtain ⟨⟨dx,h1⟩,h2,h3,h4⟩:=h
 exact ⟨⟨dx,ch.oth _ _ h1 fun z=>by rw [z,h2] at h1;cases h1⟩,e,g,h4.chg h2 ch⟩
theorem Av (gs:List Gr) (x:Gr):grV (gs++[x])=grV gs++[.ref x.g]:=by unfold grV;rw [List.map_append];rfl
theorem cM.snoc {H:Hp} {gs:List Gr} {x:Gr} (h:cM H gs) (k:lu H x):cM H (gs++[x]):=fun y hy=>(List.mem_append.mp hy).elim (h y) fun z=>by rw [List.mem_singleton.mp z];exact k
def mfr (gs:List Gr) (slots:Nat) (b:Int):List Int:=(List.range slots).map fun k:Nat=>di gs k b
theorem c6 (gs:List Gr) (slots:Nat) (b:Int):(mfr gs slots b).length=slots:=by unfold mfr;rw [List.length_map,List.length_range]
theorem dF {gs:List Gr} {slots k:Nat} {b:Int} (h:k < slots):(mfr gs slots b)[k]?=some (di gs k b):=by
 unfold mfr;rw [List.getElem?_map,List.getElem?_range h];rfl
theorem C1 {gs:List Gr} {x:Gr} {slots j:Nat} {b:Int} (hj:x.sl=j):(mfr gs slots b).set j (max (di gs j b) x.e)=mfr (gs++[x]) slots b:=by
 refine List.ext_getElem? fun k=>?_
 by_cases hk:k < slots
 ·rw [dF hk,eZ,List.getElem?_set,c6]
  by_cases e:j=k
  ·subst e
   rw [if_pos rfl,if_pos hk,if_pos hj]
  ·rw [if_neg e,dF hk,if_neg (by rw [hj];omega)]
 ·rw [List.getElem?_eq_none (by rw [List.length_set,c6];omega),List.getElem?_eq_none (by rw [c6];omega)]
theorem dH {H:Hp} {p:Addr} {o:HO} (h:H p=some o):Led (·=p) H H [(p,Eo o)] []:=⟨fun x hx=>by rw [List.mem_singleton.mp hx];exact ⟨_,h,rfl⟩,by simp,fun x hx=>by rw [List.mem_singleton.mp hx];exact .inl rfl,fun _ _ h _=>h,fun _ z=>(by simp at z)⟩
theorem cG {H H1:Hp} {a:Addr} (s:aK H H1) (n:H1 a=none):H a=none:=by
 cases e:H a with
 | none=>rfl
 | some o=>rw [s _ _ e] at n;cases n
theorem vH {n j:Nat} (h:j < n):ixN n (j:Int)=some j:=by
 unfold ixN
 rw [if_pos (by omega),if_pos (by omega)];rfl
theorem rep0:∀ n:Nat,(List.replicate n [V.int 0]).flatten=(mfr [] n 0).map V.int:=fun n=>by
 unfold mfr
 rw [List.map_map]
 have:(fun k:Nat=>di ([]:List Gr) (k:Int) 0)=fun _=>0:=rfl
 rw [show (V.int ∘ fun k:Nat=>di ([]:List Gr) (k:Int) 0)=fun _=>V.int 0 from rfl,List.map_const',List.length_range]
 induction n with
 | zero=>rfl
 | succ n ih=>rw [List.replicate_succ,List.replicate_succ,List.flatten_cons,ih];rfl
theorem xD {n:Nat} {f:Nat→Int} {M:Int} (h:∃ k,k < n∧f k=M):∃ j,j < n∧f j=M∧∀ k,k < j→f k≠M:=by
 obtain ⟨k,hk,e⟩:=h
 induction k using Nat.strongRecOn with
 | _ k ih=>
  by_cases c:∃ i,i < k∧f i=M
  ·obtain ⟨i,hi,ei⟩:=c
   exact ih i hi (by omega) ei
  ·exact ⟨k,hk,e,fun i hi z=>c ⟨i,hi,z⟩⟩
theorem j3 {n:Nat} (h:n≤1000):n < sizeLine:=Nat.lt_of_lt_of_le (Nat.lt_succ_of_le h) (by decide)
section
variable {P:Program} {w:World} {K:PySem.W.Frag} {mg:Str→Option Value} {base:Heap} {CX:CXT} {C CS CL CN:Addr}
theorem zj:aq ["slots", "grants", "moments", "grant", "slot"] ["slots", "grants"] (aj (top 63)):=by walk_at "s"
def vd (K:PySem.W.Frag):Sp:=fun vs H Q _=>∃ (s:Nat) (a:Addr) (gs:List Gr),vs=[.int s,.ref a]∧1≤s∧s≤1000∧SqL K H a (grV gs)∧cM H gs∧dN gs s∧∀ m H',H m=none→H' m=some (.lst ((mfr gs s 0).map V.int))→aK H H'→Q (.ref m) H'
theorem z6 (D:Dat K mg "free_moments" "free_moments" (top 63) ["slots", "grants"]) (BT:Bt mg) (NE:bh CX) (cD:Cal P w K mg base CX "slot_of" 1 ["area"] pX) (dM:Cal P w K mg base CX "end_of" 1 ["area"] pW):Cal P w K mg base CX "free_moments" 2 ["slots", "grants"] (vd K):=by
 have S:=zj
 walk_at "d"
 ·obtain ⟨s,a,gs,rfl,_⟩:=h
  rfl
 obtain ⟨n,a,gs,rfl,h1,h2,hS,hG,hok,q⟩:=h
 refine ⟨_,(ak (aM (i:=2) S.nd rfl (by first | exact Or.inl rfl | exact Or.inr rfl) (aL Fj (bM (aa ai ah)) (pv 0)))
   (ak (fN PassesOwn.never rfl (cA (pv 1)) (bV (i:=3) S.nd rfl (by first | exact Or.inl rfl | exact Or.inr rfl)) (ak (aM (i:=4) S.nd rfl (by first | exact Or.inl rfl | exact Or.inr rfl) (aI cD (hr.mono (by first | decide | omega)) NE.pass (aa (az aF (pv 3) ai (fun _ _=>rfl)) ah)))
    (ao (gP (aX (rz rfl) rfl BT.max L3.f7 (aa (az bA (pv 2) (pv 4) (fun _ _=>rfl)) (aa (aI dM (hr.mono (by first | decide | omega)) NE.pass (aa (az aF (pv 3) ai (fun _ _=>rfl)) ah)) ah))) (gQ (pv 2) (pv 4) set_list)))))
   (ao (au (pv 2))))),?_⟩
 try dsimp only [aZ]
 have L:=Led.start H (fun _=>False)
 walk_at "go"
 refine ⟨l',n,[.int 0],rfl,rfl,L'.eo .head,by omega,by omega,by rw [show (Int.toNat (n:Int))=n from rfl];exact Nat.le_trans (Nat.le_of_eq (Nat.one_mul n)) (Nat.le_of_lt (j3 h2)),fun m nm=>?_⟩
 have e0:(List.replicate (Int.toNat (n:Int)) [V.int 0]).flatten=(mfr [] n 0).map V.int:=by
  rw [show (Int.toNat (n:Int))=n from rfl]
  exact rep0 n
 rw [e0]
 have sm:=L'.same.trans (bS nm (HO.lst ((mfr [] n 0).map V.int)))
 have hm:(upd H' m (.lst ((mfr [] n 0).map V.int))) m=some (.lst ((mfr [] n 0).map V.int)):=ay
 have nmH:H m=none:=cG L'.same nm
 clear L L'
 generalize upd H' m (.lst ((mfr [] n 0).map V.int))=H1 at *
 walk_at "go"
 refine c9 (sm.seq hS) ?_
 refine jf (grV gs) (fun i σ Hx=>∃ u3 u4:Option V,σ=[some (.int n),some (.ref a),some (.ref m),u3,u4]∧aK H Hx∧Hx m=some (.lst ((mfr (gs.take i) n 0).map V.int))) ⟨_,_,rfl,sm,hm⟩ (fun i σ Hx _ ⟨_,_,_,sx,_⟩=>sx.seq hS) ?_ ?_
 ·rintro i v σ HG hv ⟨u3,u4,rfl,sx,hx⟩
  obtain ⟨x,hxi,rfl⟩:=vM hv
  have hxm:=List.mem_of_getElem? hxi
  obtain ⟨s0,s1⟩:=hok.sl x hxm
  obtain ⟨j,hj⟩:=Int.eq_ofNat_of_zero_le s0
  have hjn:j < n:=by omega
  have hgx:=(hG x hxm).same sx
  have L:=(dH hx).more (bg x.g [_,_,_]) hgx.1
  try dsimp only [bK]
  walk_at "go"
  refine ⟨x.ar,x.sl,x.f,x.e,rfl,hgx.2,?_⟩
  walk_at "go"
  rw [hj]
  refine AI L .head (cj (by rw [List.getElem?_map,dF hjn];rfl)) ?_
  walk_at "go"
  refine ⟨x.ar,x.sl,x.f,x.e,rfl,hgx.2,?_⟩
  walk_at "go"
  refine EM (j:=j) L .head (vH (by rw [List.length_map,c6];exact hjn)) fun HA LA _=>?_
  have ch:=LA.chg (fun xs z=>by rw [hx] at z;cases z)
  walk_at "go"
  refine ⟨_,_,rfl,fun q o e=>ch.oth q o (sx _ _ e) (fun z=>by rw [z,nmH] at e;cases e),?_⟩
  have e1:gs.take (i+1)=gs.take i++[x]:=take_snoc hxi
  rw [e1,← C1 hj,List.map_set]
  exact LA.eo .head
 ·rintro σ HG ⟨u3,u4,rfl,sx,hx⟩
  rw [eG,List.take_length] at hx
  walk_at "go"
  exact q m HG nmH hx sx
theorem ze:aq ["self", "settings", "grants"] ["self", "settings", "grants"] (aj (inClass (top 64) 0)):=by walk_at "s"
def AG (H:Hp) (v:V) (gs:List Gr):Prop:=(v = .non∧gs=[])∨∃ a,v = .ref a∧H a=some (.lst (grV gs))
def gv (CL:Addr):Sp:=fun vs H Q _=>∃ (p dx ps:Addr) (v:V) (gs:List Gr),vs=[.ref p,.ref ps,v]∧AG H v gs∧cM H gs∧H p=some (.ins CL dx []) ∧
 ∀ (l:Addr) (H':Hp),H l=none→H' p=some (.ins CL dx (ldF ps l))→H' l=some (.lst (grV gs))→(∀ q o,H q=some o→q≠p→H' q=some o)→Q .non H'
theorem z0 (D:jA K mg "Lender" "Lender.__init__" CL (inClass (top 64) 0) ["self", "settings", "grants"]) (SC:LdC K CL) (BT:Bt mg) (NE:bh CX):Mak P w K mg base CX "Lender" CL 2 ["self", "settings", "grants"] (gv CL)∧uH P w K mg base CX "Lender" CL 2 ["self", "settings", "grants"] (gv CL):=by
 have S:=ze
 walk_at "d"
 ·obtain ⟨p,dx,ps,v,gs,rfl,_⟩:=h
  rfl
 obtain ⟨p,dx,ps,v,gs,rfl,hal,hG,hp,q⟩:=h
 refine ⟨_,(ak (cQ (pv 0) (pv 1) rfl)
   (ao (cQ (pv 0) (eU (gO (i7 (pv 2))) (bM ah) (cC f6 rfl BT.list_ L3.gC (aa (pv 2) ah))) rfl))),?_⟩
 try dsimp only [aZ]
 have k1:=cX ("settings" : Str) (.ref ps) []
 rw [List.length_nil] at k1
 walk_at "go"
 refine ⟨p,CL,dx,[],rfl,hp,SC.cl,SC.n1,by decide,?_⟩
 have key:=fun l=>FN ps l
 generalize bG ("settings" : Str) (.ref ps) []=fs at *
 have hpc:(upd H p (.ins CL dx fs)) p=some (.ins CL dx fs):=ay
 have oc:∀ q o,H q=some o→q≠p→(upd H p (.ins CL dx fs)) q=some o:=fun q o e z=>by rw [aB z];exact e
 have ic:∀ q,(upd H p (.ins CL dx fs)) q=none→H q=none:=fun q e=>by
  by_cases z:q=p
  ·rw [z,ay] at e;cases e
  ·rwa [aB z] at e
 have hac:AG (upd H p (.ins CL dx fs)) v gs:=by
  rcases hal with z | ⟨a,rfl,ha⟩
  ·exact .inl z
  ·exact .inr ⟨a,rfl,oc _ _ ha fun z=>by rw [z,hp] at ha;cases ha⟩
 generalize upd H p (.ins CL dx fs)=Hc at *
 have L:=Led.start Hc (fun _=>False)
 walk_at "go"
 rcases hac with ⟨rfl,rfl⟩ | ⟨a,rfl,ha⟩
 ·refine kK rfl ?_
  walk_at "go"
  have np:p≠l':=fun z=>by rw [z,n'] at hpc;cases hpc
  refine ⟨p,CL,dx,fs,rfl,L'.same _ _ hpc,SC.cl,SC.n2,by omega,?_⟩
  walk_at "go"
  exact q l' _ (ic _ n') (by rw [ay,key]) (by rw [aB (Ne.symm np)];exact L'.eo .head) fun x o e z=>by rw [aB z];exact L'.same _ _ (oc x o e z)
 ·refine bN (fun z=>nomatch z) fun _=>?_
  walk_at "go"
  refine fU L (.inl (SqL.of ha)) fun b HB nb L' sB=>?_
  have np:p≠b:=fun z=>by rw [z,nb] at hpc;cases hpc
  walk_at "go"
  refine ⟨p,CL,dx,fs,rfl,sB _ _ hpc,SC.cl,SC.n2,by omega,?_⟩
  walk_at "go"
  exact q b _ (ic _ nb) (by rw [ay,key]) (by rw [aB (Ne.symm np)];exact L'.eo .head) fun x o e z=>by rw [aB z];exact sB _ _ (oc x o e z)
theorem nk {H:Hp} {Q:VK} {E:XK} {ps sp:Addr} {v:V} {gs:List Gr} {c:Int} {s:Nat} {far room term:Int} {ws:List Str} (ha:AG H v gs) (hG:cM H gs) (hs:oY K C CS H ps sp c s far room term ws)
  (q:∀ x l H',H x=none→H l=none→cK K C CS CL H' ⟨x,l,ps,sp,c,s,far,room,term,ws⟩ gs→aK H H'→Q (.ref x) H'):Made CL (gv CL) E [.ref ps,v] H Q:=by
 intro x dx nx nd ne
 have sm0:aK H (upd (upd H dx (.own x)) x (.ins CL dx [])):=fun b o e=>by rw [aB (aG e nx),aB (aG e nd)];exact e
 have ha':AG (upd (upd H dx (.own x)) x (.ins CL dx [])) v gs:=by
  rcases ha with z | ⟨a,rfl,h⟩
  ·exact .inl z
  ·exact .inr ⟨a,rfl,sm0 _ _ h⟩
 refine ⟨x,dx,ps,v,gs,rfl,ha',hG.same sm0,ay,fun l H' nl h1 h2 h3=>⟨rfl,?_⟩⟩
 have sm:aK H H':=fun b o e=>h3 b o (sm0 _ _ e) (aG e nx)
 exact q x l H' nx (cG sm0 nl) ⟨⟨dx,h1⟩,h2,hG.same sm,hs.same sm⟩ sm
theorem sF:aq ["self"] ["self"] (aj (inClass (top 64) 1)):=by walk_at "s"
def l9 (K:PySem.W.Frag) (C CS CL:Addr):Sp:=fun vs H Q _=>∃ (d:Ld) (gs:List Gr),vs=[.ref d.p]∧cK K C CS CL H d gs∧∀ b H',H b=none→H' b=some (.lst (grV gs))→aK H H'→Q (.ref b) H'
theorem tG (D:bQ K CL "grants" "Lender.grants" (inClass (top 64) 1) ["self"]) (SC:LdC K CL) (BT:Bt mg):bz P w K mg base CX CL "grants" 1 ["self"] (l9 K C CS CL):=by
 have S:=sF
 refine b9 D S (fun vs H Q E h=>?_) (fun f cdv A outer s H vs Q E hr h=>?_)
 ·obtain ⟨d,gs,rfl,_⟩:=h
  rfl
 obtain ⟨d,gs,rfl,⟨⟨dx,hp⟩,hl,hG,hss⟩,q⟩:=h
 refine ⟨_,(ao (au (cC f6 rfl BT.list_ L3.gC (aa (aP (pv 0) rfl) ah)))),?_⟩
 try dsimp only [aZ]
 walk_at "go"
 refine ⟨d.p,CL,dx,_,_,rfl,hp,SC.cl,SC.n2,gI _ _,?_⟩
 walk_at "go"
 refine fU (Led.start H (fun _=>False)) (.inl (SqL.of hl)) fun b HB nb L sB=>?_
 walk_at "go"
 exact q b HB nb (L.eo .head) sB
theorem wI:aq ["self"] ["self"] (aj (inClass (top 64) 2)):=by walk_at "s"
def jU (K:PySem.W.Frag) (C CS CL:Addr):Sp:=fun vs H Q _=>∃ (d:Ld) (gs:List Gr),vs=[.ref d.p]∧cK K C CS CL H d gs∧dN gs d.s∧∀ m H',H m=none→H' m=some (.lst ((mfr gs d.s 0).map V.int))→aK H H'→Q (.ref m) H'
theorem w4 (D:bQ K CL "moments_free" "Lender.moments_free" (inClass (top 64) 2) ["self"]) (SC:LdC K CL) (SS:StC K CS) (SH:ShC K C) (NE:bh CX) (kW:Cal P w K mg base CX "free_moments" 2 ["slots", "grants"] (vd K)):bz P w K mg base CX CL "moments_free" 3 ["self"] (jU K C CS CL):=by
 have S:=wI
 refine b9 D S (fun vs H Q E h=>?_) (fun f cdv A outer s H vs Q E hr h=>?_)
 ·obtain ⟨d,gs,rfl,_⟩:=h
  rfl
 obtain ⟨d,gs,rfl,⟨⟨dx,hp⟩,hl,hG,⟨⟨dy,tr,ms,hst,_,_⟩,⟨dz,hsh⟩,hsn,_⟩⟩,hok,q⟩:=h
 refine ⟨_,(ao (au (aI kW (hr.mono (by first | decide | omega)) NE.pass (aa (aP (aP (aP (pv 0) rfl) rfl) rfl) (aa (aP (pv 0) rfl) ah))))),?_⟩
 try dsimp only [aZ]
 walk_at "go"
 refine ⟨d.p,CL,dx,_,_,rfl,hp,SC.cl,SC.n1,vD _ _,?_⟩
 walk_at "go"
 refine ⟨d.ps,CS,dy,_,_,rfl,hst,SS.cl,SS.n1,iW _ _ _ _ _,?_⟩
 walk_at "go"
 refine ⟨d.sp,C,dz,_,_,rfl,hsh,SH.cl,SH.ns,yQ _ _,?_⟩
 walk_at "go"
 refine ⟨d.p,CL,dx,_,_,rfl,hp,SC.cl,SC.n2,gI _ _,?_⟩
 walk_at "go"
 have:=hsn.s1
 have:=hsn.s2
 exact ⟨d.s,d.l,gs,rfl,by omega,by omega,SqL.of hl,hG,hok,q⟩
theorem C3 {ps l:Addr}:(ldF ps l).lookup ("slot_and_first" : Str)=none:=gU (by decide +kernel) (by decide +kernel)
theorem Ad {ps l:Addr}:(ldF ps l).lookup ("moments_free" : Str)=none:=gU (by decide +kernel) (by decide +kernel)
theorem sG:aq ["self", "slot"] ["self", "slot"] (aj (inClass (top 64) 3)):=by walk_at "s"
def mh (K:PySem.W.Frag) (C CS CL:Addr):Sp:=fun vs H Q _=>∃ (d:Ld) (gs:List Gr) (j:Nat),vs=[.ref d.p,.int j]∧cK K C CS CL H d gs∧dN gs d.s∧j < d.s∧∀ H',aK H H'→Q (.int (di gs j 0)) H'
theorem tH (D:bQ K CL "free_at" "Lender.free_at" (inClass (top 64) 3) ["self", "slot"]) (SC:LdC K CL) (NE:bh CX) (b8:bz P w K mg base CX CL "moments_free" 3 ["self"] (jU K C CS CL)):bz P w K mg base CX CL "free_at" 4 ["self", "slot"] (mh K C CS CL):=by
 have S:=sG
 refine b9 D S (fun vs H Q E h=>?_) (fun f cdv A outer s H vs Q E hr h=>?_)
 ·obtain ⟨d,gs,j,rfl,_⟩:=h
  rfl
 obtain ⟨d,gs,j,rfl,hd,hok,hj,q⟩:=h
 obtain ⟨⟨dx,hp⟩,_⟩:=id hd
 refine ⟨_,(ao (au (az bA (bW b8 (hr.mono (by first | decide | omega)) NE.pass (pv 0)) (pv 1) (fun _ _=>rfl)))),?_⟩
 try dsimp only [aZ]
 walk_at "go"
 refine aS hp Ad ?_
 walk_at "go"
 refine ⟨d,gs,rfl,hd,hok,fun m H1 nm hm s1=>?_⟩
 walk_at "go"
 refine d8 (SqL.of hm) (cj (by rw [List.getElem?_map,dF hj];rfl)) ?_
 exact q _ s1
theorem yV:aq ["self", "least", "firsts", "first"] ["self", "least"] (aj (inClass (top 64) 4)):=by walk_at "s"
def uZ (K:PySem.W.Frag) (C CS CL:Addr):Sp:=fun vs H Q _=>∃ (d:Ld) (gs:List Gr) (b:Int),vs=[.ref d.p,.int b]∧cK K C CS CL H d gs∧dN gs d.s∧0≤b∧∀ t x y H',Nx (decide (("apart" : Str)∈d.ws)) gs d.s b x y→H' t=some (.tup [.int x,.int y])→aK H H'→Q (.ref t) H'
theorem zQ (D:bQ K CL "slot_and_first" "Lender.slot_and_first" (inClass (top 64) 4) ["self", "least"]) (SC:LdC K CL) (SS:StC K CS) (SH:ShC K C) (BT:Bt mg) (NE:bh CX) (ef:Cal P w K mg base CX "has_rule" 1 ["settings", "word"] (jW K CS)) (b8:bz P w K mg base CX CL "moments_free" 3 ["self"] (jU K C CS CL)):bz P w K mg base CX CL "slot_and_first" 4 ["self", "least"] (uZ K C CS CL):=by
 have S:=yV
 refine b9 D S (fun vs H Q E h=>?_) (fun f cdv A outer s H vs Q E hr h=>?_)
 ·obtain ⟨d,gs,b,rfl,_⟩:=h
  rfl
 obtain ⟨d,gs,b,rfl,hd,hok,hb,q⟩:=h
 obtain ⟨⟨dx,hp⟩,hl,hG,⟨hst,⟨dz,hsh⟩,hsn,_⟩⟩:=id hd
 obtain ⟨dy,tr,ms,hst1,_,_⟩:=id hst
 have hs0:=hsn.s1
 have hs1:=hsn.s2
 refine ⟨_,(ak (bq (cY (bZ (aI ef (hr.mono (by first | decide | omega)) NE.pass (aa (aP (pv 0) rfl) (aa aV ah))))) (ao (au (bx (aa (aL dZ (aX eK rfl BT.len L3.cS (aa (aP (pv 0) rfl) ah)) (aP (aP (aP (pv 0) rfl) rfl) rfl)) (aa (pv 1) ah))))) aJ)
   (ak (j6 (i:=2) (g:=(bK 0)) rfl S.nd rfl (by first | exact Or.inl rfl | exact Or.inr rfl) (cA (bW b8 (hr.mono (by first | decide | omega)) NE.pass (pv 0))) (f9 (own:=["moment"]) (cap:=[1]) (aj (inClass (top 64) 4)).names ["self", "least", "firsts", "first"] rfl rfl rfl (by decide +kernel)) (fun _ _ _ _=>(bV (i:=0) (show (kY ["self", "least", "firsts", "first"] ["moment"] [1]).Nodup by decide +kernel) rfl (by first | exact Or.inl rfl | exact Or.inr rfl))) (fun _ _ _ _=>eT) (fun _ _ _ _=>(aX (rz rfl) rfl BT.max L3.f7 (aa (pv 0) (aa (pv 1) ah)))) (by with_unfolding_all rfl))
   (ak (aM (i:=3) S.nd rfl (by first | exact Or.inl rfl | exact Or.inr rfl) (aX (GU rfl) rfl BT.min L3.uB (aa (pv 2) ah)))
   (ao (au (bx (aa (jw PySem.F.plainAttrs_list PySem.F.slot_list_index PySem.F.type_list_index w6 (pv 2) (aa (pv 3) ah)) (aa (pv 3) ah)))))))),?_⟩
 try dsimp only [aZ]
 walk_at "go"
 refine ⟨d.p,CL,dx,_,_,rfl,hp,SC.cl,SC.n1,vD _ _,?_⟩
 walk_at "go"
 refine ⟨d.ps,_,_,_,_,_, "apart",rfl,hst,?_⟩
 walk_at "go"
 unfold Nx at q
 refine AO (fun ap=>?_) (fun ap=>?_)
 ·rw [ap] at q
  walk_at "go"
  refine aS hp Ad ?_
  walk_at "go"
  refine ⟨d,gs,rfl,hd,hok,fun m H1 nm hm s1=>?_⟩
  walk_at "go"
  refine c9 (SqL.of hm) ?_
  have hml:((mfr gs d.s 0).map V.int).length=d.s:=by rw [List.length_map,c6]
  refine fB ((mfr gs d.s 0).map V.int) (fun i ys Hx=>ys=((mfr gs d.s b).take i).map V.int∧Hx=H1) ⟨rfl,rfl⟩ (fun i ys Hx hi ⟨e,e2⟩=>⟨e2▸SqL.of hm,by
   rw [e,List.length_map,List.length_take,c6]
   exact Nat.le_of_lt (j3 (by omega))⟩) ?_ ?_
  ·rintro i v ys H2 hv ⟨rfl,rfl⟩
   have hi:i < d.s:=by rw [← hml];exact (List.getElem?_eq_some_iff.mp hv).1
   obtain rfl:v = .int (di gs i 0):=by
    rw [List.getElem?_map,dF hi] at hv
    exact (Option.some.inj hv).symm
   try dsimp only [bK]
   walk_at "go"
   refine ⟨?_,rfl⟩
   rw [take_snoc (dF hi),List.map_append,A5 gs i hb];rfl
  ·rintro ys H2 ⟨rfl,rfl⟩ lf nlf
   rw [hml,List.take_of_length_le (by rw [c6];exact Nat.le_refl _)]
   have s2:=bS nlf (HO.lst ((mfr gs d.s b).map V.int))
   have hlf:(upd H2 lf (.lst ((mfr gs d.s b).map V.int))) lf=some (.lst ((mfr gs d.s b).map V.int)):=ay
   generalize upd H2 lf (.lst ((mfr gs d.s b).map V.int))=H3 at *
   walk_at "go"
   refine Gq (SqL.of hlf) (by rw [c6];omega) fun M hM hmin=>?_
   have L:=dH hlf
   walk_at "go"
   obtain ⟨j,hj,hjm,hjf⟩:∃ j:Nat,j < d.s∧di gs j b=M∧∀ k:Nat,k < j→di gs k b≠M:=xD (n:=d.s) (f:=fun k:Nat=>di gs k b) (by
    obtain ⟨k,hk,e⟩:=List.getElem_of_mem hM
    rw [c6] at hk
    refine ⟨k,hk,?_⟩
    have:=dF (gs:=gs) (b:=b) hk
    rw [List.getElem?_eq_getElem (by rw [c6];exact hk),e] at this
    exact (Option.some.inj this).symm)
   have hle:∀ k:Nat,k < d.s→M≤di gs k b:=fun k hk=>hmin _ (List.mem_of_getElem? (dF hk))
   refine ⟨lf,mfr gs d.s b,M,j,rfl,rfl,L.eo .head,by rw [c6];omega,by rw [dF hj,hjm],fun k hk=>by rw [dF (by omega)];exact fun z=>hjf k hk (Option.some.inj z),?_⟩
   walk_at "go"
   refine q _ _ _ _ ?_ (L'.tup (by walk_at "mem")) ?_
   ·rw [if_pos rfl]
    exact ⟨j,⟨hj,fun k hk=>by rw [hjm];exact hle k hk,fun k hk=>by
     have h1:=hle k (by omega)
     have h2:=hjf k hk
     rw [hjm];omega⟩,rfl,hjm.symm⟩
   ·have f1:=L'.chg (fun xs z=>by rw [hlf] at z;cases z)
    have nH:H lf=none:=cG s1 nlf
    exact fun x o e=>f1.oth x o (s2 _ _ (s1 _ _ e)) (fun z=>by rw [z,nH] at e;cases e)
 ·rw [ap] at q
  have L:=Led.start H (fun _=>False)
  walk_at "go"
  refine ⟨d.p,CL,dx,_,_,rfl,hp,SC.cl,SC.n2,gI _ _,?_⟩
  walk_at "go"
  refine dc (SqL.of hl) ?_
  walk_at "go"
  refine ⟨d.p,CL,dx,_,_,rfl,hp,SC.cl,SC.n1,vD _ _,?_⟩
  walk_at "go"
  refine ⟨d.ps,CS,dy,_,_,rfl,hst1,SS.cl,SS.n1,iW _ _ _ _ _,?_⟩
  walk_at "go"
  refine ⟨d.sp,C,dz,_,_,rfl,hsh,SH.cl,SH.ns,yQ _ _,?_⟩
  walk_at "go"
  refine q _ _ _ _ ?_ (L'.tup (by walk_at "mem")) L'.same
  rw [if_neg Bool.false_ne_true,eG]
  exact ⟨rfl,rfl⟩
abbrev kE:Int:=1000000000000000000000000000000
theorem BV:aq ["self", "hand", "least", "start", "end", "grant", "area"] ["self", "hand", "least"] (aj (inClass (top 64) 5)):=by walk_at "s"
def yM (K:PySem.W.Frag) (C CS CL CN:Addr):Sp:=fun vs H Q E=>∃ (d:Ld) (gs:List Gr) (nm:Str) (b:Int),vs=[.ref d.p,.str nm,.int b]∧cK K C CS CL H d gs∧dN gs d.s∧0≤b ∧
 (∀ x y,Nx (decide (("apart" : Str)∈d.ws)) gs d.s b x y→kE < y+d.term→∀ H',aK H H'→E (.ref CN) none H') ∧
 (∀ x y,Nx (decide (("apart" : Str)∈d.ws)) gs d.s b x y→¬ kE < y+d.term→∀ g ar t H',cK K C CS CL H' d (gs++[⟨g,ar,gs.length+1,nm,x,y,y+d.term⟩])→H' t=some (.tup [.int (gs.length+1),.ref ar])→Chg d.l H H'→Q (.ref t) H')
theorem CG (D:bQ K CL "lend" "Lender.lend" (inClass (top 64) 5) ["self", "hand", "least"]) (SC:LdC K CL) (SS:StC K CS) (BT:Bt mg) (NE:bh (CX1 P w)) (k9:lU K mg "NoRoom" CN) (ud:GlV mg "LAST" (.int 1000000000000000000000000000000)) (fh:bz P w K mg base (CX1 P w) CL "slot_and_first" 4 ["self", "least"] (uZ K C CS CL)):bz P w K mg base (CX1 P w) CL "lend" 5 ["self", "hand", "least"] (yM K C CS CL CN):=by
 have S:=BV
 refine c7 D S (fun vs H Q E h=>?_) (fun f cdv A outer s H vs Q E hr h=>?_)
 ·obtain ⟨d,gs,nm,b,rfl,_⟩:=h
  rfl
 obtain ⟨d,gs,nm,b,rfl,hd,hok,hb,qe,q⟩:=h
 obtain ⟨⟨dx,hp⟩,hl,hG,⟨hst,⟨dz,hsh⟩,hsn,_⟩⟩:=id hd
 obtain ⟨dy,tr,ms,hst1,_,_⟩:=id hst
 have hlen:=hok.len
 refine ⟨_,(ak (aM (i:=3) S.nd rfl (by first | exact Or.inl rfl | exact Or.inr rfl) (dY fh (hr.mono (by first | decide | omega)) NE.pass (pv 0) (aa (pv 2) ah)))
   (ak (aM (i:=4) S.nd rfl (by first | exact Or.inl rfl | exact Or.inr rfl) (aL bB (az aF (pv 3) ai (fun _ _=>rfl)) (aP (aP (pv 0) rfl) rfl)))
   (ak (bq (aO iB (pv 4) (wO ud) (aQ _)) (ao (fK k9 rfl bu (aa aV ah))) aJ)
   (ak (aM (i:=5) S.nd rfl (by first | exact Or.inl rfl | exact Or.inr rfl) (aL bB (aX eK rfl BT.len L3.cS (aa (aP (pv 0) rfl) ah)) ai))
   (ak (aM (i:=6) S.nd rfl (by first | exact Or.inl rfl | exact Or.inr rfl) (bx (aa (az aF (pv 3) ai (fun _ _=>rfl)) (aa (az aF (pv 3) ai (fun _ _=>rfl)) (aa (pv 4) ah)))))
   (ak (bE (jw PySem.F.plainAttrs_list PySem.F.slot_list_append PySem.F.type_list_append gx (aP (pv 0) rfl) (aa (bx (aa (pv 5) (aa (pv 1) (aa (pv 6) ah)))) ah)))
   (ao (au (bx (aa (pv 5) (aa (pv 6) ah))))))))))),?_⟩
 try dsimp only [aZ]
 walk_at "go"
 refine aS hp C3 ?_
 walk_at "go"
 refine ⟨d,gs,b,rfl,hd,hok,hb,fun t x y H1 hn ht s1=>?_⟩
 have hl1:=s1 _ _ hl
 have L:=(dH hl1).more (bg t [.int x,.int y]) ht
 walk_at "go"
 refine ⟨d.p,CL,dx,_,_,rfl,s1 _ _ hp,SC.cl,SC.n1,vD _ _,?_⟩
 walk_at "go"
 refine ⟨d.ps,CS,dy,_,_,rfl,s1 _ _ hst1,SS.cl,SS.n4,yx _ _ _ _ _,?_⟩
 walk_at "go"
 refine bN (fun c1=>?_) (fun c1=>?_)
 ·walk_at "go"
  exact qe x y hn c1 H1 s1
 walk_at "go"
 refine ⟨d.p,CL,dx,_,_,rfl,s1 _ _ hp,SC.cl,SC.n2,gI _ _,?_⟩
 walk_at "go"
 rename_i sA
 obtain ⟨ar,ear⟩:∃ z,z=t':=⟨_,rfl⟩
 subst ear
 have hpA:=L'.fr _ _ (s1 _ _ hp) (fun z=>by have e:=s1 _ _ hp;rw [z,hl1] at e;cases e)
 refine ⟨d.p,CL,dx,_,_,rfl,hpA,SC.cl,SC.n2,gI _ _,?_⟩
 walk_at "go"
 obtain ⟨g,eg⟩:∃ z,z=t':=⟨_,rfl⟩
 subst eg
 rw [eG] at L'
 rw [eG]
 refine qT L' .head (by rw [eG];exact small1000 (by omega)) fun HA LA _=>?_
 walk_at "go"
 have ch:=L'.chg (fun xs z=>by rw [hl1] at z;cases z)
 refine q x y hn c1 g ar _ _ ((hd.same s1).put ch (by rw [Av];exact L'.eo .head) (cM.snoc ((hG.same s1).ts ch.ts) ⟨L'.tup (by walk_at "mem"),L'.tup (by walk_at "mem")⟩)) (L'.tup (by walk_at "mem")) ⟨fun q o e n=>ch.oth q o (s1 _ _ e) n,fun q xs e=>ch.ts q xs (s1 _ _ e)⟩
end
section
variable {P:Program} {w:World} {K:PySem.W.Frag} {mg:Str→Option Value} {base:Heap} {CX:CXT} {C CS CL CN:Addr}
theorem IU {p:Addr} {xs:List V} {lo hi:Option Int} {H:Hp} {Q:VK} (s:SqL K H p xs) (h:∀ b H',H b=none→H' b=some (.lst (qZ xs lo hi))→aK H H'→Q (.ref b) H'):Ih K (.ref p) lo hi H Q:=
 ⟨p,xs,rfl,s,fun b nb=>h b _ nb ay (cU nb)⟩
end
structure KG (K:PySem.W.Frag) (CN CR dA dG dO dT dW:Addr):Prop where
 gN:fG K CN
 mN:PySem.W.exmOne K (.ref CN) (.ref CN)=some true
 iR:PySem.W.kitOne K (.ref CN) (.ref CR)=some true
 iT:PySem.W.kitAny K (.ref CN) ([dA,dG,dO,dT,dW].map Value.ref)=some false
theorem FA {ps l:Addr}:(ldF ps l).lookup ("lend" : Str)=none:=gU (by decide +kernel) (by decide +kernel)
theorem Ac {ps l:Addr}:(ldF ps l).lookup ("free_at" : Str)=none:=gU (by decide +kernel) (by decide +kernel)
def gT (x:Gr):Int×Str×Int×Int×Int:=(x.n,x.nm,x.sl,x.f,x.e)
def EqG (gs hs:List Gr):Prop:=gs.map gT=hs.map gT
theorem EqG.get {gs hs:List Gr} {i:Nat} {x y:Gr} (h:EqG gs hs) (hx:gs[i]?=some x) (hy:hs[i]?=some y):gT x=gT y:=by
 have e:(gs.map gT)[i]?=(hs.map gT)[i]?:=by rw [show gs.map gT=hs.map gT from h]
 rw [List.getElem?_map,List.getElem?_map,hx,hy] at e
 exact Option.some.inj e
theorem Nx.lt {apart:Bool} {gs:List Gr} {slots:Nat} {b s f:Int} (h:Nx apart gs slots b s f) (h1 : 1≤slots) : 0≤s∧s < slots:=by
 unfold Nx at h
 cases apart with
 | true=>
  rw [if_pos rfl] at h
  obtain ⟨i,k,rfl,rfl⟩:=h
  have:=k.lt
  omega
 | false=>
  rw [if_neg Bool.false_ne_true] at h
  rw [h.1]
  exact ⟨Int.emod_nonneg _ (by omega),Int.emod_lt_of_pos _ (by omega)⟩
structure Fre (gs:List Gr) (n:Int) (en:Int) (i:Nat) (x:Gr):Prop where
 n_:n=(i:Int)+1
 at_:gs[i]?=some x
 last:∀ (k:Nat) (y:Gr),i < k→gs[k]?=some y→y.sl≠x.sl
 e_:x.e=di gs x.sl 0
 lo:x.f≤en
 hi:en < x.e
def HF (gs:List Gr) (n en:Int):Prop:=∃ i x,Fre gs n en i x
section
variable {P:Program} {w:World} {K:PySem.W.Frag} {mg:Str→Option Value} {base:Heap} {CX:CXT} {C CS CL CN:Addr}
theorem FE {ps l:Addr}:(ldF ps l).lookup ("can_free" : Str)=none:=gU (by decide +kernel) (by decide +kernel)
theorem B3:aq ["self", "grant", "end", "area"] ["self", "grant", "end"] (aj (inClass (top 64) 6)):=by walk_at "s"
def yO (K:PySem.W.Frag) (C CS CL:Addr):Sp:=fun vs H Q _=>∃ (d:Ld) (gs:List Gr) (n en:Int),vs=[.ref d.p,.int n,.int en]∧cK K C CS CL H d gs∧dN gs d.s∧∀ (b:Bool) H',(b=true↔HF gs n en)→aK H H'→Q (.bl b) H'
theorem any_map {α : Type} (p : α→Bool) (xs:List α):(xs.map p).any id=xs.any p:=by rw [List.any_map];rfl
theorem DO {gs:List Gr} {i:Nat} (h:i≤gs.length):qZ (grV gs) none (some (i:Int))=grV (gs.take i)∧qZ (grV gs) (some (i:Int)) none=grV (gs.drop i):=by
 unfold qZ grV
 constructor
 ·rw [HT.qg,HT.vg,List.length_map,Nat.min_eq_left h,List.drop_zero,Nat.sub_zero,List.map_take]
 ·rw [HT.qg,HT.vg,List.length_map,Nat.min_eq_left h,List.map_drop]
  exact List.take_of_length_le (by rw [List.length_drop,List.length_map];exact Nat.le_refl _)
theorem CQ (D:bQ K CL "can_free" "Lender.can_free" (inClass (top 64) 6) ["self", "grant", "end"]) (SC:LdC K CL) (BT:Bt mg) (NE:bh CX) (cD:Cal P w K mg base CX "slot_of" 1 ["area"] pX) (er:Cal P w K mg base CX "first_of" 1 ["area"] vf) (dM:Cal P w K mg base CX "end_of" 1 ["area"] pW) (jq:bz P w K mg base CX CL "free_at" 4 ["self", "slot"] (mh K C CS CL)):bz P w K mg base CX CL "can_free" 5 ["self", "grant", "end"] (yO K C CS CL):=by
 have S:=B3
 refine b9 D S (fun vs H Q E h=>?_) (fun f cdv A outer s H vs Q E hr h=>?_)
 ·obtain ⟨d,gs,n,en,rfl,_⟩:=h
  rfl
 obtain ⟨d,gs,n,en,rfl,hd,hok,q⟩:=h
 obtain ⟨⟨dx,hp⟩,hl,hG,_⟩:=id hd
 have h63:=hok.len
 have no:∀ (i:Nat) (x:Gr),n=(i:Int)+1→gs[i]?=some x→i < gs.length:=fun i x _ h=>(List.getElem?_eq_some_iff.mp h).1
 refine ⟨_,(ak (bq (PW.pt (qk (aO qv (pv 1) ai (aQ _)) (j5 (aO iB (pv 1) (aX eK rfl BT.len L3.cS (aa (aP (pv 0) rfl) ah)) (aQ _))))) (ao (au dS)) aJ)
   (ak (aM (i:=3) S.nd rfl (by first | exact Or.inl rfl | exact Or.inr rfl) (az aF (az bA (aP (pv 0) rfl) (aL i9 (pv 1) ai) (fun _ _=>rfl)) ai (fun _ _=>rfl)))
   (ak (bq (bZ (aX (Ba rfl) rfl BT.any L3.G3 (aa (iA (g:=(bK 0)) rfl (cA (zD BE (aP (pv 0) rfl) (Cd (pv 1)) Ce)) (f9 (own:=["later"]) (cap:=[3]) (aj (inClass (top 64) 6)).names ["self", "grant", "end", "area"] rfl rfl rfl (by decide +kernel)) (fun _ _ _ _=>(bV (i:=0) (show (kY ["self", "grant", "end", "area"] ["later"] [3]).Nodup by decide +kernel) rfl (by first | exact Or.inl rfl | exact Or.inr rfl))) (fun _ _ _ _=>eT) (fun _ _ _ _=>(cB bX (aI cD (hr.mono (by first | decide | omega)) NE.pass (aa (az (ow (K:=K) rfl) (pv 0) ai (fun _ _=>rfl)) ah)) (aI cD (hr.mono (by first | decide | omega)) NE.pass (aa (pv 1) ah)) (aQ _)))) ah))) (ao (au dS)) aJ)
   (ak (bq (aO qu (aI dM (hr.mono (by first | decide | omega)) NE.pass (aa (pv 3) ah)) (dY jq (hr.mono (by first | decide | omega)) NE.pass (pv 0) (aa (aI cD (hr.mono (by first | decide | omega)) NE.pass (aa (pv 3) ah)) ah)) (aQ _)) (ao (au dS)) aJ)
   (ao (au (fQ (cB ki (aI er (hr.mono (by first | decide | omega)) NE.pass (aa (pv 3) ah)) (pv 2) (aQ _)) (fP (cB qv (pv 2) (aI dM (hr.mono (by first | decide | omega)) NE.pass (aa (pv 3) ah)) (aQ _)))))))))),?_⟩
 try dsimp only [aZ]
 walk_at "go"
 refine bN (fun c1=>?_) (fun c1=>?_)
 ·walk_at "go"
  refine q false _ ⟨(fun z=>nomatch z),fun ⟨i,x,r⟩=>?_⟩ (aK.refl _)
  have:=r.n_;omega
 walk_at "go"
 refine ⟨d.p,CL,dx,_,_,rfl,hp,SC.cl,SC.n2,gI _ _,?_⟩
 walk_at "go"
 refine dc (SqL.of hl) ?_
 rw [eG]
 walk_at "go"
 refine bN (fun c2=>?_) (fun c2=>?_)
 ·walk_at "go"
  refine q false _ ⟨(fun z=>nomatch z),fun ⟨i,x,r⟩=>?_⟩ (aK.refl _)
  have:=no i x r.n_ r.at_
  have:=r.n_;omega
 obtain ⟨i,rfl⟩:∃ i:Nat,n=(i:Int)+1:=by
  obtain ⟨i,e⟩:=Int.eq_ofNat_of_zero_le (show 0≤n - 1 by omega)
  exact ⟨i,by omega⟩
 obtain ⟨x,hx⟩:∃ x,gs[i]?=some x:=⟨_,List.getElem?_eq_getElem (by omega)⟩
 have hxm:=List.mem_of_getElem? hx
 have hgx:=hG x hxm
 have hsl:=hok.sl x hxm
 have one:∀ (j:Nat) (y:Gr),(i:Int)+1=(j:Int)+1→gs[j]?=some y→y=x∧j=i:=fun j y e h=>by
  obtain rfl:j=i:=by omega
  rw [hx] at h;cases h;exact ⟨rfl,rfl⟩
 have e1:((i:Int)+1 - 1)=(i:Int):=by omega
 have L:=((Led.start H (fun _=>False)).more (bg x.g [_,_,_]) hgx.1).more (bg x.ar [_,_,_]) hgx.2
 walk_at "go"
 refine ⟨d.p,CL,dx,_,_,rfl,hp,SC.cl,SC.n2,gI _ _,?_⟩
 walk_at "go"
 rw [e1]
 refine d8 (SqL.of hl) (cj (by unfold grV;rw [List.getElem?_map,hx];rfl)) ?_
 walk_at "go"
 refine ⟨d.p,CL,dx,_,_,rfl,hp,SC.cl,SC.n2,gI _ _,?_⟩
 walk_at "go"
 refine IU (SqL.of hl) fun b1 H1 n1 eb1 s1=>?_
 rw [show ((i:Int)+1)=((i+1:Nat):Int) by omega,(DO (gs:=gs) (i:=i+1) (by omega)).2] at eb1
 walk_at "go"
 refine c9 (SqL.of eb1) ?_
 refine fB (grV (gs.drop (i+1))) (fun k ys Hx=>ys=(((gs.drop (i+1)).take k).map fun y=>decide (y.sl=x.sl)).map V.bl∧Hx=H1) ⟨rfl,rfl⟩ (fun k ys Hx hk ⟨e,e2⟩=>⟨e2▸SqL.of eb1,by
  rw [e,List.length_map,List.length_map,List.length_take,List.length_drop]
  exact Nat.le_of_lt (small1000 (by omega))⟩) ?_ ?_
 ·rintro k v ys H2 hv ⟨rfl,rfl⟩
  obtain ⟨y,hyk,rfl⟩:=vM hv
  have hy:=(hG y (List.mem_of_mem_drop (List.mem_of_getElem? hyk))).same s1
  have L:=(Led.start H2 (fun _=>False)).more (bg y.g [_,_,_]) hy.1
  try dsimp only [bK]
  walk_at "go"
  refine ⟨y.ar,_,_,_,rfl,hy.2,?_⟩
  walk_at "go"
  refine ⟨x.ar,_,_,_,rfl,s1 _ _ hgx.2,?_⟩
  walk_at "go"
  exact ⟨by rw [take_snoc hyk,List.map_append,List.map_append];rfl,rfl⟩
 ·rintro ys H2 ⟨rfl,rfl⟩ lc nlc
  rw [eG,List.take_length]
  have s2:=bS nlc (HO.lst (((gs.drop (i+1)).map fun y=>decide (y.sl=x.sl)).map V.bl))
  have hlc:(upd H2 lc (.lst (((gs.drop (i+1)).map fun y=>decide (y.sl=x.sl)).map V.bl))) lc=some (.lst (((gs.drop (i+1)).map fun y=>decide (y.sl=x.sl)).map V.bl)):=ay
  generalize upd H2 lc (.lst (((gs.drop (i+1)).map fun y=>decide (y.sl=x.sl)).map V.bl))=H3 at *
  walk_at "go"
  refine GI (bs:=(gs.drop (i+1)).map fun y=>decide (y.sl=x.sl)) (SqL.of hlc) ?_
  rw [any_map]
  have s12:=s1.trans s2
  walk_at "go"
  refine Ji (fun c3=>?_) (fun c3=>?_)
  ·walk_at "go"
   refine q false _ ⟨(fun z=>nomatch z),fun ⟨j,y,r⟩=>?_⟩ s12
   obtain ⟨rfl,rfl⟩:=one j y r.n_ r.at_
   obtain ⟨u,hu,hu2⟩:=List.any_eq_true.mp c3
   obtain ⟨k,hk,rfl⟩:=List.getElem_of_mem hu
   rw [List.getElem_drop] at hu2
   exact absurd (of_decide_eq_true hu2) (r.last (j+1+k) _ (by omega) (List.getElem?_eq_getElem _))
  ·have IJ:∀ (k:Nat) (y:Gr),i < k→gs[k]?=some y→y.sl≠x.sl:=fun k y hk hy z=>by
    have:(gs.drop (i+1)).any (fun y=>decide (y.sl=x.sl))=true:=by
     refine List.any_eq_true.mpr ⟨y,?_,decide_eq_true z⟩
     refine List.mem_of_getElem? (i:=k - (i+1)) ?_
     rw [List.getElem?_drop,show i+1+(k - (i+1))=k by omega];exact hy
    rw [c3] at this;cases this
   walk_at "go"
   refine ⟨x.ar,_,_,_,rfl,s12 _ _ hgx.2,?_⟩
   walk_at "go"
   refine aS (s12 _ _ hp) Ac ?_
   walk_at "go"
   refine ⟨x.ar,_,_,_,rfl,s12 _ _ hgx.2,?_⟩
   walk_at "go"
   obtain ⟨j,hj⟩:=Int.eq_ofNat_of_zero_le hsl.1
   rw [hj]
   refine ⟨d,gs,j,rfl,hd.same s12,hok,by omega,fun H4 s4=>?_⟩
   rw [← hj]
   have s14:=s12.trans s4
   walk_at "go"
   refine kJ (fun c4=>?_) (fun c4=>?_)
   ·walk_at "go"
    refine ⟨x.ar,_,_,_,rfl,s14 _ _ hgx.2,?_⟩
    walk_at "go"
    by_cases c5:x.f≤en
    ·rw [if_pos (decide_eq_true c5)]
     walk_at "go"
     refine ⟨x.ar,_,_,_,rfl,s14 _ _ hgx.2,?_⟩
     walk_at "go"
     refine q _ _ ⟨fun z=>⟨i,x,rfl,hx,IJ,c4,c5,of_decide_eq_true z⟩,fun ⟨k,y,r⟩=>?_⟩ s14
     obtain ⟨rfl,rfl⟩:=one k y r.n_ r.at_
     exact decide_eq_true r.hi
    ·rw [if_neg (by simpa using c5)]
     walk_at "go"
     refine q false _ ⟨(fun z=>nomatch z),fun ⟨k,y,r⟩=>?_⟩ s14
     obtain ⟨rfl,rfl⟩:=one k y r.n_ r.at_
     exact absurd r.lo c5
   ·walk_at "go"
    refine q false _ ⟨(fun z=>nomatch z),fun ⟨k,y,r⟩=>?_⟩ s14
    obtain ⟨rfl,rfl⟩:=one k y r.n_ r.at_
    exact absurd r.e_ c4
theorem Dj (gs:List Gr) (i:Nat) (x:Gr):grV (gs.set i x)=(grV gs).set i (.ref x.g):=by unfold grV;rw [List.map_set]
theorem cM.set {H:Hp} {gs:List Gr} {x:Gr} {i:Nat} (h:cM H gs) (k:lu H x):cM H (gs.set i x):=fun y hy=>(List.mem_or_eq_of_mem_set hy).elim (h y) fun z=>z▸k
theorem BZ:aq ["self", "grant", "end", "kept"] ["self", "grant", "end"] (aj (inClass (top 64) 7)):=by walk_at "s"
def yN (K:PySem.W.Frag) (C CS CL:Addr):Sp:=fun vs H Q _=>∃ (d:Ld) (gs:List Gr) (n en:Int),vs=[.ref d.p,.int n,.int en]∧cK K C CS CL H d gs∧dN gs d.s∧(¬ HF gs n en→∀ H',aK H H'→Q (.bl false) H') ∧
 (∀ i x,Fre gs n en i x→∀ g ar H',cK K C CS CL H' d (gs.set i ⟨g,ar,n,x.nm,x.sl,x.f,en⟩)→Chg d.l H H'→Q (.bl true) H')
theorem CM (D:bQ K CL "free" "Lender.free" (inClass (top 64) 7) ["self", "grant", "end"]) (SC:LdC K CL) (BT:Bt mg) (NE:bh CX) (gZ:Cal P w K mg base CX "ended_at" 2 ["area", "end"] nM) (iU:bz P w K mg base CX CL "can_free" 5 ["self", "grant", "end"] (yO K C CS CL)):bz P w K mg base CX CL "free" 6 ["self", "grant", "end"] (yN K C CS CL):=by
 have S:=BZ
 refine b9 D S (fun vs H Q E h=>?_) (fun f cdv A outer s H vs Q E hr h=>?_)
 ·obtain ⟨d,gs,n,en,rfl,_⟩:=h
  rfl
 obtain ⟨d,gs,n,en,rfl,hd,hok,q0,q⟩:=h
 obtain ⟨⟨dx,hp⟩,hl,hG,_⟩:=id hd
 refine ⟨_,(ak (bq (cY (bZ (dY iU (hr.mono (by first | decide | omega)) NE.pass (pv 0) (aa (pv 1) (aa (pv 2) ah))))) (ao (au dS)) aJ)
   (ak (aM (i:=3) S.nd rfl (by first | exact Or.inl rfl | exact Or.inr rfl) (az bA (aP (pv 0) rfl) (aL i9 (pv 1) ai) (fun _ _=>rfl)))
   (ak (gP (bx (aa (pv 1) (aa (az aF (pv 3) ai (fun _ _=>rfl)) (aa (aI gZ (hr.mono (by first | decide | omega)) NE.pass (aa (az aF (pv 3) ai (fun _ _=>rfl)) (aa (pv 2) ah))) ah)))) (gQ (aP (pv 0) rfl) (aL i9 (pv 1) ai) set_list))
   (ao (au dS))))),?_⟩
 try dsimp only [aZ]
 walk_at "go"
 refine aS hp FE ?_
 walk_at "go"
 refine ⟨d,gs,n,en,rfl,hd,hok,fun b H1 hb s1=>?_⟩
 walk_at "go"
 refine AO (fun e=>?_) (fun e=>?_)
 ·obtain ⟨i,x,r⟩:=hb.mp e
  obtain rfl:=r.n_
  have hx:=r.at_
  have hgx:=(hG x (List.mem_of_getElem? hx)).same s1
  have hl1:=s1 _ _ hl
  have e1:((i:Int)+1 - 1)=(i:Int):=by omega
  have hi:=(List.getElem?_eq_some_iff.mp hx).1
  have L:=((dH hl1).more (bg x.g [_,_,_]) hgx.1).more (bg x.ar [_,_,_]) hgx.2
  walk_at "go"
  refine ⟨d.p,CL,dx,_,_,rfl,s1 _ _ hp,SC.cl,SC.n2,gI _ _,?_⟩
  walk_at "go"
  rw [e1]
  refine d8 (SqL.of hl1) (cj (by unfold grV;rw [List.getElem?_map,hx];rfl)) ?_
  walk_at "go"
  refine ⟨x.ar,x.sl,x.f,x.e,en,rfl,hgx.2,fun ar H2 har s2=>?_⟩
  have hl2:=s2 _ _ hl1
  clear L
  have L:=(dH hl2).more (bg ar [_,_,_]) har
  walk_at "go"
  obtain ⟨g,eg⟩:∃ z,z=t':=⟨_,rfl⟩
  subst eg
  have hpA:=L'.fr _ _ (s2 _ _ (s1 _ _ hp)) (fun z=>by have e:=s2 _ _ (s1 _ _ hp);rw [z,hl2] at e;cases e)
  refine ⟨d.p,CL,dx,_,_,rfl,hpA,SC.cl,SC.n2,gI _ _,?_⟩
  walk_at "go"
  rw [e1]
  refine EM (j:=i) L' .head (vH (by rw [eG];exact hi)) fun HA LA _=>?_
  walk_at "go"
  have ch:=LA.chg (fun xs z=>by rw [hl2] at z;cases z)
  have hd2:=hd.same (s1.trans s2)
  refine q i x r g ar _ (hd2.put ch (by rw [Dj];exact LA.eo .head) (cM.set (hd2.2.2.1.ts ch.ts) ⟨LA.tup (by walk_at "mem"),LA.tup (by walk_at "mem")⟩)) ⟨fun q o e n=>ch.oth q o (s2 _ _ (s1 _ _ e)) n,fun q xs e=>ch.ts q xs (s2 _ _ (s1 _ _ e))⟩
 ·walk_at "go"
  exact q0 (fun z=>by rw [hb.mpr z] at e;cases e) H1 s1
end
def poF (l:Addr):List (Str×V):=[("posted",.ref l)]
structure PoC (K:PySem.W.Frag) (C:Addr):Prop where
 cl:Cls K C
 np:aT K C "posted"
def g5 (C:Addr) (H:Hp) (p l:Addr) (xs:List V):Prop:=(∃ dx,H p=some (.ins C dx (poF l)))∧H l=some (.lst xs)
section
variable {P:Program} {w:World} {K:PySem.W.Frag} {mg:Str→Option Value} {base:Heap} {C CL CR:Addr}
theorem zb:aq ["self"] ["self"] (aj (inClass (top 12) 0)):=by walk_at "s"
def rY (C:Addr):Sp:=fun vs H Q _=>∃ p dx,vs=[.ref p]∧H p=some (.ins C dx [])∧∀ l H',H l=none→H' p=some (.ins C dx (poF l))→H' l=some (.lst [])→(∀ q o,H q=some o→q≠p→H' q=some o)→Q .non H'
theorem zX {CX:CXT} (D:lW K mg "Post" "Post.__init__" C (inClass (top 12) 0) ["self"]) (SC:PoC K C):Mak P w K mg base CX "Post" C 1 ["self"] (rY C):=by
 have S:=zb
 walk_at "d"
 ·obtain ⟨p,dx,rfl,_⟩:=h
  rfl
 obtain ⟨p,dx,rfl,hp,q⟩:=h
 refine ⟨_,(ao (cQ (pv 0) (bM ah) rfl)),?_⟩
 try dsimp only [aZ]
 have L:=Led.start H (fun _=>False)
 walk_at "go"
 have hp':=L'.same _ _ hp
 have np:p≠l':=fun z=>by rw [z,n'] at hp;cases hp
 refine ⟨p,C,dx,[],rfl,hp',SC.cl,SC.np,by decide,?_⟩
 refine q l' _ n' ay (by rw [aB (Ne.symm np)];exact L'.eo .head) fun x o h z=>by rw [aB z];exact L'.same _ _ h
theorem y9:aq ["self", "letter"] ["self", "letter"] (aj (inClass (top 12) 1)):=by walk_at "s"
def yH (C:Addr):Sp:=fun vs H Q _=>∃ (p l:Addr) (xs:List V) (v:V),vs=[.ref p,v]∧g5 C H p l xs∧xs.length≤100∧∀ H',H' l=some (.lst (xs++[v]))→(∀ q o,H q=some o→q≠l→H' q=some o)→Q (.int (xs.length+1)) H'
theorem zV {CX:CXT} (D:bQ K C "send" "Post.send" (inClass (top 12) 1) ["self", "letter"]) (SC:PoC K C) (BT:Bt mg):bz P w K mg base CX C "send" 1 ["self", "letter"] (yH C):=by
 have S:=y9
 refine b9 D S (fun vs H Q E h=>?_) (fun f cdv A outer s H vs Q E hr h=>?_)
 ·obtain ⟨p,l,xs,v,rfl,_⟩:=h
  rfl
 obtain ⟨p,l,xs,v,rfl,⟨⟨dx,hp⟩,hl⟩,hz,q⟩:=h
 refine ⟨_,(ak (bE (jw PySem.F.plainAttrs_list PySem.F.slot_list_append PySem.F.type_list_append gx (aP (pv 0) rfl) (aa (pv 1) ah)))
   (ao (au (aX eK rfl BT.len L3.cS (aa (aP (pv 0) rfl) ah))))),?_⟩
 try dsimp only [aZ]
 have np:p≠l:=fun z=>by rw [z,hl] at hp;cases hp
 have L:=dH hl
 walk_at "go"
 refine ⟨p,C,dx,_,_,rfl,hp,SC.cl,SC.np,lk_hit,?_⟩
 walk_at "go"
 refine ⟨p,C,dx,_,_,rfl,L'.fr _ _ hp np,SC.cl,SC.np,lk_hit,?_⟩
 walk_at "go"
 have e:((xs++[v]).length:Int)=xs.length+1:=by rw [List.length_append,List.length_singleton];omega
 rw [e]
 exact q _ (L'.eo (by walk_at "put")) L'.fr
theorem yZ:aq ["self"] ["self"] (aj (inClass (top 12) 3)):=by walk_at "s"
def jQ (C:Addr):Sp:=fun vs H Q _=>∃ (p l:Addr) (xs:List V),vs=[.ref p]∧g5 C H p l xs∧∀ b H',H b=none→H' b=some (.lst xs)→aK H H'→Q (.ref b) H'
theorem zU {CX:CXT} (D:bQ K C "sent" "Post.sent" (inClass (top 12) 3) ["self"]) (SC:PoC K C) (BT:Bt mg):bz P w K mg base CX C "sent" 1 ["self"] (jQ C):=by
 have S:=yZ
 refine b9 D S (fun vs H Q E h=>?_) (fun f cdv A outer s H vs Q E hr h=>?_)
 ·obtain ⟨p,l,xs,rfl,_⟩:=h
  rfl
 obtain ⟨p,l,xs,rfl,⟨⟨dx,hp⟩,hl⟩,q⟩:=h
 refine ⟨_,(ao (au (cC f6 rfl BT.list_ L3.gC (aa (aP (pv 0) rfl) ah)))),?_⟩
 try dsimp only [aZ]
 walk_at "go"
 refine ⟨p,C,dx,_,_,rfl,hp,SC.cl,SC.np,lk_hit,?_⟩
 walk_at "go"
 refine fU (Led.start H (fun _=>False)) (.inl (SqL.of hl)) fun b HB nb L sB=>?_
 walk_at "go"
 exact q b HB nb (L.eo .head) sB
theorem p6:aq ["self", "number"] ["self", "number"] (aj (inClass (top 10) 0)):=by walk_at "s"
theorem qB (D:uJ K mg "NoLetter" "NoLetter.__init__" CL (inClass (top 10) 0) ["self", "number"]) (gp:wc K mg "RiseError" CR) (EP:pB K CL "number"):xV P w K mg base "NoLetter" CL 1 ["self", "number"] (iw CL "number"):=by
 have S:=p6
 refine D.ok' S (fun vs H Q E h=>?_) (fun f cdv A outer s H vs Q E hr h=>?_)
 ·obtain ⟨x,v,rfl,_⟩:=h
  rfl
 obtain ⟨x,v,rfl,hx,q⟩:=h
 refine ⟨_,(ak (bE (qp gp (aa (pv 0) (aa aV ah))))
   (ao (vo (pv 0) (pv 1) rfl))),?_⟩
 try dsimp only [aZ]
 walk_at "go"
 refine qS hx D.ok ?_
 walk_at "go"
 exact AA hx EP fun d nd=>q d nd
theorem sy:aq ["self", "number"] ["self", "number"] (aj (inClass (top 12) 2)):=by walk_at "s"
def iu (C CL:Addr):Sp:=fun vs H Q E=>∃ (p l:Addr) (xs:List V) (n:Int),vs=[.ref p,.int n]∧g5 C H p l xs ∧
 (∀ v,1≤n→n≤xs.length→xs[(n - 1).toNat]?=some v→Q v H)∧((n < 1∨xs.length < n)→∀ d H',aK H H'→H' d=some (.xd [("number",.int n)])→E (.ref CL) (some d) H')
theorem tu (D:bQ K C "letter" "Post.letter" (inClass (top 12) 2) ["self", "number"]) (SC:PoC K C) (BT:Bt mg) (NE:bh (CX1 P w)) (g8:xV P w K mg base "NoLetter" CL 1 ["self", "number"] (iw CL "number")):bz P w K mg base (CX1 P w) C "letter" 3 ["self", "number"] (iu C CL):=by
 have S:=sy
 refine c7 D S (fun vs H Q E h=>?_) (fun f cdv A outer s H vs Q E hr h=>?_)
 ·obtain ⟨p,l,xs,n,rfl,_⟩:=h
  rfl
 obtain ⟨p,l,xs,n,rfl,⟨⟨dx,hp⟩,hl⟩,q1,q2⟩:=h
 refine ⟨_,(ak (bq (PW.pt (qk (aO qv (pv 1) ai (aQ _)) (j5 (aO iB (pv 1) (aX eK rfl BT.len L3.cS (aa (aP (pv 0) rfl) ah)) (aQ _))))) (ao (mE g8 (hr.mono (by first | decide | omega)) rfl bu (aa (pv 1) ah))) aJ)
   (ao (au (az bA (aP (pv 0) rfl) (aL i9 (pv 1) ai) (fun _ _=>rfl))))),?_⟩
 try dsimp only [aZ]
 have L:=dH hl
 walk_at "go"
 refine bN (fun b1=>?_) (fun b1=>?_)
 ·walk_at "go"
  exact je fun d H' sm hd=>q2 (.inl b1) d H' sm hd
 walk_at "go"
 refine ⟨p,C,dx,_,_,rfl,hp,SC.cl,SC.np,lk_hit,?_⟩
 walk_at "go"
 refine bN (fun b2=>?_) (fun b2=>?_)
 ·walk_at "go"
  exact je fun d H' sm hd=>q2 (.inr b2) d H' sm hd
 walk_at "go"
 refine ⟨p,C,dx,_,_,rfl,hp,SC.cl,SC.np,lk_hit,?_⟩
 walk_at "go"
 obtain ⟨v,hv⟩:∃ v,xs[(n - 1).toNat]?=some v:=⟨_,List.getElem?_eq_getElem (by omega)⟩
 refine d8 (SqL.of hl) (i:=n - 1) (by have:=cj hv;rwa [show ((n - 1).toNat:Int)=n - 1 by omega] at this) ?_
 walk_at "go"
 exact q1 v (by omega) (by omega) hv
end
theorem uW:∀ {zs:List Str},(∀ z∈zs,z.length=1)→(zs.map (·.length)).sum=zs.length
 | [],_=>rfl
 | z::zs,h=>by
  rw [List.map_cons,List.sum_cons,h z List.mem_cons_self,uW fun y hy=>h y (List.mem_cons_of_mem _ hy),List.length_cons]
  omega
theorem C6 {H:Hp} {p q:Addr} {b:Int} {o:HO} (hp:aY H p b) (hq:H q=some o) (ne:p≠q):Led (fun x=>x=p∨x=q) H H [(p,bw b),(q,Eo o)] []:=
 ⟨fun x hx=>by
  rcases List.mem_cons.mp hx with rfl | hx
  ·exact hp.ob
  ·rw [List.mem_singleton.mp hx];exact ⟨o,hq,rfl⟩,by simp [ne],fun x hx=>.inl (by
  rcases List.mem_cons.mp hx with rfl | hx
  ·exact .inl rfl
  ·rw [List.mem_singleton.mp hx];exact .inr rfl),fun _ _ h _=>h,fun _ h=>by simp at h⟩
theorem yw {z:Str} {r:Int} (h0 : 0≤r) (h1:r < z.cps.toList.length):∃ c,atI z.cps.toList r=some c:=by
 obtain ⟨n,rfl⟩:=Int.eq_ofNat_of_zero_le h0
 exact ⟨_,cj (List.getElem?_eq_getElem (by omega))⟩
theorem join_ones:∀ l:List Nat,Txt.join ("" : Str) (l.map fun c=>(⟨#[c]⟩:Str))=⟨l.toArray⟩:=by
 intro l
 unfold Txt.join
 rw [StrLaws.glued_eq_join]
 induction l with
 | nil=>rfl
 | cons c r ih=>
  cases r with
  | nil=>rfl
  | cons d r=>
   show (⟨#[c]⟩:Str)++("" : Str)++Str.join "" (List.map (fun c=>(⟨#[c]⟩:Str)) (d::r))=_
   rw [ih,show (("" : Str))=Str.empty from rfl,Str.append_empty]
   show (⟨#[c]++(d::r).toArray⟩:Str)=⟨(c::d::r).toArray⟩
   simp
def abc:List Nat:=("abcdefghijklmnopqrstuvwxyz" : Str).cps.toList
theorem xR:abc.Nodup:=by unfold abc;decide +kernel
theorem v7:abc.length=26:=by unfold abc;decide +kernel
theorem DY {r s:Int} (r0 : 0≤r) (r1:r < 26) (s0 : 0≤s) (s1:s < 26) (h:atI abc r=atI abc s):r=s:=by
 obtain ⟨m,rfl⟩:=Int.eq_ofNat_of_zero_le r0
 obtain ⟨n,rfl⟩:=Int.eq_ofNat_of_zero_le s0
 have hm:m < abc.length:=by rw [v7];omega
 have hn:n < abc.length:=by rw [v7];omega
 rw [cj (List.getElem?_eq_getElem hm),cj (List.getElem?_eq_getElem hn)] at h
 have e:=Option.some.inj h
 have nd:=List.pairwise_iff_getElem.mp xR
 rcases Nat.lt_trichotomy m n with z | z | z
 ·exact absurd e (nd m n hm hn z)
 ·rw [z]
 ·exact absurd e.symm (nd n m hn hm z)
structure NK (b:Bool) (k:Nat) (ba:Int) (m:Nat) (z:Str):Prop where
 one : 1≤z.cps.toList.length
 yes:b=true→z.cps.toList.length=m+1
 no:b=false→z.cps.toList[k]?=atI abc ((ba+5 * k+m) % 26)
theorem NK.inj {b:Bool} {k m n:Nat} {ba:Int} {z:Str} (h:NK b k ba m z) (g:NK b k ba n z) (hm:m < 10) (hn:n < 10):m=n:=by
 cases b with
 | true=>have:=h.yes rfl;have:=g.yes rfl;omega
 | false=>
  have e:=(h.no rfl).symm.trans (g.no rfl)
  have:=DY (Int.emod_nonneg _ (by decide)) (Int.emod_lt_of_pos _ (by decide)) (Int.emod_nonneg _ (by decide)) (Int.emod_lt_of_pos _ (by decide)) e
  omega
def NKs (b:Bool) (k:Nat) (ba:Int) (ns:List Str):Prop:=∀ i z,ns[i]?=some z→NK b k ba i z
theorem NKs.snoc {b:Bool} {k:Nat} {ba:Int} {ns:List Str} {z:Str} (h:NKs b k ba ns) (g:NK b k ba ns.length z):NKs b k ba (ns++[z]):=fun i y hy=>by
 by_cases c:i < ns.length
 ·rw [List.getElem?_append_left c] at hy;exact h i y hy
 ·have hi:=(List.getElem?_eq_some_iff.mp hy).1
  rw [List.length_append,List.length_singleton] at hi
  obtain rfl:i=ns.length:=by omega
  rw [List.getElem?_append_right (Nat.le_refl _),Nat.sub_self] at hy
  cases hy;exact g
theorem NKs.nodup {b:Bool} {k:Nat} {ba:Int} {ns:List Str} (h:NKs b k ba ns) (hl:ns.length≤10):ns.Nodup:=by
 unfold List.Nodup
 rw [List.pairwise_iff_getElem]
 intro i j hi hj hij e
 have h1:=h i _ (List.getElem?_eq_getElem hi)
 have h2:=h j _ (List.getElem?_eq_getElem hj)
 rw [← e] at h2
 have:=h1.inj h2 (by omega) (by omega)
 omega
theorem NKs.ne {b:Bool} {k:Nat} {ba:Int} {ns:List Str} (h:NKs b k ba ns):∀ z∈ns,z≠("" : Str):=fun z hz e=>by
 obtain ⟨i,hi,rfl⟩:=List.getElem_of_mem hz
 have:=(h i _ (List.getElem?_eq_getElem hi)).one
 rw [e] at this
 exact absurd this (by decide +kernel)
section
variable {P:Program} {w:World} {K:PySem.W.Frag} {mg:Str→Option Value} {base:Heap} {CX:CXT}
theorem zc:aq ["_law_cell", "_law_many", "_law_letters", "_law_size", "_law_at", "_law_base", "_law_beginnings", "_law_names_here", "_law_k", "_law_name"] ["_law_cell", "_law_many"] (aj (top 71)):=by walk_at "s"
def u0:Sp:=fun vs H Q _=>∃ (p:Addr) (b many:Int),vs=[.ref p,.int many]∧aY H p b∧b≤1000000∧1≤many∧many≤10∧∀ (nq:Addr) (ns:List Str) (H':Hp),H nq=none→H' nq=some (.lst (ns.map V.str))→1≤ns.length→ns.length≤10→(ns.length:Int)=many→ns.Nodup→(∀ z∈ns,z≠("" : Str))→aY H' p (b+8192)→Oth p H H'→Q (.ref nq) H'
theorem zY (D:Dat K mg "_law_names" "_law_names" (top 71) ["_law_cell", "_law_many"]) (BT:Bt mg) (NE:bh CX) (aH:Cal P w K mg base CX "_law_pick" 11 ["_law_hand_here", "_law_many"] fJ):Cal P w K mg base CX "_law_names" 12 ["_law_cell", "_law_many"] u0:=by
 have S:=zc
 walk_at "d"
 ·obtain ⟨p,b,many,rfl,_⟩:=h
  rfl
 obtain ⟨p,b,many,rfl,hh,hb,m1,m2,q⟩:=h
 refine ⟨_,(ak (aM (i:=2) S.nd rfl (by first | exact Or.inl rfl | exact Or.inr rfl) aV)
   (ak (aM (i:=3) S.nd rfl (by first | exact Or.inl rfl | exact Or.inr rfl) (aL bB ai (aI aH (hr.mono (by first | decide | omega)) NE.pass (aa (pv 0) (aa ai ah)))))
   (ak (aM (i:=4) S.nd rfl (by first | exact Or.inl rfl | exact Or.inr rfl) (aI aH (hr.mono (by first | decide | omega)) NE.pass (aa (pv 0) (aa (pv 3) ah))))
   (ak (aM (i:=5) S.nd rfl (by first | exact Or.inl rfl | exact Or.inr rfl) (aI aH (hr.mono (by first | decide | omega)) NE.pass (aa (pv 0) (aa ai ah))))
   (ak (aM (i:=6) S.nd rfl (by first | exact Or.inl rfl | exact Or.inr rfl) (cB bX (aI aH (hr.mono (by first | decide | omega)) NE.pass (aa (pv 0) (aa ai ah))) ai (aQ _)))
   (ak (aM (i:=7) S.nd rfl (by first | exact Or.inl rfl | exact Or.inr rfl) (bM ah))
   (ak (fN PassesOwn.never rfl (mF rfl BT.range (aa (pv 1) ah)) (bV (i:=8) S.nd rfl (by first | exact Or.inl rfl | exact Or.inr rfl)) (ak (aM (i:=9) S.nd rfl (by first | exact Or.inl rfl | exact Or.inr rfl) (jw PySem.F.plainAttrs_str PySem.F.slot_str_join PySem.F.type_str_join FD aV (aa (iA (g:=(bK 0)) rfl (mF rfl BT.range (aa (pv 3) ah)) (f9 (own:=["_law_j"]) (cap:=[2,5,8,4]) (aj (top 71)).names ["_law_cell", "_law_many", "_law_letters", "_law_size", "_law_at", "_law_base", "_law_beginnings", "_law_names_here", "_law_k", "_law_name"] rfl rfl rfl (by decide +kernel)) (fun _ _ _ _=>(bV (i:=0) (show (kY ["_law_cell", "_law_many", "_law_letters", "_law_size", "_law_at", "_law_base", "_law_beginnings", "_law_names_here", "_law_k", "_law_name"] ["_law_j"] [2,5,8,4]).Nodup by decide +kernel) rfl (by first | exact Or.inl rfl | exact Or.inr rfl))) (fun _ _ _ _=>eT) (fun _ _ _ _=>(az Aj (pv 1) (aL dZ (aL bB (aL bB (pv 2) (aL cZ ai (pv 0))) (aL cZ (pv 3) (cC GY rfl BT.int_ L3.uC (aa (cB bX (pv 0) (pv 4) (aQ _)) ah)))) ai) (fun _ _=>rfl)))) ah)))
    (ak (bq (bZ (pv 6)) (ao (aM (i:=9) S.nd rfl (by first | exact Or.inl rfl | exact Or.inr rfl) (aL Fw (az Aj (pv 2) (pv 5) (fun _ _=>rfl)) (aL bB (pv 8) ai)))) aJ)
    (ao (bE (jw PySem.F.plainAttrs_list PySem.F.slot_list_append PySem.F.type_list_append gx (pv 7) (aa (pv 9) ah)))))))
   (ak (bq (aO bX (aI aH (hr.mono (by first | decide | omega)) NE.pass (aa (pv 0) (aa ai ah))) ai (aQ _)) (ao (bE (Fg PySem.F.plainAttrs_list PySem.F.slot_list_reverse PySem.F.type_list_reverse tT (pv 7)))) aJ)
   (ao (au (pv 7))))))))))),?_⟩
 try dsimp only [aZ]
 have L:=bT hh
 walk_at "go"
 refine br L .head (by decide) (by decide) (by omega) fun sz H1 a0 a1 L _=>?_
 walk_at "go"
 refine br L .head (by omega) (by omega) (by omega) fun at' H2 b0 b1 L _=>?_
 obtain ⟨ka,rfl⟩:=Int.eq_ofNat_of_zero_le b0
 walk_at "go"
 refine br L .head (by decide) (by decide) (by omega) fun ba H3 c0 c1 L _=>?_
 walk_at "go"
 refine br L .head (by decide) (by decide) (by omega) fun be H4 d0 d1 L _=>?_
 have o4:Oth p H H4:=L.fr
 have hh4:=bw.at (L.at_ (p,bw _) (by walk_at "mem"))
 clear L
 have L:=Led.start H4 (fun _=>False)
 walk_at "go"
 have nq4:H4 l'=none:=n'
 have hq0:=L'.eo (p:=l') .head
 have s5:=L'.same
 clear L L'
 rename Hp=>H5;rename Addr=>nq
 refine AR (fun i σ H'=>∃ (u8 u9:Option V) (ns:List Str),σ=[some (.ref p),some (.int many),some (.str "abcdefghijklmnopqrstuvwxyz"),some (.int (1+sz)),some (.int (ka:Int)),some (.int ba),some (.bl (decide (be=1))),some (.ref nq),u8,u9]∧aK H4 H'∧H' nq=some (.lst (ns.map V.str))∧ns.length=i∧NKs (decide (be=1)) ka ba ns) ⟨_,_,[],rfl,s5,hq0,rfl,fun i z h=>by simp at h⟩ ?_ ?_
 ·rintro i σ HG hi ⟨u8,u9,ns,rfl,sm,hq,hlen,hnk⟩
  have KC:i < 10:=by omega
  have EE:∀ {H':Hp},(∀ b o,HG b=some o→¬ b=nq→H' b=some o)→aK H4 H':=fun h b o e=>h b o (sm _ _ e) (fun z=>by rw [z,nq4] at e;cases e)
  have L:=dH hq
  try dsimp only [bK]
  walk_at "go"
  refine DC (fun j ys H'=>∃ cs:List Nat,ys=(cs.map fun c=>(⟨#[c]⟩:Str)).map V.str∧cs.length=j∧(ka < j→cs[ka]?=atI abc ((ba+5 * ka+i) % 26))∧H'=HG) ⟨[],rfl,rfl,(fun h=>absurd h (by omega)),rfl⟩ (fun j ys H' hj ⟨zs,e,hz,_,_⟩=>by rw [e,List.length_map,List.length_map,hz];exact Nat.le_of_lt (small1000 (by omega))) ?_ ?_
  ·rintro j ys H' hj ⟨cs,rfl,hz,h1,rfl⟩
   try dsimp only [bK]
   walk_at "go"
   obtain ⟨cc,hc⟩:=yw (z:="abcdefghijklmnopqrstuvwxyz") (Int.emod_nonneg (ba+5 * (0+(j:Int))+(0+(i:Int)) * (if decide (0+(j:Int)=(ka:Int))=true then 1 else 0)) (show (26:Int)≠0 by decide)) (show _ < ((26:Nat):Int) from Int.emod_lt_of_pos _ (by decide))
   refine EN (by decide +kernel) hc ?_
   refine ⟨cs++[cc],by rw [List.map_append,List.map_append];rfl,by rw [List.length_append,List.length_singleton];omega,fun hk=>?_,rfl⟩
   by_cases c:ka < j
   ·rw [List.getElem?_append_left (by omega)];exact h1 c
   ·obtain rfl:ka=j:=by omega
    rw [List.getElem?_append_right (by omega),hz,Nat.sub_self]
    rw [if_pos (decide_eq_true (by omega))] at hc
    show some cc=_
    rw [← hc]
    unfold abc
    congr 2
    omega
  ·rintro ys H' ⟨cs,rfl,hz,h1,rfl⟩ lc nlc
   have M:=L.keep (bS nlc (.lst ((cs.map fun c=>(⟨#[c]⟩:Str)).map V.str)))
   have hlc:(upd H' lc (.lst ((cs.map fun c=>(⟨#[c]⟩:Str)).map V.str))) lc=some (.lst ((cs.map fun c=>(⟨#[c]⟩:Str)).map V.str)):=ay
   generalize upd H' lc (.lst ((cs.map fun c=>(⟨#[c]⟩:Str)).map V.str))=H6 at *
   clear L
   have L:=M
   clear M
   have hcl:cs.length=(1+sz).toNat:=hz
   have hml:(ns.map V.str).length=ns.length:=List.length_map ..
   walk_at "go"
   refine Gy (SqL.of hlc) (by rw [uW (fun z hz=>by obtain ⟨c,_,rfl⟩:=List.mem_map.mp hz;rfl),List.length_map];show cs.length+cs.length * 0≤16777216;omega) ?_
   walk_at "go"
   refine bN (fun e1=>?_) (fun e1=>?_)
   ·walk_at "go"
    obtain ⟨cc,hc⟩:=yw (z:="abcdefghijklmnopqrstuvwxyz") c0 (show ba < ((26:Nat):Int) from c1)
    refine EN (by decide +kernel) hc ?_
    have l1:(⟨#[cc]⟩:Str).length≤1000:=by show 1≤1000;decide
    have nk1:NK (decide (be=1)) ka ba ns.length (Txt.mul ⟨#[cc]⟩ (0+(i:Int)+1)):=by
     have e:=PyProof.Rows.mul_one_list cc (0+(i:Int)+1)
     have e':(Txt.mul ⟨#[cc]⟩ (0+(i:Int)+1)).cps.toList.length=i+1:=by rw [e];show (List.replicate (0+(i:Int)+1).toNat cc).length=_;rw [List.length_replicate];omega
     exact ⟨by rw [e'];omega,fun _=>by rw [e',hlen],fun z=>by rw [decide_eq_true e1] at z;cases z⟩
    walk_at "go"
    exact ⟨_,_,ns++[_],rfl,EE L'.fr,(L'.eo (p:=nq) (by walk_at "put")).trans (by rw [List.map_append];rfl),by rw [List.length_append,List.length_singleton];omega,hnk.snoc nk1⟩
   ·have nk0:NK (decide (be=1)) ka ba ns.length (Txt.join ("" : Str) (cs.map fun c=>(⟨#[c]⟩:Str))):=by
     rw [join_ones]
     exact ⟨by show 1≤cs.length;omega,(fun z=>by rw [decide_eq_false e1] at z;cases z),fun _=>by show cs[ka]?=_;rw [h1 (by omega),hlen]⟩
    walk_at "go"
    exact ⟨_,_,ns++[_],rfl,EE L'.fr,(L'.eo (p:=nq) (by walk_at "put")).trans (by rw [List.map_append];rfl),by rw [List.length_append,List.length_singleton];omega,hnk.snoc nk0⟩
 ·rintro σ HG ⟨u8,u9,ns,rfl,sm,hq,hlen,hnk⟩
  have hml:(ns.map V.str).length=ns.length:=List.length_map ..
  have npq:p≠nq:=fun z=>by
   obtain ⟨x,y,c,e,_⟩:=hh4
   rw [z,nq4] at e;cases e
  have nqH:H nq=none:=by
   cases e:H nq with
   | none=>rfl
   | some o=>rw [o4 nq o e (Ne.symm npq)] at nq4;cases nq4
  have L:=C6 (hh4.same sm) hq npq
  walk_at "go"
  refine br L .head (by decide) (by decide) (by omega) fun r7 H7 f0 f1 L _=>?_
  have Iv:∀ (x:Addr) (o:HO),H x=some o→x≠p→H7 x=some o:=fun x o e z=>L.fr x o (sm _ _ (o4 x o e z)) (fun zz=>zz.elim z (fun z2=>by rw [z2,nqH] at e;cases e))
  walk_at "go"
  refine bN (fun e1=>?_) (fun e1=>?_)
  ·walk_at "go"
   have hq7:=L.eo (p:=nq) (by walk_at "put")
   have hp7:=bw.at (L.at_ (p,bw _) (by walk_at "mem"))
   refine ⟨nq,_,rfl,rfl,hq7,?_⟩
   walk_at "go"
   refine q nq ns.reverse _ nqH (ay.trans (by rw [List.map_reverse])) (by rw [List.length_reverse];omega) (by rw [List.length_reverse];omega) (by rw [List.length_reverse];omega) (List.pairwise_reverse.mpr (List.Pairwise.imp (fun h=>Ne.symm h) (hnk.nodup (by omega)))) (fun z hz=>hnk.ne z (List.mem_reverse.mp hz)) (aY.mono (n:=b+1024+1024+1024+1024+1024) ?_ (by omega)) fun x o e z=>?_
   ·obtain ⟨x,y,c,e,r⟩:=hp7
    exact ⟨x,y,c,by rw [aB npq];exact e,r⟩
   ·rw [aB (fun z2=>by rw [z2,nqH] at e;cases e)]
    exact Iv x o e z
  ·walk_at "go"
   exact q nq ns _ nqH (L.eo (p:=nq) (by walk_at "put")) (by omega) (by omega) (by omega) (hnk.nodup (by omega)) hnk.ne ((bw.at (L.at_ (p,bw _) (by walk_at "mem"))).mono (by omega)) Iv
end
def w5:List Str:=["spoken", "once", "ends", "apart", "ahead"]
theorem yh:w5.Nodup:=by unfold w5;decide +kernel
theorem EZ:∀ z∈w5,z∈ju:=by
 intro z hz
 unfold w5 at hz
 unfold ju
 simp only [List.mem_cons,List.not_mem_nil,or_false] at hz ⊢
 rcases hz with h | h | h | h | h <;> simp [h]
theorem B6 {ws:List Str} (h:ws.Sublist w5):RuN ws:=⟨fun z hz=>EZ z (h.subset hz),h.nodup yh⟩
theorem Be {xs:List V} {r:Int} (h0 : 0≤r) (h1:r < xs.length):∃ v,atI xs r=some v∧v∈xs:=by
 obtain ⟨n,rfl⟩:=Int.eq_ofNat_of_zero_le h0
 have hn:n < xs.length:=by omega
 exact ⟨xs[n],cj (List.getElem?_eq_getElem hn),List.getElem_mem hn⟩
theorem kH {K:PySem.W.Frag} {PP:Addr→Prop} {H0 H:Hp} {l l':List (Addr×Ob)} {fs:List Pr} {Q:VK} {p:Addr} {xs:List V} {r:Int} (L:Led PP H0 H l fs) (m:Put p (Eo (.lst xs)) (Eo (.lst xs)) l l') (h0 : 0≤r) (h1:r < xs.length) (h:∀ v∈xs,Q v H):zx K (.ref p) (.int r) H Q:=by
 obtain ⟨v,e,hm⟩:=Be h0 h1
 exact AI L m e (h v hm)
section
variable {P:Program} {w:World} {K:PySem.W.Frag} {mg:Str→Option Value} {base:Heap} {CX:CXT} {C CS CL CN:Addr}
theorem zd:aq ["_law_cell", "_law_sound", "_law_wide", "_law_far", "_law_room", "_law_term", "_law_rules"] ["_law_cell", "_law_sound"] (aj (top 73)):=by walk_at "s"
def yG (C CS:Addr):Sp:=fun vs H Q _=>∃ (p:Addr) (b:Int) (so:Bool),vs=[.ref p,.bl so]∧aY H p b∧b≤1000000∧∀ (ps sp:Addr) (c s far room term:Int) (ws:List Str) (H':Hp),k8 C CS H' ps sp c s far room term ws→StN far room term→Oth p H H'→Q (.ref ps) H'
theorem zZ (D:Dat K mg "_law_settings" "_law_settings" (top 73) ["_law_cell", "_law_sound"]) (BT:Bt mg) (NE:bh CX) (aH:Cal P w K mg base CX "_law_pick" 11 ["_law_hand_here", "_law_many"] fJ)
  (iD:Mak P w K mg base CX "Shape" C 4 ["self", "counts", "slots"] (jJ C)) (d7:Mak P w K mg base CX "Settings" CS 4 ["self", "shape", "far", "room", "term", "rules"] (fk CS)):Cal P w K mg base CX "_law_settings" 12 ["_law_cell", "_law_sound"] (yG C CS):=by
 have S:=zd
 walk_at "d"
 ·obtain ⟨p,b,so,rfl,_⟩:=h
  rfl
 obtain ⟨p,b,so,rfl,hh,hb,q⟩:=h
 refine ⟨_,(@ak _ _ _ _ _ (@aM _ _ 2 _ _ _ _ S.nd rfl (by first | exact Or.inl rfl | exact Or.inr rfl) (@bM _ _ _ _ (@aa _ _ _ _ _ (@aL _ _ _ _ _ _ _ _ (@bB _) (@ai _ _ _ _) (@aI _ _ _ _ _ _ _ _ _ _ _ _ aH (hr.mono (by first | decide | omega)) NE.pass (@aa _ _ _ _ _ (@pv _ 0 _ _ (by rfl) (by first | exact Or.inl rfl | exact Or.inr (Or.inl rfl) | exact Or.inr (Or.inr rfl)) (by decide) (by decide)) (@aa _ _ _ _ _ (@ai _ _ _ _) (@ah _) (by rfl)) (by rfl)) (by rfl) (by decide) (by rfl) (by rfl))) (@aa _ _ _ _ _ (@aL _ _ _ _ _ _ _ _ (@bB _) (@ai _ _ _ _) (@aI _ _ _ _ _ _ _ _ _ _ _ _ aH (hr.mono (by first | decide | omega)) NE.pass (@aa _ _ _ _ _ (@pv _ 0 _ _ (by rfl) (by first | exact Or.inl rfl | exact Or.inr (Or.inl rfl) | exact Or.inr (Or.inr rfl)) (by decide) (by decide)) (@aa _ _ _ _ _ (@ai _ _ _ _) (@ah _) (by rfl)) (by rfl)) (by rfl) (by decide) (by rfl) (by rfl))) (@ah _) (by rfl)) (by rfl))) (by rfl) (by first | exact .inl rfl | exact .inr rfl | assumption)) (@ak _ _ _ _ _ (@bq _ _ _ _ _ _ _ _ (@aO _ _ _ _ _ _ _ _ (@bX _) (@aI _ _ _ _ _ _ _ _ _ _ _ _ aH (hr.mono (by first | decide | omega)) NE.pass (@aa _ _ _ _ _ (@pv _ 0 _ _ (by rfl) (by first | exact Or.inl rfl | exact Or.inr (Or.inl rfl) | exact Or.inr (Or.inr rfl)) (by decide) (by decide)) (@aa _ _ _ _ _ (@ai _ _ _ _) (@ah _) (by rfl)) (by rfl)) (by rfl) (by decide) (by rfl) (by rfl)) (@ai _ _ _ _) (@aQ _ _ (by decide) (by decide))) (@ao _ _ _ (@aM _ _ 2 _ _ _ _ S.nd rfl (by first | exact Or.inl rfl | exact Or.inr rfl) (@bM _ _ _ _ (@aa _ _ _ _ _ (@aL _ _ _ _ _ _ _ _ (@bB _) (@ai _ _ _ _) (@aI _ _ _ _ _ _ _ _ _ _ _ _ aH (hr.mono (by first | decide | omega)) NE.pass (@aa _ _ _ _ _ (@pv _ 0 _ _ (by rfl) (by first | exact Or.inl rfl | exact Or.inr (Or.inl rfl) | exact Or.inr (Or.inr rfl)) (by decide) (by decide)) (@aa _ _ _ _ _ (@ai _ _ _ _) (@ah _) (by rfl)) (by rfl)) (by rfl) (by decide) (by rfl) (by rfl))) (@aa _ _ _ _ _ (@aL _ _ _ _ _ _ _ _ (@bB _) (@ai _ _ _ _) (@aI _ _ _ _ _ _ _ _ _ _ _ _ aH (hr.mono (by first | decide | omega)) NE.pass (@aa _ _ _ _ _ (@pv _ 0 _ _ (by rfl) (by first | exact Or.inl rfl | exact Or.inr (Or.inl rfl) | exact Or.inr (Or.inr rfl)) (by decide) (by decide)) (@aa _ _ _ _ _ (@ai _ _ _ _) (@ah _) (by rfl)) (by rfl)) (by rfl) (by decide) (by rfl) (by rfl))) (@ah _) (by rfl)) (by rfl))) (by rfl) (by first | exact .inl rfl | exact .inr rfl | assumption))) (@aJ _)) (@ak _ _ _ _ _ (@aM _ _ 3 _ _ _ _ S.nd rfl (by first | exact Or.inl rfl | exact Or.inr rfl) (@az _ _ _ _ _ _ _ (@bA _) (@bM _ _ _ _ (@aa _ _ _ _ _ (@ai _ _ _ _) (@aa _ _ _ _ _ (@ai _ _ _ _) (@aa _ _ _ _ _ (@ai _ _ _ _) (@aa _ _ _ _ _ (@ai _ _ _ _) (@aa _ _ _ _ _ (@ai _ _ _ _) (@aa _ _ _ _ _ (@ai _ _ _ _) (@aa _ _ _ _ _ (@aL _ _ _ _ _ _ _ _ (@fR _) (@ai _ _ _ _) (@ai _ _ _ _)) (@ah _) (by rfl)) (by rfl)) (by rfl)) (by rfl)) (by rfl)) (by rfl)) (by rfl))) (@aI _ _ _ _ _ _ _ _ _ _ _ _ aH (hr.mono (by first | decide | omega)) NE.pass (@aa _ _ _ _ _ (@pv _ 0 _ _ (by rfl) (by first | exact Or.inl rfl | exact Or.inr (Or.inl rfl) | exact Or.inr (Or.inr rfl)) (by decide) (by decide)) (@aa _ _ _ _ _ (@ai _ _ _ _) (@ah _) (by rfl)) (by rfl)) (by rfl) (by decide) (by rfl) (by rfl)) (fun _ _=>rfl)) (by rfl) (by first | exact .inl rfl | exact .inr rfl | assumption)) (@ak _ _ _ _ _ (@aM _ _ 4 _ _ _ _ S.nd rfl (by first | exact Or.inl rfl | exact Or.inr rfl) (@az _ _ _ _ _ _ _ (@bA _) (@bM _ _ _ _ (@aa _ _ _ _ _ (@ai _ _ _ _) (@aa _ _ _ _ _ (@ai _ _ _ _) (@aa _ _ _ _ _ (@ai _ _ _ _) (@aa _ _ _ _ _ (@ai _ _ _ _) (@aa _ _ _ _ _ (@ai _ _ _ _) (@aa _ _ _ _ _ (@aL _ _ _ _ _ _ _ _ (@fR _) (@ai _ _ _ _) (@ai _ _ _ _)) (@ah _) (by rfl)) (by rfl)) (by rfl)) (by rfl)) (by rfl)) (by rfl))) (@aI _ _ _ _ _ _ _ _ _ _ _ _ aH (hr.mono (by first | decide | omega)) NE.pass (@aa _ _ _ _ _ (@pv _ 0 _ _ (by rfl) (by first | exact Or.inl rfl | exact Or.inr (Or.inl rfl) | exact Or.inr (Or.inr rfl)) (by decide) (by decide)) (@aa _ _ _ _ _ (@ai _ _ _ _) (@ah _) (by rfl)) (by rfl)) (by rfl) (by decide) (by rfl) (by rfl)) (fun _ _=>rfl)) (by rfl) (by first | exact .inl rfl | exact .inr rfl | assumption)) (@ak _ _ _ _ _ (@aM _ _ 5 _ _ _ _ S.nd rfl (by first | exact Or.inl rfl | exact Or.inr rfl) (@az _ _ _ _ _ _ _ (@bA _) (@bM _ _ _ _ (@aa _ _ _ _ _ (@ai _ _ _ _) (@aa _ _ _ _ _ (@ai _ _ _ _) (@aa _ _ _ _ _ (@ai _ _ _ _) (@aa _ _ _ _ _ (@ai _ _ _ _) (@aa _ _ _ _ _ (@ai _ _ _ _) (@aa _ _ _ _ _ (@ai _ _ _ _) (@aa _ _ _ _ _ (@aL _ _ _ _ _ _ _ _ (@fR _) (@ai _ _ _ _) (@ai _ _ _ _)) (@ah _) (by rfl)) (by rfl)) (by rfl)) (by rfl)) (by rfl)) (by rfl)) (by rfl))) (@aI _ _ _ _ _ _ _ _ _ _ _ _ aH (hr.mono (by first | decide | omega)) NE.pass (@aa _ _ _ _ _ (@pv _ 0 _ _ (by rfl) (by first | exact Or.inl rfl | exact Or.inr (Or.inl rfl) | exact Or.inr (Or.inr rfl)) (by decide) (by decide)) (@aa _ _ _ _ _ (@ai _ _ _ _) (@ah _) (by rfl)) (by rfl)) (by rfl) (by decide) (by rfl) (by rfl)) (fun _ _=>rfl)) (by rfl) (by first | exact .inl rfl | exact .inr rfl | assumption)) (@ak _ _ _ _ _ (@aM _ _ 6 _ _ _ _ S.nd rfl (by first | exact Or.inl rfl | exact Or.inr rfl) (@bM _ _ _ _ (@aa _ _ _ _ _ (@aV _ _ _ _) (@aa _ _ _ _ _ (@aV _ _ _ _) (@aa _ _ _ _ _ (@aV _ _ _ _) (@aa _ _ _ _ _ (@aV _ _ _ _) (@aa _ _ _ _ _ (@aV _ _ _ _) (@ah _) (by rfl)) (by rfl)) (by rfl)) (by rfl)) (by rfl))) (by rfl) (by first | exact .inl rfl | exact .inr rfl | assumption)) (@ak _ _ _ _ _ (@bq _ _ _ _ _ _ _ _ (@cY _ _ _ _ (@bZ _ _ _ (@pv _ 1 _ _ (by rfl) (by first | exact Or.inl rfl | exact Or.inr (Or.inl rfl) | exact Or.inr (Or.inr rfl)) (by decide) (by decide)) (by intro _;rfl))) (@ao _ _ _ (@j6 _ _ _ _ _ _ _ _ _ _ (bK 0) _ _ 6 _ _ _ rfl S.nd rfl (by first | exact Or.inl rfl | exact Or.inr rfl) (@cA _ _ _ _ (@pv _ 6 _ _ (by rfl) (by first | exact Or.inl rfl | exact Or.inr (Or.inl rfl) | exact Or.inr (Or.inr rfl)) (by decide) (by decide))) (@f9 _ _ ["_law_word"] [0] (aj (top 73)).names ["_law_cell", "_law_sound", "_law_wide", "_law_far", "_law_room", "_law_term", "_law_rules"] rfl rfl rfl (by decide +kernel)) (fun _ _ _ _=>(@bV _ _ 0 _ (show (kY ["_law_cell", "_law_sound", "_law_wide", "_law_far", "_law_room", "_law_term", "_law_rules"] ["_law_word"] [0]).Nodup by decide +kernel) rfl (by first | exact Or.inl rfl | exact Or.inr rfl) (by first | exact .inl rfl | exact .inr rfl | assumption))) (fun _ _ _ _=>(@ql _ _ _ (@aO _ _ _ _ _ _ _ _ (@iB _) (@aI _ _ _ _ _ _ _ _ _ _ _ _ aH (hr.mono (by first | decide | omega)) NE.pass (@aa _ _ _ _ _ (@pv _ 1 _ _ (by rfl) (by first | exact Or.inl rfl | exact Or.inr (Or.inl rfl) | exact Or.inr (Or.inr rfl)) (by decide) (by decide)) (@aa _ _ _ _ _ (@ai _ _ _ _) (@ah _) (by rfl)) (by rfl)) (by rfl) (by decide) (by rfl) (by rfl)) (@ai _ _ _ _) (@aQ _ _ (by decide) (by decide))))) (fun _ _ _ _=>(@pv _ 0 _ _ (by rfl) (by first | exact Or.inl rfl | exact Or.inr (Or.inl rfl) | exact Or.inr (Or.inr rfl)) (by decide) (by decide))) (by with_unfolding_all rfl) (by first | exact .inl rfl | exact .inr rfl | assumption) (by intro _;rfl))) (@aJ _)) (@ao _ _ _ (@au _ _ _ _ (@EB _ _ _ _ _ _ _ _ _ _ _ _ _ d7 (hr.mono (by first | decide | omega)) NE.pass (@aa _ _ _ _ _ (@EB _ _ _ _ _ _ _ _ _ _ _ _ _ iD (hr.mono (by first | decide | omega)) NE.pass (@aa _ _ _ _ _ (@az _ _ _ _ _ _ _ (@bA _) (@pv _ 2 _ _ (by rfl) (by first | exact Or.inl rfl | exact Or.inr (Or.inl rfl) | exact Or.inr (Or.inr rfl)) (by decide) (by decide)) (@ai _ _ _ _) (fun _ _=>rfl)) (@aa _ _ _ _ _ (@az _ _ _ _ _ _ _ (@bA _) (@pv _ 2 _ _ (by rfl) (by first | exact Or.inl rfl | exact Or.inr (Or.inl rfl) | exact Or.inr (Or.inr rfl)) (by decide) (by decide)) (@ai _ _ _ _) (fun _ _=>rfl)) (@ah _) (by rfl)) (by rfl)) (by rfl) (by decide) (by rfl) (by rfl)) (@aa _ _ _ _ _ (@pv _ 3 _ _ (by rfl) (by first | exact Or.inl rfl | exact Or.inr (Or.inl rfl) | exact Or.inr (Or.inr rfl)) (by decide) (by decide)) (@aa _ _ _ _ _ (@pv _ 4 _ _ (by rfl) (by first | exact Or.inl rfl | exact Or.inr (Or.inl rfl) | exact Or.inr (Or.inr rfl)) (by decide) (by decide)) (@aa _ _ _ _ _ (@pv _ 5 _ _ (by rfl) (by first | exact Or.inl rfl | exact Or.inr (Or.inl rfl) | exact Or.inr (Or.inr rfl)) (by decide) (by decide)) (@aa _ _ _ _ _ (@pv _ 6 _ _ (by rfl) (by first | exact Or.inl rfl | exact Or.inr (Or.inl rfl) | exact Or.inr (Or.inr rfl)) (by decide) (by decide)) (@ah _) (by rfl)) (by rfl)) (by rfl)) (by rfl)) (by rfl)) (by rfl) (by decide) (by rfl) (by rfl))))))))))),?_⟩
 try dsimp only [aZ]
 have L:=bT hh
 walk_at "go"
 refine br L .head (by decide) (by decide) (by omega) fun r1 H1 a0 a1 L _=>?_
 walk_at "go"
 refine br L .head (by decide) (by decide) (by omega) fun r2 H2 b0 b1 L _=>?_
 walk_at "one"
 try dsimp only [bK]
 have o2:Oth p H H':=L'.fr
 have h2:=bw.at (L'.at_ (p,bw _) (by walk_at "mem"))
 have hw2:=L'.eo (p:=l') (by walk_at "put")
 clear L
 refine dD (fun σ Hx=>∃ (lw:Addr) (x y:Int),σ=[some (.ref p),some (.bl so),some (.ref lw),none,none,none,none]∧aY Hx p (b+6144)∧Hx lw=some (.lst [.int x,.int y])∧lw≠p∧1≤x∧x≤1000∧1≤y∧y≤1000∧Oth p H Hx) (fun nx kk=>?_) ?_
 ·have nlp:l'≠p:=fun z=>by obtain ⟨u,v,y,e,_⟩:=h2;rw [← z,hw2] at e;have hl:=L'.nd;rw [List.map_cons,List.map_cons,z] at hl;exact absurd hl (by simp)
  clear L'
  have L:=bT h2
  walk_at "go"
  refine br L .head (by decide) (by decide) (by omega) fun r3 H3 c0 c1 L _=>?_
  walk_at "go"
  refine bN (fun z=>?_) (fun z=>?_)
  ·walk_at "go"
   refine br L .head (by decide) (by decide) (by omega) fun r4 H4 d0 d1 L _=>?_
   walk_at "go"
   refine br L .head (by decide) (by decide) (by omega) fun r5 H5 e0 e1 L _=>?_
   walk_at "go"
   have h5:=bw.at (L.at_ (p,bw _) (by walk_at "mem"))
   exact kk _ _ ⟨_,_,_,rfl,(bw.at (L'.at_ (p,bw _) (by walk_at "mem"))).mono (by omega),L'.eo (by walk_at "put"),(fun z=>by obtain ⟨u,v,y,e,_⟩:=h5;rw [← z,n'] at e;cases e),by omega,by omega,by omega,by omega,o2.trans L'.fr⟩
  ·walk_at "go"
   exact kk _ _ ⟨_,_,_,rfl,(bw.at (L.at_ (p,bw _) (by walk_at "mem"))).mono (by omega),L.fr _ _ hw2 nlp,nlp,by omega,by omega,by omega,by omega,o2.trans L.fr⟩
 clear L'
 rintro σ H3 ⟨lw,x,y,rfl,h3,hlw,nlw,x0,x1,y0,y1,o3⟩
 have L:=bT h3
 walk_at "go"
 refine br L' (by walk_at "put") (by decide) (by decide) (by omega) fun r6 H4 c0 c1 L _=>?_
 walk_at "go"
 refine kH L .head c0 (by simp only [List.length_cons,List.length_nil];omega) fun v hv=>?_
 obtain ⟨fa,rfl,f0,f1⟩:∃ n:Int,v = .int n∧0≤n∧n≤1000000000000:=by
  simp only [List.mem_cons,List.not_mem_nil,or_false] at hv
  rcases hv with rfl | rfl | rfl | rfl | rfl | rfl | rfl <;> exact ⟨_,rfl,by decide,by decide⟩
 have o4:=o3.trans L.fr
 have Ka:=L.fr _ _ hlw nlw
 have h4:=(bw.at (L.at_ (p,bw _) (by walk_at "mem"))).mono (show _≤b+8192 by omega)
 clear L L'
 have L:=bT h4
 walk_at "go"
 refine br L' (by walk_at "put") (by decide) (by decide) (by omega) fun r7 H5 d0 d1 L _=>?_
 walk_at "go"
 refine kH L .head d0 (by simp only [List.length_cons,List.length_nil];omega) fun v hv=>?_
 obtain ⟨ro,rfl,g0,g1⟩:∃ n:Int,v = .int n∧1≤n∧n≤1000000000000:=by
  simp only [List.mem_cons,List.not_mem_nil,or_false] at hv
  rcases hv with rfl | rfl | rfl | rfl | rfl | rfl <;> exact ⟨_,rfl,by decide,by decide⟩
 have o5:=o4.trans L.fr
 have J2:=L.fr _ _ Ka nlw
 have h5:=(bw.at (L.at_ (p,bw _) (by walk_at "mem"))).mono (show _≤b+10240 by omega)
 clear L L'
 have L:=bT h5
 walk_at "go"
 refine br L' (by walk_at "put") (by decide) (by decide) (by omega) fun r8 H6 e0 e1 L _=>?_
 walk_at "go"
 refine kH L .head e0 (by simp only [List.length_cons,List.length_nil];omega) fun v hv=>?_
 obtain ⟨te,rfl,t0,t1⟩:∃ n:Int,v = .int n∧1≤n∧n≤1000000000000:=by
  simp only [List.mem_cons,List.not_mem_nil,or_false] at hv
  rcases hv with rfl | rfl | rfl | rfl | rfl | rfl | rfl <;> exact ⟨_,rfl,by decide,by decide⟩
 have o6:=o5.trans L.fr
 have J1:=L.fr _ _ J2 nlw
 have h6:=(bw.at (L.at_ (p,bw _) (by walk_at "mem"))).mono (show _≤b+12288 by omega)
 clear L L'
 have shN:ShN x y:=⟨by omega,by omega,by omega,by omega⟩
 have stN:StN fa ro te:=⟨by omega,by omega,by omega,by omega,by omega,by omega⟩
 have L:=Led.start H6 (fun _=>False)
 walk_at "one"
 try dsimp only [bK]
 refine g_seq ?_
 walk_at "one"
 obtain ⟨lr,elr⟩:∃ z,z=l':=⟨_,rfl⟩
 subst elr
 have hlr:=L'.eo (p:=lr) (by walk_at "put")
 have s7:=L'.same
 obtain ⟨H7,eH7⟩:∃ z,z=H':=⟨_,rfl⟩
 subst eH7
 have nlr:lr≠p:=fun z=>by obtain ⟨u,v,y,e,_⟩:=h6;rw [← z,n'] at e;cases e
 have h7:=h6.same s7
 clear L L'
 try dsimp only [bK]
 refine dD (fun σ Hx=>∃ (lr2:Addr) (ws:List Str),σ=[some (.ref p),some (.bl so),some (.ref lw),some (.int fa),some (.int ro),some (.int te),some (.ref lr2)]∧Hx lr2=some (.lst (ws.map V.str))∧ws.Sublist w5∧Oth p H7 Hx) (fun nx kk=>?_) ?_
 ·cases so with
  | true=>
   walk_at "go"
   exact kk _ _ ⟨_,w5,rfl,hlr,List.Sublist.refl _,Oth.refl _ _⟩
  | false=>
   walk_at "go"
   refine c9 (SqL.of hlr) ?_
   refine fB (w5.map V.str) (fun i ys Hx=>∃ ws:List Str,ys=ws.map V.str∧ws.Sublist (w5.take i)∧aY Hx p (b+12288+1024 * (i:Int))∧Oth p H7 Hx) ⟨[],rfl,List.Sublist.refl _,h7.mono (by omega),Oth.refl _ _⟩ (fun i ys Hx hi ⟨ws,e,hs,_,o⟩=>⟨SqL.of (o _ _ hlr nlr),by
    rw [e,List.length_map]
    have:=hs.length_le
    rw [List.length_take] at this
    exact Nat.le_of_lt (small1000 (by have:w5.length=5:=rfl;omega))⟩) ?_ ?_
   ·rintro i v ys Hx hv ⟨ws,rfl,hs,hx,o⟩
    rw [List.getElem?_map] at hv
    cases hw:w5[i]? with
    | none=>rw [hw] at hv;cases hv
    | some wo=>
     rw [hw] at hv
     cases Option.some.inj hv
     have hi5:i < 5:=(List.getElem?_eq_some_iff.mp hw).1
     have hl1:(ws++[wo]).Sublist (w5.take (i+1)):=by rw [take_snoc hw];exact hs.append (List.Sublist.refl _)
     have hl2:ws.Sublist (w5.take (i+1)):=by rw [take_snoc hw];exact hs.trans (List.sublist_append_left _ _)
     have L:=bT hx
     try dsimp only [bK]
     walk_at "go"
     refine br L .head (by decide) (by decide) (by omega) fun r9 H8 b1 b2 L _=>?_
     have h8:=(bw.at (L.at_ (p,bw _) (by walk_at "mem"))).mono (show _≤b+12288+1024 * ((i+1:Nat):Int) by omega)
     have o8:=o.trans L.fr
     walk_at "go"
     refine bN (fun z=>?_) (fun z=>?_)
     ·walk_at "go"
      exact ⟨ws++[wo],by rw [List.map_append];rfl,hl1,h8,o8⟩
     ·exact ⟨ws,rfl,hl2,h8,o8⟩
   ·rintro ys Hx ⟨ws,rfl,hs,hx,o⟩ lc nlc
    rw [show (w5.map V.str).length=5 from rfl] at hs
    exact kk _ _ ⟨lc,ws,rfl,ay,hs,fun q o' e z=>by rw [aB (aG (o q o' e z) nlc)];exact o q o' e z⟩
 rintro σ H8 ⟨lr2,ws,rfl,hl2,hsu,o8⟩
 have II:=o8 _ _ (s7 _ _ J1) nlw
 have o68:Oth p H H8:=fun q o e z=>o8 _ _ (s7 _ _ (o6 q o e z)) z
 have L:=Led.start H8 (fun _=>False)
 walk_at "go"
 refine d8 (SqL.of II) rfl ?_
 walk_at "go"
 refine d8 (SqL.of II) rfl ?_
 walk_at "go"
 refine wg L shN fun sp H9 nsp L s9=>?_
 walk_at "go"
 refine nj (PP:=fun _=>False) (H0:=H9) (l:=[]) (fs:=[]) stN (s9 _ _ hl2) (B6 hsu) fun x' H10 nx10 hst s10=>?_
 obtain ⟨o,eo,dx,rfl⟩:=L.at_ (sp,Bf C x y) (by walk_at "mem")
 walk_at "go"
 exact q x' sp x y fa ro te ws _ ⟨hst,⟨dx,s10 _ _ eo⟩,shN⟩ stN fun q o e z=>s10 _ _ (s9 _ _ (o68 q o e z))
end
section
variable {P:Program} {w:World} {K:PySem.W.Frag} {mg:Str→Option Value} {base:Heap} {CX:CXT}
theorem sD:aq ["_law_cell", "_law_bound"] ["_law_cell"] (aj (top 72)):=by walk_at "s"
def iY:Sp:=fun vs H Q _=>∃ (p:Addr) (b:Int),vs=[.ref p]∧aY H p b∧b≤10000000∧∀ (v:Int) (H':Hp),0≤v→v < 10 ^ 29→aY H' p (b+2048)→Oth p H H'→Q (.int v) H'
theorem tE (D:Dat K mg "_law_number" "_law_number" (top 72) ["_law_cell"]) (NE:bh CX) (aH:Cal P w K mg base CX "_law_pick" 11 ["_law_hand_here", "_law_many"] fJ):Cal P w K mg base CX "_law_number" 12 ["_law_cell"] iY:=by
 have S:=sD
 walk_at "d"
 ·obtain ⟨p,b,rfl,_⟩:=h
  rfl
 obtain ⟨p,b,rfl,hh,hb,q⟩:=h
 refine ⟨_,(ak (aM (i:=1) S.nd rfl (by first | exact Or.inl rfl | exact Or.inr rfl) (az bA (bM (aa ai (aa ai (aa ai (aa (aL fR ai ai) ah))))) (aI aH (hr.mono (by first | decide | omega)) NE.pass (aa (pv 0) (aa ai ah))) (fun _ _=>rfl)))
   (ao (au (aI aH (hr.mono (by first | decide | omega)) NE.pass (aa (pv 0) (aa (pv 1) ah)))))),?_⟩
 try dsimp only [aZ]
 have HK:=HK
 have L:=bT hh
 walk_at "go"
 refine br L' (by walk_at "put") (by decide) (by decide) (by omega) fun r1 H1 w0 w1 L _=>?_
 walk_at "go"
 refine kH L .head w0 (by simp only [List.length_cons,List.length_nil];omega) fun v hv=>?_
 obtain ⟨n,rfl,n0,n1⟩:∃ n:Int,v = .int n∧0 < n∧n≤10 ^ 29:=by
  simp only [List.mem_cons,List.not_mem_nil,or_false] at hv
  rcases hv with rfl | rfl | rfl | rfl <;> exact ⟨_,rfl,by decide,by decide⟩
 walk_at "go"
 refine br L (by walk_at "put") n0 (Int.le_trans n1 (by decide)) (by omega) fun r2 H2 y0 y1 L _=>?_
 walk_at "go"
 exact q _ _ y0 (by omega) ((bw.at (L.at_ (p,bw _) (by walk_at "mem"))).mono (by omega)) L.fr
end
theorem oF {nm:Str} {ps l:Addr} {sv:V}:(hdF nm ps l sv).lookup ("is_up" : Str)=none:=fu (by decide +kernel) (by decide +kernel) (by decide +kernel) (by decide +kernel)
theorem Dh {nm:Str} {ps l:Addr} {sv:V}:(hdF nm ps l sv).lookup ("place" : Str)=none:=fu (by decide +kernel) (by decide +kernel) (by decide +kernel) (by decide +kernel)
theorem F3 {nm:Str} {ps l:Addr} {sv:V}:(hdF nm ps l sv).lookup ("note" : Str)=none:=fu (by decide +kernel) (by decide +kernel) (by decide +kernel) (by decide +kernel)
theorem F5 {nm:Str} {ps l:Addr} {sv:V}:(hdF nm ps l sv).lookup ("fall" : Str)=none:=fu (by decide +kernel) (by decide +kernel) (by decide +kernel) (by decide +kernel)
theorem F2 {nm:Str} {ps l:Addr} {sv:V}:(hdF nm ps l sv).lookup ("rise" : Str)=none:=fu (by decide +kernel) (by decide +kernel) (by decide +kernel) (by decide +kernel)
theorem F1 {nm:Str} {ps l:Addr} {sv:V}:(hdF nm ps l sv).lookup ("take" : Str)=none:=fu (by decide +kernel) (by decide +kernel) (by decide +kernel) (by decide +kernel)
theorem F4 {nm:Str} {ps l:Addr} {sv:V}:(hdF nm ps l sv).lookup ("hear" : Str)=none:=fu (by decide +kernel) (by decide +kernel) (by decide +kernel) (by decide +kernel)
section
variable {C CS CH:Addr} {H H':Hp} {d:Hd} {ls:Lns} {pl:Option (Int×Int)} {p:Addr} {b:Int}
theorem bH.nl (h:bH C CS CH H d ls pl) (hh:aY H p b):d.l≠p:=fun z=>by
 obtain ⟨_,hl,_⟩:=h
 obtain ⟨x,y,u,e,_⟩:=hh
 rw [z,e] at hl
 injection hl with hl
 injection hl with hl
 cases ls with
 | nil=>cases hl
 | cons x ls=>injection hl with hl _;cases hl
theorem bH.np (h:bH C CS CH H d ls pl) (hh:aY H p b):d.p≠p:=fun z=>by
 obtain ⟨⟨dx,sv,hp,_⟩,_⟩:=h
 obtain ⟨x,y,u,e,_⟩:=hh
 rw [z,e] at hp
 cases hp
theorem bH.oth (h:bH C CS CH H d ls pl) (hh:aY H p b) (o:Oth p H H'):bH C CS CH H' d ls pl:=by
 have nl:=h.nl hh
 obtain ⟨⟨dx,sv,hp,hpl⟩,hl,hL,⟨dy,tr,ms,h1,h2,pm⟩,⟨dz,h3⟩,hn⟩:=h
 obtain ⟨x,y,z,e,_⟩:=hh
 have ne:∀ q u,H q=some u→(∀ xs,u≠.lst xs)→q≠p:=fun q u h1 h2 z=>by rw [z,e] at h1;cases h1;exact h2 _ rfl
 have ts:cI H H':=fun q xs h=>o q _ h (ne _ _ h fun _ z=>nomatch z)
 exact ⟨⟨dx,sv,o _ _ hp (ne _ _ hp fun _ z=>nomatch z),hpl.ts ts⟩,o _ _ hl nl,hL.ts ts,⟨dy,tr,ms,o _ _ h1 (ne _ _ h1 fun _ z=>nomatch z),ts _ _ h2,pm⟩,⟨dz,o _ _ h3 (ne _ _ h3 fun _ z=>nomatch z)⟩,hn⟩
theorem xA {x:Addr×Ln} (h:eB ls) (g:rJ x.2):eB (ls++[x]):=fun y hy=>(List.mem_append.mp hy).elim (h y) fun z=>by rw [List.mem_singleton.mp z];exact g
theorem eu.any (h:eu ls pl) {pl':Option (Int×Int)} (k0:∀ m k,pl'=some (m,k)→0≤k):eu ls pl':=⟨h.good,k0,h.len⟩
theorem eu.snoc {x:Addr×Ln} (h:eu ls pl) (hl:ls.length≤397) (g:rJ x.2) {pl':Option (Int×Int)} (k0:∀ m k,pl'=some (m,k)→0≤k):eu (ls++[x]) pl':=⟨xA h.good g,k0,by rw [List.length_append,List.length_singleton];omega⟩
theorem vF {m k:Int} (h : 0≤k):∀ m' k',some (m,k)=some (m',k')→0≤k':=fun _ _ e=>by cases e;exact h
theorem nW {m k b:Int} (h : 0≤k):∀ m' k',some (jv m k b)=some (m',k')→0≤k':=fun _ _ e=>by
 unfold jv at e
 cases e
 split <;> omega
theorem ue {e:Hd} {ls':Lns} {pl':Option (Int×Int)} (k:bH C CS CH H e ls' pl') (f:Fr2 e.p e.l H H'):cI H H':=fun q xs h=>by
 obtain ⟨⟨dx,sv,hp,_⟩,hl,_⟩:=k
 exact f q _ h (fun z=>by rw [z,hp] at h;cases h) (fun z=>by rw [z,hl] at h;cases h)
theorem bH.fr2 {e:Hd} {ls':Lns} {pl':Option (Int×Int)} (h:bH C CS CH H d ls pl) (k:bH C CS CH H e ls' pl') (n1:d.p≠e.p) (n2:d.l≠e.l) (f:Fr2 e.p e.l H H'):bH C CS CH H' d ls pl:=by
 have ts:=ue k f
 obtain ⟨⟨dx,sv,hp,hpl⟩,hl,hL,⟨dy,tr,ms,h1,h2,pm⟩,⟨dz,h3⟩,hn⟩:=h
 obtain ⟨⟨dx',sv',hp',_⟩,hl',_⟩:=k
 have s1:¬ (("shape" : Str) = "name"):=by decide +kernel
 have s2:¬ (("counts" : Str) = "name"):=by decide +kernel
 refine ⟨⟨dx,sv,f _ _ hp n1 (fun z=>by rw [z,hl'] at hp;cases hp),hpl.ts ts⟩,f _ _ hl (fun z=>by rw [z,hp'] at hl;cases hl) n2,hL.ts ts,⟨dy,tr,ms,f _ _ h1 (fun z=>?_) (fun z=>by rw [z,hl'] at h1;cases h1),ts _ _ h2,pm⟩,⟨dz,f _ _ h3 (fun z=>?_) (fun z=>by rw [z,hl'] at h3;cases h3)⟩,hn⟩
 ·rw [z,hp'] at h1
  injection h1 with h1
  injection h1 with _ _ h1
  unfold hdF stF at h1
  injection h1 with h1 _
  injection h1 with h1 _
  exact s1 h1.symm
 ·rw [z,hp'] at h3
  injection h3 with h3
  injection h3 with _ _ h3
  unfold hdF shF at h3
  injection h3 with h3 _
  injection h3 with h3 _
  exact s2 h3.symm
end
inductive Op where
 | take (gr sl f e:Int)
 | hear (b:Int)
 | write (r:Int)
 | make (r:Int)
 | fall
 | rise
 | give
inductive Ou where
 | err (j:Nat)
 | non
 | bl (b:Bool)
 | int (n:Int)
 | pr (a b:Int)
abbrev Rs:=Ou×List Ln×Option (Int×Int)
def opF (d:Hd) (n:Nt) (g:Int) (pl:Option (Int×Int)):Op→Rs
 | .fall=>match pl with
  | none=>(.err 0,[],none)
  | some _=>(.non,[],none)
 | .rise=>match pl with
  | none=>(.non,[],some (max n.hd n.hr,0))
  | some p=>(.err 1,[],some p)
 | .take gr sl f e=>match pl with
  | none=>(.err 0,[],none)
  | some (m,k)=>if ("once" : Str)∈d.ws∧gr≤g then (.bl false,[],some (m,k)) else (.bl true,[.took gr sl f e],some (jv m k (bnd m k)))
 | .hear b=>match pl with
  | none=>(.err 0,[],none)
  | some (m,k)=>(.non,if ("spoken" : Str)∈d.ws∧n.hr < b then [.heard b] else [],some (jv m k b))
 | .write r=>match pl with
  | none=>(.err 0,[],none)
  | some (m,k)=>match n.ar with
   | none=>(.err 2,[],some (m,k))
   | some (_,f,e)=>if e≤due m f r then (.err 3,[],some (m,k)) else if r+d.far < due m f r then (.err 4,[],some (m,k)) else (.int (max n.hd (due m f r+d.room)),if n.hd < due m f r+d.room then [.held (due m f r+d.room)] else [],some (m,k))
 | .make r=>match pl with
  | none=>(.err 0,[],none)
  | some (m,k)=>match n.ar with
   | none=>(.err 2,[],some (m,k))
   | some (sl,f,e)=>if e≤due m f r then (.err 3,[],some (m,k)) else if r+d.far < due m f r then (.err 4,[],some (m,k)) else if ("ahead" : Str)∈d.ws∧n.hd≤due m f r then (.err 5,[],some (m,k)) else (.int (mk d.c d.s (due m f r) sl (cnt m f r k)),[],some (nxP d.c m f r k))
 | .give=>match pl with
  | none=>(.err 0,[],none)
  | some (m,k)=>match n.ar with
   | none=>(.err 2,[],some (m,k))
   | some (_,f,e)=>if Aw f m k n.hd≥e then (.err 3,[],some (m,k)) else (.pr n.g (Aw f m k n.hd),if ("ends" : Str)∈d.ws then [.ends n.g (Aw f m k n.hd)] else [],some (m,k))
def xT (H:Hp) (v:V):Ou→Prop
 | .err _=>False
 | .non=>v = .non
 | .bl b=>v = .bl b
 | .int n=>v = .int n
 | .pr a b=>∃ t,v = .ref t∧H t=some (.tup [.int a,.int b])
theorem xT.ts {H H':Hp} {v:V} {o:Ou} (h:xT H v o) (s:cI H H'):xT H' v o:=by
 cases o with
 | err j=>exact h
 | non=>exact h
 | bl b=>exact h
 | int n=>exact h
 | pr a b=>obtain ⟨t,e,h⟩:=h;exact ⟨t,e,s _ _ h⟩
def ouD:Ou→Dt
 | .err _=>.non
 | .non=>.non
 | .bl b=>.bl b
 | .int n=>.int n
 | .pr a b=>.tup [.int a,.int b]
theorem xT.at {K:PySem.W.Frag} {H:Hp} {v:V} {o:Ou} (h:xT H v o):At K H v (ouD o):=by
 cases o with
 | err j=>exact h.elim
 | non=>rw [show v = .non from h];exact .non
 | bl b=>rw [show v = .bl b from h];exact .bl _
 | int n=>rw [show v = .int n from h];exact .int _
 | pr a b=>obtain ⟨t,rfl,h⟩:=h;exact .tup (SqT.of h) (.cons (.int _) (.cons (.int _) .nil))
def xS (H:Hp):Option Addr→Prop
 | none=>True
 | some d=>∃ fs,H d=some (.xd fs)
section
variable {P:Program} {w:World} {K:PySem.W.Frag} {mg:Str→Option Value} {base:Heap} {C CS CH CD CU CA CN CW CT CR:Addr} {d:Hd} {ls:Lns} {pl:Option (Int×Int)} {H:Hp} {Q:VK} {E:XK}
def AfH (C CS CH:Addr) (d:Hd) (ls:Lns) (pl:Option (Int×Int)) (op:Op) (H:Hp) (Q:VK):Prop:=∀ v o ls2 pl2 H',opF d (nt ls) (gmx ls) pl op=(o,ls2.map (·.2),pl2)→xT H' v o→bH C CS CH H' d (ls++ls2) pl2→eu (ls++ls2) pl2→ls2.length≤1→Fr2 d.p d.l H H'→Q v H'
def AfE (cs:List Addr) (d:Hd) (ls:Lns) (pl:Option (Int×Int)) (op:Op) (H:Hp) (E:XK):Prop:=∀ (j:Nat) (c:Addr) (dx:Option Addr) (H':Hp),cs[j]?=some c→opF d (nt ls) (gmx ls) pl op=(.err j,[],pl)→aK H H'→xS H' dx→E (.ref c) dx H'
theorem Kq {C CS CH:Addr} {H:Hp} {d:Hd} {ls:Lns} {pl:Option (Int×Int)} (h:bH C CS CH H d ls pl):bH C CS CH H d (ls++[]) pl:=by rw [List.append_nil];exact h
theorem ok0 {ls:Lns} {pl pl':Option (Int×Int)} (h:eu ls pl) (k0:∀ m k,pl'=some (m,k)→0≤k):eu (ls++[]) pl':=by rw [List.append_nil];exact h.any k0
theorem we {gr sl f e:Int} {a:Addr} (hd:bH C CS CH H d ls pl) (hok:eu ls pl) (hl:ls.length≤397) (hg : 1≤gr) (ha:H a=some (.tup [.int sl,.int f,.int e])) (qe:AfE (ers CD CU CA CN CW CT) d ls pl (.take gr sl f e) H E) (q:AfH C CS CH d ls pl (.take gr sl f e) H Q):nF C CS CH CD [.ref d.p,.int gr,.ref a] H Q E:=
 ⟨d,ls,pl,gr,sl,f,e,a,rfl,hd,hok,ha,fun z H' s=>qe 0 CD none H' rfl (by subst z;rfl) s trivial,
  fun m k z c1 c2 H' h f'=>q (.bl false) (.bl false) [] pl H' (by subst z;simp only [opF];rw [if_pos ⟨c1,c2⟩];rfl) rfl (Kq h) (ok0 hok hok.k0) (Nat.zero_le _) f',
  fun m k z c l H' h f'=>q (.bl true) (.bl true) [(l,.took gr sl f e)] _ H' (by subst z;simp only [opF];rw [if_neg c];rfl) rfl h (hok.snoc (x:=(l,Ln.took gr sl f e)) hl hg (nW (hok.k0 m k z))) (Nat.le_refl 1) f'⟩
theorem wj {b:Int} (hd:bH C CS CH H d ls pl) (hok:eu ls pl) (hl:ls.length≤397) (qe:AfE (ers CD CU CA CN CW CT) d ls pl (.hear b) H E) (q:AfH C CS CH d ls pl (.hear b) H Q):nI C CS CH CD [.ref d.p,.int b] H Q E:=
 ⟨d,ls,pl,b,rfl,hd,hok,fun z H' s=>qe 0 CD none H' rfl (by subst z;rfl) s trivial,fun m k z ls2 H' hs h f'=>by
  rcases hs with ⟨c1,c2,l,rfl⟩ | ⟨c,rfl⟩
  ·exact q .non .non _ _ H' (by subst z;simp only [opF];rw [if_pos ⟨c1,c2⟩];rfl) rfl h (hok.snoc (x:=(l,Ln.heard b)) hl trivial (nW (hok.k0 m k z))) (Nat.le_refl 1) f'
  ·exact q .non .non _ _ H' (by subst z;simp only [opF];rw [if_neg c];rfl) rfl h (ok0 hok (nW (hok.k0 m k z))) (Nat.zero_le _) f'⟩
end
inductive Lt where
 | ask (nm:Str) (r:Int)
 | back (nm:Str) (n e:Int)
 | news (a nm:Str) (b:Int)
 | grant (nm:Str) (n sl f e:Int)
def pq (H:Hp) (t:Addr):Lt→Prop
 | .ask nm r=>0≤r∧H t=some (.tup [.str "ask",.str nm,.int r])
 | .back nm n e=>H t=some (.tup [.str "back",.str nm,.int n,.int e])
 | .news a nm b=>H t=some (.tup [.str "news",.str a,.str nm,.int b])
 | .grant nm n sl f e=>1≤n∧∃ ar,H t=some (.tup [.str "grant",.str nm,.int n,.ref ar])∧H ar=some (.tup [.int sl,.int f,.int e])
theorem pq.ts {H H':Hp} {t:Addr} {x:Lt} (h:pq H t x) (s:cI H H'):pq H' t x:=by
 cases x with
 | ask nm r=>exact ⟨h.1,s _ _ h.2⟩
 | back nm n e=>exact s _ _ h
 | news a nm b=>exact s _ _ h
 | grant nm n sl f e=>obtain ⟨h1,ar,h2,h3⟩:=h;exact ⟨h1,ar,s _ _ h2,s _ _ h3⟩
abbrev Lts:=List (Addr×Lt)
def ltV (ts:Lts):List V:=ts.map fun x=>V.ref x.1
def rH (H:Hp) (ts:Lts):Prop:=∀ x∈ts,pq H x.1 x.2
theorem rH.ts {H H':Hp} {ts:Lts} (h:rH H ts) (s:cI H H'):rH H' ts:=fun x hx=>(h x hx).ts s
theorem c8 (ts:Lts):(ltV ts).length=ts.length:=List.length_map ..
theorem Ae (ts:Lts) (x:Addr×Lt):ltV (ts++[x])=ltV ts++[.ref x.1]:=by unfold ltV;rw [List.map_append];rfl
theorem om {ts:Lts} {j:Nat} {v:V} (h:(ltV ts)[j]?=some v):∃ x,ts[j]?=some x∧v = .ref x.1:=by
 unfold ltV at h
 rw [List.getElem?_map] at h
 cases e:ts[j]? with
 | none=>rw [e] at h;cases h
 | some x=>rw [e] at h;cases h;exact ⟨x,rfl,rfl⟩
theorem old_ne {H:Hp} {p q:Addr} {o:HO} (h:H q=some o) (n:H p=none):q≠p:=fun z=>by rw [z,n] at h;cases h
theorem As {H:Hp} {p:Addr} {b:Int} (h:aY H p b):∃ zs,H p=some (.lst zs):=by
 obtain ⟨x,y,z,e,_⟩:=h;exact ⟨_,e⟩
theorem b6 {H H':Hp} {p:Addr} {b:Int} (h:aY H p b) (k:∀ o,H p=some o→H' p=some o):aY H' p b:=by
 obtain ⟨x,y,z,e,r⟩:=h;exact ⟨x,y,z,k _ e,r⟩
theorem jL {H:Hp} {p q:Addr} {b:Int} {α : Type} {xs:List α} {f : α→Addr} (hh:aY H p b) (h:H q=some (.lst (xs.map fun x=>V.ref (f x)))):q≠p:=fun z=>by
 obtain ⟨x,y,u,e,_⟩:=hh
 rw [z,e] at h
 injection h with h
 injection h with h
 cases xs with
 | nil=>cases h
 | cons x xs=>injection h with h _;cases h
theorem vU {H H':Hp} {q:Addr} {xs:List V} (hq:H q=some (.lst xs)) (o:Oth q H H'):Chg q H H':=⟨o,fun t ys e=>o _ _ e (fun z=>by rw [z,hq] at e;cases e)⟩
theorem g5.chg {CP:Addr} {Hx Hy:Hp} {p l q:Addr} {xs ys:List V} (h:g5 CP Hx p l xs) (hq:Hx q=some (.lst ys)) (n:l≠q) (c:Oth q Hx Hy):g5 CP Hy p l xs:=⟨h.1.elim fun dx e=>⟨dx,c _ _ e fun z=>by rw [z,hq] at e;cases e⟩,c _ _ h.2 n⟩
theorem g5.same {CP:Addr} {Hx Hy:Hp} {p l:Addr} {xs:List V} (h:g5 CP Hx p l xs) (s:aK Hx Hy):g5 CP Hy p l xs:=⟨h.1.elim fun dx e=>⟨dx,s _ _ e⟩,s _ _ h.2⟩
theorem bH.Jv {C CS CH q:Addr} {H H':Hp} {d:Hd} {ls:Lns} {pl:Option (Int×Int)} {xs:List V} (h:bH C CS CH H d ls pl) (hq:H q=some (.lst xs)) (n:d.l≠q) (o:Oth q H H'):bH C CS CH H' d ls pl:=by
 obtain ⟨⟨dx,sv,hp,hpl⟩,hl,hL,⟨dy,tr,ms,h1,h2,pm⟩,⟨dz,h3⟩,hn⟩:=h
 have ne:∀ q' u,H q'=some u→(∀ xs,u≠.lst xs)→q'≠q:=fun q' u h1 h2 z=>by rw [z,hq] at h1;cases h1;exact h2 _ rfl
 have ts:cI H H':=fun q xs h=>o q _ h (ne _ _ h fun _ z=>nomatch z)
 exact ⟨⟨dx,sv,o _ _ hp (ne _ _ hp fun _ z=>nomatch z),hpl.ts ts⟩,o _ _ hl n,hL.ts ts,⟨dy,tr,ms,o _ _ h1 (ne _ _ h1 fun _ z=>nomatch z),ts _ _ h2,pm⟩,⟨dz,o _ _ h3 (ne _ _ h3 fun _ z=>nomatch z)⟩,hn⟩
theorem oA {H:Hp} {p q:Addr} {C D dx dy:Addr} {a b:Str} {v w:V} {fs gs:List (Str×V)} (h:H p=some (.ins C dx ((a,v)::fs))) (k:H q=some (.ins D dy ((b,w)::gs))) (n:a≠b):p≠q:=fun z=>by
 rw [z,k] at h
 injection h with h
 injection h with _ _ h
 injection h with h _
 injection h with h _
 exact n h.symm
structure Hs where
 d:Hd
 ls:Lns
 pl:Option (Int×Int)
structure Ev (K:PySem.W.Frag) (C CS CH CL CP:Addr) (H0 H:Hp) (hs:List Hs) (d:Ld) (gs:List Gr) (pp lp:Addr) (ts:Lts):Prop where
 sm:aK H0 H
 hd:∀ x∈hs,bH C CS CH H x.d x.ls x.pl
 ok:∀ x∈hs,eu x.ls x.pl
 ne:hs.Pairwise fun x y=>x.d.p≠y.d.p∧x.d.l≠y.d.l
 hl:∀ x∈hs,x.d.l≠d.l∧x.d.l≠lp
 hn:∀ x∈hs,H0 x.d.p=none∧H0 x.d.l=none
 ld:cK K C CS CL H d gs
 gk:dN gs d.s
 ln:H0 d.l=none
 po:g5 CP H pp lp (ltV ts)
 lt:rH H ts
 pn:H0 lp=none
 dl:d.l≠lp
section
variable {K:PySem.W.Frag} {C CS CH CL CP:Addr} {H0 H H':Hp} {hs:List Hs} {d:Ld} {gs:List Gr} {pp lp:Addr} {ts:Lts}
theorem Ev.same (I:Ev K C CS CH CL CP H0 H hs d gs pp lp ts) (s:aK H H'):Ev K C CS CH CL CP H0 H' hs d gs pp lp ts:=
 ⟨I.sm.trans s,fun x hx=>(I.hd x hx).same s,I.ok,I.ne,I.hl,I.hn,I.ld.same s,I.gk,I.ln,I.po.same s,I.lt.ts (cu s),I.pn,I.dl⟩
theorem Ev.oth {p:Addr} {b:Int} (I:Ev K C CS CH CL CP H0 H hs d gs pp lp ts) (hh:aY H p b) (n:H0 p=none) (o:Oth p H H'):Ev K C CS CH CL CP H0 H' hs d gs pp lp ts:=by
 obtain ⟨zs,hp⟩:=As hh
 have ch:=vU hp o
 exact ⟨fun q u e=>o q u (I.sm _ _ e) (aG e n),fun x hx=>(I.hd x hx).oth hh o,I.ok,I.ne,I.hl,I.hn,I.ld.chg hp (jL hh I.ld.2.1) ch,I.gk,I.ln,I.po.chg hp (jL hh I.po.2) o,I.lt.ts ch.ts,I.pn,I.dl⟩
theorem cK.nep {x:Hd} {ls:Lns} {pl:Option (Int×Int)} (h:cK K C CS CL H d gs) (k:bH C CS CH H x ls pl):d.p≠x.p∧d.ps≠x.p∧d.sp≠x.p:=by
 obtain ⟨⟨dx,h1⟩,_,_,⟨⟨dy,tr,ms,h2,_⟩,⟨dz,h3⟩,_⟩⟩:=h
 obtain ⟨⟨dw,sv,hp,_⟩,_⟩:=k
 unfold ldF at h1
 unfold stF at h2
 unfold shF at h3
 unfold hdF at hp
 exact ⟨oA h1 hp (by decide +kernel),oA h2 hp (by decide +kernel),oA h3 hp (by decide +kernel)⟩
theorem cK.fr2 {x:Hd} {ls:Lns} {pl:Option (Int×Int)} (h:cK K C CS CL H d gs) (k:bH C CS CH H x ls pl) (n:d.l≠x.l) (f:Fr2 x.p x.l H H'):cK K C CS CL H' d gs:=by
 obtain ⟨n1,n2,n3⟩:=h.nep k
 have ts:=ue k f
 have kl:=k.2.1
 obtain ⟨⟨dw,sv,kp,_⟩,_⟩:=id k
 obtain ⟨⟨dx,h1⟩,hl,hG,⟨⟨dy,tr,ms,h2,h4,pm⟩,⟨dz,h3⟩,ok,nn⟩⟩:=h
 have st:SqT K H' tr (ms.map V.str):=by
  rcases h4 with (h | ⟨o,h⟩) | h
  ·exact .inl (.inl (ts _ _ h))
  ·exact .inl (.inr ⟨o,f _ _ h (fun z=>by rw [z,kp] at h;cases h) (fun z=>by rw [z,kl] at h;cases h)⟩)
  ·exact .inr h
 exact ⟨⟨dx,f _ _ h1 n1 (fun z=>by rw [z,kl] at h1;cases h1)⟩,f _ _ hl (fun z=>by rw [z,kp] at hl;cases hl) n,hG.ts ts,⟨⟨dy,tr,ms,f _ _ h2 n2 (fun z=>by rw [z,kl] at h2;cases h2),st,pm⟩,⟨dz,f _ _ h3 n3 (fun z=>by rw [z,kl] at h3;cases h3)⟩,ok,nn⟩⟩
theorem g5.fr2 {x:Hd} {ls:Lns} {pl:Option (Int×Int)} {xs:List V} (h:g5 CP H pp lp xs) (k:bH C CS CH H x ls pl) (n:lp≠x.l) (f:Fr2 x.p x.l H H'):g5 CP H' pp lp xs:=by
 obtain ⟨⟨dx,h1⟩,h2⟩:=h
 have kl:=k.2.1
 obtain ⟨⟨dw,sv,kp,_⟩,_⟩:=id k
 have n1:pp≠x.p:=by
  unfold poF at h1
  unfold hdF at kp
  exact oA h1 kp (by decide +kernel)
 exact ⟨⟨dx,f _ _ h1 n1 (fun z=>by rw [z,kl] at h1;cases h1)⟩,f _ _ h2 (fun z=>by rw [z,kp] at h2;cases h2) n⟩
theorem zB {α : Type} {R : α→α→Prop} {y : α}:∀ {xs:List α} {i:Nat} {x : α},xs[i]?=some x→xs.Pairwise R→(∀ z,R z x→R z y)→(∀ z,R x z→R y z)→(xs.set i y).Pairwise R
 | [],i,x,h,_,_,_=>by simp at h
 | a::xs,0,x,h,p,h1,h2=>by
  cases h
  rw [List.set_cons_zero]
  rw [List.pairwise_cons] at p ⊢
  exact ⟨fun z hz=>h2 z (p.1 z hz),p.2⟩
 | a::xs,i+1,x,h,p,h1,h2=>by
  rw [List.set_cons_succ]
  rw [List.pairwise_cons] at p ⊢
  refine ⟨fun z hz=>?_,zB (by simpa using h) p.2 h1 h2⟩
  rcases List.mem_or_eq_of_mem_set hz with hz | rfl
  ·exact p.1 z hz
  ·exact h1 a (p.1 x (List.mem_of_getElem? (by simpa using h)))
theorem Iq {hs:List Hs} (p:hs.Pairwise fun x y=>x.d.p≠y.d.p∧x.d.l≠y.d.l) {i j:Nat} {x y:Hs} (hx:hs[i]?=some x) (hy:hs[j]?=some y) (n:i≠j):y.d.p≠x.d.p∧y.d.l≠x.d.l:=by
 obtain ⟨hi,rfl⟩:=List.getElem?_eq_some_iff.mp hx
 obtain ⟨hj,rfl⟩:=List.getElem?_eq_some_iff.mp hy
 rw [List.pairwise_iff_getElem] at p
 rcases Nat.lt_or_gt_of_ne n with z | z
 ·have:=p i j hi hj z;exact ⟨Ne.symm this.1,Ne.symm this.2⟩
 ·exact p j i hj hi z
theorem Ev.step {i:Nat} {x:Hs} {ls':Lns} {pl':Option (Int×Int)} (I:Ev K C CS CH CL CP H0 H hs d gs pp lp ts) (hi:hs[i]?=some x) (f:Fr2 x.d.p x.d.l H H') (h:bH C CS CH H' x.d ls' pl') (k:eu ls' pl'):Ev K C CS CH CL CP H0 H' (hs.set i ⟨x.d,ls',pl'⟩) d gs pp lp ts:=by
 have hx:=List.mem_of_getElem? hi
 have kx:=I.hd x hx
 obtain ⟨n1,n2⟩:=I.hn x hx
 obtain ⟨n3,n4⟩:=I.hl x hx
 refine ⟨fun q u e=>f q u (I.sm _ _ e) (aG e n1) (aG e n2),fun y hy=>?_,fun y hy=>?_,zB hi I.ne (fun _ h=>h) (fun _ h=>h),fun y hy=>?_,fun y hy=>?_,I.ld.fr2 kx (Ne.symm n3) f,I.gk,I.ln,I.po.fr2 kx (Ne.symm n4) f,I.lt.ts (ue kx f),I.pn,I.dl⟩
 ·obtain ⟨j,hj,rfl⟩:=List.getElem_of_mem hy
  have hj':=hj
  rw [List.length_set] at hj'
  by_cases c:i=j
  ·subst c;rw [List.getElem_set_self];exact h
  ·rw [List.getElem_set_ne c]
   have hy':hs[j]?=some hs[j]:=List.getElem?_eq_getElem hj'
   obtain ⟨m1,m2⟩:=Iq I.ne hi hy' c
   exact (I.hd _ (List.getElem_mem hj')).fr2 kx m1 m2 f
 ·rcases List.mem_or_eq_of_mem_set hy with hy | rfl
  ·exact I.ok y hy
  ·exact k
 ·rcases List.mem_or_eq_of_mem_set hy with hy | rfl
  ·exact I.hl y hy
  ·exact ⟨n3,n4⟩
 ·rcases List.mem_or_eq_of_mem_set hy with hy | rfl
  ·exact I.hn y hy
  ·exact ⟨n1,n2⟩
theorem Ev.lend {gs':List Gr} (I:Ev K C CS CH CL CP H0 H hs d gs pp lp ts) (c:Chg d.l H H') (h:cK K C CS CL H' d gs') (k:dN gs' d.s):Ev K C CS CH CL CP H0 H' hs d gs' pp lp ts:=
 have hq:=I.ld.2.1
 ⟨fun q u e=>c.oth q u (I.sm _ _ e) (aG e I.ln),fun x hx=>(I.hd x hx).Jv hq (I.hl x hx).1 c.oth,I.ok,I.ne,I.hl,I.hn,h,k,I.ln,I.po.chg hq (Ne.symm I.dl) c.oth,I.lt.ts c.ts,I.pn,I.dl⟩
theorem Ev.send {t:Addr} {y:Lt} (I:Ev K C CS CH CL CP H0 H hs d gs pp lp ts) (o:Oth lp H H') (e:H' lp=some (.lst (ltV ts++[.ref t]))) (h:pq H t y):Ev K C CS CH CL CP H0 H' hs d gs pp lp (ts++[(t,y)]):=by
 have hq:=I.po.2
 have c:=vU hq o
 refine ⟨fun q u e=>o q u (I.sm _ _ e) (aG e I.pn),fun x hx=>(I.hd x hx).Jv hq (I.hl x hx).2 o,I.ok,I.ne,I.hl,I.hn,I.ld.chg hq I.dl c,I.gk,I.ln,?_,fun x hx=>?_,I.pn,I.dl⟩
 ·obtain ⟨dx,e1⟩:=I.po.1
  exact ⟨⟨dx,o _ _ e1 fun z=>by rw [z,hq] at e1;cases e1⟩,by rw [Ae];exact e⟩
 ·rcases List.mem_append.mp hx with hx | hx
  ·exact (I.lt x hx).ts c.ts
  ·rw [List.mem_singleton.mp hx];exact h.ts c.ts
theorem Ev.cell {p:Addr} {b:Int} (I:Ev K C CS CH CL CP H0 H hs d gs pp lp ts) (hh:aY H p b):p≠d.l∧p≠lp∧∀ x∈hs,p≠x.d.p∧p≠x.d.l:=
 ⟨Ne.symm (jL hh I.ld.2.1),Ne.symm (jL hh I.po.2),fun x hx=>⟨Ne.symm ((I.hd x hx).np hh),Ne.symm ((I.hd x hx).nl hh)⟩⟩
def Sep (hs:List Hs) (d:Ld) (lp q:Addr):Prop:=(∀ x∈hs,q≠x.d.p∧q≠x.d.l)∧q≠d.l∧q≠lp
theorem Ev.JP {p:Addr} {b:Int} (I:Ev K C CS CH CL CP H0 H hs d gs pp lp ts) (hh:aY H p b):Sep hs d lp p:=have h:=I.cell hh;⟨h.2.2,h.1,h.2.1⟩
end
theorem Cu {gs:List Gr} {s:Nat} {X:Gr} (h:dN gs s) (hl:gs.length≤62) (hX : 0≤X.sl∧X.sl < s):dN (gs++[X]) s:=⟨fun z hz=>(List.mem_append.mp hz).elim (h.sl z) (fun e=>by rw [List.mem_singleton.mp e];exact hX),by rw [List.length_append,List.length_singleton];omega⟩
theorem Fo {gs:List Gr} {s i:Nat} {X:Gr} (h:dN gs s) (hX : 0≤X.sl∧X.sl < s):dN (gs.set i X) s:=⟨fun z hz=>(List.mem_or_eq_of_mem_set hz).elim (h.sl z) (fun e=>by rw [e];exact hX),by rw [List.length_set];exact h.len⟩
theorem C4 {ps l:Addr}:(ldF ps l).lookup ("free" : Str)=none:=gU (by decide +kernel) (by decide +kernel)
def AfL (K:PySem.W.Frag) (C CS CL:Addr) (d:Ld) (gs:List Gr) (nm:Str) (r:Int) (H:Hp) (Q:Addr→Hp→Prop):Prop:=∀ x y,Nx (decide (("apart" : Str)∈d.ws)) gs d.s r x y→¬ kE < y+d.term→∀ g ar t2 H',cK K C CS CL H' d (gs++[⟨g,ar,gs.length+1,nm,x,y,y+d.term⟩])→dN (gs++[⟨g,ar,gs.length+1,nm,x,y,y+d.term⟩]) d.s→H' t2=some (.tup [.str "grant",.str nm,.int (gs.length+1),.ref ar])→Chg d.l H H'→Q t2 H'
def NoL (d:Ld) (gs:List Gr) (r:Int) (CN:Addr) (H:Hp) (E:XK):Prop:=∀ x y,Nx (decide (("apart" : Str)∈d.ws)) gs d.s r x y→kE < y+d.term→∀ H',aK H H'→E (.ref CN) none H'
def AfF (K:PySem.W.Frag) (C CS CL:Addr) (d:Ld) (gs:List Gr) (n en:Int) (H:Hp) (Q:VK):Prop:=∀ i x,Fre gs n en i x→∀ g ar H',cK K C CS CL H' d (gs.set i ⟨g,ar,n,x.nm,x.sl,x.f,en⟩)→dN (gs.set i ⟨g,ar,n,x.nm,x.sl,x.f,en⟩) d.s→Chg d.l H H'→Q (.bl true) H'
def CaR (K:PySem.W.Frag) (C CS CH CL CD CU CA CN CW CT:Addr) (hv lv:V) (H:Hp) (Q:VK) (E:XK):Lt→Prop
 | .ask nm r=>∃ d gs,lv = .ref d.p∧cK K C CS CL H d gs∧dN gs d.s∧gs.length≤62∧NoL d gs r CN H E∧AfL K C CS CL d gs nm r H (fun t=>Q (.ref t))
 | .back nm n en=>∃ d gs,lv = .ref d.p∧cK K C CS CL H d gs∧dN gs d.s∧(¬ HF gs n en→∀ H',aK H H'→Q (.bl false) H')∧AfF K C CS CL d gs n en H Q
 | .news a nm b=>∃ d ls pl,hv = .ref d.p∧bH C CS CH H d ls pl∧eu ls pl∧ls.length≤397∧AfE (ers CD CU CA CN CW CT) d ls pl (.hear b) H E∧AfH C CS CH d ls pl (.hear b) H Q
 | .grant nm n sl f e=>∃ d ls pl,hv = .ref d.p∧bH C CS CH H d ls pl∧eu ls pl∧ls.length≤397∧AfE (ers CD CU CA CN CW CT) d ls pl (.take n sl f e) H E∧AfH C CS CH d ls pl (.take n sl f e) H Q
theorem cK.slots {K:PySem.W.Frag} {C CS CL:Addr} {H:Hp} {d:Ld} {gs:List Gr} (h:cK K C CS CL H d gs) : 1≤d.s:=by have:=h.2.2.2.ok.s1;omega
section
variable {P:Program} {w:World} {K:PySem.W.Frag} {mg:Str→Option Value} {base:Heap} {C CS CH CL CD CU CA CN CW CT CP CE:Addr}
theorem zl:aq ["self", "number", "hand", "lender", "letter", "lent"] ["self", "number", "hand", "lender"] (aj (inClass (top 12) 4)):=by walk_at "s"
def ve (K:PySem.W.Frag) (C CS CH CL CD CU CA CN CW CT CP CE:Addr):Sp:=fun vs H Q E=>∃ (pp lp:Addr) (ts:Lts) (n:Int) (hv lv:V),vs=[.ref pp,.int n,hv,lv]∧g5 CP H pp lp (ltV ts) ∧
 ((n < 1∨ts.length < n)→∀ dd H',aK H H'→H' dd=some (.xd [("number",.int n)])→E (.ref CE) (some dd) H') ∧
 (∀ (j:Nat) (t:Addr) (x:Lt),n=(j:Int)+1→ts[j]?=some (t,x)→pq H t x∧CaR K C CS CH CL CD CU CA CN CW CT hv lv H Q E x)
theorem z7 (D:bQ K CP "carry" "Post.carry" (inClass (top 12) 4) ["self", "number", "hand", "lender"]) (BT:Bt mg) (NE:bh (CX1 P w)) (cJ:bz P w K mg base (CX1 P w) CP "letter" 3 ["self", "number"] (iu CP CE)) (lR:bz P w K mg base (CX1 P w) CL "lend" 5 ["self", "hand", "least"] (yM K C CS CL CN)) (lS:bz P w K mg base (CX1 P w) CL "free" 6 ["self", "grant", "end"] (yN K C CS CL))
  (gc:bz P w K mg base (CX1 P w) CH "take" 6 ["self", "grant", "area"] (nF C CS CH CD)) (gi:bz P w K mg base (CX1 P w) CH "hear" 6 ["self", "bound"] (nI C CS CH CD)):bz P w K mg base (CX1 P w) CP "carry" 7 ["self", "number", "hand", "lender"] (ve K C CS CH CL CD CU CA CN CW CT CP CE):=by
 have S:=zl
 refine c7 D S (fun vs H Q E h=>?_) (fun f cdv A outer s H vs Q E hr h=>?_)
 ·obtain ⟨pp,lp,ts,n,hv,lv,rfl,_⟩:=h
  rfl
 obtain ⟨pp,lp,ts,n,hv,lv,rfl,hpo,q0,q⟩:=h
 refine ⟨_,(ak (aM (i:=4) S.nd rfl (by first | exact Or.inl rfl | exact Or.inr rfl) (j9 cJ (hr.mono (by first | decide | omega)) bu (pv 0) (aa (pv 1) ah)))
   (ak (bq (aO bX (az aF (pv 4) ai (fun _ _=>rfl)) aV (aQ _)) (ak (aM (i:=5) S.nd rfl (by first | exact Or.inl rfl | exact Or.inr rfl) (j9 lR (hr.mono (by first | decide | omega)) bu (pv 3) (aa (az aF (pv 4) ai (fun _ _=>rfl)) (aa (az aF (pv 4) ai (fun _ _=>rfl)) ah))))
    (ao (au (bx (aa aV (aa (az aF (pv 4) ai (fun _ _=>rfl)) (aa (az aF (pv 5) ai (fun _ _=>rfl)) (aa (az aF (pv 5) ai (fun _ _=>rfl)) ah)))))))) aJ)
   (ak (bq (aO bX (az aF (pv 4) ai (fun _ _=>rfl)) aV (aQ _)) (ao (au (j9 gc (hr.mono (by first | decide | omega)) bu (pv 2) (aa (az aF (pv 4) ai (fun _ _=>rfl)) (aa (az aF (pv 4) ai (fun _ _=>rfl)) ah))))) aJ)
   (ak (bq (aO bX (az aF (pv 4) ai (fun _ _=>rfl)) aV (aQ _)) (ao (au (dY lS (hr.mono (by first | decide | omega)) NE.pass (pv 3) (aa (az aF (pv 4) ai (fun _ _=>rfl)) (aa (az aF (pv 4) ai (fun _ _=>rfl)) ah))))) aJ)
   (ao (au (j9 gi (hr.mono (by first | decide | omega)) bu (pv 2) (aa (az aF (pv 4) ai (fun _ _=>rfl)) ah)))))))),?_⟩
 try dsimp only [aZ]
 obtain ⟨⟨dx,hp1⟩,hp2⟩:=id hpo
 walk_at "go"
 refine aS hp1 (lk_miss (by decide +kernel)) ?_
 walk_at "go"
 refine ⟨pp,lp,_,_,rfl,hpo,fun v h1 h2 hv0=>?_,fun z dd H' sm hd=>q0 (by rw [c8] at z;exact z) dd H' sm hd⟩
 obtain ⟨⟨t,x⟩,hj,rfl⟩:=om hv0
 obtain ⟨hx,qq⟩:=q _ t x (show n=(((n - 1).toNat:Nat):Int)+1 by omega) hj
 clear q q0
 cases x with
 | ask nm r=>
  obtain ⟨d,gs,rfl,hd,hok,h62,qe,q⟩:=qq
  obtain ⟨⟨dy,hld⟩,_⟩:=id hd
  obtain ⟨r0,ht⟩:=hx
  have L:=(Led.start H (fun _=>False)).more (bg t [_,_,_]) ht
  walk_at "go"
  refine aS hld FA ?_
  walk_at "go"
  refine ⟨d,gs,nm,r,rfl,hd,hok,r0,fun x y hn c1 H1 s1=>qe x y hn c1 H1 s1,fun x y hn c1 g ar t2 H1 hd1 ht2 c2=>?_⟩
  have L:=((Led.start H1 (fun _=>False)).more (bg t2 [_,_]) ht2).more (bg t [_,_,_]) (c2.ts _ _ ht)
  walk_at "go"
  exact q x y hn c1 g ar _ _ (hd1.same L'.same) (Cu hok h62 (hn.lt hd.slots)) (L'.tup (by walk_at "mem")) (c2.same L'.same)
 | back nm n en=>
  obtain ⟨d,gs,rfl,hd,hok,qn,q⟩:=qq
  obtain ⟨⟨dy,hld⟩,_⟩:=id hd
  have ht:H t=some (.tup [.str "back",.str nm,.int n,.int en]):=hx
  have L:=(Led.start H (fun _=>False)).more (bg t [_,_,_,_]) ht
  walk_at "go"
  refine dP (by decide +kernel) ?_
  walk_at "go"
  refine dP (by decide +kernel) ?_
  walk_at "go"
  refine aS hld C4 ?_
  walk_at "go"
  refine ⟨d,gs,n,en,rfl,hd,hok,fun no H1 s1=>qn no H1 s1,fun i x fre g ar H1 hd1 c1=>q i x fre g ar H1 hd1 (Fo hok (hok.sl x (List.mem_of_getElem? fre.at_))) c1⟩
 | news a nm b=>
  obtain ⟨d,ls,pl,rfl,hd,hok,hl,qe,q⟩:=qq
  obtain ⟨⟨dy,sv,hp,_⟩,_⟩:=id hd
  have ht:H t=some (.tup [.str "news",.str a,.str nm,.int b]):=hx
  have L:=(Led.start H (fun _=>False)).more (bg t [_,_,_,_]) ht
  walk_at "go"
  refine dP (by decide +kernel) ?_
  walk_at "go"
  refine dP (by decide +kernel) ?_
  walk_at "go"
  refine dP (by decide +kernel) ?_
  walk_at "go"
  refine aS hp F4 ?_
  walk_at "go"
  exact wj hd hok hl qe q
 | grant nm n sl f e=>
  obtain ⟨d,ls,pl,rfl,hd,hok,hl,qe,q⟩:=qq
  obtain ⟨⟨dy,sv,hp,_⟩,_⟩:=id hd
  obtain ⟨hn,a,ht,ha⟩:=hx
  have L:=(Led.start H (fun _=>False)).more (bg t [_,_,_,_]) ht
  walk_at "go"
  refine dP (by decide +kernel) ?_
  walk_at "go"
  refine aS hp F1 ?_
  walk_at "go"
  exact we hd hok hl hn ha qe q
end
end Law
namespace L4
open PySem PySem.Spec PyProof.Rows L2 L3
def Ep:RL:=fun xs H Q=>(∃ i,xs=[.int i]∧i.natAbs.log2 < 1920∧Q (.str (toString i)) H)∨(∃ z,xs=[.str z]∧Q (.str z) H)
theorem Bc {X:Cx}:b5 X (.type "str") Ep:=by
 intro pins s σ H xs us Q I r h
 rcases h with ⟨i,rfl,hl,q⟩ | ⟨z,rfl,q⟩
 ·obtain ⟨u,rfl,rx⟩:=vals1 r
  obtain ⟨t,rfl⟩:=rx
  exact P.str_of_int hl ⟨.str _,H,I.tok _,⟨_,rfl⟩,q⟩
 ·obtain ⟨u,rfl,rx⟩:=vals1 r
  obtain ⟨t,rfl⟩:=rx
  exact P.str_of_str ⟨.str _,H,I,⟨_,rfl⟩,q⟩
theorem t9 {i:Int} {H:Hp} {Q:VK} (h:i.natAbs < 2 ^ 200) (q:Q (.str (toString i)) H):Ep [.int i] H Q:=.inl ⟨i,rfl,by
 by_cases z:i.natAbs=0
 ·rw [z];decide
 ·exact (Nat.log2_lt z).mpr (Nat.lt_of_lt_of_le h (Nat.pow_le_pow_right (by decide) (by decide))),q⟩
end L4
namespace Law
open PySem PySem.Spec PyProof.Rows L2 L3 L4
theorem FL (z:Str):z.length=z.cps.toList.length:=by simp [Str.length]
theorem C0:∀ k:Fin 41,((toString (-((k.val:Nat):Int)):String):Str).length≤40:=by decide +kernel
theorem oh {n:Int} (h0 : -40≤n) (h1:n < 10 ^ 40):((toString n:String):Str).length≤40:=by
 by_cases c : 0≤n
 ·obtain ⟨m,rfl⟩:=Int.eq_ofNat_of_zero_le c
  have hs:((toString (m:Int):String):Str).cps.toList=(Nat.toDigits 10 m).map Char.toNat:=PySem.W.KIN.signs_num m
  rw [FL,hs,List.length_map]
  exact digits10_le (k:=40) (by decide) (by omega)
 ·have:=C0 ⟨(-n).toNat,by omega⟩
  rwa [show -((((⟨(-n).toNat,by omega⟩:Fin 41).val:Nat)):Int)=n by show -((((-n).toNat:Nat)):Int)=n;omega] at this
theorem oi {n:Int} (h0 : -40≤n) (h1:n < 10 ^ 40):n.natAbs < 2 ^ 200:=Nat.lt_of_lt_of_le (show n.natAbs < 10 ^ 40 by omega) (by decide)
def ia:Lt→Str
 | .grant nm _ _ _ _=>nm
 | .news _ nm _=>nm
 | _ => ""
theorem set_same {α : Type} {xs:List α} {i:Nat} {x : α} (h:xs[i]?=some x):xs.set i x=xs:=by
 refine List.ext_getElem? fun k=>?_
 rw [List.getElem?_set]
 split
 ·rename_i e
  subst e
  rw [if_pos (List.getElem?_eq_some_iff.mp h).1]
  exact h.symm
 ·rfl
def hsV (hs:List Hs):List V:=hs.map fun x=>.ref x.d.p
theorem fq (hs:List Hs):(hsV hs).length=hs.length:=List.length_map ..
theorem jO {hs:List Hs} {j:Nat} {v:V} (h:(hsV hs)[j]?=some v):∃ x,hs[j]?=some x∧v = .ref x.d.p:=by
 unfold hsV at h
 rw [List.getElem?_map] at h
 cases e:hs[j]? with
 | none=>rw [e] at h;cases h
 | some x=>rw [e] at h;cases h;exact ⟨x,rfl,rfl⟩
theorem tZ {hs:List Hs} {j:Nat} {x:Hs} (h:hs[j]?=some x):(hsV hs)[j]?=some (.ref x.d.p):=by unfold hsV;rw [List.getElem?_map,h];rfl
inductive Du where
 | nol
 | dn
 | nr
 | rd
def duT (n:Int):Du→Str
 | .nol=>("no letter " : Str)++(toString n:Str)
 | .dn => "down"
 | .nr => "no room"
 | .rd => "read"
def dwn (hs:List Hs) (who:Str):Bool:=hs.any fun x=>decide (x.d.nm=who) && x.pl.isNone
def DuR (hs:List Hs) (ts:Lts) (n:Int) (r:Du):Prop:=((n < 1∨ts.length < n)∧r = .nol)∨∃ (j:Nat) (t:Addr) (x:Lt),n=(j:Int)+1∧ts[j]?=some (t,x)∧r=if dwn hs (ia x)=true then Du.dn else if n=3 * hs.length+1 then .nr else .rd
section
variable {P:Program} {w:World} {K:PySem.W.Frag} {mg:Str→Option Value} {base:Heap} {C CS CH CL CD CU CA CN CW CT CP CE:Addr}
theorem kh {l:Addr}:(poF l).lookup ("sent" : Str)=none:=lk_miss (by decide +kernel)
theorem qt {l:Addr}:(poF l).lookup ("letter" : Str)=none:=lk_miss (by decide +kernel)
theorem n6 {l:Addr}:(poF l).lookup ("send" : Str)=none:=lk_miss (by decide +kernel)
theorem Co {l:Addr}:(poF l).lookup ("carry" : Str)=none:=lk_miss (by decide +kernel)
theorem sM:aq ["letter"] ["letter"] (aj (top 66)):=by walk_at "s"
def i0:Sp:=fun vs H Q _=>∃ (t:Addr) (x:Lt),vs=[.ref t]∧pq H t x∧Q (.str (ia x)) H
theorem tO {CX:CXT} (D:Dat K mg "for_whom" "for_whom" (top 66) ["letter"]):Cal P w K mg base CX "for_whom" 1 ["letter"] i0:=by
 have S:=sM
 walk_at "d"
 ·obtain ⟨t,x,rfl,_⟩:=h
  rfl
 obtain ⟨t,x,rfl,hx,q⟩:=h
 refine ⟨_,(ak (bq (aO bX (az aF (pv 0) ai (fun _ _=>rfl)) aV (aQ _)) (ao (au (az aF (pv 0) ai (fun _ _=>rfl)))) aJ)
   (ak (bq (aO bX (az aF (pv 0) ai (fun _ _=>rfl)) aV (aQ _)) (ao (au (az aF (pv 0) ai (fun _ _=>rfl)))) aJ)
   (ao (au aV)))),?_⟩
 try dsimp only [aZ]
 cases x with
 | ask nm r=>
  have L:=(Led.start H (fun _=>False)).more (bg t [_,_,_]) hx.2
  walk_at "go"
  refine dP (by decide +kernel) ?_
  walk_at "go"
  refine dP (by decide +kernel) ?_
  walk_at "go"
  exact q
 | back nm n e=>
  have L:=(Led.start H (fun _=>False)).more (bg t [_,_,_,_]) (show H t=_ from hx)
  walk_at "go"
  refine dP (by decide +kernel) ?_
  walk_at "go"
  refine dP (by decide +kernel) ?_
  walk_at "go"
  exact q
 | news a nm b=>
  have L:=(Led.start H (fun _=>False)).more (bg t [_,_,_,_]) (show H t=_ from hx)
  walk_at "go"
  refine dP (by decide +kernel) ?_
  walk_at "go"
  exact q
 | grant nm n sl f e=>
  obtain ⟨_,ar,ht,_⟩:=hx
  have L:=(Led.start H (fun _=>False)).more (bg t [_,_,_,_]) ht
  walk_at "go"
  exact q
theorem zf:aq ["_law_post", "_law_number_here", "_law_hands", "_law_whom", "_law_hand_here"] ["_law_post", "_law_number_here", "_law_hands"] (aj (top 77)):=by walk_at "s"
def vc (K:PySem.W.Frag) (C CS CH CL CP:Addr):Sp:=fun vs H Q _=>∃ (H0:Hp) (hs:List Hs) (d:Ld) (gs:List Gr) (pp lp hl:Addr) (ts:Lts) (n:Int),vs=[.ref pp,.int n,.ref hl]∧Ev K C CS CH CL CP H0 H hs d gs pp lp ts∧H hl=some (.lst (hsV hs))∧hs.length≤10∧(-40≤n∧n < 10 ^ 40)∧∀ r H',DuR hs ts n r→aK H H'→Q (.str (duT n r)) H'
theorem z3 (D:Dat K mg "_law_due" "_law_due" (top 77) ["_law_post", "_law_number_here", "_law_hands"]) (BT:Bt mg) (NE:bh (CX1 P w)) (HC:HdC K CH) (bY:bz P w K mg base (CX1 P w) CP "sent" 1 ["self"] (jQ CP)) (cJ:bz P w K mg base (CX1 P w) CP "letter" 3 ["self", "number"] (iu CP CE)) (gY:Cal P w K mg base (CX1 P w) "for_whom" 1 ["letter"] i0) (bP:bz P w K mg base (CX1 P w) CH "is_up" 1 ["self"] (jV C CS CH)):Cal P w K mg base (CX1 P w) "_law_due" 4 ["_law_post", "_law_number_here", "_law_hands"] (vc K C CS CH CL CP):=by
 have S:=zf
 walk_at "d"
 ·obtain ⟨H0,hs,d,gs,pp,lp,hl,ts,n,rfl,_⟩:=h
  rfl
 obtain ⟨H0,hs,d,gs,pp,lp,hl,ts,n,rfl,I,hhl,h10,hn,q⟩:=h
 obtain ⟨⟨dx,hp1⟩,hp2⟩:=id I.po
 refine ⟨_,(ak (bq (PW.pt (qk (aO qv (pv 1) ai (aQ _)) (j5 (aO iB (pv 1) (aX eK rfl BT.len L3.cS (aa (bW bY (hr.mono (by first | decide | omega)) NE.pass (pv 0)) ah)) (aQ _))))) (ao (au (aL z8 aV (cC Bc rfl BT.str_ L3.uA (aa (pv 1) ah))))) aJ)
   (ak (aM (i:=3) S.nd rfl (by first | exact Or.inl rfl | exact Or.inr rfl) (aI gY (hr.mono (by first | decide | omega)) NE.pass (aa (dY cJ (hr.mono (by first | decide | omega)) NE.pass (pv 0) (aa (pv 1) ah)) ah)))
   (ak (fN PassesOwn.never rfl (cA (pv 2)) (bV (i:=4) S.nd rfl (by first | exact Or.inl rfl | exact Or.inr rfl)) (ao (bq (PW.pt (nY (aO bX (aP (pv 4) rfl) (pv 3) (aQ _)) (jM (cY (bZ (bW bP (hr.mono (by first | decide | omega)) NE.pass (pv 4))))))) (ao (au aV)) aJ)))
   (ak (bq (aO bX (pv 1) (aL bB (aL cZ ai (aX eK rfl BT.len L3.cS (aa (pv 2) ah))) ai) (aQ _)) (ao (au aV)) aJ)
   (ao (au aV)))))),?_⟩
 try dsimp only [aZ]
 have hlen:("no letter " : Str).length≤100:=by decide +kernel
 have IG:(n < 1∨ts.length < n)→∀ H',aK H H'→Q (.str (duT n .nol)) H':=fun z H' s=>q .nol H' (.inl ⟨z,rfl⟩) s
 walk_at "go"
 refine bN (fun c1=>?_) (fun c1=>?_)
 ·walk_at "go"
  refine t9 (oi hn.1 hn.2) ?_
  walk_at "go"
  refine oG (Nat.le_trans (Nat.add_le_add hlen (oh hn.1 hn.2)) (Nat.le_of_lt (small1000 (by decide)))) ?_
  exact IG (.inl c1) _ (aK.refl _)
 walk_at "go"
 refine aS hp1 kh ?_
 walk_at "go"
 refine ⟨pp,lp,_,rfl,I.po,fun b1 H1 n1 e1 s1=>?_⟩
 walk_at "go"
 refine dc (SqL.of e1) ?_
 rw [c8]
 walk_at "go"
 refine bN (fun c2=>?_) (fun c2=>?_)
 ·walk_at "go"
  refine t9 (oi hn.1 hn.2) ?_
  walk_at "go"
  refine oG (Nat.le_trans (Nat.add_le_add hlen (oh hn.1 hn.2)) (Nat.le_of_lt (small1000 (by decide)))) ?_
  exact IG (.inr c2) _ s1
 have I1:=I.same s1
 walk_at "go"
 refine aS (s1 _ _ hp1) qt ?_
 walk_at "go"
 refine ⟨pp,lp,_,_,rfl,I1.po,fun v h1 h2 hv=>?_,fun z=>absurd z (by rw [c8];omega)⟩
 obtain ⟨⟨t,x⟩,hj,rfl⟩:=om hv
 have hnj:n=(((n - 1).toNat:Nat):Int)+1:=by omega
 walk_at "go"
 refine ⟨t,x,rfl,I1.lt _ (List.mem_of_getElem? hj),?_⟩
 walk_at "go"
 refine c9 (SqL.of (s1 _ _ hhl)) ?_
 refine jf (hsV hs) (fun i σ Hx=>∃ u4:Option V,σ=[some (.ref pp),some (.int n),some (.ref hl),some (.str (ia x)),u4]∧Hx=H1∧∀ y∈hs.take i,¬ (y.d.nm=ia x∧y.pl=none)) ⟨_,rfl,rfl,(fun y h=>by simp at h)⟩ (fun i σ Hx _ ⟨_,_,e,_⟩=>e▸SqL.of (s1 _ _ hhl)) ?_ ?_
 ·rintro i v σ Hx hv ⟨u4,rfl,rfl,hno⟩
  obtain ⟨y,hyi,rfl⟩:=jO hv
  have hym:=List.mem_of_getElem? hyi
  obtain ⟨⟨dy,sv,hpy,_⟩,_⟩:=id (I1.hd y hym)
  have nxt:¬ (y.d.nm=ia x∧y.pl=none)→∀ z∈hs.take (i+1),¬ (z.d.nm=ia x∧z.pl=none):=fun c z hz=>by
   rw [take_snoc hyi] at hz
   rcases List.mem_append.mp hz with hz | hz
   ·exact hno z hz
   ·rw [List.mem_singleton.mp hz];exact c
  try dsimp only [bK]
  walk_at "go"
  refine ⟨y.d.p,CH,dy,_,_,rfl,hpy,HC.cl,HC.n1,kG _ _ _ _,?_⟩
  walk_at "go"
  refine bN (fun c3=>?_) (fun c3=>?_)
  ·walk_at "go"
   refine aS hpy oF ?_
   walk_at "go"
   refine ⟨y.d,y.ls,y.pl,rfl,I1.hd y hym,?_⟩
   cases hpl:y.pl with
   | none=>
    walk_at "go"
    refine q .dn _ (.inr ⟨_,t,x,hnj,hj,?_⟩) s1
    have:dwn hs (ia x)=true:=List.any_eq_true.mpr ⟨y,hym,by rw [decide_eq_true c3,hpl];rfl⟩
    rw [if_pos this]
   | some z=>
    walk_at "go"
    exact ⟨_,rfl,rfl,nxt fun z=>by rw [hpl] at z;cases z.2⟩
  ·walk_at "go"
   exact ⟨_,rfl,rfl,nxt fun z=>c3 z.1⟩
 ·rintro σ Hx ⟨u4,rfl,rfl,hno⟩
  rw [fq,List.take_length] at hno
  have hdw:¬ dwn hs (ia x)=true:=fun z=>by
   obtain ⟨y,hy,e⟩:=List.any_eq_true.mp z
   rw [Bool.and_eq_true,decide_eq_true_eq] at e
   exact hno y hy ⟨e.1,Option.isNone_iff_eq_none.mp e.2⟩
  walk_at "go"
  refine dc (SqL.of (s1 _ _ hhl)) ?_
  rw [fq]
  walk_at "go"
  refine bN (fun c4=>?_) (fun c4=>?_)
  ·walk_at "go"
   exact q .nr _ (.inr ⟨_,t,x,hnj,hj,by rw [if_neg hdw,if_pos c4]⟩) s1
  ·walk_at "go"
   exact q .rd _ (.inr ⟨_,t,x,hnj,hj,by rw [if_neg hdw,if_neg c4]⟩) s1
theorem sE:aq ["_law_post", "_law_number_here", "_law_hands", "_law_whom", "_law_hand_here"] ["_law_post", "_law_number_here", "_law_hands"] (aj (top 78)):=by walk_at "s"
def HoR (hs:List Hs) (ts:Lts) (n:Int) (v:V):Prop:=∀ (j:Nat) (t:Addr) (x:Lt),n=(j:Int)+1→ts[j]?=some (t,x)→(v = .non∧∀ y∈hs,y.d.nm≠ia x)∨∃ (i:Nat) (y:Hs),hs[i]?=some y∧v = .ref y.d.p∧y.d.nm=ia x
def l8 (K:PySem.W.Frag) (C CS CH CL CP:Addr):Sp:=fun vs H Q _=>∃ (H0:Hp) (hs:List Hs) (d:Ld) (gs:List Gr) (pp lp hl:Addr) (ts:Lts) (n:Int),vs=[.ref pp,.int n,.ref hl]∧Ev K C CS CH CL CP H0 H hs d gs pp lp ts∧H hl=some (.lst (hsV hs))∧1≤hs.length∧hs.length≤10∧∀ v H',HoR hs ts n v→aK H H'→Q v H'
theorem tF (D:Dat K mg "_law_hand_of" "_law_hand_of" (top 78) ["_law_post", "_law_number_here", "_law_hands"]) (BT:Bt mg) (NE:bh (CX1 P w)) (HC:HdC K CH) (bY:bz P w K mg base (CX1 P w) CP "sent" 1 ["self"] (jQ CP)) (cJ:bz P w K mg base (CX1 P w) CP "letter" 3 ["self", "number"] (iu CP CE)) (gY:Cal P w K mg base (CX1 P w) "for_whom" 1 ["letter"] i0):Cal P w K mg base (CX1 P w) "_law_hand_of" 4 ["_law_post", "_law_number_here", "_law_hands"] (l8 K C CS CH CL CP):=by
 have S:=sE
 walk_at "d"
 ·obtain ⟨H0,hs,d,gs,pp,lp,hl,ts,n,rfl,_⟩:=h
  rfl
 obtain ⟨H0,hs,d,gs,pp,lp,hl,ts,n,rfl,I,hhl,h1,h10,q⟩:=h
 obtain ⟨⟨dx,hp1⟩,hp2⟩:=id I.po
 refine ⟨_,(ak (bq (cY (zC ki ki ai (pv 1) (aX eK rfl BT.len L3.cS (aa (bW bY (hr.mono (by first | decide | omega)) NE.pass (pv 0)) ah)))) (ao (au (az bA (pv 2) ai (fun _ _=>rfl)))) aJ)
   (ak (aM (i:=3) S.nd rfl (by first | exact Or.inl rfl | exact Or.inr rfl) (aI gY (hr.mono (by first | decide | omega)) NE.pass (aa (dY cJ (hr.mono (by first | decide | omega)) NE.pass (pv 0) (aa (pv 1) ah)) ah)))
   (ak (fN PassesOwn.never rfl (cA (pv 2)) (bV (i:=4) S.nd rfl (by first | exact Or.inl rfl | exact Or.inr rfl)) (ao (bq (aO bX (aP (pv 4) rfl) (pv 3) (aQ _)) (ao (au (pv 4))) aJ)))
   (ao (au j8))))),?_⟩
 try dsimp only [aZ]
 obtain ⟨x0,hx0⟩:∃ x,hs[0]?=some x:=⟨_,List.getElem?_eq_getElem (by omega)⟩
 have Ar:atI (hsV hs) 0=some (.ref x0.d.p):=cj (j:=0) (tZ hx0)
 have out:(n < 1∨ts.length < n)→∀ v H',aK H H'→Q v H':=fun z v H' s=>q v H' (fun j t x e hx=>by
  have:=(List.getElem?_eq_some_iff.mp hx).1
  omega) s
 walk_at "go"
 refine bN (fun c1=>?_) (fun c1=>?_)
 ·walk_at "go"
  refine aS hp1 kh ?_
  walk_at "go"
  refine ⟨pp,lp,_,rfl,I.po,fun b1 H1 n1 e1 s1=>?_⟩
  walk_at "go"
  refine dc (SqL.of e1) ?_
  rw [c8]
  walk_at "go"
  refine kJ (fun c2=>?_) (fun c2=>?_)
  ·have I1:=I.same s1
   walk_at "go"
   refine aS (s1 _ _ hp1) qt ?_
   walk_at "go"
   refine ⟨pp,lp,_,_,rfl,I1.po,fun v h1 h2 hv=>?_,fun z=>absurd z (by rw [c8];omega)⟩
   obtain ⟨⟨t,x⟩,hj,rfl⟩:=om hv
   have hnj:n=(((n - 1).toNat:Nat):Int)+1:=by omega
   have one:∀ (j:Nat) (t':Addr) (x':Lt),n=(j:Int)+1→ts[j]?=some (t',x')→x'=x:=fun j t' x' e hx=>by
    obtain rfl:j=(n - 1).toNat:=by omega
    rw [hj] at hx;cases hx;rfl
   walk_at "go"
   refine ⟨t,x,rfl,I1.lt _ (List.mem_of_getElem? hj),?_⟩
   walk_at "go"
   refine c9 (SqL.of (s1 _ _ hhl)) ?_
   refine jf (hsV hs) (fun i σ Hx=>∃ u4:Option V,σ=[some (.ref pp),some (.int n),some (.ref hl),some (.str (ia x)),u4]∧Hx=H1∧∀ y∈hs.take i,y.d.nm≠ia x) ⟨_,rfl,rfl,(fun y h=>by simp at h)⟩ (fun i σ Hx _ ⟨_,_,e,_⟩=>e▸SqL.of (s1 _ _ hhl)) ?_ ?_
   ·rintro i v σ Hx hv ⟨u4,rfl,rfl,hno⟩
    obtain ⟨y,hyi,rfl⟩:=jO hv
    have hym:=List.mem_of_getElem? hyi
    obtain ⟨⟨dy,sv,hpy,_⟩,_⟩:=id (I1.hd y hym)
    try dsimp only [bK]
    walk_at "go"
    refine ⟨y.d.p,CH,dy,_,_,rfl,hpy,HC.cl,HC.n1,kG _ _ _ _,?_⟩
    walk_at "go"
    refine bN (fun c3=>?_) (fun c3=>?_)
    ·walk_at "go"
     exact q _ _ (fun j t' x' e hx=>.inr ⟨i,y,hyi,rfl,by rw [one j t' x' e hx];exact c3⟩) s1
    ·walk_at "go"
     refine ⟨_,rfl,rfl,fun z hz=>?_⟩
     rw [take_snoc hyi] at hz
     rcases List.mem_append.mp hz with hz | hz
     ·exact hno z hz
     ·rw [List.mem_singleton.mp hz];exact c3
   ·rintro σ Hx ⟨u4,rfl,rfl,hno⟩
    rw [fq,List.take_length] at hno
    walk_at "go"
    exact q _ _ (fun j t' x' e hx=>.inl ⟨rfl,by rw [one j t' x' e hx];exact hno⟩) s1
  ·walk_at "go"
   refine d8 (SqL.of (s1 _ _ hhl)) Ar ?_
   walk_at "go"
   exact out (.inr (by omega)) _ _ s1
 ·walk_at "go"
  refine d8 (SqL.of hhl) Ar ?_
  walk_at "go"
  exact out (.inl (by omega)) _ _ (aK.refl _)
end
end Law
namespace L4
open PySem PySem.Spec PyProof.Rows L2 L3
mutual
theorem At.same {K:PySem.W.Frag} {H H':Hp} (s:aK H H'):∀ {v:V} {d:Dt},At K H v d→At K H' v d
 | _,_,.non=>.non
 | _,_,.bl b=>.bl b
 | _,_,.int i=>.int i
 | _,_,.str z=>.str z
 | _,_,.tup h r=>.tup (by
   rcases h with (h | ⟨o,h⟩) | h
   ·exact .inl (.inl (s _ _ h))
   ·exact .inl (.inr ⟨o,s _ _ h⟩)
   ·exact .inr h) (Ats.same s r)
 | _,_,.lst h r=>.lst (s.seq h) (Ats.same s r)
theorem Ats.same {K:PySem.W.Frag} {H H':Hp} (s:aK H H'):∀ {v:List V} {d:List Dt},Ats K H v d→Ats K H' v d
 | _,_,.nil=>.nil
 | _,_,.cons h r=>.cons (At.same s h) (Ats.same s r)
end
theorem Ats.app {K:PySem.W.Frag} {H:Hp}:∀ {v w:List V} {d e:List Dt},Ats K H v d→Ats K H w e→Ats K H (v++w) (d++e)
 | _,_,_,_,.nil,g=>g
 | _,_,_,_,.cons h r,g=>.cons h (Ats.app r g)
end L4
namespace Law
open PySem PySem.Spec PyProof.Rows L2 L3 L4
def ltD:Lt→Dt
 | .ask nm r=>.tup [.str "ask",.str nm,.int r]
 | .back nm n e=>.tup [.str "back",.str nm,.int n,.int e]
 | .news a nm b=>.tup [.str "news",.str a,.str nm,.int b]
 | .grant nm n sl f e=>.tup [.str "grant",.str nm,.int n,.tup [.int sl,.int f,.int e]]
theorem pq.at {K:PySem.W.Frag} {H:Hp} {t:Addr} {x:Lt} (h:pq H t x):At K H (.ref t) (ltD x):=by
 cases x with
 | ask nm r=>exact .tup (SqT.of h.2) (.cons (.str _) (.cons (.str _) (.cons (.int _) .nil)))
 | back nm n e=>exact .tup (SqT.of (show H t=_ from h)) (.cons (.str _) (.cons (.str _) (.cons (.int _) (.cons (.int _) .nil))))
 | news a nm b=>exact .tup (SqT.of (show H t=_ from h)) (.cons (.str _) (.cons (.str _) (.cons (.str _) (.cons (.int _) .nil))))
 | grant nm n sl f e=>
  obtain ⟨_,ar,h2,h3⟩:=h
  exact .tup (SqT.of h2) (.cons (.str _) (.cons (.str _) (.cons (.int _) (.cons (.tup (SqT.of h3) (.cons (.int _) (.cons (.int _) (.cons (.int _) .nil)))) .nil))))
theorem vz {K:PySem.W.Frag} {H:Hp}:∀ {ts:Lts},rH H ts→Ats K H (ltV ts) (ts.map fun x=>ltD x.2)
 | [],_=>.nil
 | x::ts,h=>.cons (h x List.mem_cons_self).at (vz fun y hy=>h y (List.mem_cons_of_mem _ hy))
theorem vv:∀ (ts:Lts),deps (ts.map fun x=>ltD x.2)≤2
 | []=>by simp [deps]
 | (a,x)::ts=>by
  have:=vv ts
  have hd:dep (ltD x)≤2:=by cases x <;> simp [ltD,dep,deps]
  simp only [List.map_cons,deps];omega
def plD:Option (Int×Int)→Dt
 | none=>.non
 | some (m,k)=>.tup [.int m,.int k]
theorem Ir {K:PySem.W.Frag} {H:Hp} {v:V} {pl:Option (Int×Int)} (h:ff H v pl):At K H v (plD pl):=by
 rcases h with ⟨rfl,rfl⟩ | ⟨t,m,k,rfl,rfl,h⟩
 ·exact .non
 ·exact .tup (SqT.of h) (.cons (.int _) (.cons (.int _) .nil))
def hsD (x:Hs):Dt:=.tup [.bl x.pl.isSome,plD x.pl,.lst (x.ls.map fun y=>lnD y.2)]
def stD (hs:List Hs) (gs:List Gr) (ts:Lts):Dt:=.lst (.lst (gs.map grD)::.lst (ts.map fun x=>ltD x.2)::hs.map hsD)
theorem Am:∀ hs:List Hs,deps (hs.map hsD)≤4
 | []=>by simp [deps]
 | x::hs=>by
  have:=Am hs
  have h1:=vA x.ls
  have h2:dep (plD x.pl)≤1:=by
   cases x.pl with
   | none=>simp [plD,dep]
   | some p=>obtain ⟨m,k⟩:=p;simp [plD,dep,deps]
  have hd:dep (hsD x)≤4:=by simp only [hsD,dep,deps];omega
  simp only [List.map_cons,deps];omega
theorem E6 (hs:List Hs) (gs:List Gr) (ts:Lts):dep (stD hs gs ts)≤100:=by
 have h1:=Am hs
 have h2:=vK gs
 have h3:=vv ts
 simp only [stD,dep,deps];omega
structure pA (H:Hp) (e:Addr×V×Addr) (x:Hs):Prop where
 t:H e.1=some (.tup [.bl x.pl.isSome,e.2.1,.ref e.2.2])
 p:ff H e.2.1 x.pl
 n:H e.2.2=some (.lst (lnV x.ls))
 l:dg H x.ls
theorem pA.at {K:PySem.W.Frag} {H:Hp} {e:Addr×V×Addr} {x:Hs} (h:pA H e x):At K H (.ref e.1) (hsD x):=.tup (SqT.of h.t) (.cons (.bl _) (.cons (Ir h.p) (.cons (FI (SqL.of h.n) h.l) .nil)))
theorem pA.chg {H H':Hp} {q:Addr} {e:Addr×V×Addr} {x:Hs} (h:pA H e x) (c:Chg q H H') (n:e.2.2≠q):pA H' e x:=⟨c.ts _ _ h.t,h.p.ts c.ts,c.oth _ _ h.n n,h.l.ts c.ts⟩
theorem pA.same {H H':Hp} {e:Addr×V×Addr} {x:Hs} (h:pA H e x) (s:aK H H'):pA H' e x:=⟨s _ _ h.t,h.p.ts (cu s),s _ _ h.n,h.l.ts (cu s)⟩
inductive EsA (H:Hp) (L:Addr):List (Addr×V×Addr)→List Hs→Prop
 | nil:EsA H L [] []
 | snoc {es:List (Addr×V×Addr)} {hs:List Hs} {e:Addr×V×Addr} {x:Hs} (h:EsA H L es hs) (k:pA H e x) (n:e.2.2≠L):EsA H L (es++[e]) (hs++[x])
theorem EsA.chg {H H':Hp} {L:Addr} {es:List (Addr×V×Addr)} {hs:List Hs} (h:EsA H L es hs) (c:Chg L H H'):EsA H' L es hs:=by
 induction h with
 | nil=>exact .nil
 | snoc h k n ih=>exact .snoc ih (k.chg c n) n
theorem EsA.same {H H':Hp} {L:Addr} {es:List (Addr×V×Addr)} {hs:List Hs} (h:EsA H L es hs) (s:aK H H'):EsA H' L es hs:=by
 induction h with
 | nil=>exact .nil
 | snoc h k n ih=>exact .snoc ih (k.same s) n
theorem EsA.ats {K:PySem.W.Frag} {H:Hp} {L:Addr} {es:List (Addr×V×Addr)} {hs:List Hs} (h:EsA H L es hs):Ats K H (es.map fun e=>.ref e.1) (hs.map hsD):=by
 induction h with
 | nil=>exact .nil
 | snoc h k n ih=>rw [List.map_append,List.map_append];exact ih.app (.cons k.at .nil)
theorem EsA.len {H:Hp} {L:Addr} {es:List (Addr×V×Addr)} {hs:List Hs} (h:EsA H L es hs):es.length=hs.length:=by
 induction h with
 | nil=>rfl
 | snoc h k n ih=>rw [List.length_append,List.length_append,ih];rfl
theorem xj {ps l:Addr}:(ldF ps l).lookup ("grants" : Str)=none:=gU (by decide +kernel) (by decide +kernel)
section
variable {P:Program} {w:World} {K:PySem.W.Frag} {mg:Str→Option Value} {base:Heap} {C CS CH CL CD CU CA CN CW CT CP CE:Addr}
theorem wG:aq ["_law_post", "_law_hands", "_law_lender", "_law_told", "_law_hand_here"] ["_law_post", "_law_hands", "_law_lender"] (aj (top 75)):=by walk_at "s"
def pT (K:PySem.W.Frag) (C CS CH CL CP:Addr):Sp:=fun vs H Q _=>∃ (H0:Hp) (hs:List Hs) (d:Ld) (gs:List Gr) (pp lp hl:Addr) (ts:Lts),vs=[.ref pp,.ref hl,.ref d.p]∧Ev K C CS CH CL CP H0 H hs d gs pp lp ts∧H hl=some (.lst (hsV hs))∧hs.length≤10∧∀ v H',At K H' (.ref v) (stD hs gs ts)→aK H H'→Q (.ref v) H'
theorem wY (D:Dat K mg "_law_state" "_law_state" (top 75) ["_law_post", "_law_hands", "_law_lender"]) (BT:Bt mg) (NE:bh (CX1 P w)) (bY:bz P w K mg base (CX1 P w) CP "sent" 1 ["self"] (jQ CP)) (jG:bz P w K mg base (CX1 P w) CL "grants" 1 ["self"] (l9 K C CS CL)) (bP:bz P w K mg base (CX1 P w) CH "is_up" 1 ["self"] (jV C CS CH)) (fE:bz P w K mg base (CX1 P w) CH "place" 1 ["self"] (nG C CS CH)) (gg:bz P w K mg base (CX1 P w) CH "note" 1 ["self"] (rZ C CS CH)):Cal P w K mg base (CX1 P w) "_law_state" 2 ["_law_post", "_law_hands", "_law_lender"] (pT K C CS CH CL CP):=by
 have S:=wG
 walk_at "d"
 ·obtain ⟨H0,hs,d,gs,pp,lp,hl,ts,rfl,_⟩:=h
  rfl
 obtain ⟨H0,hs,d,gs,pp,lp,hl,ts,rfl,I,hhl,h10,q⟩:=h
 obtain ⟨⟨dx,hp1⟩,hp2⟩:=id I.po
 obtain ⟨⟨dy,hld⟩,_⟩:=id I.ld
 refine ⟨_,(ak (aM (i:=3) S.nd rfl (by first | exact Or.inl rfl | exact Or.inr rfl) (bM (aa (bW jG (hr.mono (by first | decide | omega)) NE.pass (pv 2)) (aa (bW bY (hr.mono (by first | decide | omega)) NE.pass (pv 0)) ah))))
   (ak (fN PassesOwn.never rfl (cA (pv 1)) (bV (i:=4) S.nd rfl (by first | exact Or.inl rfl | exact Or.inr rfl)) (ao (bE (jw PySem.F.plainAttrs_list PySem.F.slot_list_append PySem.F.type_list_append gx (pv 3) (aa (bx (aa (bW bP (hr.mono (by first | decide | omega)) NE.pass (pv 4)) (aa (bW fE (hr.mono (by first | decide | omega)) NE.pass (pv 4)) (aa (bW gg (hr.mono (by first | decide | omega)) NE.pass (pv 4)) ah)))) ah)))))
   (ao (au (pv 3))))),?_⟩
 try dsimp only [aZ]
 walk_at "go"
 refine aS hld xj ?_
 walk_at "go"
 refine ⟨d,gs,rfl,I.ld,fun b1 H1 n1 e1 s1=>?_⟩
 walk_at "go"
 refine aS (s1 _ _ hp1) kh ?_
 walk_at "go"
 refine ⟨pp,lp,_,rfl,(I.same s1).po,fun b2 H2 n2 e2 s2=>?_⟩
 have L:=Led.start H2 (fun _=>False)
 walk_at "go"
 obtain ⟨tl,etl⟩:∃ z,z=l':=⟨_,rfl⟩
 subst etl
 have htl:=L'.eo (p:=tl) (by walk_at "put")
 have s23:=L'.same
 have s12:=s1.trans s2
 have I2:=I.same s12
 have IM:=s12 _ _ hhl
 have ntl:H2 tl=none:=n'
 clear L L'
 refine c9 (SqL.of (s23 _ _ IM)) ?_
 refine jf (hsV hs) (fun i σ Hx=>∃ (u4:Option V) (es:List (Addr×V×Addr)),σ=[some (.ref pp),some (.ref hl),some (.ref d.p),some (.ref tl),u4]∧aK H2 Hx∧Hx tl=some (.lst ([V.ref b1,V.ref b2]++es.map fun e=>.ref e.1))∧EsA Hx tl es (hs.take i)) ⟨_,[],rfl,s23,htl,by rw [List.take_zero];exact .nil⟩ (fun i σ Hx _ ⟨_,_,_,sx,_⟩=>SqL.of (sx _ _ IM)) ?_ ?_
 ·rintro i v σ Hx hv ⟨u4,es,rfl,sx,htx,hes⟩
  obtain ⟨y,hyi,rfl⟩:=jO hv
  have hym:=List.mem_of_getElem? hyi
  have hin:=(List.getElem?_eq_some_iff.mp hyi).1
  have hel:es.length≤10:=by rw [hes.len,List.length_take];omega
  have Ix:=I2.same sx
  have hdy:=Ix.hd y hym
  obtain ⟨⟨dy,sv,hpy,_⟩,_⟩:=id hdy
  have L:=dH htx
  try dsimp only [bK]
  walk_at "go"
  clear L
  refine aS hpy oF ?_
  walk_at "go"
  refine ⟨y.d,y.ls,y.pl,rfl,hdy,?_⟩
  walk_at "go"
  refine aS hpy Dh ?_
  walk_at "go"
  refine ⟨y.d,y.ls,y.pl,rfl,hdy,fun pv hpv=>?_⟩
  walk_at "go"
  refine aS hpy F3 ?_
  walk_at "go"
  refine ⟨y.d,y.ls,y.pl,rfl,hdy,fun nb H3 nnb hnb s3=>?_⟩
  have ht3:=s3 _ _ htx
  have nbt:nb≠tl:=Ne.symm (old_ne htx nnb)
  have L:=dH ht3
  walk_at "go"
  have ch:Chg tl H3 H':=L'.chg (fun xs z=>by rw [ht3] at z;cases z)
  have hd3:=hdy.same s3
  refine ⟨_,es++[(t',pv,nb)],rfl,fun b o e=>ch.oth _ _ (s3 _ _ (sx _ _ e)) (aG e ntl),?_,?_⟩
  ·rw [List.map_append,← List.append_assoc]
   exact L'.eo (by walk_at "put")
  ·rw [take_snoc hyi]
   exact .snoc ((hes.same s3).chg ch) ⟨L'.tup (by walk_at "mem"),(hpv.ts (cu s3)).ts ch.ts,ch.oth _ _ hnb nbt,hd3.2.2.1.ts ch.ts⟩ nbt
 ·rintro σ Hx ⟨u4,es,rfl,sx,htx,hes⟩
  rw [fq,List.take_length] at hes
  have Ix:=I2.same sx
  walk_at "go"
  exact q tl Hx (.lst (SqL.of htx) (.cons (F7 (SqL.of (sx _ _ (s2 _ _ e1))) Ix.ld.2.2.1) (.cons (.lst (SqL.of (sx _ _ e2)) (vz Ix.lt)) hes.ats))) (s12.trans sx)
end
section
variable {P:Program} {w:World} {K:PySem.W.Frag} {mg:Str→Option Value} {base:Heap} {CX:CXT}
theorem wF:aq ["_law_found"] ["_law_found"] (aj (top 70)):=by walk_at "s"
theorem wX (D:Dat K mg "_law_whole" "_law_whole" (top 70) ["_law_found"]) (BT:Bt mg):Ea P w K mg base CX "_law_whole" 1 ["_law_found"] ir:=by
 have S:=wF
 refine D.okU S (fun vs H Q E h=>?_) (fun f cdv A outer s H vs Q E hr h=>?_)
 ·obtain ⟨i,rfl,_⟩:=h
  rfl
 obtain ⟨i,rfl,q⟩:=h
 refine ⟨_,(ao (au (fQ (kg BT.isinstance BT.int_ L3.uC (pv 0)) (fP (zE (kg BT.isinstance BT.bool_ L3.vX (pv 0))))))),?_⟩
 try dsimp only [cxU,aZ]
 walk_at "go"
 refine kI (.int i) rfl ?_
 walk_at "go"
 refine kI (.int i) rfl ?_
 walk_at "go"
 exact q
end
end Law
namespace L4
open PySem PySem.Spec PyProof.Rows L2 L3
def Cc:V→List V→Hp→VK→Prop:=fun x vs H Q=>∃ (l:Addr) (bs:List Bool) (k:Bool),x = .ref l∧vs=[.bl k]∧H l=some (.lst (bs.map V.bl))∧Q (.int ((bs.countP (· == k):Nat):Int)) H
def Ca:V→List V→Hp→VK→Prop:=fun x vs H Q=>∃ (l:Addr) (bs:List Bool) (k:Bool) (j:Nat),x = .ref l∧vs=[.bl k]∧H l=some (.lst (bs.map V.bl))∧bs.length≤1000∧bs[j]?=some k∧(∀ m,m < j→bs[m]?=some (!k))∧Q (.int (j:Int)) H
def xw (k:Bool):Value→Bool
 | .bool b=>b == k
 | _=>false
theorem ni:∀ {bs:List Bool} {us:List Value},Vals (bs.map V.bl) us→us=bs.map Value.bool
 | [],_,.nil=>rfl
 | b::bs,_,.cons r h=>by
  have e:_=Value.bool b:=r
  rw [e,ni h];rfl
theorem mW (k:Bool):∀ bs:List Bool,(bs.map Value.bool).countP (xw k)=bs.countP (· == k)
 | []=>rfl
 | b::bs=>by
  rw [List.map_cons,List.countP_cons,List.countP_cons,mW k bs];rfl
section
variable {X:Cx}
theorem vO {A:Around} {s:Shared} {k:Bool} {bs:List Bool} {y:Value} (h:y∈(bs.map Value.bool).toArray):PySem.SeqAt.EqAt A s y (.bool k) (xw k y):=by
 obtain ⟨b,_,rfl⟩:=List.mem_map.mp (List.mem_toArray.mp h)
 exact PySem.SeqAt.EqAt.bool_bool b k
theorem xh:MtM X "list.count" Cc:=by
 intro pins s σ H x vs v us Q I rx rv h
 obtain ⟨l,bs,k,rfl,rfl,hH,q⟩:=h
 cases rx
 obtain ⟨u,rfl,ru⟩:=rv.one
 cases ru
 obtain ⟨z,its,n,r,hl,e⟩:=I.qO hH
 have ei:=ni r
 subst ei
 refine call_meets F.slot_list_count ⟨_,e,rfl⟩ F.entry_list_count (F.args_list_count_2 _ _) (PySem.SeqAt.list_countAt l _ n _ _ (.bool k) (xw k)) ⟨e,fun y hy=>vO hy,?_⟩
 refine ⟨.int _,H,I.tok _,⟨_,rfl⟩,?_⟩
 rw [show (bs.map Value.bool).toArray.toList=bs.map Value.bool from rfl,mW]
 exact q
theorem w9:MtM X "list.index" Ca:=by
 intro pins s σ H x vs v us Q I rx rv h
 obtain ⟨l,bs,k,j,rfl,rfl,hH,hz,hj,hb,q⟩:=h
 cases rx
 obtain ⟨u,rfl,ru⟩:=rv.one
 cases ru
 obtain ⟨z,its,n,r,hl,e⟩:=I.qO hH
 have ei:=ni r
 subst ei
 obtain ⟨hjl,hje⟩:=List.getElem?_eq_some_iff.mp hj
 refine call_meets F.slot_list_index ⟨_,e,rfl⟩ F.entry_list_index (F.args_list_index_2 _ _) (PySem.SeqAt.list_indexAt l _ n _ _ (.bool k) (xw k) j (by simpa using hjl) (by omega) ?_ ?_) ⟨e,fun y hy=>vO hy,?_⟩
 ·simp only [List.getElem_toArray,List.getElem_map,hje,xw,beq_self_eq_true]
 ·intro m hm hlt
  obtain ⟨hml,hme⟩:=List.getElem?_eq_some_iff.mp (hb m hlt)
  simp only [List.getElem_toArray,List.getElem_map,hme,xw]
  cases k <;> rfl
 ·exact ⟨.int _,H,I.tok _,⟨_,rfl⟩,q⟩
end
section
variable {X:Cx} {K:PySem.W.Frag} {o e:Expr} {es:List Expr} {to:TE} {t:TA} {name:Str} {apos cpos:Pos} {T id:String} {r:V→List V→Hp→VK→Prop}
theorem zJ (hK:X.K=K) (pa:PlainAttrs T) (slot:Slot T name id) (hty:typeOf (.builtin id)=pure (.type "method_descriptor")) (hm:MtR X id r) (ho:PE X o to) (ha:PA X (e::es) t)
  (hbase:attributeBase o name X.env (eval o X.env)=eval o X.env:=by rfl)
  (hfew:((backTo cpos (starEach (e::es) X.env)).all (fun x=>!x.1) && (backToKw cpos (keywordEach [] X.env)).all (fun x=>x.1.isSome)
   && decide ((e::es).length+([]:List Keyword).length+(if ([]:List Keyword).isEmpty then 0 else 1) < 30))=true:=by rfl)
  (hline:(apos.endLine == cpos.line)=true:=by rfl) (hs:starEach (e::es) X.env=(false,eval e X.env)::starEach es X.env:=by rfl) (hplain:(backTo cpos (starEach es X.env)).any (·.1)=false:=by rfl) :
  PE X (.Call (.Attribute o name apos) (e::es) [] cpos) (tBM K T r to t):=by
 subst hK
 exact jw pa slot hty hm ho ha hbase hfew hline hs hplain
end
end L4
namespace L4
open PySem PySem.Spec PySem.W PyProof.Rows L2 L3
def nv (K:Frag) (CH:Value) (i:Nat) (th:TS) (CH2:Value) (i2:Nat) (th2:TS) (tb:(St→XK)→TS) (Ex:St→XK):TS:=fun D σ H=>tb (fj K CH i th (fj K CH2 i2 th2 Ex D) D) D σ H
section
variable {X:Cx} {K:Frag} {Ex:St→XK} {body suite ny:List Stmt} {b₀ c₀ : Stmt} {cx n cx2 n2:Str} {np hpos pos np2 EI:Pos} {CH CH2:Addr} {i i2:Nat} {tb:(St→XK)→TS} {th th2:TS}
theorem wK (hs:X.stack=X.env::X.outer) (hf:X.env.frame=some X.env.locals) (hm:X.mg cx=some (.ref CH)) (hm':X.mg cx2=some (.ref CH2)) (hN:X.N.Nodup) (hi:X.N[i]?=some n) (hl:X.env.scope.names.lookup n=some .local) (hi2:X.N[i2]?=some n2) (hl2:X.env.scope.names.lookup n2=some .local) (hx:PaX X Ex)
  (hb:∀ pins Exb,PSs (xcx (Cx.pinned X pins) Exb) body (tb Exb)) (hh:∀ x,PSs (Cx.hand X x) (b₀ :: suite) th) (hh2:∀ x,PSs (Cx.hand X x) (c₀ :: ny) th2) (hg:Gl X cx:=by rfl) (hdb:(cx == ("__debug__" : Str))=false:=by decide) (hg2:Gl X cx2:=by rfl) (FY:(cx2 == ("__debug__" : Str))=false:=by decide) :
  PS X (.Try body [.ExceptHandler (some (.Name cx np)) (some n) (b₀ :: suite) hpos,.ExceptHandler (some (.Name cx2 np2)) (some n2) (c₀ :: ny) EI] [] [] pos) (nv X.K (.ref CH) i th (.ref CH2) i2 th2 tb Ex):=by
 intro pins s σ H D I h
 refine wpAny_Try_except (wpAny_mono (hb pins _ [] s σ H D ((C7 I).gK _) h) (fun f s1 q=>?_) (fun e s1 q=>?_))
 ·have q:=yC q
  cases f with
  | next=>obtain ⟨σ',H',I',q⟩:=q;exact aJ pins s1 σ' H' D I' q
  | _=>exact q
 ·obtain ⟨j7,σ',H',x,C,dx,T,fl,rfl,I',ex,hfl,ox,oT,b,hm2,q⟩:=q
  refine uE hs hf (eW I') ex hfl (i8 ox) (fun t ht=>i8 (oT t ht)) fun s2 t I2 ex2 ot=>?_
  have ox:=i8 ox
  refine wpAny_handleBy_cons (codeAny_handlers_test ?_) (by intro z;cases z)
  refine cN (X:=Cx.hand X x) (iG I2) hg hm ?_ hdb
  refine (exm_one I2.kIn (mK ex2) hm2).here ?_
  cases b with
  | false=>
   have q:fj X.K (.ref CH2) i2 th2 Ex D σ' C dx H':=q
   obtain ⟨b2,hm3,q⟩:=q
   refine wpAny_handleBy_cons (codeAny_handlers_test ?_) (by intro z;cases z)
   refine cN (X:=Cx.hand X x) (iG I2) hg2 hm' ?_ FY
   refine (exm_one I2.kIn (mK ex2) hm3).here ?_
   cases b2 with
   | false=>exact Cn hf hx I2 ex2 ox ot q
   | true=>
    refine codeAny_handlers_suite_as ?_
    refine dX (fr:=none) ex2 fun h3 a3 b3=>?_
    have I3:=gz I2 ox (fun t ht=>by cases ht;exact ot) (b3.mono fun _ z=>absurd z (by simp))
    have I4:=jd I3 ox a3.p a3.there uI.stay
    refine fH (X:=X) (v:=.ref x) I4 hN hi2 (.inl hl2) rfl (fun s5 I5=>?_) (.inr hl2)
    refine wpAny_mono (hh2 x pins s5 _ _ (yj i2 D) (iG I5) (q x ox.no)) (fun f s6 r=>?_) fun _ _ z=>False.elim z
    cases f with
    | next=>
     obtain ⟨σ6,H6,I6,q6⟩:=r
     exact cT (cz I.ok I6) hN hi2 hl2 fun s7 I7=>⟨_,H6,I7,q6⟩
    | brk=>
     obtain ⟨σ6,H6,I6,q6⟩:=r
     exact cT (cz I.ok I6) hN hi2 hl2 fun s7 I7=>⟨_,H6,I7,q6⟩
    | cont=>
     obtain ⟨σ6,H6,I6,q6⟩:=r
     exact cT (cz I.ok I6) hN hi2 hl2 fun s7 I7=>⟨_,H6,I7,q6⟩
    | ret u=>
     obtain ⟨v,σ6,H6,I6,r6,q6⟩:=r
     exact cT (cz I.ok I6) hN hi2 hl2 fun s7 I7=>⟨v,_,H6,I7,r6,q6⟩
  | true=>
   refine codeAny_handlers_suite_as ?_
   refine dX (fr:=none) ex2 fun h3 a3 b3=>?_
   have I3:=gz I2 ox (fun t ht=>by cases ht;exact ot) (b3.mono fun _ z=>absurd z (by simp))
   have I4:=jd I3 ox a3.p a3.there uI.stay
   refine fH (X:=X) (v:=.ref x) I4 hN hi (.inl hl) rfl (fun s5 I5=>?_) (.inr hl)
   refine wpAny_mono (hh x pins s5 _ _ (yj i D) (iG I5) (q x ox.no)) (fun f s6 r=>?_) fun _ _ z=>False.elim z
   cases f with
   | next=>
    obtain ⟨σ6,H6,I6,q6⟩:=r
    exact cT (cz I.ok I6) hN hi hl fun s7 I7=>⟨_,H6,I7,q6⟩
   | brk=>
    obtain ⟨σ6,H6,I6,q6⟩:=r
    exact cT (cz I.ok I6) hN hi hl fun s7 I7=>⟨_,H6,I7,q6⟩
   | cont=>
    obtain ⟨σ6,H6,I6,q6⟩:=r
    exact cT (cz I.ok I6) hN hi hl fun s7 I7=>⟨_,H6,I7,q6⟩
   | ret u=>
    obtain ⟨v,σ6,H6,I6,r6,q6⟩:=r
    exact cT (cz I.ok I6) hN hi hl fun s7 I7=>⟨v,_,H6,I7,r6,q6⟩
theorem sW (hK:X.K=K) (hs:X.stack=X.env::X.outer) (hf:X.env.frame=some X.env.locals) (hm:X.mg cx=some (.ref CH)) (hm':X.mg cx2=some (.ref CH2)) (hN:X.N.Nodup) (hi:X.N[i]?=some n) (hl:X.env.scope.names.lookup n=some .local) (hi2:X.N[i2]?=some n2) (hl2:X.env.scope.names.lookup n2=some .local) (hx:PaX X Ex)
  (hb:∀ pins Exb,PSs (xcx (Cx.pinned X pins) Exb) body (tb Exb)) (hh:∀ x,PSs (Cx.hand X x) (b₀ :: suite) th) (hh2:∀ x,PSs (Cx.hand X x) (c₀ :: ny) th2) (hg:Gl X cx:=by rfl) (hdb:(cx == ("__debug__" : Str))=false:=by decide) (hg2:Gl X cx2:=by rfl) (FY:(cx2 == ("__debug__" : Str))=false:=by decide) :
  PS X (.Try body [.ExceptHandler (some (.Name cx np)) (some n) (b₀ :: suite) hpos,.ExceptHandler (some (.Name cx2 np2)) (some n2) (c₀ :: ny) EI] [] [] pos) (nv K (.ref CH) i th (.ref CH2) i2 th2 tb Ex):=by
 subst hK
 exact wK hs hf hm hm' hN hi hl hi2 hl2 hx hb hh hh2 hg hdb hg2 FY
theorem Ak (h:X.K=K):IxR X (zx K):=h▸bA
theorem Az {CH CH2:Value} {D:Ends} {σ : St} {H:Hp} (h:tb (fj K CH i th (fj K CH2 i2 th2 Ex D) D) D σ H):nv K CH i th CH2 i2 th2 tb Ex D σ H:=h
theorem kM {CH C:Value} {D:Ends} {σ : St} {H:Hp} {dx:Option Addr} (e:exmOne K C CH=some false) (h:Ex σ C dx H):fj K CH i th Ex D σ C dx H:=⟨false,e,by rw [if_neg Bool.false_ne_true];exact h⟩
end
end L4
namespace Law
open PySem PySem.Spec PyProof.Rows L2 L3 L4
structure ErR (K:PySem.W.Frag) (CD CN CA CU CE CR:Addr):Prop where
 gL:fG K CE
 mL:PySem.W.exmOne K (.ref CE) (.ref CE)=some true
 kL:PySem.W.kitAny K (.ref CE) [.ref CD,.ref CA,.ref CN,.ref CU]=some false
 hL:PySem.W.hasDictIn K CE=true
 fL:PySem.W.findIn K (.ref CE) "number" = some none
 gD:fG K CD
 nD:PySem.W.exmOne K (.ref CD) (.ref CE)=some false
 mD:PySem.W.exmOne K (.ref CD) (.ref CR)=some true
 d0:PySem.W.kitOne K (.ref CD) (.ref CD)=some true
 d1:PySem.W.kitOne K (.ref CD) (.ref CN)=some false
 d2:PySem.W.kitOne K (.ref CD) (.ref CA)=some false
 d3:PySem.W.kitOne K (.ref CD) (.ref CU)=some false
 gN:fG K CN
 nN:PySem.W.exmOne K (.ref CN) (.ref CE)=some false
 mN:PySem.W.exmOne K (.ref CN) (.ref CR)=some true
 n0:PySem.W.kitOne K (.ref CN) (.ref CD)=some false
 n1:PySem.W.kitOne K (.ref CN) (.ref CN)=some true
 n2:PySem.W.kitOne K (.ref CN) (.ref CA)=some false
 n3:PySem.W.kitOne K (.ref CN) (.ref CU)=some false
theorem xS.exd {H:Hp} {dx:Option Addr} (h:xS H dx):ExD H dx:=by
 cases dx with
 | none=>exact trivial
 | some d=>exact h
theorem xS.new {H:Hp} {dx:Option Addr} {x:Addr} {o:HO} (h:xS H dx) (n:H x=none):xS (upd H x o) dx:=by
 cases dx with
 | none=>exact trivial
 | some d=>
  obtain ⟨fs,e⟩:=h
  exact ⟨fs,by rw [aB (aG e n)];exact e⟩
structure LtK (hs:List Hs) (ts:Lts):Prop where
 len:ts.length=3 * hs.length+1
 ask:∀ (j:Nat) (t:Addr) (nm:Str) (r:Int),ts[j]?=some (t,Lt.ask nm r)→(j=3 * hs.length∧r=1000000000000000000000000000000)∨(j≠3 * hs.length∧r≤100000000000000000000000000000)
 nob:∀ (j:Nat) (t:Addr) (nm:Str) (n e:Int),ts[j]?≠some (t,Lt.back nm n e)
 who:∀ (j:Nat) (t:Addr) (x:Lt),ts[j]?=some (t,x)→(∃ nm r,x = .ask nm r)∨(j≠3 * hs.length∧∃ y∈hs,y.d.nm=ia x)
 nem:∀ y∈hs,y.d.nm≠("" : Str)
 nod:(hs.map (·.d.nm)).Nodup
structure HsR (hs hs':List Hs):Prop where
 d:hs'.map (·.d)=hs.map (·.d)
 l:∀ n,(∀ y∈hs,y.ls.length≤n)→∀ y∈hs',y.ls.length≤n+1
theorem HsR.refl (hs:List Hs):HsR hs hs:=⟨rfl,fun n h y hy=>Nat.le_trans (h y hy) (Nat.le_succ _)⟩
theorem HsR.set {hs:List Hs} {j:Nat} {x:Hs} {ls:Lns} {pl:Option (Int×Int)} (h:hs[j]?=some x) (hl:ls.length≤x.ls.length+1):HsR hs (hs.set j ⟨x.d,ls,pl⟩):=by
 refine ⟨?_,fun n hn y hy=>?_⟩
 ·rw [List.map_set]
  exact set_same (by rw [List.getElem?_map,h];rfl)
 ·rcases List.mem_or_eq_of_mem_set hy with hy | rfl
  ·exact Nat.le_trans (hn y hy) (Nat.le_succ _)
  ·have:=hn x (List.mem_of_getElem? h);show ls.length≤n+1;omega
structure Gi (gs:List Gr) (M:Int):Prop where
 top:∀ x∈gs,x.e≤M
theorem Gi.mono {gs:List Gr} {M N:Int} (h:Gi gs M) (k:M≤N):Gi gs N:=⟨fun x hx=>Int.le_trans (h.top x hx) k⟩
theorem Nx.le {ap:Bool} {gs:List Gr} {s:Nat} {b x y B:Int} (h:Nx ap gs s b x y) (hg:∀ g∈gs,g.e≤B) (hb:b≤B):y≤B:=by
 unfold Nx at h
 cases ap with
 | true=>
  rw [if_pos rfl] at h
  obtain ⟨j,_,rfl,rfl⟩:=h
  rcases A4 (gs:=gs) (s:=j) (b:=b) with e | ⟨g,hgm,_,e⟩
  ·rw [e];exact hb
  ·rw [e];exact hg g hgm
 | false=>
  rw [if_neg Bool.false_ne_true] at h
  rw [h.2];exact hb
theorem vP {hs:List Hs} (nd:(hs.map (·.d.nm)).Nodup) {i:Nat} {y:Hs} (hy:hs[i]?=some y):dwn hs y.d.nm=y.pl.isNone:=by
 unfold dwn
 rw [Bool.eq_iff_iff,List.any_eq_true]
 constructor
 ·rintro ⟨z,hz,e⟩
  rw [Bool.and_eq_true,decide_eq_true_eq] at e
  obtain ⟨k,hk,rfl⟩:=List.getElem_of_mem hz
  obtain ⟨hi,rfl⟩:=List.getElem?_eq_some_iff.mp hy
  have:k=i:=by
   unfold List.Nodup at nd
   rw [List.pairwise_iff_getElem] at nd
   rcases Nat.lt_trichotomy k i with c | c | c
   ·exact absurd (by rw [List.getElem_map,List.getElem_map];exact e.1) (nd k i (by rw [List.length_map];exact hk) (by rw [List.length_map];exact hi) c)
   ·exact c
   ·exact absurd (by rw [List.getElem_map,List.getElem_map];exact e.1.symm) (nd i k (by rw [List.length_map];exact hi) (by rw [List.length_map];exact hk) c)
  subst this
  exact e.2
 ·intro e
  exact ⟨y,List.mem_of_getElem? hy,by rw [e,decide_eq_true rfl];rfl⟩
theorem A6 {hs:List Hs} {w:Str} (h:∀ y∈hs,y.d.nm≠w):dwn hs w=false:=by
 unfold dwn
 rw [List.any_eq_false]
 intro y hy
 rw [decide_eq_false (h y hy)]
 exact Bool.false_ne_true
section
variable {P:Program} {w:World} {K:PySem.W.Frag} {mg:Str→Option Value} {base:Heap} {C CS CH CL CD CU CA CN CW CT CP CE CR:Addr}
theorem wH:aq ["_law_post", "_law_number_here", "_law_hand_here", "_law_lender", "e", "_law_flags"] ["_law_post", "_law_number_here", "_law_hand_here", "_law_lender"] (aj (top 74)):=by walk_at "s"
def pU (K:PySem.W.Frag) (C CS CH CL CP:Addr):Sp:=fun vs H Q _=>∃ (H0:Hp) (hs:List Hs) (d:Ld) (gs:List Gr) (pp lp:Addr) (ts:Lts) (n M:Int) (hv:V),vs=[.ref pp,.int n,hv,.ref d.p]∧Ev K C CS CH CL CP H0 H hs d gs pp lp ts∧HoR hs ts n hv∧LtK hs ts∧Gi gs M∧100000000000000000000000000000≤M∧M≤200000000000000000000000000000∧gs.length≤62∧(∀ y∈hs,y.ls.length≤390)∧(-40≤n∧n < 10 ^ 40) ∧
 ∀ r hs' gs' H',DuR hs ts n r→Ev K C CS CH CL CP H0 H' hs' d gs' pp lp ts→HsR hs hs'→Gi gs' (M+1000000000000)→gs'.length≤gs.length+1→(r≠.rd→hs'=hs∧gs'=gs∧aK H H')→(∀ q o,Sep hs d lp q→H q=some o→H' q=some o)→Q (.str (duT n r)) H'
theorem wZ (D:Dat K mg "_law_read" "_law_read" (top 74) ["_law_post", "_law_number_here", "_law_hand_here", "_law_lender"]) (BT:Bt mg) (NE:bh (CX1 P w)) (ER:ErR K CD CN CA CU CE CR) (qP:mg "NoLetter" = some (.ref CE)) (oB:mg "RiseError" = some (.ref CR)) (vJ:mg "Down" = some (.ref CD)) (mT:mg "NoArea" = some (.ref CA)) (mS:mg "NoRoom" = some (.ref CN)) (EJ:mg "Up" = some (.ref CU)) (nu:Ea P w K mg base (CX1 P w) "_law_whole" 1 ["_law_found"] ir) (pe:bz P w K mg base (CX1 P w) CP "carry" 7 ["self", "number", "hand", "lender"] (ve K C CS CH CL CD CU CA CN CW CT CP CE)):Cal P w K mg base (CX1 P w) "_law_read" 9 ["_law_post", "_law_number_here", "_law_hand_here", "_law_lender"] (pU K C CS CH CL CP):=by
 have S:=wH
 walk_at "d"
 ·obtain ⟨H0,hs,d,gs,pp,lp,ts,n,M,hv,rfl,_⟩:=h
  rfl
 obtain ⟨H0,hs,d,gs,pp,lp,ts,n,M,hv,rfl,I,ho,LK,G,M1,M2,g62,hls,hn,q⟩:=h
 obtain ⟨⟨dx,hp1⟩,hp2⟩:=id I.po
 refine ⟨_,(ak (sW (i:=4) (i2:=4) rfl rfl rfl qP oB S.nd rfl rfl rfl rfl Fi (fun _ _=>(ao (bE (j9 pe (hr.mono (by first | decide | omega)) bu (pv 0) (aa (pv 1) (aa (pv 2) (aa (pv 3) ah))))))) (fun _=>(ak (bq (PW.pt (qk (bZ (zI rfl BT.isinstance (pv 4) (bx (aa (qo vJ) (aa (qo mT) (aa (qo mS) (aa (qo EJ) ah))))))) (j5 (cY (bZ (Fe nu (((Ig hr).mark _).mono (by first | decide | omega)) NE.pass (aa (qm rfl (pv 4) rfl) ah))))))) (ao (au aV)) aJ)
    (ao (au (aL z8 aV (cC Bc rfl BT.str_ L3.uA (aa (qm rfl (pv 4) rfl) ah))))))) (fun _=>(ak (aM (i:=5) S.nd rfl (by first | exact Or.inl rfl | exact Or.inr rfl) (bM (aa (iz rfl BT.isinstance vJ (pv 4)) (aa (iz rfl BT.isinstance mS (pv 4)) (aa (iz rfl BT.isinstance mT (pv 4)) (aa (iz rfl BT.isinstance EJ (pv 4)) ah))))))
    (ak (bq (aO qu (zJ (K:=K) rfl PySem.F.plainAttrs_list PySem.F.slot_list_count PySem.F.type_list_count xh (pv 5) (aa dS ah)) ai (aQ _)) (ao (au aV)) aJ)
    (ao (au (az (Ak (K:=K) rfl) (bM (aa aV (aa aV (aa aV (aa aV ah))))) (zJ (K:=K) rfl PySem.F.plainAttrs_list PySem.F.slot_list_index PySem.F.type_list_index w9 (pv 5) (aa dS ah)) (fun _ _=>rfl))))))))
   (ao (au aV))),?_⟩
 try dsimp only [aZ]
 have hlen:("no letter " : Str).length≤100:=by decide +kernel
 have l30:kE=1000000000000000000000000000000:=rfl
 have et0:=I.ld.2.2.2.n.t0
 have et1:=I.ld.2.2.2.n.t1
 have fin:∀ r,DuR hs ts n r→∀ H',aK H H'→Q (.str (duT n r)) H':=fun r hr H' s=>q r hs gs H' hr (I.same s) (HsR.refl hs) (G.mono (by omega)) (Nat.le_succ _) (fun _=>⟨rfl,rfl,s⟩) fun q o _ e=>s _ _ e
 walk_at "go"
 refine Az ?_
 walk_at "go"
 refine aS hp1 Co ?_
 walk_at "go"
 refine ⟨pp,lp,ts,n,hv,.ref d.p,rfl,I.po,fun z dd H1 s1 hd1=>?_,fun j t x hnj hj=>⟨I.lt _ (List.mem_of_getElem? hj),?_⟩⟩
 ·refine iJ ER.mL fun ex nx=>?_
  have nd:dd≠ex:=fun z=>by rw [z,nx] at hd1;cases hd1
  have hd':(upd H1 ex (gn ex (.ref CE) (some dd))) dd=some (.xd [("number",.int n)]):=by rw [aB nd];exact hd1
  have exa:ExA K (upd H1 ex (gn ex (.ref CE) (some dd))) ex CE (some dd):=⟨ay,ER.gL,_,hd'⟩
  have sx:=s1.trans (bS nx (gn ex (.ref CE) (some dd)))
  generalize upd H1 ex (gn ex (.ref CE) (some dd))=H2 at *
  have L:=Led.start H2 (fun _=>False)
  walk_at "go"
  have exb:ExA K H' ex CE (some dd):=⟨L'.same _ _ exa.at_,ER.gL,_,L'.same _ _ hd'⟩
  have hdb:=L'.same _ _ hd'
  refine Dy (Ds:=[CD,CA,CN,CU]) exb (L'.tup (by walk_at "mem")) ER.kL ?_
  walk_at "go"
  refine ⟨ex,CE,dd,_,_,rfl,exb,hdb,ER.hL,ER.fL,lk_hit,?_⟩
  walk_at "go"
  refine ⟨n,rfl,?_⟩
  walk_at "go"
  refine ⟨ex,CE,dd,_,_,rfl,exb,hdb,ER.hL,ER.fL,lk_hit,?_⟩
  walk_at "go"
  refine t9 (oi hn.1 hn.2) ?_
  walk_at "go"
  refine oG (Nat.le_trans (Nat.add_le_add hlen (oh hn.1 hn.2)) (Nat.le_of_lt (small1000 (by decide)))) ?_
  exact fin .nol (.inl ⟨z,rfl⟩) _ (sx.trans L'.same)
 cases x with
 | ask nm r=>
  have hdw:¬ dwn hs (ia (.ask nm r))=true:=by show ¬ dwn hs ("" : Str)=true;rw [A6 LK.nem];exact Bool.false_ne_true
  refine ⟨d,gs,rfl,I.ld,I.gk,g62,fun a b hnx c1 H1 s1=>?_,fun a b hnx c1 g ar t2 H1 hd1 gk1 ht2 c2=>?_⟩
  ·rcases LK.ask j t nm r hj with ⟨hj3,_⟩ | ⟨_,hr⟩
   ·refine kM ER.nN ?_
    refine iJ ER.mN fun ex nx=>?_
    have exa:ExA K (upd H1 ex (gn ex (.ref CN) none)) ex CN none:=⟨ay,ER.gN,trivial⟩
    have sx:=s1.trans (bS nx (gn ex (.ref CN) none))
    generalize upd H1 ex (gn ex (.ref CN) none)=H2 at *
    have L:=Led.start H2 (fun _=>False)
    walk_at "go"
    refine cO exa ER.n0 ?_
    walk_at "go"
    refine cO exa ER.n1 ?_
    walk_at "go"
    refine cO exa ER.n2 ?_
    walk_at "go"
    refine cO exa ER.n3 ?_
    walk_at "go"
    obtain ⟨lf,elf⟩:∃ z,z=l':=⟨_,rfl⟩
    subst elf
    have hlf:=L'.eo (p:=lf) (by walk_at "put")
    refine ⟨lf,[false,true,false,false],true,rfl,rfl,hlf,?_⟩
    clear L
    have L:=L'
    clear L'
    walk_at "go"
    refine kJ (fun _=>?_) (fun z=>absurd (by decide) z)
    walk_at "go"
    refine ⟨lf,[false,true,false,false],true,1,rfl,rfl,L'.eo (by walk_at "put"),by decide,rfl,fun m hm=>by obtain rfl:m=0:=(by omega);rfl,?_⟩
    walk_at "go"
    exact fin .nr (.inr ⟨j,t,_,hnj,hj,by rw [if_neg hdw,if_pos (by omega)]⟩) _ (sx.trans L'.same)
   ·have:=hnx.le G.top (Int.le_trans hr M1)
    omega
  ·rcases LK.ask j t nm r hj with ⟨_,hr⟩ | ⟨hj3,hr⟩
   ·have:=hnx.ge
    omega
   ·have hb:=hnx.le G.top (Int.le_trans hr M1)
    walk_at "go"
    refine q .rd hs _ H1 (.inr ⟨j,t,_,hnj,hj,by rw [if_neg hdw,if_neg (by omega)]⟩) (I.lend c2 hd1 gk1) (HsR.refl hs) ⟨fun z hz=>?_⟩ (by rw [List.length_append];exact Nat.le_refl _) (fun z=>absurd rfl z) fun q o se e=>c2.oth _ _ e se.2.1
    rcases List.mem_append.mp hz with hz | hz
    ·have:=G.top z hz;omega
    ·rw [List.mem_singleton.mp hz];show b+d.term≤_;omega
 | back nm n0 e=>exact absurd hj (LK.nob j t nm n0 e)
 | news a nm b=>
  have Al:=LK.who j t _ hj
  rcases ho j t _ hnj hj with ⟨_,hno⟩ | ⟨i,y,hyi,rfl,hnm⟩
  ·rcases Al with ⟨_,_,z⟩ | ⟨_,z,hz,ez⟩
   ·cases z
   ·exact absurd ez (hno z hz)
  have hj3:j≠3 * hs.length:=by
   rcases Al with ⟨_,_,z⟩ | ⟨z,_⟩
   ·cases z
   ·exact z
  have hym:=List.mem_of_getElem? hyi
  have hdy:=vP LK.nod hyi
  rw [hnm] at hdy
  have hly:=hls y hym
  refine ⟨y.d,y.ls,y.pl,rfl,I.hd y hym,I.ok y hym,by omega,fun j0 c dx H1 hj0 ho s1 hx=>?_,fun v o ls2 pl2 H1 ho hv hd1 hok1 hl1 f1=>?_⟩
  ·cases hpl:y.pl with
   | some m=>
    obtain ⟨m,k⟩:=m
    rw [hpl] at ho
    injection ho with ho _
    cases ho
   | none=>
    rw [hpl] at ho hdy
    obtain rfl:j0=0:=by
     injection ho with ho _
     injection ho with ho
     exact ho.symm
    obtain rfl:CD=c:=Option.some.inj hj0
    refine kM ER.nD ?_
    refine iJ ER.mD fun ex nx=>?_
    have exa:ExA K (upd H1 ex (gn ex (.ref CD) dx)) ex CD dx:=⟨ay,ER.gD,(hx.new nx).exd⟩
    have sx:=s1.trans (bS nx (gn ex (.ref CD) dx))
    generalize upd H1 ex (gn ex (.ref CD) dx)=H2 at *
    have L:=Led.start H2 (fun _=>False)
    walk_at "go"
    refine cO exa ER.d0 ?_
    walk_at "go"
    refine cO exa ER.d1 ?_
    walk_at "go"
    refine cO exa ER.d2 ?_
    walk_at "go"
    refine cO exa ER.d3 ?_
    walk_at "go"
    obtain ⟨lf,elf⟩:∃ z,z=l':=⟨_,rfl⟩
    subst elf
    have hlf:=L'.eo (p:=lf) (by walk_at "put")
    refine ⟨lf,[true,false,false,false],true,rfl,rfl,hlf,?_⟩
    clear L
    have L:=L'
    clear L'
    walk_at "go"
    refine kJ (fun _=>?_) (fun z=>absurd (by decide) z)
    walk_at "go"
    refine ⟨lf,[true,false,false,false],true,0,rfl,rfl,L'.eo (by walk_at "put"),by decide,rfl,fun m hm=>absurd hm (Nat.not_lt_zero _),?_⟩
    walk_at "go"
    exact fin .dn (.inr ⟨j,t,_,hnj,hj,by rw [if_pos (by rw [hdy];rfl)]⟩) _ (sx.trans L'.same)
  ·cases hpl:y.pl with
   | none=>
    rw [hpl] at ho
    injection ho with ho _
    rw [← ho] at hv
    exact hv.elim
   | some m=>
    rw [hpl] at hdy
    walk_at "go"
    refine q .rd _ gs H1 (.inr ⟨j,t,_,hnj,hj,by rw [if_neg (by rw [hdy];exact Bool.false_ne_true),if_neg (by omega)]⟩) (I.step hyi f1 hd1 hok1) (HsR.set hyi (by rw [List.length_append];omega)) (G.mono (by omega)) (Nat.le_succ _) (fun z=>absurd rfl z) fun q o se e=>f1 _ _ e (se.1 y hym).1 (se.1 y hym).2
 | grant nm n0 sl f e=>
  have Al:=LK.who j t _ hj
  rcases ho j t _ hnj hj with ⟨_,hno⟩ | ⟨i,y,hyi,rfl,hnm⟩
  ·rcases Al with ⟨_,_,z⟩ | ⟨_,z,hz,ez⟩
   ·cases z
   ·exact absurd ez (hno z hz)
  have hj3:j≠3 * hs.length:=by
   rcases Al with ⟨_,_,z⟩ | ⟨z,_⟩
   ·cases z
   ·exact z
  have hym:=List.mem_of_getElem? hyi
  have hdy:=vP LK.nod hyi
  rw [hnm] at hdy
  have hly:=hls y hym
  refine ⟨y.d,y.ls,y.pl,rfl,I.hd y hym,I.ok y hym,by omega,fun j0 c dx H1 hj0 ho s1 hx=>?_,fun v o ls2 pl2 H1 ho hv hd1 hok1 hl1 f1=>?_⟩
  ·cases hpl:y.pl with
   | some m=>
    obtain ⟨m,k⟩:=m
    rw [hpl] at ho
    simp only [opF] at ho
    split at ho
    ·injection ho with ho _
     cases ho
    ·injection ho with ho _
     cases ho
   | none=>
    rw [hpl] at ho hdy
    obtain rfl:j0=0:=by
     injection ho with ho _
     injection ho with ho
     exact ho.symm
    obtain rfl:CD=c:=Option.some.inj hj0
    refine kM ER.nD ?_
    refine iJ ER.mD fun ex nx=>?_
    have exa:ExA K (upd H1 ex (gn ex (.ref CD) dx)) ex CD dx:=⟨ay,ER.gD,(hx.new nx).exd⟩
    have sx:=s1.trans (bS nx (gn ex (.ref CD) dx))
    generalize upd H1 ex (gn ex (.ref CD) dx)=H2 at *
    have L:=Led.start H2 (fun _=>False)
    walk_at "go"
    refine cO exa ER.d0 ?_
    walk_at "go"
    refine cO exa ER.d1 ?_
    walk_at "go"
    refine cO exa ER.d2 ?_
    walk_at "go"
    refine cO exa ER.d3 ?_
    walk_at "go"
    obtain ⟨lf,elf⟩:∃ z,z=l':=⟨_,rfl⟩
    subst elf
    have hlf:=L'.eo (p:=lf) (by walk_at "put")
    refine ⟨lf,[true,false,false,false],true,rfl,rfl,hlf,?_⟩
    clear L
    have L:=L'
    clear L'
    walk_at "go"
    refine kJ (fun _=>?_) (fun z=>absurd (by decide) z)
    walk_at "go"
    refine ⟨lf,[true,false,false,false],true,0,rfl,rfl,L'.eo (by walk_at "put"),by decide,rfl,fun m hm=>absurd hm (Nat.not_lt_zero _),?_⟩
    walk_at "go"
    exact fin .dn (.inr ⟨j,t,_,hnj,hj,by rw [if_pos (by rw [hdy];rfl)]⟩) _ (sx.trans L'.same)
  ·cases hpl:y.pl with
   | none=>
    rw [hpl] at ho
    injection ho with ho _
    rw [← ho] at hv
    exact hv.elim
   | some m=>
    rw [hpl] at hdy
    walk_at "go"
    refine q .rd _ gs H1 (.inr ⟨j,t,_,hnj,hj,by rw [if_neg (by rw [hdy];exact Bool.false_ne_true),if_neg (by omega)]⟩) (I.step hyi f1 hd1 hok1) (HsR.set hyi (by rw [List.length_append];omega)) (G.mono (by omega)) (Nat.le_succ _) (fun z=>absurd rfl z) fun q o se e=>f1 _ _ e (se.1 y hym).1 (se.1 y hym).2
end
def OkL (hs:List Hs):Lt→Prop
 | .ask _ r=>r≤100000000000000000000000000000
 | .back _ _ _=>False
 | .grant nm _ _ _ _=>∃ y∈hs,y.d.nm=nm
 | .news _ nm _=>∃ y∈hs,y.d.nm=nm
theorem FF {hs:List Hs} {ts:Lts} {t:Addr} {nm:Str} (l:ts.length=3 * hs.length) (h:∀ x∈ts,OkL hs x.2) (nem:∀ y∈hs,y.d.nm≠("" : Str)) (nod:(hs.map (·.d.nm)).Nodup):LtK hs (ts++[(t,.ask nm 1000000000000000000000000000000)]):=by
 have key:∀ j x,(ts++[(t,Lt.ask nm 1000000000000000000000000000000)])[j]?=some x→(j=3 * hs.length∧x=(t,.ask nm 1000000000000000000000000000000))∨(j≠3 * hs.length∧OkL hs x.2):=fun j x hx=>by
  by_cases c:j < ts.length
  ·rw [List.getElem?_append_left c] at hx
   exact .inr ⟨by omega,h x (List.mem_of_getElem? hx)⟩
  ·have hj:=(List.getElem?_eq_some_iff.mp hx).1
   rw [List.length_append,List.length_singleton] at hj
   obtain rfl:j=ts.length:=by omega
   rw [List.getElem?_append_right (Nat.le_refl _),Nat.sub_self] at hx
   cases hx
   exact .inl ⟨l,rfl⟩
 refine ⟨by rw [List.length_append,List.length_singleton,l],fun j t' nm' r hx=>?_,fun j t' nm' n e hx=>?_,fun j t' x hx=>?_,nem,nod⟩
 ·rcases key j _ hx with ⟨e,z⟩ | ⟨e,z⟩
  ·cases z;exact .inl ⟨e,rfl⟩
  ·exact .inr ⟨e,z⟩
 ·rcases key j _ hx with ⟨e,z⟩ | ⟨e,z⟩
  ·cases z
  ·exact z
 ·rcases key j _ hx with ⟨e,z⟩ | ⟨e,z⟩
  ·cases z;exact .inl ⟨_,_,rfl⟩
  ·cases x with
   | ask nm r=>exact .inl ⟨_,_,rfl⟩
   | back nm n e=>exact z.elim
   | news a nm b=>exact .inr ⟨e,z⟩
   | grant nm n sl f e'=>exact .inr ⟨e,z⟩
section
variable {P:Program} {w:World} {K:PySem.W.Frag} {mg:Str→Option Value} {base:Heap} {C CS CH CL CD CU CA CN CW CT CP CE CR:Addr}
theorem sH:aq ["_law_post", "_law_hands", "_law_cell", "_law_hand_here", "_law_first"] ["_law_post", "_law_hands", "_law_cell"] (aj (top 76)):=by walk_at "s"
def mj (K:PySem.W.Frag) (C CS CH CL CP:Addr):Sp:=fun vs H Q _=>∃ (H0:Hp) (hs:List Hs) (d:Ld) (gs:List Gr) (pp lp hl p:Addr),vs=[.ref pp,.ref hl,.ref p]∧Ev K C CS CH CL CP H0 H hs d gs pp lp []∧H hl=some (.lst (hsV hs))∧Sep hs d lp hl∧1≤hs.length∧hs.length≤10∧aY H p 0∧H0 p=none∧hl≠p∧(∀ y∈hs,y.d.nm≠("" : Str))∧(hs.map (·.d.nm)).Nodup ∧
 ∀ ts H',Ev K C CS CH CL CP H0 H' hs d gs pp lp ts→LtK hs ts→H' hl=some (.lst (hsV hs))→Q .non H'
theorem tK (D:Dat K mg "_law_begun" "_law_begun" (top 76) ["_law_post", "_law_hands", "_law_cell"]) (BT:Bt mg) (NE:bh (CX1 P w)) (HC:HdC K CH) (eN:bz P w K mg base (CX1 P w) CP "send" 1 ["self", "letter"] (yH CP)) (aH:Cal P w K mg base (CX1 P w) "_law_pick" 11 ["_law_hand_here", "_law_many"] fJ) (eO:Cal P w K mg base (CX1 P w) "_law_number" 12 ["_law_cell"] iY):Cal P w K mg base (CX1 P w) "_law_begun" 13 ["_law_post", "_law_hands", "_law_cell"] (mj K C CS CH CL CP):=by
 have S:=sH
 walk_at "d"
 ·obtain ⟨H0,hs,d,gs,pp,lp,hl,p,rfl,_⟩:=h
  rfl
 obtain ⟨H0,hs,d,gs,pp,lp,hl,p,rfl,I,hhl,shl,h1,h10,hh,np,nlp,nem,nod,q⟩:=h
 obtain ⟨x0,hx0⟩:∃ x,hs[0]?=some x:=⟨_,List.getElem?_eq_getElem (by omega)⟩
 have Ar:atI (hsV hs) 0=some (.ref x0.d.p):=cj (j:=0) (tZ hx0)
 refine ⟨_,(ak (fN PassesOwn.never rfl (cA (pv 1)) (bV (i:=3) S.nd rfl (by first | exact Or.inl rfl | exact Or.inr rfl)) (ak (aM (i:=4) S.nd rfl (by first | exact Or.inl rfl | exact Or.inr rfl) (aI eO (hr.mono (by first | decide | omega)) NE.pass (aa (pv 2) ah)))
    (ak (bE (dY eN (hr.mono (by first | decide | omega)) NE.pass (pv 0) (aa (bx (aa aV (aa (aP (pv 3) rfl) (aa (pv 4) ah)))) ah)))
    (ak (bE (dY eN (hr.mono (by first | decide | omega)) NE.pass (pv 0) (aa (bx (aa aV (aa (aP (pv 3) rfl) (aa (aL bB ai (aI aH (hr.mono (by first | decide | omega)) NE.pass (aa (pv 2) (aa ai ah)))) (aa (bx (aa ai (aa (pv 4) (aa (aL bB (aL bB (pv 4) ai) (aI aH (hr.mono (by first | decide | omega)) NE.pass (aa (pv 2) (aa ai ah)))) ah)))) ah))))) ah)))
    (ao (bE (dY eN (hr.mono (by first | decide | omega)) NE.pass (pv 0) (aa (bx (aa aV (aa (aP (pv 3) rfl) (aa (aP (az bA (pv 1) ai (fun _ _=>rfl)) rfl) (aa (aI aH (hr.mono (by first | decide | omega)) NE.pass (aa (pv 2) (aa ai ah))) ah))))) ah))))))))
   (ao (bE (dY eN (hr.mono (by first | decide | omega)) NE.pass (pv 0) (aa (bx (aa aV (aa (aP (az bA (pv 1) ai (fun _ _=>rfl)) rfl) (aa (aL fR ai ai) ah)))) ah))))),?_⟩
 try dsimp only [aZ]
 walk_at "go"
 refine c9 (SqL.of hhl) ?_
 refine jf (hsV hs) (fun i σ Hx=>∃ (u3 u4:Option V) (ts:Lts),σ=[some (.ref pp),some (.ref hl),some (.ref p),u3,u4]∧Ev K C CS CH CL CP H0 Hx hs d gs pp lp ts∧ts.length=3 * i∧(∀ x∈ts,OkL hs x.2)∧Hx hl=some (.lst (hsV hs))∧aY Hx p (8192 * (i:Int))) ⟨_,_,[],rfl,I,rfl,(fun _ h=>by simp at h),hhl,hh.mono (by omega)⟩ (fun i σ Hx _ ⟨_,_,_,_,_,_,_,h,_⟩=>SqL.of h) ?_ ?_
 ·rintro i v σ Hx hv ⟨u3,u4,ts,rfl,Ix,tl,tok,hlx,hhx⟩
  obtain ⟨x,hxi,rfl⟩:=jO hv
  have hxm:=List.mem_of_getElem? hxi
  have hin:=(List.getElem?_eq_some_iff.mp hxi).1
  try dsimp only [bK]
  walk_at "go"
  refine ⟨p,_,rfl,hhx,by omega,fun v1 H1 v0 v29 h1' o1=>?_⟩
  have I1:=Ix.oth hhx np o1
  have hl1:=o1 _ _ hlx nlp
  obtain ⟨⟨dx1,hpo1⟩,_⟩:=id I1.po
  obtain ⟨⟨dy1,sv1,hp1,_⟩,_⟩:=id (I1.hd x hxm)
  have L:=Led.start H1 (fun _=>False)
  walk_at "go"
  refine aS hpo1 n6 ?_
  walk_at "go"
  refine ⟨x.d.p,CH,dy1,_,_,rfl,hp1,HC.cl,HC.n1,kG _ _ _ _,?_⟩
  walk_at "go"
  have I2:=I1.same L'.same
  refine ⟨pp,lp,_,_,rfl,I2.po,by rw [c8];omega,fun H3 e3 o3=>?_⟩
  have I3:=I2.send (y:=.ask x.d.nm v1) o3 e3 ⟨v0,L'.tup (by walk_at "mem")⟩
  have h13:aY _ p _:=b6 h1' fun o e=>L'.same _ _ e
  have h3:aY H3 p _:=b6 h13 fun o e=>o3 _ _ e (I2.cell h13).2.1
  have hl3:=o3 _ _ (L'.same _ _ hl1) shl.2.2
  clear L L'
  obtain ⟨ta,eta⟩:∃ z,z=t':=⟨_,rfl⟩
  subst eta
  obtain ⟨⟨dx3,hpo3⟩,_⟩:=id I3.po
  obtain ⟨⟨dy3,sv3,hp3,_⟩,_⟩:=id (I3.hd x hxm)
  have L:=bT h3
  walk_at "go"
  refine aS hpo3 n6 ?_
  walk_at "go"
  refine ⟨x.d.p,CH,dy3,_,_,rfl,hp3,HC.cl,HC.n1,kG _ _ _ _,?_⟩
  walk_at "go"
  refine br L .head (by decide) (by decide) (by omega) fun r1 H4 a0 a1 L _=>?_
  walk_at "go"
  refine br L .head (by decide) (by decide) (by omega) fun r2 H5 b0 b1 L _=>?_
  have I5:=I3.oth h3 np L.fr
  have h5:=bw.at (L.at_ (p,bw _) (by walk_at "mem"))
  have hl5:=L.fr _ _ hl3 nlp
  clear L
  have L:=Led.start H5 (fun _=>False)
  walk_at "go"
  have I6:=I5.same L'.same
  refine ⟨pp,lp,_,_,rfl,I6.po,by rw [c8,List.length_append,List.length_singleton];omega,fun H7 e7 o7=>?_⟩
  have I7:=I6.send (y:=.grant x.d.nm (1+r1) 0 v1 (v1+1+r2)) o7 e7 ⟨by omega,_,L'.tup (by walk_at "mem"),L'.tup (by walk_at "mem")⟩
  have h56:aY _ p _:=b6 h5 fun o e=>L'.same _ _ e
  have h7:aY H7 p _:=b6 h56 fun o e=>o7 _ _ e (I6.cell h56).2.1
  have hl7:=o7 _ _ (L'.same _ _ hl5) shl.2.2
  clear L L'
  obtain ⟨tb,etb⟩:∃ z,z=t':=⟨_,rfl⟩
  subst etb
  obtain ⟨⟨dx7,hpo7⟩,_⟩:=id I7.po
  obtain ⟨⟨dy7,sv7,hp7,_⟩,_⟩:=id (I7.hd x hxm)
  obtain ⟨⟨dz7,sw7,hq7,_⟩,_⟩:=id (I7.hd x0 (List.mem_of_getElem? hx0))
  have L:=bT h7
  walk_at "go"
  refine aS hpo7 n6 ?_
  walk_at "go"
  refine ⟨x.d.p,CH,dy7,_,_,rfl,hp7,HC.cl,HC.n1,kG _ _ _ _,?_⟩
  walk_at "go"
  refine d8 (SqL.of hl7) Ar ?_
  walk_at "go"
  refine ⟨x0.d.p,CH,dz7,_,_,rfl,hq7,HC.cl,HC.n1,kG _ _ _ _,?_⟩
  walk_at "go"
  refine br L .head (by decide) (by decide) (by omega) fun r3 H8 c0 c1 L _=>?_
  have I8:=I7.oth h7 np L.fr
  have h8:=bw.at (L.at_ (p,bw _) (by walk_at "mem"))
  have hl8:=L.fr _ _ hl7 nlp
  clear L
  have L:=Led.start H8 (fun _=>False)
  walk_at "go"
  have I9:=I8.same L'.same
  refine ⟨pp,lp,_,_,rfl,I9.po,by rw [c8,List.length_append,List.length_append,List.length_singleton,List.length_singleton];omega,fun H10 e10 o10=>?_⟩
  have I10:=I9.send (y:=.news x.d.nm x0.d.nm r3) o10 e10 (L'.tup (by walk_at "mem"))
  have h89:aY _ p _:=b6 h8 fun o e=>L'.same _ _ e
  have F6:aY H10 p _:=b6 h89 fun o e=>o10 _ _ e (I9.cell h89).2.1
  have Kf:=o10 _ _ (L'.same _ _ hl8) shl.2.2
  clear L L'
  walk_at "go"
  refine ⟨_,_,_,rfl,I10,by simp only [List.length_append,List.length_singleton];omega,fun z hz=>?_,Kf,F6.mono (by omega)⟩
  rcases List.mem_append.mp hz with hz | hz
  ·rcases List.mem_append.mp hz with hz | hz
   ·rcases List.mem_append.mp hz with hz | hz
    ·exact tok z hz
    ·rw [List.mem_singleton.mp hz];show v1≤_;omega
   ·rw [List.mem_singleton.mp hz];exact ⟨x,hxm,rfl⟩
  ·rw [List.mem_singleton.mp hz];exact ⟨x0,List.mem_of_getElem? hx0,rfl⟩
 ·rintro σ Hx ⟨u3,u4,ts,rfl,Ix,tl,tok,hlx,hhx⟩
  rw [fq] at tl
  obtain ⟨⟨dx1,hpo1⟩,_⟩:=id Ix.po
  obtain ⟨⟨dy1,sv1,hp1,_⟩,_⟩:=id (Ix.hd x0 (List.mem_of_getElem? hx0))
  have L:=Led.start Hx (fun _=>False)
  walk_at "go"
  refine aS hpo1 n6 ?_
  walk_at "go"
  refine d8 (SqL.of hlx) Ar ?_
  walk_at "go"
  refine ⟨x0.d.p,CH,dy1,_,_,rfl,hp1,HC.cl,HC.n1,kG _ _ _ _,?_⟩
  walk_at "go"
  have I2:=Ix.same L'.same
  refine ⟨pp,lp,_,_,rfl,I2.po,by rw [c8];omega,fun H3 e3 o3=>?_⟩
  have I3:=I2.send (y:=.ask x0.d.nm 1000000000000000000000000000000) o3 e3 ⟨by decide,L'.tup (by walk_at "mem")⟩
  walk_at "go"
  exact q _ H3 I3 (FF tl tok nem nod) (o3 _ _ (L'.same _ _ hlx) shl.2.2)
end
theorem DuR.inj {hs:List Hs} {ts:Lts} {n:Int} {r s:Du} (h:DuR hs ts n r) (g:DuR hs ts n s):r=s:=by
 rcases h with ⟨h1,rfl⟩ | ⟨j,t,x,e1,h1,rfl⟩ <;> rcases g with ⟨g1,rfl⟩ | ⟨k,u,y,e2,g1,rfl⟩
 ·rfl
 ·have:=(List.getElem?_eq_some_iff.mp g1).1;omega
 ·have:=(List.getElem?_eq_some_iff.mp h1).1;omega
 ·obtain rfl:j=k:=by omega
  rw [h1] at g1
  cases g1;rfl
theorem Aa {hs hs':List Hs} (h:hs'.map (·.d)=hs.map (·.d)):hs'.map (·.d.nm)=hs.map (·.d.nm):=by
 have:=congrArg (List.map (·.nm)) h
 rwa [List.map_map,List.map_map] at this
theorem An {hs hs':List Hs} (h:hs'.map (·.d)=hs.map (·.d)):hsV hs'=hsV hs:=by
 have:=congrArg (List.map fun d:Hd=>V.ref d.p) h
 rwa [List.map_map,List.map_map] at this
theorem ou {hs hs':List Hs} (h:hs'.map (·.d)=hs.map (·.d)):hs'.length=hs.length:=by
 have:=congrArg List.length h
 rwa [List.length_map,List.length_map] at this
theorem mem_of {hs hs':List Hs} (h:hs'.map (·.d)=hs.map (·.d)) {y:Hs} (hy:y∈hs):∃ z∈hs',z.d=y.d:=by
 have:y.d∈hs'.map (·.d):=by rw [h];exact List.mem_map.mpr ⟨y,hy,rfl⟩
 obtain ⟨z,hz,e⟩:=List.mem_map.mp this
 exact ⟨z,hz,e⟩
theorem LtK.of {hs hs':List Hs} {ts:Lts} (k:LtK hs ts) (h:hs'.map (·.d)=hs.map (·.d)):LtK hs' ts:=by
 have hl:=ou h
 refine ⟨by rw [hl];exact k.len,by rw [hl];exact k.ask,k.nob,fun j t x hx=>?_,fun y hy=>?_,by rw [Aa h];exact k.nod⟩
 ·rcases k.who j t x hx with z | ⟨z,y,hy,e⟩
  ·exact .inl z
  ·obtain ⟨y',hy',e'⟩:=mem_of h hy
   exact .inr ⟨by rw [hl];exact z,y',hy',by rw [e'];exact e⟩
 ·obtain ⟨y',hy',e'⟩:=mem_of h.symm hy
  rw [← e']
  exact k.nem y' hy'
theorem Sep.of {hs hs':List Hs} {d:Ld} {lp q:Addr} (s:Sep hs d lp q) (h:hs'.map (·.d)=hs.map (·.d)):Sep hs' d lp q:=
 ⟨fun y hy=>by
  obtain ⟨y',hy',e'⟩:=mem_of h.symm hy
  rw [← e']
  exact s.1 y' hy',s.2⟩
structure Hv (C CS CH:Addr) (H0 H:Hp) (hs:List Hs):Prop where
 sm:aK H0 H
 hd:∀ x∈hs,bH C CS CH H x.d x.ls x.pl
 ok:∀ x∈hs,eu x.ls x.pl
 ne:hs.Pairwise fun x y=>x.d.p≠y.d.p∧x.d.l≠y.d.l
 hn:∀ x∈hs,H0 x.d.p=none∧H0 x.d.l=none
section
variable {P:Program} {w:World} {K:PySem.W.Frag} {mg:Str→Option Value} {base:Heap} {C CS CH CL CD CU CA CN CW CT CP CE CR:Addr}
theorem Hv.same {H0 H H':Hp} {hs:List Hs} (h:Hv C CS CH H0 H hs) (s:aK H H'):Hv C CS CH H0 H' hs:=⟨h.sm.trans s,fun x hx=>(h.hd x hx).same s,h.ok,h.ne,h.hn⟩
theorem Hv.snoc {H0 H H':Hp} {hs:List Hs} {x:Hs} (h:Hv C CS CH H0 H hs) (s:aK H H') (n1:H x.d.p=none) (n2:H x.d.l=none) (k:bH C CS CH H' x.d x.ls x.pl) (o:eu x.ls x.pl):Hv C CS CH H0 H' (hs++[x]):=by
 refine ⟨h.sm.trans s,fun y hy=>?_,fun y hy=>?_,?_,fun y hy=>?_⟩
 ·rcases List.mem_append.mp hy with hy | hy
  ·exact (h.hd y hy).same s
  ·rw [List.mem_singleton.mp hy];exact k
 ·rcases List.mem_append.mp hy with hy | hy
  ·exact h.ok y hy
  ·rw [List.mem_singleton.mp hy];exact o
 ·rw [List.pairwise_append]
  refine ⟨h.ne,List.pairwise_singleton _ _,fun y hy z hz=>?_⟩
  rw [List.mem_singleton.mp hz]
  have kd:=h.hd y hy
  obtain ⟨⟨dw,sv,kp,_⟩,_⟩:=id kd
  exact ⟨old_ne kp n1,old_ne kd.2.1 n2⟩
 ·rcases List.mem_append.mp hy with hy | hy
  ·exact h.hn y hy
  ·rw [List.mem_singleton.mp hy];exact ⟨cG h.sm n1,cG h.sm n2⟩
theorem k8.sg {H:Hp} {ps sp:Addr} {c far room term:Int} {n:Nat} {ws:List Str} (h:k8 C CS H ps sp c n far room term ws) (k:StN far room term):oY K C CS H ps sp c n far room term ws:=by
 obtain ⟨⟨dx,tr,ms,h1,h2,pm⟩,h3,h4⟩:=h
 exact ⟨⟨dx,tr,ms,h1,SqT.of h2,pm⟩,h3,h4,k⟩
theorem yi {H:Hp} {Q:VK} {E:XK} (q:∀ x l H',H x=none→H l=none→g5 CP H' x l []→aK H H'→Q (.ref x) H'):Made CP (rY CP) E [] H Q:=by
 intro x dx nx nd ne
 refine ⟨x,dx,rfl,ay,fun l H' nl h1 h2 h3=>⟨rfl,?_⟩⟩
 have sm0:aK H (upd (upd H dx (.own x)) x (.ins CP dx [])):=fun b o e=>by rw [aB (aG e nx),aB (aG e nd)];exact e
 exact q x l H' nx (cG sm0 nl) ⟨⟨dx,h1⟩,h2⟩ fun b o e=>h3 b o (sm0 _ _ e) (aG e nx)
theorem E8:aq ["_law_script", "_law_settings_here", "_law_cell", "_law_names_here", "_law_hands", "_law_lender", "_law_post", "_law_k", "_law_hand_here", "_law_number_here", "_law_before", "_law_due_here"] ["_law_script"] (aj (top 79)):=by walk_at "s"
def Ek (K:PySem.W.Frag):Sp:=fun vs H Q _=>∃ (a:Addr) (ns:List Int),vs=[.ref a]∧SqL K H a (ns.map V.int)∧ns.length≤63∧∀ H',Q (.bl true) H'
theorem Fv {f:Addr} {fd:FuncData} (F:Fun K "law" "law" (top 79) f fd) (BT:Bt mg) (NE:bh (CX1 P w)) (cV:Cal P w K mg base (CX1 P w) "_law_hand" 1 ["_law_script", "_law_k"] (nJ K)) (aH:Cal P w K mg base (CX1 P w) "_law_pick" 11 ["_law_hand_here", "_law_many"] fJ) (jF:Cal P w K mg base (CX1 P w) "_law_settings" 12 ["_law_cell", "_law_sound"] (yG C CS)) (oU:Cal P w K mg base (CX1 P w) "_law_names" 12 ["_law_cell", "_law_many"] u0) (eO:Cal P w K mg base (CX1 P w) "_law_number" 12 ["_law_cell"] iY)
  (iE:uH P w K mg base (CX1 P w) "Hand" CH 5 ["self", "name", "settings", "lines"] (gw CH)) (tX:Mak P w K mg base (CX1 P w) "Post" CP 1 ["self"] (rY CP)) (jc:uH P w K mg base (CX1 P w) "Lender" CL 2 ["self", "settings", "grants"] (gv CL)) (oV:Cal P w K mg base (CX1 P w) "_law_begun" 13 ["_law_post", "_law_hands", "_law_cell"] (mj K C CS CH CL CP)) (iQ:Cal P w K mg base (CX1 P w) "_law_state" 2 ["_law_post", "_law_hands", "_law_lender"] (pT K C CS CH CL CP)) (uz:Cal P w K mg base (CX1 P w) "_law_due" 4 ["_law_post", "_law_number_here", "_law_hands"] (vc K C CS CH CL CP))
  (kX:Cal P w K mg base (CX1 P w) "_law_hand_of" 4 ["_law_post", "_law_number_here", "_law_hands"] (l8 K C CS CH CL CP)) (rC:Cal P w K mg base (CX1 P w) "_law_read" 9 ["_law_post", "_law_number_here", "_law_hand_here", "_law_lender"] (pU K C CS CH CL CP)) (bY:bz P w K mg base (CX1 P w) CP "sent" 1 ["self"] (jQ CP)) (bP:bz P w K mg base (CX1 P w) CH "is_up" 1 ["self"] (jV C CS CH)) (gj:bz P w K mg base (CX1 P w) CH "fall" 6 ["self"] (sf C CS CH CD)) (gf:bz P w K mg base (CX1 P w) CH "rise" 6 ["self"] (rX C CS CH CU)):eE P w K mg base (CX1 P w) 15 f fd ["_law_script"] (Ek K):=by
 have S:=E8
 refine kN F S (fun vs H Q E h=>?_) (fun f cdv A outer s H vs Q E hr h=>?_)
 ·obtain ⟨a,ns,rfl,_⟩:=h
  rfl
 obtain ⟨a,nn,rfl,hS,h63,q⟩:=h
 refine ⟨_,(@ak _ _ _ _ _ (@aM _ _ 1 _ _ _ _ S.nd rfl (by first | exact Or.inl rfl | exact Or.inr rfl) (@aI _ _ _ _ _ _ _ _ _ _ _ _ jF (hr.mono (by first | decide | omega)) NE.pass (@aa _ _ _ _ _ (@aI _ _ _ _ _ _ _ _ _ _ _ _ cV (hr.mono (by first | decide | omega)) NE.pass (@aa _ _ _ _ _ (@pv _ 0 _ _ (by rfl) (by first | exact Or.inl rfl | exact Or.inr (Or.inl rfl) | exact Or.inr (Or.inr rfl)) (by decide) (by decide)) (@aa _ _ _ _ _ (@ai _ _ _ _) (@ah _) (by rfl)) (by rfl)) (by rfl) (by decide) (by rfl) (by rfl)) (@aa _ _ _ _ _ (@dS _ _ _ _) (@ah _) (by rfl)) (by rfl)) (by rfl) (by decide) (by rfl) (by rfl)) (by rfl) (by first | exact .inl rfl | exact .inr rfl | assumption)) (@ak _ _ _ _ _ (@aM _ _ 2 _ _ _ _ S.nd rfl (by first | exact Or.inl rfl | exact Or.inr rfl) (@aI _ _ _ _ _ _ _ _ _ _ _ _ cV (hr.mono (by first | decide | omega)) NE.pass (@aa _ _ _ _ _ (@pv _ 0 _ _ (by rfl) (by first | exact Or.inl rfl | exact Or.inr (Or.inl rfl) | exact Or.inr (Or.inr rfl)) (by decide) (by decide)) (@aa _ _ _ _ _ (@ai _ _ _ _) (@ah _) (by rfl)) (by rfl)) (by rfl) (by decide) (by rfl) (by rfl)) (by rfl) (by first | exact .inl rfl | exact .inr rfl | assumption)) (@ak _ _ _ _ _ (@aM _ _ 3 _ _ _ _ S.nd rfl (by first | exact Or.inl rfl | exact Or.inr rfl) (@aI _ _ _ _ _ _ _ _ _ _ _ _ oU (hr.mono (by first | decide | omega)) NE.pass (@aa _ _ _ _ _ (@pv _ 2 _ _ (by rfl) (by first | exact Or.inl rfl | exact Or.inr (Or.inl rfl) | exact Or.inr (Or.inr rfl)) (by decide) (by decide)) (@aa _ _ _ _ _ (@aL _ _ _ _ _ _ _ _ (@bB _) (@ai _ _ _ _) (@aI _ _ _ _ _ _ _ _ _ _ _ _ aH (hr.mono (by first | decide | omega)) NE.pass (@aa _ _ _ _ _ (@pv _ 2 _ _ (by rfl) (by first | exact Or.inl rfl | exact Or.inr (Or.inl rfl) | exact Or.inr (Or.inr rfl)) (by decide) (by decide)) (@aa _ _ _ _ _ (@ai _ _ _ _) (@ah _) (by rfl)) (by rfl)) (by rfl) (by decide) (by rfl) (by rfl))) (@ah _) (by rfl)) (by rfl)) (by rfl) (by decide) (by rfl) (by rfl)) (by rfl) (by first | exact .inl rfl | exact .inr rfl | assumption)) (@ak _ _ _ _ _ (@j6 _ _ _ _ _ _ _ _ _ _ (bK 0) _ _ 4 _ _ _ rfl S.nd rfl (by first | exact Or.inl rfl | exact Or.inr rfl) (@cA _ _ _ _ (@pv _ 3 _ _ (by rfl) (by first | exact Or.inl rfl | exact Or.inr (Or.inl rfl) | exact Or.inr (Or.inr rfl)) (by decide) (by decide))) (@f9 _ _ ["_law_name"] [1] (aj (top 79)).names ["_law_script", "_law_settings_here", "_law_cell", "_law_names_here", "_law_hands", "_law_lender", "_law_post", "_law_k", "_law_hand_here", "_law_number_here", "_law_before", "_law_due_here"] rfl rfl rfl (by decide +kernel)) (fun _ _ _ _=>(@bV _ _ 0 _ (show (kY ["_law_script", "_law_settings_here", "_law_cell", "_law_names_here", "_law_hands", "_law_lender", "_law_post", "_law_k", "_law_hand_here", "_law_number_here", "_law_before", "_law_due_here"] ["_law_name"] [1]).Nodup by decide +kernel) rfl (by first | exact Or.inl rfl | exact Or.inr rfl) (by first | exact .inl rfl | exact .inr rfl | assumption))) (fun _ _ _ _=>(@eT _)) (fun _ _ _ _=>(zF iE (hr.mono (by first | decide | omega)) NE.pass (@aa _ _ _ _ _ (@pv _ 0 _ _ (by rfl) (by first | exact Or.inl rfl | exact Or.inr (Or.inl rfl) | exact Or.inr (Or.inr rfl)) (by decide) (by decide)) (@aa _ _ _ _ _ (@pv _ 1 _ _ (by rfl) (by first | exact Or.inl rfl | exact Or.inr (Or.inl rfl) | exact Or.inr (Or.inr rfl)) (by decide) (by decide)) (@ah _) (by rfl)) (by rfl)))) (by with_unfolding_all rfl) (by first | exact .inl rfl | exact .inr rfl | assumption) (by intro _;rfl)) (@ak _ _ _ _ _ (@aM _ _ 5 _ _ _ _ S.nd rfl (by first | exact Or.inl rfl | exact Or.inr rfl) (zF jc (hr.mono (by first | decide | omega)) NE.pass (@aa _ _ _ _ _ (@pv _ 1 _ _ (by rfl) (by first | exact Or.inl rfl | exact Or.inr (Or.inl rfl) | exact Or.inr (Or.inr rfl)) (by decide) (by decide)) (@ah _) (by rfl))) (by rfl) (by first | exact .inl rfl | exact .inr rfl | assumption)) (@ak _ _ _ _ _ (@aM _ _ 6 _ _ _ _ S.nd rfl (by first | exact Or.inl rfl | exact Or.inr rfl) (@Fd _ _ _ _ _ _ _ _ _ _ tX (hr.mono (by first | decide | omega)) NE.pass (by rfl) (by decide)) (by rfl) (by first | exact .inl rfl | exact .inr rfl | assumption)) (@ak _ _ _ _ _ (@bE _ _ _ _ (@aI _ _ _ _ _ _ _ _ _ _ _ _ oV (hr.mono (by first | decide | omega)) NE.pass (@aa _ _ _ _ _ (@pv _ 6 _ _ (by rfl) (by first | exact Or.inl rfl | exact Or.inr (Or.inl rfl) | exact Or.inr (Or.inr rfl)) (by decide) (by decide)) (@aa _ _ _ _ _ (@pv _ 4 _ _ (by rfl) (by first | exact Or.inl rfl | exact Or.inr (Or.inl rfl) | exact Or.inr (Or.inr rfl)) (by decide) (by decide)) (@aa _ _ _ _ _ (@aI _ _ _ _ _ _ _ _ _ _ _ _ cV (hr.mono (by first | decide | omega)) NE.pass (@aa _ _ _ _ _ (@pv _ 0 _ _ (by rfl) (by first | exact Or.inl rfl | exact Or.inr (Or.inl rfl) | exact Or.inr (Or.inr rfl)) (by decide) (by decide)) (@aa _ _ _ _ _ (@ai _ _ _ _) (@ah _) (by rfl)) (by rfl)) (by rfl) (by decide) (by rfl) (by rfl)) (@ah _) (by rfl)) (by rfl)) (by rfl)) (by rfl) (by decide) (by rfl) (by rfl)) (by rfl)) (@ak _ _ _ _ _ (@fN _ _ _ _ _ _ _ _ PassesOwn.never rfl (@wM _ _ _ _ _ _ _ rfl BT.range (@aa _ _ _ _ _ (@ai _ _ _ _) (@aa _ _ _ _ _ (@aX _ _ _ _ _ _ _ _ _ (@ET _ rfl) rfl BT.min L3.uB (@aa _ _ _ _ _ (@ai _ _ _ _) (@aa _ _ _ _ _ (@aX _ _ _ _ _ _ _ _ _ (@eK _) rfl BT.len L3.cS (@aa _ _ _ _ _ (@pv _ 0 _ _ (by rfl) (by first | exact Or.inl rfl | exact Or.inr (Or.inl rfl) | exact Or.inr (Or.inr rfl)) (by decide) (by decide)) (@ah _) (by rfl)) (by decide) (by decide) (by rfl) (by rfl)) (@ah _) (by rfl)) (by rfl)) (by decide) (by decide) (by rfl) (by rfl)) (@ah _) (by rfl)) (by rfl)) (by rfl) (by rfl)) (@bV _ _ 7 _ S.nd rfl (by first | exact Or.inl rfl | exact Or.inr rfl) (by first | exact .inl rfl | exact .inr rfl | assumption)) (@ak _ _ _ _ _ (@aM _ _ 2 _ _ _ _ S.nd rfl (by first | exact Or.inl rfl | exact Or.inr rfl) (@aI _ _ _ _ _ _ _ _ _ _ _ _ cV (hr.mono (by first | decide | omega)) NE.pass (@aa _ _ _ _ _ (@pv _ 0 _ _ (by rfl) (by first | exact Or.inl rfl | exact Or.inr (Or.inl rfl) | exact Or.inr (Or.inr rfl)) (by decide) (by decide)) (@aa _ _ _ _ _ (@pv _ 7 _ _ (by rfl) (by first | exact Or.inl rfl | exact Or.inr (Or.inl rfl) | exact Or.inr (Or.inr rfl)) (by decide) (by decide)) (@ah _) (by rfl)) (by rfl)) (by rfl) (by decide) (by rfl) (by rfl)) (by rfl) (by first | exact .inl rfl | exact .inr rfl | assumption)) (@ak _ _ _ _ _ (@aM _ _ 8 _ _ _ _ S.nd rfl (by first | exact Or.inl rfl | exact Or.inr rfl) (@az _ _ _ _ _ _ _ (@bA _) (@pv _ 4 _ _ (by rfl) (by first | exact Or.inl rfl | exact Or.inr (Or.inl rfl) | exact Or.inr (Or.inr rfl)) (by decide) (by decide)) (@aI _ _ _ _ _ _ _ _ _ _ _ _ aH (hr.mono (by first | decide | omega)) NE.pass (@aa _ _ _ _ _ (@pv _ 2 _ _ (by rfl) (by first | exact Or.inl rfl | exact Or.inr (Or.inl rfl) | exact Or.inr (Or.inr rfl)) (by decide) (by decide)) (@aa _ _ _ _ _ (@aX _ _ _ _ _ _ _ _ _ (@eK _) rfl BT.len L3.cS (@aa _ _ _ _ _ (@pv _ 4 _ _ (by rfl) (by first | exact Or.inl rfl | exact Or.inr (Or.inl rfl) | exact Or.inr (Or.inr rfl)) (by decide) (by decide)) (@ah _) (by rfl)) (by decide) (by decide) (by rfl) (by rfl)) (@ah _) (by rfl)) (by rfl)) (by rfl) (by decide) (by rfl) (by rfl)) (fun _ _=>rfl)) (by rfl) (by first | exact .inl rfl | exact .inr rfl | assumption)) (@ak _ _ _ _ _ (@bq _ _ _ _ _ _ _ _ (@aO _ _ _ _ _ _ _ _ (@bX _) (@aI _ _ _ _ _ _ _ _ _ _ _ _ aH (hr.mono (by first | decide | omega)) NE.pass (@aa _ _ _ _ _ (@pv _ 2 _ _ (by rfl) (by first | exact Or.inl rfl | exact Or.inr (Or.inl rfl) | exact Or.inr (Or.inr rfl)) (by decide) (by decide)) (@aa _ _ _ _ _ (@ai _ _ _ _) (@ah _) (by rfl)) (by rfl)) (by rfl) (by decide) (by rfl) (by rfl)) (@ai _ _ _ _) (@aQ _ _ (by decide) (by decide))) (@ao _ _ _ (@bq _ _ _ _ _ _ _ _ (@bZ _ _ _ (@bW _ _ _ _ _ _ _ _ _ _ _ _ _ bP (hr.mono (by first | decide | omega)) NE.pass (@pv _ 8 _ _ (by rfl) (by first | exact Or.inl rfl | exact Or.inr (Or.inl rfl) | exact Or.inr (Or.inr rfl)) (by decide) (by decide)) (by rfl)) (by intro _;rfl)) (@ao _ _ _ (@bE _ _ _ _ (@bW _ _ _ _ _ _ _ _ _ _ _ _ _ gj (hr.mono (by first | decide | omega)) NE.pass (@pv _ 8 _ _ (by rfl) (by first | exact Or.inl rfl | exact Or.inr (Or.inl rfl) | exact Or.inr (Or.inr rfl)) (by decide) (by decide)) (by rfl)) (by rfl))) (@ao _ _ _ (@bE _ _ _ _ (@bW _ _ _ _ _ _ _ _ _ _ _ _ _ gf (hr.mono (by first | decide | omega)) NE.pass (@pv _ 8 _ _ (by rfl) (by first | exact Or.inl rfl | exact Or.inr (Or.inl rfl) | exact Or.inr (Or.inr rfl)) (by decide) (by decide)) (by rfl)) (by rfl))))) (@aJ _)) (@ak _ _ _ _ _ (@aM _ _ 9 _ _ _ _ S.nd rfl (by first | exact Or.inl rfl | exact Or.inr rfl) (@aI _ _ _ _ _ _ _ _ _ _ _ _ aH (hr.mono (by first | decide | omega)) NE.pass (@aa _ _ _ _ _ (@pv _ 2 _ _ (by rfl) (by first | exact Or.inl rfl | exact Or.inr (Or.inl rfl) | exact Or.inr (Or.inr rfl)) (by decide) (by decide)) (@aa _ _ _ _ _ (@aL _ _ _ _ _ _ _ _ (@bB _) (@aX _ _ _ _ _ _ _ _ _ (@eK _) rfl BT.len L3.cS (@aa _ _ _ _ _ (@bW _ _ _ _ _ _ _ _ _ _ _ _ _ bY (hr.mono (by first | decide | omega)) NE.pass (@pv _ 6 _ _ (by rfl) (by first | exact Or.inl rfl | exact Or.inr (Or.inl rfl) | exact Or.inr (Or.inr rfl)) (by decide) (by decide)) (by rfl)) (@ah _) (by rfl)) (by decide) (by decide) (by rfl) (by rfl)) (@ai _ _ _ _)) (@ah _) (by rfl)) (by rfl)) (by rfl) (by decide) (by rfl) (by rfl)) (by rfl) (by first | exact .inl rfl | exact .inr rfl | assumption)) (@ak _ _ _ _ _ (@bq _ _ _ _ _ _ _ _ (@aO _ _ _ _ _ _ _ _ (@bX _) (@aI _ _ _ _ _ _ _ _ _ _ _ _ aH (hr.mono (by first | decide | omega)) NE.pass (@aa _ _ _ _ _ (@pv _ 2 _ _ (by rfl) (by first | exact Or.inl rfl | exact Or.inr (Or.inl rfl) | exact Or.inr (Or.inr rfl)) (by decide) (by decide)) (@aa _ _ _ _ _ (@ai _ _ _ _) (@ah _) (by rfl)) (by rfl)) (by rfl) (by decide) (by rfl) (by rfl)) (@ai _ _ _ _) (@aQ _ _ (by decide) (by decide))) (@ao _ _ _ (@aM _ _ 9 _ _ _ _ S.nd rfl (by first | exact Or.inl rfl | exact Or.inr rfl) (@az _ _ _ _ _ _ _ (@bA _) (@bM _ _ _ _ (@aa _ _ _ _ _ (@aL _ _ _ _ _ _ _ _ (@i9 _) (@ai _ _ _ _) (@pv _ 9 _ _ (by rfl) (by first | exact Or.inl rfl | exact Or.inr (Or.inl rfl) | exact Or.inr (Or.inr rfl)) (by decide) (by decide))) (@aa _ _ _ _ _ (@aL _ _ _ _ _ _ _ _ (@bB _) (@aL _ _ _ _ _ _ _ _ (@bB _) (@aX _ _ _ _ _ _ _ _ _ (@eK _) rfl BT.len L3.cS (@aa _ _ _ _ _ (@bW _ _ _ _ _ _ _ _ _ _ _ _ _ bY (hr.mono (by first | decide | omega)) NE.pass (@pv _ 6 _ _ (by rfl) (by first | exact Or.inl rfl | exact Or.inr (Or.inl rfl) | exact Or.inr (Or.inr rfl)) (by decide) (by decide)) (by rfl)) (@ah _) (by rfl)) (by decide) (by decide) (by rfl) (by rfl)) (@ai _ _ _ _)) (@aI _ _ _ _ _ _ _ _ _ _ _ _ eO (hr.mono (by first | decide | omega)) NE.pass (@aa _ _ _ _ _ (@pv _ 2 _ _ (by rfl) (by first | exact Or.inl rfl | exact Or.inr (Or.inl rfl) | exact Or.inr (Or.inr rfl)) (by decide) (by decide)) (@ah _) (by rfl)) (by rfl) (by decide) (by rfl) (by rfl))) (@ah _) (by rfl)) (by rfl))) (@aI _ _ _ _ _ _ _ _ _ _ _ _ aH (hr.mono (by first | decide | omega)) NE.pass (@aa _ _ _ _ _ (@pv _ 2 _ _ (by rfl) (by first | exact Or.inl rfl | exact Or.inr (Or.inl rfl) | exact Or.inr (Or.inr rfl)) (by decide) (by decide)) (@aa _ _ _ _ _ (@ai _ _ _ _) (@ah _) (by rfl)) (by rfl)) (by rfl) (by decide) (by rfl) (by rfl)) (fun _ _=>rfl)) (by rfl) (by first | exact .inl rfl | exact .inr rfl | assumption))) (@aJ _)) (@ak _ _ _ _ _ (@aM _ _ 10 _ _ _ _ S.nd rfl (by first | exact Or.inl rfl | exact Or.inr rfl) (@aI _ _ _ _ _ _ _ _ _ _ _ _ iQ (hr.mono (by first | decide | omega)) NE.pass (@aa _ _ _ _ _ (@pv _ 6 _ _ (by rfl) (by first | exact Or.inl rfl | exact Or.inr (Or.inl rfl) | exact Or.inr (Or.inr rfl)) (by decide) (by decide)) (@aa _ _ _ _ _ (@pv _ 4 _ _ (by rfl) (by first | exact Or.inl rfl | exact Or.inr (Or.inl rfl) | exact Or.inr (Or.inr rfl)) (by decide) (by decide)) (@aa _ _ _ _ _ (@pv _ 5 _ _ (by rfl) (by first | exact Or.inl rfl | exact Or.inr (Or.inl rfl) | exact Or.inr (Or.inr rfl)) (by decide) (by decide)) (@ah _) (by rfl)) (by rfl)) (by rfl)) (by rfl) (by decide) (by rfl) (by rfl)) (by rfl) (by first | exact .inl rfl | exact .inr rfl | assumption)) (@ak _ _ _ _ _ (@aM _ _ 11 _ _ _ _ S.nd rfl (by first | exact Or.inl rfl | exact Or.inr rfl) (@aI _ _ _ _ _ _ _ _ _ _ _ _ uz (hr.mono (by first | decide | omega)) NE.pass (@aa _ _ _ _ _ (@pv _ 6 _ _ (by rfl) (by first | exact Or.inl rfl | exact Or.inr (Or.inl rfl) | exact Or.inr (Or.inr rfl)) (by decide) (by decide)) (@aa _ _ _ _ _ (@pv _ 9 _ _ (by rfl) (by first | exact Or.inl rfl | exact Or.inr (Or.inl rfl) | exact Or.inr (Or.inr rfl)) (by decide) (by decide)) (@aa _ _ _ _ _ (@pv _ 4 _ _ (by rfl) (by first | exact Or.inl rfl | exact Or.inr (Or.inl rfl) | exact Or.inr (Or.inr rfl)) (by decide) (by decide)) (@ah _) (by rfl)) (by rfl)) (by rfl)) (by rfl) (by decide) (by rfl) (by rfl)) (by rfl) (by first | exact .inl rfl | exact .inr rfl | assumption)) (@ak _ _ _ _ _ (@bq _ _ _ _ _ _ _ _ (@aO _ _ _ _ _ _ _ _ (@qu _) (@aI _ _ _ _ _ _ _ _ _ _ _ _ rC (hr.mono (by first | decide | omega)) NE.pass (@aa _ _ _ _ _ (@pv _ 6 _ _ (by rfl) (by first | exact Or.inl rfl | exact Or.inr (Or.inl rfl) | exact Or.inr (Or.inr rfl)) (by decide) (by decide)) (@aa _ _ _ _ _ (@pv _ 9 _ _ (by rfl) (by first | exact Or.inl rfl | exact Or.inr (Or.inl rfl) | exact Or.inr (Or.inr rfl)) (by decide) (by decide)) (@aa _ _ _ _ _ (@aI _ _ _ _ _ _ _ _ _ _ _ _ kX (hr.mono (by first | decide | omega)) NE.pass (@aa _ _ _ _ _ (@pv _ 6 _ _ (by rfl) (by first | exact Or.inl rfl | exact Or.inr (Or.inl rfl) | exact Or.inr (Or.inr rfl)) (by decide) (by decide)) (@aa _ _ _ _ _ (@pv _ 9 _ _ (by rfl) (by first | exact Or.inl rfl | exact Or.inr (Or.inl rfl) | exact Or.inr (Or.inr rfl)) (by decide) (by decide)) (@aa _ _ _ _ _ (@pv _ 4 _ _ (by rfl) (by first | exact Or.inl rfl | exact Or.inr (Or.inl rfl) | exact Or.inr (Or.inr rfl)) (by decide) (by decide)) (@ah _) (by rfl)) (by rfl)) (by rfl)) (by rfl) (by decide) (by rfl) (by rfl)) (@aa _ _ _ _ _ (@pv _ 5 _ _ (by rfl) (by first | exact Or.inl rfl | exact Or.inr (Or.inl rfl) | exact Or.inr (Or.inr rfl)) (by decide) (by decide)) (@ah _) (by rfl)) (by rfl)) (by rfl)) (by rfl)) (by rfl) (by decide) (by rfl) (by rfl)) (@pv _ 11 _ _ (by rfl) (by first | exact Or.inl rfl | exact Or.inr (Or.inl rfl) | exact Or.inr (Or.inr rfl)) (by decide) (by decide)) (@aQ _ _ (by decide) (by decide))) (@ao _ _ _ (@au _ _ _ _ (@dS _ _ _ _))) (@aJ _)) (@ao _ _ _ (@bq _ _ _ _ _ _ _ _ (@PW.pt _ _ _ (@nY _ _ _ _ _ _ _ (@aO _ _ _ _ _ _ _ _ (@qu _) (@pv _ 11 _ _ (by rfl) (by first | exact Or.inl rfl | exact Or.inr (Or.inl rfl) | exact Or.inr (Or.inr rfl)) (by decide) (by decide)) (@aV _ _ _ _) (@aQ _ _ (by decide) (by decide))) (@jM _ _ _ _ (@aO _ _ _ _ _ _ _ _ (@Fl _ (hr.mono (Nat.zero_le _))) (@aI _ _ _ _ _ _ _ _ _ _ _ _ iQ (hr.mono (by first | decide | omega)) NE.pass (@aa _ _ _ _ _ (@pv _ 6 _ _ (by rfl) (by first | exact Or.inl rfl | exact Or.inr (Or.inl rfl) | exact Or.inr (Or.inr rfl)) (by decide) (by decide)) (@aa _ _ _ _ _ (@pv _ 4 _ _ (by rfl) (by first | exact Or.inl rfl | exact Or.inr (Or.inl rfl) | exact Or.inr (Or.inr rfl)) (by decide) (by decide)) (@aa _ _ _ _ _ (@pv _ 5 _ _ (by rfl) (by first | exact Or.inl rfl | exact Or.inr (Or.inl rfl) | exact Or.inr (Or.inr rfl)) (by decide) (by decide)) (@ah _) (by rfl)) (by rfl)) (by rfl)) (by rfl) (by decide) (by rfl) (by rfl)) (@pv _ 10 _ _ (by rfl) (by first | exact Or.inl rfl | exact Or.inr (Or.inl rfl) | exact Or.inr (Or.inr rfl)) (by decide) (by decide)) (@aQ _ _ (by decide) (by decide)))))) (@ao _ _ _ (@au _ _ _ _ (@dS _ _ _ _))) (@aJ _))))))))))) (by intro _;rfl)) (@ao _ _ _ (@au _ _ _ _ (@dS _ _ _ _))))))))))),?_⟩
 try dsimp only [aZ]
 have hnl:(nn.map V.int).length=nn.length:=List.length_map ..
 have L:=Led.start H (fun _=>False)
 walk_at "go"
 refine ie L hS h63 (by decide) fun p0 H1 n0 L s1=>?_
 have h2:=bw.at (L.at_ (p0,bw _) (by walk_at "mem"))
 clear L
 walk_at "go"
 refine ⟨p0,_,_,rfl,h2,by decide,fun ps sp c n far room term ws H3 hsg hstn o3=>?_⟩
 have s3:aK H H3:=o3.same s1 n0
 obtain ⟨n,rfl⟩:∃ k:Nat,n=(k:Int):=Int.eq_ofNat_of_zero_le (by have:=hsg.2.2.s1;omega)
 have L:=Led.start H3 (fun _=>False)
 walk_at "go"
 refine ie L (s3.seq hS) h63 (by decide) fun p1 H4 n1' L s4=>?_
 walk_at "go"
 refine br L .head (by decide) (by decide) (by decide) fun r1 H5 y0 y1 L ch1=>?_
 have h5:=bw.at (L.at_ (p1,bw _) (by walk_at "mem"))
 have s5:=L.same
 clear L
 walk_at "go"
 refine ⟨p1,_,2+r1,rfl,h5,by decide,by omega,by omega,fun nq ns H6 nnq hnq n1 n10 nn2 nod nem _ o6=>?_⟩
 have s6:aK H3 H6:=o6.same s5 n1'
 have s36:=s3.trans s6
 have IF:=hsg.same s6
 walk_at "go"
 refine c9 (SqL.of hnq) ?_
 refine fB (ns.map V.str) (fun i ys Hx=>∃ hs,ys=hsV hs∧Hv C CS CH H6 Hx hs∧hs.map (·.d.nm)=ns.take i∧(∀ y∈hs,y.ls=[])) ⟨[],rfl,⟨aK.refl _,(fun _ h=>by simp at h),(fun _ h=>by simp at h),List.Pairwise.nil,(fun _ h=>by simp at h)⟩,rfl,(fun _ h=>by simp at h)⟩ (fun i ys Hx hi ⟨hs,e,VV,en,_⟩=>⟨SqL.of (VV.sm _ _ hnq),by
  rw [e,fq]
  have:=congrArg List.length en
  rw [List.length_map,List.length_take] at this
  exact Nat.le_of_lt (small1000 (by omega))⟩) ?_ ?_
 ·rintro i v ys Hx hv ⟨hs,rfl,VV,en,el⟩
  rw [List.getElem?_map] at hv
  cases hz:ns[i]? with
  | none=>rw [hz] at hv;cases hv
  | some z=>
   rw [hz] at hv
   cases Option.some.inj hv
   try dsimp only [bK]
   walk_at "go"
   refine vN ?_
   walk_at "go"
   refine rT (v:=.non) (ls:=[]) (.inl ⟨rfl,rfl⟩) (fun _ h=>(by simp at h)) (fun _ h=>(by simp at h)) (by decide) (IF.same VV.sm) fun x2 l2 H7 nx2 nl2 hd7 s7=>?_
   refine ⟨hs++[⟨⟨x2,l2,ps,sp,z,c,n,far,room,term,ws⟩,[],some (max (nt []).hd (nt []).hr,0)⟩],by unfold hsV;rw [List.map_append];rfl,VV.snoc s7 nx2 nl2 hd7 ⟨fun _ h=>(by simp at h),vF (Int.le_refl 0),Nat.zero_le _⟩,by rw [List.map_append,en,take_snoc hz];rfl,fun y hy=>?_⟩
   rcases List.mem_append.mp hy with hy | hy
   ·exact el y hy
   ·rw [List.mem_singleton.mp hy]
 ·rintro ys Hx ⟨hs,rfl,VV,en,el⟩ hl nhl
  rw [List.length_map,List.take_length] at en
  have s7:=bS nhl (HO.lst (hsV hs))
  have hhl:(upd Hx hl (.lst (hsV hs))) hl=some (.lst (hsV hs)):=ay
  have V7:=VV.same s7
  generalize upd Hx hl (.lst (hsV hs))=H7 at *
  walk_at "go"
  refine vN ?_
  walk_at "go"
  refine nk (K:=K) (v:=.non) (gs:=[]) (.inl ⟨rfl,rfl⟩) (fun _ h=>(by simp at h)) ((IF.same V7.sm).sg hstn) fun x1 l1 H8 nx1 nl1 hd8 s8=>?_
  walk_at "go"
  refine yi fun pp lp H9 npp nlp hpo s9=>?_
  have hsl:hs.length=ns.length:=by have:=congrArg List.length en;rwa [List.length_map] at this
  obtain ⟨d,ed,edl,I9⟩:∃ d:Ld,d.p=x1∧d.l=l1∧Ev K C CS CH CL CP H6 H9 hs d [] pp lp []:=by
   refine ⟨_,rfl,rfl,⟨(V7.sm.trans s8).trans s9,fun y hy=>((V7.hd y hy).same s8).same s9,V7.ok,V7.ne,fun y hy=>?_,V7.hn,hd8.same s9,⟨(fun _ h=>by simp at h),by decide⟩,cG V7.sm nl1,hpo,(fun _ h=>by simp at h),cG (V7.sm.trans s8) nlp,old_ne hd8.2.1 nlp⟩⟩
   have k:=(V7.hd y hy).2.1
   exact ⟨old_ne k nl1,old_ne (s8 _ _ k) nlp⟩
  have shl:Sep hs d lp hl:=by
   refine ⟨fun y hy=>?_,by rw [edl];exact old_ne hhl nl1,old_ne (s8 _ _ hhl) nlp⟩
   have k:=VV.hd y hy
   obtain ⟨⟨dw,sv,kp,_⟩,_⟩:=id k
   exact ⟨Ne.symm (old_ne kp nhl),Ne.symm (old_ne k.2.1 nhl)⟩
  subst ed
  have IL:=s9 _ _ (s8 _ _ hhl)
  have L:=Led.start H9 (fun _=>False)
  walk_at "go"
  refine ie L ((s36.trans I9.sm).seq hS) h63 (by decide) fun p2 H10 np2 L s10=>?_
  have F6:=bw.at (L.at_ (p2,bw _) (by walk_at "mem"))
  clear L
  walk_at "go"
  refine ⟨H6,hs,d,[],pp,lp,hl,p2,rfl,I9.same s10,s10 _ _ IL,shl,by omega,by omega,F6,cG I9.sm np2,old_ne IL np2,fun y hy=>nem _ (by rw [← en];exact List.mem_map.mpr ⟨y,hy,rfl⟩),by rw [en];exact nod,fun ts H11 I11 LK hhl11=>?_⟩
  walk_at "go"
  refine dc ((s36.trans I11.sm).seq hS) ?_
  rw [hnl]
  walk_at "go"
  refine AR (fun i σ Hx=>∃ (u2 u7 u8 u9 u10 u11:Option V) (hs1:List Hs) (gs:List Gr),σ=[some (.ref a),some (.ref ps),u2,some (.ref nq),some (.ref hl),some (.ref d.p),some (.ref pp),u7,u8,u9,u10,u11]∧Ev K C CS CH CL CP H6 Hx hs1 d gs pp lp ts∧hs1.map (·.d)=hs.map (·.d)∧Gi gs (100000000000000000000000000000+(i:Int) * 1000000000000)∧gs.length≤i∧(∀ y∈hs1,y.ls.length≤i)∧Hx hl=some (.lst (hsV hs))) ⟨_,_,_,_,_,_,hs,[],rfl,I11,rfl,⟨fun _ h=>by simp at h⟩,Nat.le_refl _,fun y hy=>by rw [el y hy];exact Nat.le_refl _,hhl11⟩ ?_ ?_
  ·rintro i σ Hx hin ⟨u2,u7,u8,u9,u10,u11,hs1,gs,rfl,Ix,em,G,lg,ll,hlx⟩
   have KA:i < 41:=by omega
   have hl1:=ou em
   have hV1:=An em
   have LK1:=LK.of em
   have JO:=shl.of em
   have L:=Led.start Hx (fun _=>False)
   try dsimp only [bK]
   walk_at "go"
   refine ie L ((s36.trans Ix.sm).seq hS) h63 (by omega) fun p H12 np L s12=>?_
   have np6:H6 p=none:=cG Ix.sm np
   have hlp:hl≠p:=old_ne hlx np
   walk_at "go"
   refine dc (SqL.of (s12 _ _ hlx)) ?_
   rw [fq]
   walk_at "go"
   refine br L .head (by omega) (Int.le_trans (show (hs.length:Int)≤10 by omega) (by decide)) (by decide) fun r2 H13 a0 a1 L _=>?_
   obtain ⟨k2,rfl⟩:=Int.eq_ofNat_of_zero_le a0
   obtain ⟨y,hy⟩:∃ y,hs1[k2]?=some y:=⟨_,List.getElem?_eq_getElem (by omega)⟩
   have hym:=List.mem_of_getElem? hy
   have I13:=Ix.same L.same
   have h13:=bw.at (L.at_ (p,bw _) (by walk_at "mem"))
   have IK:=L.same _ _ hlx
   clear L
   walk_at "go"
   refine d8 (SqL.of IK) (show atI (hsV hs) (k2:Int)=some (.ref y.d.p) by rw [← hV1];exact cj (tZ hy)) ?_
   walk_at "one"
   try dsimp only [bK]
   refine dD (fun σ Hz=>∃ hs2,σ=[some (.ref a),some (.ref ps),some (.ref p),some (.ref nq),some (.ref hl),some (.ref d.p),some (.ref pp),some (.int (3+(i:Int))),some (.ref y.d.p),u9,u10,u11]∧Ev K C CS CH CL CP H6 Hz hs2 d gs pp lp ts∧hs2.map (·.d)=hs.map (·.d)∧(∀ y∈hs2,y.ls.length≤i)∧Hz hl=some (.lst (hsV hs))∧aY Hz p 2048) (fun nx kk=>?_) ?_
   ·have L:=bT h13
    walk_at "go"
    refine br L .head (by decide) (by decide) (by decide) fun r3 H14 b0 b1 L _=>?_
    have I14:=I13.oth h13 np6 L.fr
    have h14:=bw.at (L.at_ (p,bw _) (by walk_at "mem"))
    have FW:=L.fr _ _ IK hlp
    clear L
    have Df:=I14.hd y hym
    have vI:=I14.ok y hym
    obtain ⟨⟨dy,sv,hpy,_⟩,_⟩:=id Df
    have nsy:=JO.1 y hym
    have cy:=(I14.JP h14).1 y hym
    have emy:∀ pl',(hs1.set k2 ⟨y.d,y.ls,pl'⟩).map (·.d)=hs.map (·.d):=fun pl'=>by rw [List.map_set,← em];exact set_same (by rw [List.getElem?_map,hy];rfl)
    have lly:∀ pl',∀ z∈hs1.set k2 ⟨y.d,y.ls,pl'⟩,z.ls.length≤i:=fun pl' z hz=>by
     rcases List.mem_or_eq_of_mem_set hz with hz | rfl
     ·exact ll z hz
     ·exact ll y hym
    walk_at "go"
    refine bN (fun c=>?_) (fun c=>?_)
    ·walk_at "go"
     refine aS hpy oF ?_
     walk_at "go"
     refine ⟨y.d,y.ls,y.pl,rfl,Df,?_⟩
     cases hpl:y.pl with
     | none=>
      walk_at "go"
      rw [if_neg (show ¬ ((none:Option (Int×Int)).isSome=true) from Bool.false_ne_true)]
      walk_at "go"
      refine aS hpy F2 ?_
      walk_at "go"
      refine ⟨y.d,y.ls,y.pl,rfl,Df,vI,fun z=>(by rw [hpl] at z;cases z),fun _ H15 hd15 f15=>?_⟩
      walk_at "go"
      exact kk _ _ ⟨_,rfl,I14.step hy f15 hd15 (vI.any (vF (Int.le_refl 0))),emy _,lly _,f15 _ _ FW nsy.1 nsy.2,(b6 h14 fun o e=>f15 _ _ e cy.1 cy.2).mono (by omega)⟩
     | some m=>
      walk_at "go"
      rw [if_pos (show (some m).isSome=true from rfl)]
      walk_at "go"
      refine aS hpy F5 ?_
      walk_at "go"
      refine ⟨y.d,y.ls,y.pl,rfl,Df,vI,fun z=>(by rw [hpl] at z;cases z),fun _ H15 hd15 f15=>?_⟩
      walk_at "go"
      exact kk _ _ ⟨_,rfl,I14.step hy f15 hd15 (vI.any (fun _ _ z=>nomatch z)),emy _,lly _,f15 _ _ FW nsy.1 nsy.2,(b6 h14 fun o e=>f15 _ _ e cy.1 cy.2).mono (by omega)⟩
    ·walk_at "go"
     exact kk _ _ ⟨hs1,rfl,I14,em,ll,FW,h14.mono (by omega)⟩
   rintro σ H15 ⟨hs2,rfl,I15,em2,ll2,hl15,h15⟩
   have hl2:=ou em2
   have LK2:=LK.of em2
   have JN:=shl.of em2
   have hV2:=An em2
   have htl:ts.length≤31:=by rw [LK.len];omega
   obtain ⟨⟨dx15,hpo15⟩,_⟩:=id I15.po
   walk_at "go"
   refine aS hpo15 kh ?_
   walk_at "go"
   refine ⟨pp,lp,_,rfl,I15.po,fun b16 H16 nb16 hb16 s16=>?_⟩
   walk_at "go"
   refine dc (SqL.of hb16) ?_
   rw [c8]
   have h16:aY H16 p _:=b6 h15 fun o e=>s16 _ _ e
   have L:=bT h16
   walk_at "go"
   refine br L .head (by omega) (Int.le_trans (show (ts.length:Int)+2≤40 by omega) (by decide)) (by decide) fun r4 H17 c0 c1 L _=>?_
   have I17:=(I15.same s16).oth h16 np6 L.fr
   have h17:=bw.at (L.at_ (p,bw _) (by walk_at "mem"))
   have Ke:=L.fr _ _ (s16 _ _ hl15) hlp
   clear L
   walk_at "one"
   try dsimp only [bK]
   refine dD (fun σ Hz=>∃ nn:Int,σ=[some (.ref a),some (.ref ps),some (.ref p),some (.ref nq),some (.ref hl),some (.ref d.p),some (.ref pp),some (.int (3+(i:Int))),some (.ref y.d.p),some (.int nn),u10,u11]∧Ev K C CS CH CL CP H6 Hz hs2 d gs pp lp ts∧Hz hl=some (.lst (hsV hs))∧-40≤nn∧nn < 10 ^ 40) (fun nx kk=>?_) ?_
   ·have L:=bT h17
    walk_at "go"
    refine br L .head (by decide) (by decide) (by decide) fun r5 H18 e0 e1 L _=>?_
    have I18:=I17.oth h17 np6 L.fr
    have h18:=bw.at (L.at_ (p,bw _) (by walk_at "mem"))
    have t6:=L.fr _ _ Ke hlp
    clear L
    walk_at "go"
    refine bN (fun c=>?_) (fun c=>?_)
    ·obtain ⟨⟨dx18,hpo18⟩,_⟩:=id I18.po
     walk_at "go"
     refine aS hpo18 kh ?_
     walk_at "go"
     refine ⟨pp,lp,_,rfl,I18.po,fun b19 H19 nb19 hb19 s19=>?_⟩
     walk_at "go"
     refine dc (SqL.of hb19) ?_
     rw [c8]
     have h19:aY H19 p _:=b6 h18 fun o e=>s19 _ _ e
     walk_at "go"
     refine ⟨p,_,rfl,h19,by decide,fun v H20 v0 v1 h20 o20=>?_⟩
     have I20:=(I18.same s19).oth h19 np6 o20
     have Kd:=o20 _ _ (s19 _ _ t6) hlp
     have L:=bT h20
     walk_at "go"
     refine br L' (by walk_at "put") (by decide) (by decide) (by decide) fun r6 H21 f0 f1 L _=>?_
     have I21:=I20.oth h20 np6 L.fr
     have Kc:=L.fr _ _ Kd hlp
     refine kH L .head f0 (by simp only [List.length_cons,List.length_nil];omega) fun w hw=>?_
     obtain ⟨nn,rfl,g0,g1⟩:∃ nn:Int,w = .int nn∧-40≤nn∧nn < 10 ^ 40:=by
      simp only [List.mem_cons,List.not_mem_nil,or_false] at hw
      rcases hw with rfl | rfl
      ·exact ⟨_,rfl,by omega,by omega⟩
      ·exact ⟨_,rfl,by omega,by omega⟩
     walk_at "go"
     exact kk _ _ ⟨nn,rfl,I21,Kc,g0,g1⟩
    ·walk_at "go"
     exact kk _ _ ⟨r4,rfl,I18,t6,by omega,by omega⟩
   rintro σ H18 ⟨nn,rfl,I18,t6,n0',n1''⟩
   walk_at "go"
   refine ⟨H6,hs2,d,gs,pp,lp,hl,ts,rfl,I18,by rw [hV2];exact t6,by omega,fun be H19 hbe s19=>?_⟩
   walk_at "go"
   refine ⟨H6,hs2,d,gs,pp,lp,hl,ts,nn,rfl,I18.same s19,by rw [hV2];exact s19 _ _ t6,by omega,⟨n0',n1''⟩,fun r H20 hr20 s20=>?_⟩
   have zm:=s19.trans s20
   walk_at "go"
   refine ⟨H6,hs2,d,gs,pp,lp,hl,ts,nn,rfl,I18.same zm,by rw [hV2];exact zm _ _ t6,by omega,by omega,fun hv H21 ho21 s21=>?_⟩
   have En:=zm.trans s21
   walk_at "go"
   refine ⟨H6,hs2,d,gs,pp,lp,ts,nn,_,hv,rfl,I18.same En,ho21,LK2,G,by omega,by omega,by omega,fun z hz=>Nat.le_trans (ll2 z hz) (by omega),⟨n0',n1''⟩,fun r' hs3 gs3 H22 hr22 I22 hsr G22 lg22 same22 keep22=>?_⟩
   obtain rfl:=hr20.inj hr22
   have FU:=keep22 _ _ JN (En _ _ t6)
   have em3:hs3.map (·.d)=hs.map (·.d):=hsr.d.trans em2
   have ll3:=hsr.l i ll2
   walk_at "go"
   refine kJ (fun c=>?_) (fun c=>?_)
   ·walk_at "go"
    exact ⟨_,_,_,_,_,_,hs3,gs3,rfl,I22,em3,G22.mono (by omega),by omega,ll3,FU⟩
   ·obtain ⟨rfl,rfl,sm22⟩:=same22 (fun z=>c (by rw [z];rfl))
    walk_at "go"
    refine ⟨H6,hs3,d,gs3,pp,lp,hl,ts,rfl,I22,by rw [hV2];exact FU,by omega,fun af H23 haf s23=>?_⟩
    walk_at "go"
    refine Gn haf (At.same (((s20.trans s21).trans sm22).trans s23) hbe) (E6 _ _ _) ?_
    walk_at "go"
    exact ⟨_,_,_,_,_,_,hs3,gs3,rfl,I22.same s23,em3,G22.mono (by omega),by omega,ll3,s23 _ _ FU⟩
  ·rintro σ Hx ⟨u2,u7,u8,u9,u10,u11,hs1,gs,rfl,Ix,em,G,lg,ll,hlx⟩
   walk_at "go"
   exact q _
end
open PySem.W in
theorem A0 {K:Frag} {h:Heap} {mg:Str→Option Value} {CD CN CA CU CE CR:Addr} (X:K.In h) (G:h.Ns mainGlobals mg) (WL:ExW K mg "NoLetter" "NoLetter.__init__" CE (inClass (top 10) 0) ["self", "number"]) (tk:takerIn K CE "number" = some none) (aE:nsIn K mainGlobals "NoLetter" = some (some (.ref CE))) (fL:findIn K (.ref CE) "number" = some none) (gD:fG K CD) (gN:fG K CN) (mL:exmOne K (.ref CE) (.ref CE)=some true) (kL:kitAny K (.ref CE) [.ref CD,.ref CA,.ref CN,.ref CU]=some false) (nD:exmOne K (.ref CD) (.ref CE)=some false) (mD:exmOne K (.ref CD) (.ref CR)=some true) (d0:kitOne K (.ref CD) (.ref CD)=some true) (d1:kitOne K (.ref CD) (.ref CN)=some false) (d2:kitOne K (.ref CD) (.ref CA)=some false) (d3:kitOne K (.ref CD) (.ref CU)=some false) (nN:exmOne K (.ref CN) (.ref CE)=some false) (mN:exmOne K (.ref CN) (.ref CR)=some true) (n0:kitOne K (.ref CN) (.ref CD)=some false) (n1:kitOne K (.ref CN) (.ref CN)=some true) (n2:kitOne K (.ref CN) (.ref CA)=some false) (n3:kitOne K (.ref CN) (.ref CU)=some false):∃ CE:Addr,ExW K mg "NoLetter" "NoLetter.__init__" CE (inClass (top 10) 0) ["self", "number"]∧pB K CE "number" ∧ mg "NoLetter" = some (.ref CE)∧ErR K CD CN CA CU CE CR:=
 ⟨CE,WL,WL.put tk,mg_of X G aE,⟨WL.get,mL,kL,WL.hd,fL,gD,nD,mD,d0,d1,d2,d3,gN,nN,mN,n0,n1,n2,n3⟩⟩
open PySem.W in
theorem yl {K:Frag} {h:Heap} {mg:Str→Option Value} {x:Str} {a:Addr} {dd:Option Addr} {its:Array Value} {n:Nat} {sl:Array (Option Value)} {xs:List V} (X:K.In h) (G:h.Ns mainGlobals mg)
  (n1:nsIn K mainGlobals x=some (some (.ref a))) (n2:K.lookup a=some ⟨.type "tuple",dd,.seq its n,sl⟩) (n3:Vals xs its.toList) (hz:its.size≤sizeLine):∃ aN,GlV mg x (.ref aN)∧∀ H,SqT K H aN xs:=
 ⟨a,⟨_,mg_of X G n1,rfl⟩,fun _=>.inr ⟨_,its,n,n2,rfl,rfl,hz,n3⟩⟩
end Law
open PySem PySem.W PyProof.Rows
local macro_rules | `(tactic| walk_at "dat")=>`(tactic| (dsimp only [L2.KOf];refine' L3.dat_mk KX G ?a ?l ?c ?k ?b;(case a=>k_is);(case l=>k_is);(case c=>k_is);(case k=>k_is);(case b=>first | exact (fun _ _ _ _ _ _ us hl=>match us,hl with | [_],_=>rfl) | exact (fun _ _ _ _ _ _ us hl=>match us,hl with | [_,_],_=>rfl) | exact (fun _ _ _ _ _ _ us hl=>match us,hl with | [_,_,_],_=>rfl) | exact (fun _ _ _ _ _ _ us hl=>match us,hl with | [_,_,_,_],_=>rfl) | exact (fun _ _ _ _ _ _ us hl=>match us,hl with | [_,_,_,_,_],_=>rfl))))
namespace PySem.W.Fast
def tw15275591265952452019 : Unit := ()
def tw9240218729790198646 : Unit := ()
def tw1931651028687674572 : Unit := ()
def tw4748339078752030938 : Unit := ()
def tw5818065351580750145 : Unit := ()
def tw11452846133961791733 : Unit := ()
def tw612034197639128533 : Unit := ()
def tw6187541452589664959 : Unit := ()
def tw18347625588043820693 : Unit := ()
def tw10226814242074106062 : Unit := ()
def tw13401071062805613951 : Unit := ()
def tw2636735991179290410 : Unit := ()
def tw3183705535592112475 : Unit := ()
def tw3922741562748557350 : Unit := ()
def tw13285075808445755278 : Unit := ()
def tw6486124328353661757 : Unit := ()
def tw12837097732405193483 : Unit := ()
def tw3812086235225229213 : Unit := ()
def tw14673056827686750689 : Unit := ()
def tw1789178643311055425 : Unit := ()
def tw17268585668066829121 : Unit := ()
def tw7636902488655432654 : Unit := ()
def tw6376497972633564345 : Unit := ()
def tw9641501613078420836 : Unit := ()
def tw487280837160612180 : Unit := ()
def tw16573149758846859960 : Unit := ()
def tw7658924947423854723 : Unit := ()
def tw17515903881589354039 : Unit := ()
def tw15604822844253809744 : Unit := ()
def tw6668803166839961659 : Unit := ()
def tw15317624859416706291 : Unit := ()
def tw13292899199455136838 : Unit := ()
def tw3224180725719433124 : Unit := ()
def tw13714707335794330242 : Unit := ()
def tw11403801252651104048 : Unit := ()
def tw11749793207549088559 : Unit := ()
def tw12051111727766154467 : Unit := ()
def tw5128186781980040522 : Unit := ()
def tw14517505919966704814 : Unit := ()
def tw5488627472586842888 : Unit := ()
def tw17610502158465135916 : Unit := ()
def tw503907113182510978 : Unit := ()
def tw6709251031808179934 : Unit := ()
def tw9410322094151734701 : Unit := ()
def tw14298315465548737115 : Unit := ()
def tw4886446058654615288 : Unit := ()
def tw5128719711190735783 : Unit := ()
def tw2585271006794440721 : Unit := ()
def tw140706141209161104 : Unit := ()
def tw1504957252354405952 : Unit := ()
def tw1331841125098427784 : Unit := ()
def tw14109595715070087901 : Unit := ()
def tw4677422995698611491 : Unit := ()
def tw11637086007836133664 : Unit := ()
def tw16936272679402666925 : Unit := ()
def tw12543587926614050513 : Unit := ()
def tw6503313496246193118 : Unit := ()
def tw6172211220995601340 : Unit := ()
def tw10240999189206137617 : Unit := ()
def tw8693780179116369118 : Unit := ()
def tw1115033931662970269 : Unit := ()
def tw5509951418842906138 : Unit := ()
def tw2332141580127305928 : Unit := ()
def tw8446813995653486256 : Unit := ()
def tw9385803812097277391 : Unit := ()
def tw17880601240319142163 : Unit := ()
def tw7094906290060883355 : Unit := ()
def tw10261955697670402691 : Unit := ()
def tw13963510561909796420 : Unit := ()
def tw7495736669485541458 : Unit := ()
def tw10736371357423144224 : Unit := ()
def tw13945178856388490895 : Unit := ()
def tw14432993724916493255 : Unit := ()
def tw15799371211211919173 : Unit := ()
def tw2575125578448204472 : Unit := ()
def tw2282994172842863864 : Unit := ()
def tw14913739071210328091 : Unit := ()
def tw2043701521246761178 : Unit := ()
def tw6824823770438361233 : Unit := ()
def tw11196484129460224643 : Unit := ()
def tw2875891477860440200 : Unit := ()
def tw6577354399833617267 : Unit := ()
def tw8382840083209360220 : Unit := ()
def tw12288946642047473070 : Unit := ()
def tw12118554250343547226 : Unit := ()
def tw605384112266016482 : Unit := ()
def tw1904020330391236365 : Unit := ()
def tw724642805977534671 : Unit := ()
def tw4645443691252863520 : Unit := ()
def tw16951267414242076701 : Unit := ()
def tw1965372438466106423 : Unit := ()
def tw7332557242016507467 : Unit := ()
def tw13813782327571549279 : Unit := ()
def tw8336006170584362813 : Unit := ()
def tw1966750063244682213 : Unit := ()
def tw5534498425537487560 : Unit := ()
def tw15612072361315946860 : Unit := ()
def tw18396436580138191176 : Unit := ()
def tw15762976383526120299 : Unit := ()
def tw3980796171712911530 : Unit := ()
def tw1491182615007424052 : Unit := ()
def tw4901009890261528995 : Unit := ()
def tw13543223921741420222 : Unit := ()
def tw15249782995849972578 : Unit := ()
def tw16994431835781663086 : Unit := ()
def tw16107938503861990331 : Unit := ()
def tw12041766617933324424 : Unit := ()
def tw7922611807446390423 : Unit := ()
def tw1644225322916558266 : Unit := ()
def tw11797723583087666031 : Unit := ()
def tw2111104654029944928 : Unit := ()
def tw12193915009689142695 : Unit := ()
def tw511430222721686696 : Unit := ()
def tw4218517532078049150 : Unit := ()
def tw4246263933662094694 : Unit := ()
def tw16963089491132504405 : Unit := ()
def tw3825041742449142878 : Unit := ()
def tw3779039799454840206 : Unit := ()
def tw1445482717385285874 : Unit := ()
def tw14508243196414377808 : Unit := ()
end PySem.W.Fast
set_option maxHeartbeats 0 in
theorem PySem.Challenge.cw_risemarks_k56_readings_refused_holds : PySem.Challenge.rw_risemarks_k56_readings_refused.Holds := by
 w_on;o_law;k_head;(case hw=>w_witness2)
 k_fill
 refine L4.yg (l:=PySem.Challenge.rw_risemarks_k56_readings_refused) (n:=63) (k:=15) (x:="_law_script") (CX:=L4.CX1) (sp:=Law.Ek) rfl (by decide) rfl ⟨rfl,by decide,by decide⟩ (fun w h Y=>PySem.W.kIn_of Y) ?F ?S ?C
 case S=>exact fun K H a ns hl hO hS=>⟨a,ns,rfl,hS,hl,fun _=>rfl⟩
 case C=>exact fun P w H s e s' z=>L4.tS _ _ _ _ _ z
 case F=>
  intro w mg fa h KX G hmg
  have BT:L3.Bt mg:=by
   refine' ⟨?_,?_,?_,?_,?_,?_,?_,?_,?_,?_,?_,?_,?_,?_,?_,?_,?_,?_⟩ <;> refine' PySem.W.mg_none_of KX G ?_ <;> k_is
  have uM:L3.Dat (L2.KOf KX) mg "is_whole" "is_whole" (Law.top 16) ["thing"]:=by walk_at "dat"
  have jH:L3.Dat (L2.KOf KX) mg "is_whole_from" "is_whole_from" (Law.top 17) ["thing", "least"]:=by walk_at "dat"
  have x9:L3.Dat (L2.KOf KX) mg "is_side" "is_side" (Law.top 18) ["thing"]:=by walk_at "dat"
  have xZ:L3.Dat (L2.KOf KX) mg "mark_of" "mark_of" (Law.top 20) ["shape", "moment", "slot", "count"]:=by walk_at "dat"
  have x8:L3.Dat (L2.KOf KX) mg "is_span" "is_span" (Law.top 42) ["thing", "least"]:=by walk_at "dat"
  have ya:L3.Dat (L2.KOf KX) mg "is_rule" "is_rule" (Law.top 43) ["thing"]:=by walk_at "dat"
  have rO:L3.Dat (L2.KOf KX) mg "are_rules" "are_rules" (Law.top 44) ["thing"]:=by walk_at "dat"
  have lz:L3.Dat (L2.KOf KX) mg "has_rule" "has_rule" (Law.top 46) ["settings", "word"]:=by walk_at "dat"
  have ng:L3.Dat (L2.KOf KX) mg "slot_of" "slot_of" (Law.top 22) ["area"]:=by walk_at "dat"
  have lB:L3.Dat (L2.KOf KX) mg "first_of" "first_of" (Law.top 23) ["area"]:=by walk_at "dat"
  have rN:L3.Dat (L2.KOf KX) mg "end_of" "end_of" (Law.top 24) ["area"]:=by walk_at "dat"
  have lC:L3.Dat (L2.KOf KX) mg "ended_at" "ended_at" (Law.top 25) ["area", "end"]:=by walk_at "dat"
  have xX:L3.Dat (L2.KOf KX) mg "read_on" "read_on" (Law.top 34) ["told", "line"]:=by walk_at "dat"
  have rK:L3.Dat (L2.KOf KX) mg "read_note" "read_note" (Law.top 35) ["lines"]:=by walk_at "dat"
  have uK:L3.Dat (L2.KOf KX) mg "tooks_of" "tooks_of" (Law.top 37) ["lines"]:=by walk_at "dat"
  have jt:L3.Dat (L2.KOf KX) mg "greatest_taken" "greatest_taken" (Law.top 38) ["lines"]:=by walk_at "dat"
  have uP:L3.Dat (L2.KOf KX) mg "bound_of" "bound_of" (Law.top 27) ["place"]:=by walk_at "dat"
  have Bp:L3.Dat (L2.KOf KX) mg "raised" "raised" (Law.top 28) ["place", "bound"]:=by walk_at "dat"
  have pC:L3.Dat (L2.KOf KX) mg "next_place" "next_place" (Law.top 29) ["shape", "place"]:=by walk_at "dat"
  have rM:L3.Dat (L2.KOf KX) mg "moment_at" "moment_at" (Law.top 30) ["area", "place", "reading"]:=by walk_at "dat"
  have HE:L3.Dat (L2.KOf KX) mg "made" "made" (Law.top 31) ["shape", "far", "area", "place", "reading"]:=by walk_at "dat"
  have yf:L3.Dat (L2.KOf KX) mg "area_in" "area_in" (Law.top 48) ["stand"]:=by walk_at "dat"
  have yb:L3.Dat (L2.KOf KX) mg "held_in" "held_in" (Law.top 49) ["stand"]:=by walk_at "dat"
  have uN:L3.Dat (L2.KOf KX) mg "heard_in" "heard_in" (Law.top 50) ["stand"]:=by walk_at "dat"
  have uL:L3.Dat (L2.KOf KX) mg "start_by" "start_by" (Law.top 51) ["note"]:=by walk_at "dat"
  have xY:L3.Dat (L2.KOf KX) mg "need_up" "need_up" (Law.top 52) ["place"]:=by walk_at "dat"
  have rL:L3.Dat (L2.KOf KX) mg "need_area" "need_area" (Law.top 53) ["area"]:=by walk_at "dat"
  have yd:L3.Dat (L2.KOf KX) mg "falling" "falling" (Law.top 54) ["stand"]:=by walk_at "dat"
  have Bo:L3.Dat (L2.KOf KX) mg "rising" "rising" (Law.top 55) ["stand"]:=by walk_at "dat"
  have Bm:L3.Dat (L2.KOf KX) mg "taking" "taking" (Law.top 56) ["settings", "stand", "grant", "area"]:=by walk_at "dat"
  have yc:L3.Dat (L2.KOf KX) mg "hearing" "hearing" (Law.top 59) ["settings", "stand", "bound"]:=by walk_at "dat"
  have jr:L3.Dat (L2.KOf KX) mg "mark_and_place" "mark_and_place" (Law.top 57) ["settings", "stand", "reading"]:=by walk_at "dat"
  have xW:L3.Dat (L2.KOf KX) mg "writing" "writing" (Law.top 58) ["settings", "stand", "reading"]:=by walk_at "dat"
  have ye:L3.Dat (L2.KOf KX) mg "area_of" "area_of" (Law.top 36) ["lines"]:=by walk_at "dat"
  have rR:L3.Dat (L2.KOf KX) mg "_law_hand" "_law_hand" (Law.top 68) ["_law_script", "_law_k"]:=by walk_at "dat"
  have rQ:L3.Dat (L2.KOf KX) mg "_law_pick" "_law_pick" (Law.top 69) ["_law_hand_here", "_law_many"]:=by walk_at "dat"
  have lA:L3.Dat (L2.KOf KX) mg "free_moments" "free_moments" (Law.top 63) ["slots", "grants"]:=by walk_at "dat"
  have uO:L3.Dat (L2.KOf KX) mg "for_whom" "for_whom" (Law.top 66) ["letter"]:=by walk_at "dat"
  have pD:L3.Dat (L2.KOf KX) mg "_law_whole" "_law_whole" (Law.top 70) ["_law_found"]:=by walk_at "dat"
  have pG:L3.Dat (L2.KOf KX) mg "_law_names" "_law_names" (Law.top 71) ["_law_cell", "_law_many"]:=by walk_at "dat"
  have lV:L3.Dat (L2.KOf KX) mg "_law_number" "_law_number" (Law.top 72) ["_law_cell"]:=by walk_at "dat"
  have jI:L3.Dat (L2.KOf KX) mg "_law_settings" "_law_settings" (Law.top 73) ["_law_cell", "_law_sound"]:=by walk_at "dat"
  have uQ:L3.Dat (L2.KOf KX) mg "_law_due" "_law_due" (Law.top 77) ["_law_post", "_law_number_here", "_law_hands"]:=by walk_at "dat"
  have lD:L3.Dat (L2.KOf KX) mg "_law_hand_of" "_law_hand_of" (Law.top 78) ["_law_post", "_law_number_here", "_law_hands"]:=by walk_at "dat"
  have pF:L3.Dat (L2.KOf KX) mg "_law_state" "_law_state" (Law.top 75) ["_law_post", "_law_hands", "_law_lender"]:=by walk_at "dat"
  have rP:L3.Dat (L2.KOf KX) mg "_law_read" "_law_read" (Law.top 74) ["_law_post", "_law_number_here", "_law_hand_here", "_law_lender"]:=by walk_at "dat"
  have pH:L3.Dat (L2.KOf KX) mg "_law_begun" "_law_begun" (Law.top 76) ["_law_post", "_law_hands", "_law_cell"]:=by walk_at "dat"
  have JI:L3.Dat (L2.KOf KX) mg "law" "law" (Law.top 79) ["_law_script"]:=by walk_at "dat"
  obtain ⟨C,D_Shape,nc,ns⟩:∃ C,L3.lW (L2.KOf KX) mg "Shape" "Shape.__init__" C (L2.inClass (Law.top 19) 0) ["self", "counts", "slots"]∧L2.aT (L2.KOf KX) C "counts" ∧ L2.aT (L2.KOf KX) C "slots" := by
   dsimp only [L2.KOf]
   refine' ⟨_,L3.vV KX G ?aC ?a ?i ?l ?c ?k ?pg ?hd ?po ?sa ?mk ?kc ?b,?n1,?n2⟩
   (case aC=>k_is);(case a=>k_is);(case i=>k_is);(case l=>k_is);(case c=>k_is);(case k=>k_is);(case pg=>k_is);(case hd=>k_is);(case po=>k_is);(case sa=>k_is);(case mk=>k_is);(case kc=>k_is)
   (case n1=>unfold L2.aT;k_is);(case n2=>unfold L2.aT;k_is)
   (case b=>exact fun _ _ _ _ _ _ us hl=>match us,hl with | [_,_,_],_=>rfl)
  have SC:Law.ShC (L2.KOf KX) C:=⟨D_Shape.cls,nc,ns⟩
  have uc:L3.GlV mg "GREATEST_SIDE" (.int 1000):=by
   refine' ⟨_,PySem.W.mg_of KX G ?_,?_⟩
   rotate_left
   ·k_is
   ·exact ⟨_,rfl⟩
  have ua:L3.GlV mg "GREATEST_SPAN" (.int 1000000000000):=by
   refine' ⟨_,PySem.W.mg_of KX G ?_,?_⟩
   rotate_left
   ·k_is
   ·exact ⟨_,rfl⟩
  obtain ⟨CS,D_Settings,n1,n2,n3,n4,n5⟩:∃ C,L4.nh (L2.KOf KX) mg "Settings" "Settings.__init__" C (L2.inClass (Law.top 45) 0) ["self", "shape", "far", "room", "term", "rules"]∧L2.aT (L2.KOf KX) C "shape" ∧ L2.aT (L2.KOf KX) C "far" ∧ L2.aT (L2.KOf KX) C "room" ∧ L2.aT (L2.KOf KX) C "term" ∧ L2.aT (L2.KOf KX) C "rules" := by
   dsimp only [L2.KOf]
   refine' ⟨_,L4.A8 KX G ?aC ?a ?i ?l ?tl ?c ?pg ?hd ?po ?sa ?mk ?kc ?b,?n1,?n2,?n3,?n4,?n5⟩
   (case aC=>k_is);(case a=>k_is);(case i=>k_is);(case l=>k_is);(case tl=>k_is);(case c=>k_is);(case pg=>k_is);(case hd=>k_is);(case po=>k_is);(case sa=>k_is);(case mk=>k_is);(case kc=>k_is)
   (case n1=>unfold L2.aT;k_is);(case n2=>unfold L2.aT;k_is);(case n3=>unfold L2.aT;k_is);(case n4=>unfold L2.aT;k_is);(case n5=>unfold L2.aT;k_is)
   (case b=>exact fun _ _ _ _ _ _ _ us hl=>match us,hl with | [_,_,_,_,_,_],_=>⟨_,rfl,rfl⟩)
  have SS:Law.StC (L2.KOf KX) CS:=⟨D_Settings.cl,n1,n2,n3,n4,n5⟩
  obtain ⟨aR,eH,hR⟩:∃ aR,L3.GlV mg "RULES" (.ref aR)∧∀ H,L2.SqT (L2.KOf KX) H aR (Law.ju.map L2.V.str):=by
   dsimp only [L2.KOf]
   refine' Law.yl KX G ?n1 ?n2 ?n3 ?n4
   (case n1=>k_is);(case n2=>k_is);(case n3=>exact .cons ⟨_,rfl⟩ (.cons ⟨_,rfl⟩ (.cons ⟨_,rfl⟩ (.cons ⟨_,rfl⟩ (.cons ⟨_,rfl⟩ .nil)))));(case n4=>exact Nat.le_of_lt (L2.small1000 (by decide)))
  obtain ⟨aN,eX,hN⟩:∃ aN,L3.GlV mg "NOTHING" (.ref aN)∧∀ H,L2.SqT (L2.KOf KX) H aN [.int 0,.non,.int 0,.int 0]:=by
   dsimp only [L2.KOf]
   refine' Law.yl KX G ?n1 ?n2 ?n3 ?n4
   (case n1=>k_is);(case n2=>k_is);(case n3=>exact .cons ⟨_,rfl⟩ (.cons rfl (.cons ⟨_,rfl⟩ (.cons ⟨_,rfl⟩ .nil))));(case n4=>exact Nat.le_of_lt (L2.small1000 (by decide)))
  obtain ⟨CH,D_Hand,n1,n2,n3,n4,HM⟩:∃ C,L4.jA (L2.KOf KX) mg "Hand" "Hand.__init__" C (L2.inClass (Law.top 61) 0) ["self", "name", "settings", "lines"]∧L2.aT (L2.KOf KX) C "name" ∧ L2.aT (L2.KOf KX) C "settings" ∧ L2.aT (L2.KOf KX) C "lines" ∧ L2.aT (L2.KOf KX) C "spot" ∧ Law.JF (L2.KOf KX) mg C:=by
   dsimp only [L2.KOf]
   refine' ⟨_,L4.rj KX G ?aC ?a ?i ?l ?tl ?c ?pg ?hd ?po ?sa ?mk ?kc ?b ?b1,?n1,?n2,?n3,?n4,⟨L4.bF ⟨?pg,?hd,?po,?sa⟩ ?is_up_a ?is_up_i ?is_up_l ?is_up_c ?is_up_k ?is_up_b,L4.bF ⟨?pg,?hd,?po,?sa⟩ ?place_a ?place_i ?place_l ?place_c ?place_k ?place_b,L4.bF ⟨?pg,?hd,?po,?sa⟩ ?note_a ?note_i ?note_l ?note_c ?note_k ?note_b,L4.bF ⟨?pg,?hd,?po,?sa⟩ ?area_a ?area_i ?area_l ?area_c ?area_k ?area_b,L4.bF ⟨?pg,?hd,?po,?sa⟩ ?stand_a ?stand_i ?stand_l ?stand_c ?stand_k ?stand_b,L4.bF ⟨?pg,?hd,?po,?sa⟩ ?go_a ?go_i ?go_l ?go_c ?go_k ?go_b,L4.bF ⟨?pg,?hd,?po,?sa⟩ ?fall_a ?fall_i ?fall_l ?fall_c ?fall_k ?fall_b,L4.bF ⟨?pg,?hd,?po,?sa⟩ ?rise_a ?rise_i ?rise_l ?rise_c ?rise_k ?rise_b,L4.bF ⟨?pg,?hd,?po,?sa⟩ ?take_a ?take_i ?take_l ?take_c ?take_k ?take_b,L4.bF ⟨?pg,?hd,?po,?sa⟩ ?write_a ?write_i ?write_l ?write_c ?write_k ?write_b,L4.bF ⟨?pg,?hd,?po,?sa⟩ ?hear_a ?hear_i ?hear_l ?hear_c ?hear_k ?hear_b,L4.bF ⟨?pg,?hd,?po,?sa⟩ ?tell_a ?tell_i ?tell_l ?tell_c ?tell_k ?tell_b⟩⟩
   (case aC=>k_is);(case a=>k_is);(case i=>k_is);(case l=>k_is);(case tl=>k_is);(case c=>k_is);(case pg=>k_is);(case hd=>k_is);(case po=>k_is);(case sa=>k_is);(case mk=>k_is);(case kc=>k_is)
   (case n1=>unfold L2.aT;k_is);(case n2=>unfold L2.aT;k_is);(case n3=>unfold L2.aT;k_is);(case n4=>unfold L2.aT;k_is)
   (case b=>exact fun _ _ _ _ _ _ _ us hl=>match us,hl with | [_,_,_,_],_=>⟨_,rfl,rfl⟩)
   (case b1=>exact fun _ _ _ _ _ _ _ us hl=>match us,hl with | [_,_,_],_=>⟨_,rfl,rfl⟩)
   (case is_up_a=>k_is);(case is_up_i=>k_is);(case is_up_l=>k_is);(case is_up_c=>k_is);(case is_up_k=>k_is);(case is_up_b=>exact fun _ _ _ _ _ _ us hl=>match us,hl with | [_],_=>rfl)
   (case place_a=>k_is);(case place_i=>k_is);(case place_l=>k_is);(case place_c=>k_is);(case place_k=>k_is);(case place_b=>exact fun _ _ _ _ _ _ us hl=>match us,hl with | [_],_=>rfl)
   (case note_a=>k_is);(case note_i=>k_is);(case note_l=>k_is);(case note_c=>k_is);(case note_k=>k_is);(case note_b=>exact fun _ _ _ _ _ _ us hl=>match us,hl with | [_],_=>rfl)
   (case area_a=>k_is);(case area_i=>k_is);(case area_l=>k_is);(case area_c=>k_is);(case area_k=>k_is);(case area_b=>exact fun _ _ _ _ _ _ us hl=>match us,hl with | [_],_=>rfl)
   (case stand_a=>k_is);(case stand_i=>k_is);(case stand_l=>k_is);(case stand_c=>k_is);(case stand_k=>k_is);(case stand_b=>exact fun _ _ _ _ _ _ us hl=>match us,hl with | [_],_=>rfl)
   (case go_a=>k_is);(case go_i=>k_is);(case go_l=>k_is);(case go_c=>k_is);(case go_k=>k_is);(case go_b=>exact fun _ _ _ _ _ _ us hl=>match us,hl with | [_,_],_=>rfl)
   (case fall_a=>k_is);(case fall_i=>k_is);(case fall_l=>k_is);(case fall_c=>k_is);(case fall_k=>k_is);(case fall_b=>exact fun _ _ _ _ _ _ us hl=>match us,hl with | [_],_=>rfl)
   (case rise_a=>k_is);(case rise_i=>k_is);(case rise_l=>k_is);(case rise_c=>k_is);(case rise_k=>k_is);(case rise_b=>exact fun _ _ _ _ _ _ us hl=>match us,hl with | [_],_=>rfl)
   (case take_a=>k_is);(case take_i=>k_is);(case take_l=>k_is);(case take_c=>k_is);(case take_k=>k_is);(case take_b=>exact fun _ _ _ _ _ _ us hl=>match us,hl with | [_,_,_],_=>rfl)
   (case write_a=>k_is);(case write_i=>k_is);(case write_l=>k_is);(case write_c=>k_is);(case write_k=>k_is);(case write_b=>exact fun _ _ _ _ _ _ us hl=>match us,hl with | [_,_],_=>rfl)
   (case hear_a=>k_is);(case hear_i=>k_is);(case hear_l=>k_is);(case hear_c=>k_is);(case hear_k=>k_is);(case hear_b=>exact fun _ _ _ _ _ _ us hl=>match us,hl with | [_,_],_=>rfl)
   (case tell_a=>k_is);(case tell_i=>k_is);(case tell_l=>k_is);(case tell_c=>k_is);(case tell_k=>k_is);(case tell_b=>exact fun _ _ _ _ _ _ us hl=>match us,hl with | [_],_=>rfl)
  have HC:Law.HdC (L2.KOf KX) CH:=⟨D_Hand.cl,n1,n2,n3,n4⟩
  have ud:L3.GlV mg "LAST" (.int 1000000000000000000000000000000):=by
   refine' ⟨_,PySem.W.mg_of KX G ?_,?_⟩
   rotate_left
   ·k_is
   ·exact ⟨_,rfl⟩
  obtain ⟨CL,D_Lender,n1,n2,MG,MM,MF,MS,ML,MC,MR⟩:∃ C,L4.jA (L2.KOf KX) mg "Lender" "Lender.__init__" C (L2.inClass (Law.top 64) 0) ["self", "settings", "grants"]∧L2.aT (L2.KOf KX) C "settings" ∧ L2.aT (L2.KOf KX) C "lent" ∧ L3.bQ (L2.KOf KX) C "grants" "Lender.grants" (L2.inClass (Law.top 64) 1) ["self"]∧L3.bQ (L2.KOf KX) C "moments_free" "Lender.moments_free" (L2.inClass (Law.top 64) 2) ["self"]∧L3.bQ (L2.KOf KX) C "free_at" "Lender.free_at" (L2.inClass (Law.top 64) 3) ["self", "slot"]∧L3.bQ (L2.KOf KX) C "slot_and_first" "Lender.slot_and_first" (L2.inClass (Law.top 64) 4) ["self", "least"]∧L3.bQ (L2.KOf KX) C "lend" "Lender.lend" (L2.inClass (Law.top 64) 5) ["self", "hand", "least"]∧L3.bQ (L2.KOf KX) C "can_free" "Lender.can_free" (L2.inClass (Law.top 64) 6) ["self", "grant", "end"]∧L3.bQ (L2.KOf KX) C "free" "Lender.free" (L2.inClass (Law.top 64) 7) ["self", "grant", "end"]:=by
   dsimp only [L2.KOf]
   refine' ⟨_,L4.rj KX G ?aC ?a ?i ?l ?tl ?c ?pg ?hd ?po ?sa ?mk ?kc ?b ?b1,?n1,?n2,L4.bF ⟨?pg,?hd,?po,?sa⟩ ?grants_a ?grants_i ?grants_l ?grants_c ?grants_k ?grants_b,L4.bF ⟨?pg,?hd,?po,?sa⟩ ?mom_a ?mom_i ?mom_l ?mom_c ?mom_k ?mom_b,L4.bF ⟨?pg,?hd,?po,?sa⟩ ?frat_a ?frat_i ?frat_l ?frat_c ?frat_k ?frat_b,L4.bF ⟨?pg,?hd,?po,?sa⟩ ?slot_a ?slot_i ?slot_l ?slot_c ?slot_k ?slot_b,L4.bF ⟨?pg,?hd,?po,?sa⟩ ?lend_a ?lend_i ?lend_l ?lend_c ?lend_k ?lend_b,L4.bF ⟨?pg,?hd,?po,?sa⟩ ?canf_a ?canf_i ?canf_l ?canf_c ?canf_k ?canf_b,L4.bF ⟨?pg,?hd,?po,?sa⟩ ?free_a ?free_i ?free_l ?free_c ?free_k ?free_b⟩
   (case aC=>k_is);(case a=>k_is);(case i=>k_is);(case l=>k_is);(case tl=>k_is);(case c=>k_is);(case pg=>k_is);(case hd=>k_is);(case po=>k_is);(case sa=>k_is);(case mk=>k_is);(case kc=>k_is)
   (case n1=>unfold L2.aT;k_is);(case n2=>unfold L2.aT;k_is)
   (case b=>exact fun _ _ _ _ _ _ _ us hl=>match us,hl with | [_,_,_],_=>⟨_,rfl,rfl⟩)
   (case b1=>exact fun _ _ _ _ _ _ _ us hl=>match us,hl with | [_,_],_=>⟨_,rfl,rfl⟩)
   (case grants_a=>k_is);(case grants_i=>k_is);(case grants_l=>k_is);(case grants_c=>k_is);(case grants_k=>k_is);(case grants_b=>exact fun _ _ _ _ _ _ us hl=>match us,hl with | [_],_=>rfl)
   (case mom_a=>k_is);(case mom_i=>k_is);(case mom_l=>k_is);(case mom_c=>k_is);(case mom_k=>k_is);(case mom_b=>exact fun _ _ _ _ _ _ us hl=>match us,hl with | [_],_=>rfl)
   (case frat_a=>k_is);(case frat_i=>k_is);(case frat_l=>k_is);(case frat_c=>k_is);(case frat_k=>k_is);(case frat_b=>exact fun _ _ _ _ _ _ us hl=>match us,hl with | [_,_],_=>rfl)
   (case slot_a=>k_is);(case slot_i=>k_is);(case slot_l=>k_is);(case slot_c=>k_is);(case slot_k=>k_is);(case slot_b=>exact fun _ _ _ _ _ _ us hl=>match us,hl with | [_,_],_=>rfl)
   (case lend_a=>k_is);(case lend_i=>k_is);(case lend_l=>k_is);(case lend_c=>k_is);(case lend_k=>k_is);(case lend_b=>exact fun _ _ _ _ _ _ us hl=>match us,hl with | [_,_,_],_=>rfl)
   (case canf_a=>k_is);(case canf_i=>k_is);(case canf_l=>k_is);(case canf_c=>k_is);(case canf_k=>k_is);(case canf_b=>exact fun _ _ _ _ _ _ us hl=>match us,hl with | [_,_,_],_=>rfl)
   (case free_a=>k_is);(case free_i=>k_is);(case free_l=>k_is);(case free_c=>k_is);(case free_k=>k_is);(case free_b=>exact fun _ _ _ _ _ _ us hl=>match us,hl with | [_,_,_],_=>rfl)
  have SL:Law.LdC (L2.KOf KX) CL:=⟨D_Lender.cl,n1,n2⟩
  obtain ⟨CP,D_Post,np,MPS,MPT,MPL,MPC⟩:∃ C,L3.lW (L2.KOf KX) mg "Post" "Post.__init__" C (L2.inClass (Law.top 12) 0) ["self"]∧L2.aT (L2.KOf KX) C "posted" ∧ L3.bQ (L2.KOf KX) C "send" "Post.send" (L2.inClass (Law.top 12) 1) ["self", "letter"]∧L3.bQ (L2.KOf KX) C "sent" "Post.sent" (L2.inClass (Law.top 12) 3) ["self"]∧L3.bQ (L2.KOf KX) C "letter" "Post.letter" (L2.inClass (Law.top 12) 2) ["self", "number"]∧L3.bQ (L2.KOf KX) C "carry" "Post.carry" (L2.inClass (Law.top 12) 4) ["self", "number", "hand", "lender"]:=by
   dsimp only [L2.KOf]
   refine' ⟨_,L3.vV KX G ?aC ?a ?i ?l ?c ?k ?pg ?hd ?po ?sa ?mk ?kc ?b,?n1,L4.bF ⟨?pg,?hd,?po,?sa⟩ ?sa1 ?si ?sl ?sc ?sk ?sb,L4.bF ⟨?pg,?hd,?po,?sa⟩ ?ta1 ?ti ?tl ?tc ?tk ?tb,L4.bF ⟨?pg,?hd,?po,?sa⟩ ?la1 ?li ?ll ?lc ?lk ?lb,L4.bF ⟨?pg,?hd,?po,?sa⟩ ?ca1 ?ci ?cl ?cc ?ck ?cb⟩
   (case aC=>k_is);(case a=>k_is);(case i=>k_is);(case l=>k_is);(case c=>k_is);(case k=>k_is);(case pg=>k_is);(case hd=>k_is);(case po=>k_is);(case sa=>k_is);(case mk=>k_is);(case kc=>k_is)
   (case n1=>unfold L2.aT;k_is)
   (case b=>exact fun _ _ _ _ _ _ us hl=>match us,hl with | [_],_=>rfl)
   (case sa1=>k_is);(case si=>k_is);(case sl=>k_is);(case sc=>k_is);(case sk=>k_is);(case sb=>exact fun _ _ _ _ _ _ us hl=>match us,hl with | [_,_],_=>rfl)
   (case ta1=>k_is);(case ti=>k_is);(case tl=>k_is);(case tc=>k_is);(case tk=>k_is);(case tb=>exact fun _ _ _ _ _ _ us hl=>match us,hl with | [_],_=>rfl)
   (case la1=>k_is);(case li=>k_is);(case ll=>k_is);(case lc=>k_is);(case lk=>k_is);(case lb=>exact fun _ _ _ _ _ _ us hl=>match us,hl with | [_,_],_=>rfl)
   (case ca1=>k_is);(case ci=>k_is);(case cl=>k_is);(case cc=>k_is);(case ck=>k_is);(case cb=>exact fun _ _ _ _ _ _ us hl=>match us,hl with | [_,_,_,_],_=>rfl)
  have SP:Law.PoC (L2.KOf KX) CP:=⟨D_Post.cls,np⟩
  obtain ⟨CD,CU,CA,CN,CW,CT,CR,ER,CE,WL,EP,hE,RE⟩:∃ CD CU CA CN CW CT CR:PySem.Addr,Law.Hu (L2.KOf KX) mg CD CU CA CN CW CT CR∧∃ CE:PySem.Addr,Law.ExW (L2.KOf KX) mg "NoLetter" "NoLetter.__init__" CE (L2.inClass (Law.top 10) 0) ["self", "number"]∧L4.pB (L2.KOf KX) CE "number" ∧ mg "NoLetter" = some (.ref CE)∧Law.ErR (L2.KOf KX) CD CN CA CU CE CR:=by
   dsimp only [L2.KOf]
   refine' Law.Dc (R:=fun CD CU CA CN CW CT CR=>∃ CE:PySem.Addr,Law.ExW _ mg "NoLetter" "NoLetter.__init__" CE (L2.inClass (Law.top 10) 0) ["self", "number"]∧L4.pB _ CE "number" ∧ mg "NoLetter" = some (.ref CE)∧Law.ErR _ CD CN CA CU CE CR) KX G (Law.AV KX G ?aW ?g6 ?g7 ?v1 ?v2 ?v3 ?v4 ?v5 ?v8 ?r0 ?s1 ?s3 ?s4 ?s5 ?s6 ?i1 ?i2 ?i3 ?i4 ?i5 ?i6 ?b ?x1) ?tw ?aD ?aU ?aA ?aN ?aW ?aR ?d1 ?d2 ?d3 ?u1 ?u2 ?u3 ?c1 ?c2 ?c3 ?n1 ?n2 ?n3 ?r1 ?r2 ?r3 ?m1 ?m2 ?m3 ?m4 ?m5 ?hR
   (case aD=>k_is);(case aU=>k_is);(case aA=>k_is);(case aN=>k_is);(case aW=>k_is);(case aR=>k_is)
   (case g6=>k_is);(case g7=>k_is)
   (case v1=>k_is);(case v2=>k_is);(case v3=>k_is);(case v4=>k_is);(case v5=>k_is);(case v8=>k_is)
   (case s1=>k_is);(case s3=>k_is);(case s4=>rfl);(case s5=>rfl);(case s6=>rfl)
   (case r0=>k_exc);(case r1=>k_is);(case r2=>k_is);(case r3=>k_is)
   (case i1=>k_is);(case i2=>k_is);(case i3=>k_is);(case i4=>k_is);(case i5=>k_is);(case i6=>k_is)
   (case b=>exact fun _ _ _ _ _ _ us hl=>match us,hl with | [_,_],_=>rfl)
   (case x1=>k_is);(case tw=>k_is)
   (case d1=>k_exc);(case d2=>k_is);(case d3=>k_is);(case u1=>k_exc);(case u2=>k_is);(case u3=>k_is);(case c1=>k_exc);(case c2=>k_is);(case c3=>k_is);(case n1=>k_exc);(case n2=>k_is);(case n3=>k_is)
   (case m1=>kts_exm);(case m2=>kts_exm);(case m3=>kts_exm);(case m4=>kts_exm);(case m5=>kts_exm)
   case hR=>
    refine' Law.A0 KX G (Law.AV KX G ?a1 ?g6 ?g7 ?v1 ?v2 ?v3 ?v4 ?v5 ?v8 ?r0 ?u1 ?u3 ?u4 ?u5 ?u6 ?i1 ?i2 ?i3 ?i4 ?i5 ?i6 ?b ?x1) ?u2 ?a1 ?q0 ⟨?ea1,?ea2,?ea3,?ea4,?ea5,?g6,?g7,L4.nP ?ea8⟩ ⟨?eb1,?eb2,?eb3,?eb4,?eb5,?g6,?g7,L4.nP ?eb8⟩ ?q1 ?q2 ?q3 ?q4 ?q5 ?q6 ?q7 ?q8 ?q9 ?q10 ?q11 ?q12 ?q13 ?q14
    (case a1=>k_is);(case g6=>k_is);(case g7=>k_is)
    (case v1=>k_is);(case v2=>k_is);(case v3=>k_is);(case v4=>k_is);(case v5=>k_is);(case v8=>k_is)
    (case u1=>k_is);(case u2=>k_is);(case u3=>k_is);(case u4=>rfl);(case u5=>rfl);(case u6=>rfl);(case r0=>k_exc)
    (case i1=>k_is);(case i2=>k_is);(case i3=>k_is);(case i4=>k_is);(case i5=>k_is);(case i6=>k_is)
    (case b=>exact fun _ _ _ _ _ _ us hl=>match us,hl with | [_,_],_=>rfl);(case x1=>k_is)
    (case ea1=>k_is);(case ea2=>k_is);(case ea3=>k_is);(case ea4=>k_is);(case ea5=>k_is);(case ea8=>k_is)
    (case eb1=>k_is);(case eb2=>k_is);(case eb3=>k_is);(case eb4=>k_is);(case eb5=>k_is);(case eb8=>k_is)
    (case q0=>k_is);(case q1=>kts_exm);(case q2=>kit_is);(case q3=>kts_exm);(case q4=>kts_exm);(case q5=>kit_is);(case q6=>kit_is);(case q7=>kit_is);(case q8=>kit_is);(case q9=>kts_exm);(case q10=>kts_exm);(case q11=>kit_is);(case q12=>kit_is);(case q13=>kit_is);(case q14=>kit_is)
  have HD:Law.JG (L2.KOf KX) mg:=⟨uM,jH,x9,xZ,x8,ya,rO,lz,ng,lB,rN,lC,xX,rK,uK,jt,uP,Bp,pC,rM,HE,yf,yb,uN,uL,xY,rL,yd,Bo,Bm,yc,jr,xW,ye,rR,rQ⟩
  obtain ⟨f,fd,F,b,m⟩:=JI.ex
  have e:=hmg.symm.trans m
  cases e
  obtain ⟨oc,od,kV,doc,pm,an,cdv,ct,osl,rfl,lk,hcd⟩:=id F.ex
  refine ⟨PySem.W.fnOf "law" "law" (L2.bC (Law.top 79)) (L2.bf (Law.top 79)) (L2.aj (Law.top 79)) .none kV doc pm an cdv ct,fun s u=>.of_eq rfl,fun base kb nb=>?_⟩
  have NE:=@L4.tS PySem.Challenge.rw_risemarks_k56_readings_refused.prog w
  have HH:=Law.Dg (P:=PySem.Challenge.rw_risemarks_k56_readings_refused.prog) (w:=w) (base:=base) BT NE HD HM ER D_Shape SC D_Settings SS D_Hand HC uc ua eH hR eX hN
  have ji:=Law.kj (P:=PySem.Challenge.rw_risemarks_k56_readings_refused.prog) (w:=w) (base:=base) (CX:=L4.CX1 PySem.Challenge.rw_risemarks_k56_readings_refused.prog w) ng
  have rA:=Law.mG (P:=PySem.Challenge.rw_risemarks_k56_readings_refused.prog) (w:=w) (base:=base) (CX:=L4.CX1 PySem.Challenge.rw_risemarks_k56_readings_refused.prog w) rN
  have iP:=Law.jx (P:=PySem.Challenge.rw_risemarks_k56_readings_refused.prog) (w:=w) (base:=base) (CX:=L4.CX1 PySem.Challenge.rw_risemarks_k56_readings_refused.prog w) lB
  have DV:=Law.z6 lA BT NE ji rA
  obtain ⟨m_Lender,jc⟩:=Law.z0 (P:=PySem.Challenge.rw_risemarks_k56_readings_refused.prog) (w:=w) (base:=base) D_Lender SL BT NE
  have Bj:=Law.tG (P:=PySem.Challenge.rw_risemarks_k56_readings_refused.prog) (w:=w) (mg:=mg) (base:=base) (CX:=L4.CX1 PySem.Challenge.rw_risemarks_k56_readings_refused.prog w) (C:=C) (CS:=CS) MG SL BT
  have EX:=Law.w4 (C:=C) (CS:=CS) MM SL SS SC NE DV
  have Ho:=Law.tH MF SL NE EX
  have GZ:=Law.qE (P:=PySem.Challenge.rw_risemarks_k56_readings_refused.prog) (w:=w) (base:=base) (CX:=L4.CX1 PySem.Challenge.rw_risemarks_k56_readings_refused.prog w) lz SS
  have G9:=Law.zQ MS SL SS SC BT NE GZ EX
  have Hi:=Law.CG ML SL SS BT NE ER.n ud G9
  have Hr:=Law.CQ MC SL BT NE ji iP rA Ho
  have Hl:=Law.CM MR SL BT NE (Law.qG lC NE ji iP) Hr
  have g8:=Law.qB (P:=PySem.Challenge.rw_risemarks_k56_readings_refused.prog) (w:=w) (base:=base) WL.dat ER.b EP
  have Hf:=Law.zV (P:=PySem.Challenge.rw_risemarks_k56_readings_refused.prog) (w:=w) (mg:=mg) (base:=base) (CX:=L4.CX1 PySem.Challenge.rw_risemarks_k56_readings_refused.prog w) MPS SP BT
  have o9:=Law.zU (P:=PySem.Challenge.rw_risemarks_k56_readings_refused.prog) (w:=w) (base:=base) (CX:=L4.CX1 PySem.Challenge.rw_risemarks_k56_readings_refused.prog w) MPT SP BT
  have lq:=Law.tu MPL SP BT NE g8
  have D9:=Law.z7 (CU:=CU) (CA:=CA) (CW:=CW) (CT:=CT) MPC BT NE lq Hi Hl HH.gc HH.gi
  have tX:=Law.zX (P:=PySem.Challenge.rw_risemarks_k56_readings_refused.prog) (w:=w) (base:=base) (CX:=L4.CX1 PySem.Challenge.rw_risemarks_k56_readings_refused.prog w) D_Post SP
  have rm:=Law.tE lV NE HH.aH
  have Jy:=Law.tO (P:=PySem.Challenge.rw_risemarks_k56_readings_refused.prog) (w:=w) (base:=base) (CX:=L4.CX1 PySem.Challenge.rw_risemarks_k56_readings_refused.prog w) uO
  have By:=Law.wX (P:=PySem.Challenge.rw_risemarks_k56_readings_refused.prog) (w:=w) (base:=base) (CX:=L4.CX1 PySem.Challenge.rw_risemarks_k56_readings_refused.prog w) pD BT
  have Jz:=Law.z3 (C:=C) (CS:=CS) (CL:=CL) uQ BT NE HC o9 lq Jy HH.bP
  have Jx:=Law.tF (C:=C) (CS:=CS) (CL:=CL) lD BT NE HC o9 lq Jy
  have DR:=Law.wY pF BT NE o9 Bj HH.bP HH.fE HH.gg
  have GQ:=Law.wZ rP BT NE RE hE ER.hR ER.hD ER.hA ER.hN ER.hU By D9
  have DW:=Law.tK (C:=C) (CS:=CS) (CL:=CL) pH BT NE HC Hf HH.aH rm
  exact Law.Fv F BT NE HH.cV HH.aH (Law.zZ jI BT NE HH.aH HH.iD HH.d7) (Law.zY pG BT NE HH.aH) rm HH.iE tX jc DW DR Jz Jx GQ o9 HH.bP HH.gj HH.gf
end
